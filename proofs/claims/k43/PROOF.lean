import PyProof.Rows.All
import Wide.All
import OpenK.AllK
import Wide.FinOn
import Lean
import PyProof.EqAt
import PyProof.EqKinds
import PyProof.TupleCall
import KE.KIntText
import PyProof.ConsumeWalk
import PySem.Challenge.RW_mapround_k43_bridges_cut
set_option Elab.async false
set_option linter.all false
set_option maxRecDepth 100000
set_option maxHeartbeats 4000000
open Option renaming bind_eq_some_iff -> oBq, map_eq_some_iff -> oMq
open List renaming getElem?_eq_some_iff -> gSq, getElem?_eq_getElem -> gEg, getD_eq_getElem?_getD -> gDq, length_append -> lAq, length_map -> lMq, mem_append -> mAq, mem_flatten -> mFq, mem_map -> mMq, getElem?_map -> gMq, mem_of_getElem? -> mGq, map_congr_left -> mCq, getElem_mem -> gRq, length_singleton -> lSq, mem_singleton -> mSq, length_take -> lTq, nodup_append -> nAq, append_nil -> aNq, flatten_append -> fAq, getElem?_append_right -> gYq, getElem?_append_left -> gZq, length_cons -> lCq, map_map -> mPq, map_append -> mBq, mem_cons_of_mem -> mCo, length_set -> lZq, flatten_cons -> fCq, count_append -> cAq, mem_cons -> ai, append_assoc -> ak, map_cons -> aq, mem_append_right -> ar, getElem?_set_ne -> au, size_toArray -> ax, replicate -> aB, pairwise_append -> aD, getElem?_set_self -> aF, nodup_iff_pairwise_ne -> aH, drop_eq_getElem_cons -> aK, nodup_cons -> aL, Pairwise -> aR, length_drop -> aU, pairwise_map -> aY, length_range -> aZ, mem_cons_self -> bb, range -> bf, mem_filter -> bg, nodup_nil -> bh, take_sublist -> bj, getElem?_set -> bo, take_append_drop -> bt, take_length -> bu, mem_of_mem_drop -> bw, sublist_flatten_of_mem -> bB, length_eq_zero_iff -> bD, mem_reverse -> bE, flatten_singleton -> bF, drop_sublist -> bG, filter_sublist -> bH, mem_iff_getElem? -> bJ, length_filter_le -> bK, countP_eq_length_filter -> bL, mem_append_left -> bM, mem_of_mem_take -> bN, Perm -> bO, foldl_cons -> bP, perm_append_comm -> bS, mem_iff_getElem -> bU, length -> bY, getElem?_replicate -> bZ, eraseIdx_cons_succ -> cc, drop_length -> cf, find?_cons_of_neg -> cg, mem_range -> cj, getElem?_eq_none -> cw, any_cons -> cF, pairwise_iff_getElem -> cG, getElem?_zip_eq_some -> cH, dropLast_concat -> cI, findIdx_lt_length_of_exists -> cJ, take_succ_eq_append_getElem -> cK, eq_of_mem_replicate -> cL, lookup -> cR, pairwise_cons -> cX, set_cons_zero -> cY, contains_cons -> cZ, count_pos_iff -> dc, find?_cons -> de, length_nil -> df, take_of_length_le -> dg, drop_eq_nil_of_le -> dk, find?_cons_of_pos -> dm, take_add_one -> dr, eq_nil_or_concat -> du, concat_eq_append -> dw, length_eraseIdx -> dz, nodup_iff_count -> dA, not_mem_nil -> dC, extract_eq_take_drop -> dF, countP_map -> dH, filter_map -> dJ, set_cons_succ -> dP, eraseIdx_cons_zero -> dS, drop_zero -> dW, getElem_drop -> dY, length_pos_of_mem -> ee, drop_of_length_le -> ef, length_eq_countP_add_countP -> eh, length_replicate -> ez, eraseIdxIfInBounds_toArray -> eA, set_getElem_self -> eD, reverse_reverse -> eI, findIdx_getElem -> eJ, nil_append -> eK, map_nil -> eN, set_set -> eP, Sublist -> eQ, filterMap_cons -> eR, getElem?_range -> eS, getElem?_drop -> eV, map_id -> eX, getElem_take -> fb, foldl_append -> fg, flatMap_cons -> fh, getElem?_take_of_lt -> fi, idxOf_lt_length_iff -> fj, length_erase_of_mem -> fo, all_eq_true -> fv, map_fst_zip -> fA, any_eq_true -> fB, pairwise_mergeSort -> fE, getLast?_singleton -> fH, of_mem_zip -> fJ, pairwise_lt_range -> fL, mem_of_mem_erase -> fQ, reduceReplicate -> fU, getLast?_append -> fV, all_cons -> fW, reverse_append -> fY, mergeSort_perm -> fZ, toList_toArray -> gb, map_take -> gc, length_pos_iff -> gd, perm_iff_count -> gf, mem_filterMap -> gh, getElem_idxOf -> gi, ext_getElem? -> gq, find?_isSome -> gu, ext_getElem -> gA, lookup_cons -> gC, getElem_map -> gF, mem_flatMap -> gG, countP_cons -> gI, nodup_range -> gJ, take_zero -> gO, any_map -> gU
open And renaming intro -> aa
open PySem.Heap renaming get?_push_of_some -> ae, lt_size -> ah, get?_push_size -> aQ, get?_update_other -> bz, get?_update_ne -> bQ, get?_none_of_le -> bT, get?_update_self -> cv, size_update -> dD, SameBut -> dQ, size_push -> dU, get?_push_ne -> dZ, MadeExcOf -> eT, get?_push_at -> fc
open Nat renaming le_refl -> af, ne_of_lt -> ay, lt_of_lt_of_le -> aN, zero_le -> ba, le_succ -> bA, le_trans -> bC, zero_add -> bI, lt_irrefl -> bR, lt_succ_of_lt -> bW, le_of_lt -> bX, ne_of_gt -> cC, not_lt_zero -> cD, lt_succ_iff_lt_or_eq -> cP, lt_succ_self -> cS, sub_self -> cV, min_eq_left -> dh, lt_or_eq_of_le -> dN, add_assoc -> eB, le_add_right -> eC, le_of_eq -> eM, add_sub_cancel -> eU, add_sub_cancel_left -> fD, add_zero -> gk, le_of_lt_succ -> gn, lt_trichotomy -> gp, min_eq_right -> gB, reduceEqDiff -> gD, reduceLeDiff -> gE, reduceAdd -> gS, reduceSub -> gT
open Array renaming getElem?_eq_getElem -> ag, length_toList -> ao, getElem?_toList -> aA, getElem?_eq_some_iff -> aC, toList_append -> aJ, getElem_mem -> aV, toList_reverse -> bV, toList_push -> dq, size_extract -> dO, mem_toList_iff -> eF, toList_extract -> eG, toList_setIfInBounds -> eW, getElem?_extract -> fK, toArray_toList -> fT, getD -> fX, append_assoc -> gg, Perm -> gL, size_map -> gP
open PySem.F renaming plainAttrs_list -> aj, slot_list_append -> aW, type_list_append -> aX, slot_list_pop -> cA, type_list_pop -> cB, slot_list_count -> cW, excBase_ValueError -> dB, slot_list_index -> dR, args_list_count_2 -> ff, entry_list_count -> fk, slot_list_extend -> fq, type_list_extend -> ft, type_list_index -> fF, type_list_count -> fG, store_object -> fS
open Bool renaming false_ne_true -> aw, eq_iff_iff -> bx, and_eq_true -> cT, not_eq_true -> cU, or_true -> eO, not_eq_true' -> fe, false_eq_true -> gj, false_and -> gN
open PySem.Value renaming ref -> az, none -> cQ, type -> dE, bool -> ed, int -> eY, str -> gm, isStrOf -> gR, isInt -> gW, bytes -> gX, float -> gY
open Or renaming inr -> aE, inl -> aG
open Sum renaming inl -> aO, inr -> eZ
open Classical renaming propDecidable -> aS
open Option renaming some -> aT, map_some -> dG, isSome_map -> dX, getD_some -> fu, getD_none -> gw, some_or -> gQ, none -> gZ
open Int renaming emod_lt_of_pos -> bp, emod_nonneg -> bq, toNat_natCast -> cE, le_refl -> fN, toNat -> fP, mul_one -> gv, neg_neg -> gH, zero_add -> gV
open PyProof.Rows renaming callWith_type1 -> cu, boot_sorted -> cO, boot_list -> dn, callWith_builtin1 -> eE, boot_min -> fO, boot_isinstance -> gM, boot_all -> hU, lt_int -> hV
open Prod renaming ext -> gK
noncomputable section
open Array renaming mem_of_getElem? -> aQq
namespace L2
open PySem PySem.Spec PyProof.Rows
abbrev Key:=Sum Int Str
def keyIs:Key->Value->Bool
 | .inl k,v=>gW k v
 | .inr x,v=>gR x v
def keyH (w:World):Key->Int
 | .inl k=>hashInt k
 | .inr x=>hashStr w x
theorem keyIs_shape:∀ {k:Key}{v:Value},keyIs k v=true->(∃ i t,k=aO i/\v=eY i t)∨(∃ x t,k=eZ x/\v=gm x t)
 | .inl i,v,h=>by
  obtain ⟨t,e⟩:=Value.isInt_shape (k:=i) (v:=v) h
  exact .inl ⟨i,t,rfl,e⟩
 | .inr x,v,h=>by
  obtain ⟨t,e⟩:=Value.isStrOf_shape (x:=x) (v:=v) h
  exact .inr ⟨x,t,rfl,e⟩
theorem keyIs_int (i:Int) (t:Tok):keyIs (.inl i) (.int i t)=true:=by simp [keyIs,gW]
theorem keyIs_str (x:Str) (t:Tok):keyIs (.inr x) (.str x t)=true:=by simp [keyIs,gR]
theorem key_ll (a b:Int):decide ((aO a:Key)=aO b)=(a == b):=by
 by_cases e:a=b
 .subst e;simp
 .have h:¬ (aO a:Key)=aO b:=fun q=>e (aO.inj q)
  rw [decide_eq_false h]
  exact (beq_eq_false_iff_ne.mpr e).symm
theorem key_rr (a b:Str):decide ((eZ a:Key)=eZ b)=decide (a=b):=by
 by_cases e:a=b
 .subst e;simp
 .have h:¬ (eZ a:Key)=eZ b:=fun q=>e (eZ.inj q)
  rw [decide_eq_false h,decide_eq_false e]
theorem key_lr (a:Int) (b:Str):decide ((aO a:Key)=eZ b)=false:=decide_eq_false (fun q=>nomatch q)
theorem key_rl (a:Str) (b:Int):decide ((eZ a:Key)=aO b)=false:=decide_eq_false (fun q=>nomatch q)
def mixKind (prog:Program) (w:World):PySem.KeyKind prog w Key where
 is:=keyIs
 hash:=keyH w
 inj:=fun v a b ha hb=>by
  rcases keyIs_shape ha with ⟨i,t,rfl,rfl⟩|⟨x,t,rfl,rfl⟩
  .rcases keyIs_shape hb with ⟨j,u,rfl,e⟩|⟨y,u,rfl,e⟩
   .injection e with e1 _;rw [e1]
   .exact nomatch e
  .rcases keyIs_shape hb with ⟨j,u,rfl,e⟩|⟨y,u,rfl,e⟩
   .exact nomatch e
   .injection e with e1 _;rw [e1]
 byValue:=fun k v h=>by
  rcases keyIs_shape h with ⟨i,t,rfl,rfl⟩|⟨x,t,rfl,rfl⟩ <;> rfl
 pyHash:=fun hv h=>by
  rcases keyIs_shape hv with ⟨i,t,rfl,rfl⟩|⟨x,t,rfl,rfl⟩
  .exact wpAny_pyHash_int h
  .exact wpAny_pyHash_str h
 eqBool:=fun hu hv h=>by
  rcases keyIs_shape hu with ⟨i,t,rfl,rfl⟩|⟨x,t,rfl,rfl⟩
  .rcases keyIs_shape hv with ⟨j,u,rfl,rfl⟩|⟨y,u,rfl,rfl⟩
   .rw [key_ll] at h;exact wpAny_eqBool_int h
   .rw [key_lr] at h;exact SeqAt.EqAt.int_str i t y u _ _ _ _ h
  .rcases keyIs_shape hv with ⟨j,u,rfl,rfl⟩|⟨y,u,rfl,rfl⟩
   .rw [key_rl] at h;exact SeqAt.EqAt.str_int x t j u _ _ _ _ h
   .rw [key_rr] at h;exact wpAny_eqBool_str h
 «strs»:=fun k x t v h=>by
  rcases keyIs_shape h with ⟨i,u,rfl,e⟩|⟨y,u,rfl,e⟩
  .exact nomatch e
  .injection e with e1 _
   subst e1
   cases v <;> rfl
theorem mixKind_int (prog:Program) (w:World) (i:Int) (t:Tok):(mixKind prog w).is (.inl i) (.int i t)=true:=keyIs_int i t
theorem mixKind_str (prog:Program) (w:World) (x:Str) (t:Tok):(mixKind prog w).is (.inr x) (.str x t)=true:=keyIs_str x t
inductive V where
 | non|bl (b:Bool)|int (i:Int)|str (x:Str)|byt (b:Array UInt8)|flt (b:UInt64)|ref (a:Addr)|ty (n:String)
 deriving DecidableEq
def RelV:V->Value->Prop
 | .non,u=>u=cQ
 | .bl b,u=>u=ed b
 | .int i,u=>∃ t,u=eY i t
 | .str x,u=>∃ t,u=gm x t
 | .byt b,u=>∃ t,u=gX b t
 | .flt b,u=>∃ t,u=gY b t
 | .ref a,u=>u=az a
 | .ty n,u=>u=dE n
abbrev Vals:List V->List Value->Prop:=Paired RelV
theorem Vals.length {xs:List V}{us:List Value}(r:Vals xs us):xs.length=us.length:=Paired.length r
theorem Vals.get:∀ {xs:List V}{us:List Value}{i:Nat}{x:V},Vals xs us->xs[i]?=some x->∃ u,us[i]?=some u/\RelV x u
 | _,_,_,_,.nil,e=>by simp at e
 | _,_,0,_,.cons r _,e=>by simp at e;subst e;exact ⟨_,rfl,r⟩
 | _,_,i+1,x,.cons _ t,e=>by
  obtain ⟨u,h1,h2⟩:=Vals.get (i:=i) (x:=x) t (by simpa using e)
  exact ⟨u,by simpa using h1,h2⟩
theorem Vals.set {x:V}{u:Value}(r:RelV x u):∀ {xs:List V}{us:List Value}(i:Nat),Vals xs us->Vals (xs.set i x) (us.set i u)
 | _,_,_,.nil=>.nil
 | _,_,0,.cons _ t=>.cons r t
 | _,_,i+1,.cons q t=>.cons q (Vals.set r i t)
theorem Vals.append:∀ {xs ys:List V}{us ws:List Value},Vals xs us->Vals ys ws->Vals (xs++ys) (us++ws)
 | _,_,_,_,.nil,s=>s
 | _,_,_,_,.cons r t,s=>.cons r (Vals.append t s)
theorem Vals.take:∀ {xs:List V}{us:List Value}(n:Nat),Vals xs us->Vals (xs.take n) (us.take n)
 | _,_,0,_=>.nil
 | _,_,_+1,.nil=>.nil
 | _,_,n+1,.cons r t=>.cons r (Vals.take n t)
theorem Vals.drop:∀ {xs:List V}{us:List Value}(n:Nat),Vals xs us->Vals (xs.drop n) (us.drop n)
 | _,_,0,r=>r
 | _,_,_+1,.nil=>.nil
 | _,_,n+1,.cons _ t=>Vals.drop n t
def RelO:Option V->Option Value->Prop
 | some v,some u=>RelV v u
 | none,none=>True
 | _,_=>False
def KV {κ:Type}:List (κ×V)->List (κ×Value)->Prop:=Paired fun (p:κ×V) (q:κ×Value)=>p.1=q.1/\RelV p.2 q.2
def kV:Key->V
 | .inl i=>.int i
 | .inr x=>.str x
inductive HO where
 /-- a list -/
 | lst (xs:List V)
 /-- a tuple (never changes) -/
 | tup (xs:List V)
 /-- a dict whose keys are ints and texts;one whose keys are tuples of ints and texts (the empty one is both) -/
 | dK (kvs:List (Key×V))|dT (kvs:List (List Key×V))
 /-- a set of ints: its members,its size -/
 | set (S:Int->Bool) (n:Nat)
 /-- an instance of the class at C,its dict at dx,its attributes -/
 | ins (C dx:Addr) (fs:List (Str×V))
 /-- the dict of the instance at x -/
 | own (x:Addr)
 /-- the dict of an exception -/
 | xd (fs:List (Str×V))
 /-- a bound method,f of x -/
 | met (f x:Addr)
 /-- a range object lo,lo+1,.. below hi -/
 | rng (lo hi:Int)
 /-- a thing that is known to the object (the script;a dict while a loop walks it): read,never written while it is so -/
 | frz (o:Obj) (u:HO)
 /-- a code object's table -/
 | tbl (ps:Array Value)
 /-- any other thing,by what is true of its one object (a def of one's own: SetO a S n:=HO.ext fun h=>..) -/
 | ext (φ:Heap->Prop)
abbrev Hp:=Addr->Option HO
def upd (H:Hp) (a:Addr) (o:HO):Hp:=fun b=>if b=a then some o else H b
theorem upd_same {H:Hp}{a:Addr}{o:HO}:upd H a o a=some o:=by unfold upd;rw [if_pos rfl]
theorem upd_ne {H:Hp}{a b:Addr}{o:HO}(h:b≠a):upd H a o b=H b:=by unfold upd;rw [if_neg h]
theorem upd_upd {H:Hp}{a:Addr}{o u:HO}:upd (upd H a o) a u=upd H a u:=by
 funext b;unfold upd;split <;> rfl
theorem ne_of {H:Hp}{a b:Addr}{o u:HO}(h:H a=some o) (h':H b=some u) (d:o≠u):a≠b:=by
 intro e;subst e;rw [h] at h';exact d (aT.inj h')
theorem ne_of_none {H:Hp}{a b:Addr}{o:HO}(h:H a=some o) (h':H b=none):a≠b:=by
 intro e;subst e;rw [h] at h';cases h'
section
variable (P:Program) (w:World)
def ObjOk (H:Hp) (h:Heap) (a:Addr):HO->Prop
 | .lst xs=>xs.length<=sizeLine/\∃ (its:List Value) (n:Nat),Vals xs its/\h.get? a=some { cls:=.type "list", data:=.seq its.toArray n }
 | .tup xs=>xs.length<=sizeLine/\∃ its:List Value,Vals xs its/\IsTup h a its.toArray
 | .dK kvs=>kvs.length<=sizeLine/\(a == sysModules)=false/\∃ vs,KV kvs vs/\h.DictOf (mixKind P w) a vs
 | .dT kvs=>kvs.length<=sizeLine/\(a == sysModules)=false/\∃ xs:List (List Key×Addr×Value),
   Paired (fun (p:List Key×V) (q:List Key×Addr×Value)=>p.1=q.1/\H q.2.1=some (.tup (p.1.map kV))/\RelV p.2 q.2.2) kvs xs /\
   ∃ o es ep,h.get? a=some o/\o.ExactDict/\o.data = .dict es ep/\es.toList=xs.map (entryOfKey (tupleKind (mixKind P w)))/\(xs.map (·.1)).Nodup
 | .set S n=>h.SetOf (intKind P w) a S n
 | .ins C dx fs=>H dx=some (.own a)/\fs.length<=1000/\dx≠a/\h.get? a=some (W.instObj C dx) /\
   ∃ mA,h.Ns1 dx mA/\(∀ f,RelO (fs.lookup f) (mA f))/\PySem.Within mA (fs.map (·.1))
 | .own _=>∃ o,h.get? a=some o
 | .xd fs=>∃ mA,h.Ns1 a mA/\∀ f,RelO (fs.lookup f) (mA f)
 | .rng lo hi=>∃ t u v,h.get? a=some { cls:=.type "range", data:=.fields #[.int lo t,.int hi u,.int 1 v] }
 | .frz o u=>h.get? a=some o/\ObjOk H h a u
 | .tbl ps=>h.get? a=some { cls:=.none,data:=.fields ps }
 | .met f x=>h.get? a=some (W.methodObj (.ref f) (.ref x))
 | .ext φ=>φ h/\(∃ o,h.get? a=some o)/\∀ h1 h2:Heap,φ h1->(∀ o,h1.get? a=some o->h2.get? a=some o)->φ h2
def HOk (H:Hp) (h:Heap):Prop:=∀ a o,H a=some o->ObjOk P w H h a o
end
section
variable {P:Program}{w:World}{H H':Hp}{h h':Heap}{a:Addr}{o:HO}
theorem ObjOk.lt (x:ObjOk P w H h a o):a<h.objs.size:=by
 cases o with
 | lst xs=>obtain ⟨_,_,_,_,e⟩:=x;exact ah e
 | tup xs=>obtain ⟨_,_,_,p⟩:=x;exact p.lt
 | dK kvs=>obtain ⟨_,_,_,_,o,_,_,e,_⟩:=x;exact ah e
 | dT kvs=>obtain ⟨_,_,_,_,o,_,_,e,_⟩:=x;exact ah e
 | set S n=>obtain ⟨o,_,_,_,e,_⟩:=x;exact ah e
 | ins C dx fs=>obtain ⟨_,_,_,e,_⟩:=x;exact ah e
 | own y=>obtain ⟨_,e⟩:=x;exact ah e
 | xd fs=>obtain ⟨_,⟨_,_,_,e,_⟩,_⟩:=x;exact ah e
 | rng lo hi=>obtain ⟨_,_,_,e⟩:=x;exact ah e
 | frz ob u=>obtain ⟨e,_⟩:=x;exact ah e
 | tbl ps=>exact ah (show h.get? a=some _ from x)
 | met f y=>exact ah (show h.get? a=some _ from x)
 | ext φ=>obtain ⟨_,⟨_,e⟩,_⟩:=x;exact ah e
theorem Paired.mapP {α β:Type}{F G:α->β->Prop}:∀ {l₁:List α}{l₂:List β},Paired F l₁ l₂->(∀ a b,F a b->G a b)->Paired G l₁ l₂
 | _,_,.nil,_=>.nil
 | _,_,.cons r t,f=>.cons (f _ _ r) (Paired.mapP t f)
theorem ObjOk.stay (x:ObjOk P w H h a o) (k:∀ b u,(b=a∨H b=some (.own a))->h.get? b=some u->h'.get? b=some u)
  (ho:∀ b,H b=some (.own a)->H' b=some (.own a)) (ht:∀ b xs,H b=some (.tup xs)->H' b=some (.tup xs)):ObjOk P w H' h' a o:=by
 induction o with
 | lst xs=>obtain ⟨z,its,n,r,e⟩:=x;exact ⟨z,its,n,r,k _ _ (.inl rfl) e⟩
 | tup xs=>obtain ⟨z,its,r,ob,e,c⟩:=x;exact ⟨z,its,r,ob,k _ _ (.inl rfl) e,c⟩
 | dK kvs=>obtain ⟨z,y,vs,r,ob,es,ep,e,c⟩:=x;exact ⟨z,y,vs,r,ob,es,ep,k _ _ (.inl rfl) e,c⟩
 | dT kvs =>
  obtain ⟨z,y,xs,r,ob,es,ep,e,c⟩:=x
  exact ⟨z,y,xs,Paired.mapP r fun p q z=>⟨z.1,ht _ _ z.2.1,z.2.2⟩,ob,es,ep,k _ _ (.inl rfl) e,c⟩
 | set S n=>obtain ⟨ob,es,ep,t,e,c⟩:=x;exact ⟨ob,es,ep,t,k _ _ (.inl rfl) e,c⟩
 | ins C dx fs =>
  obtain ⟨d,z,ne,e,mA,⟨od,es,ep,e2,c⟩,r⟩:=x
  exact ⟨ho _ d,z,ne,k _ _ (.inl rfl) e,mA,⟨od,es,ep,k _ _ (.inr d) e2,c⟩,r⟩
 | own y=>obtain ⟨ob,e⟩:=x;exact ⟨ob,k _ _ (.inl rfl) e⟩
 | xd fs=>obtain ⟨mA,⟨od,es,ep,e,c⟩,r⟩:=x;exact ⟨mA,⟨od,es,ep,k _ _ (.inl rfl) e,c⟩,r⟩
 | rng lo hi=>obtain ⟨t,u,v,e⟩:=x;exact ⟨t,u,v,k _ _ (.inl rfl) e⟩
 | frz ob u ih=>obtain ⟨e,q⟩:=x;exact ⟨k _ _ (.inl rfl) e,ih q⟩
 | tbl ps =>
  have e:h.get? a=some { cls:=.none,data:=.fields ps }:=x
  show h'.get? a=some { cls:=.none,data:=.fields ps }
  exact k a _ (.inl rfl) e
 | met f y =>
  have e:h.get? a=some (W.methodObj (.ref f) (.ref y)):=x
  show h'.get? a=some (W.methodObj (.ref f) (.ref y))
  exact k a _ (.inl rfl) e
 | ext φ=>obtain ⟨p,⟨o,e⟩,st⟩:=x;exact ⟨st _ _ p fun o q=>k _ _ (.inl rfl) q,⟨o,k _ _ (.inl rfl) e⟩,st⟩
theorem HOk.lt (x:HOk P w H h) (e:H a=some o):a<h.objs.size:=(x a o e).lt
theorem HOk.fresh (x:HOk P w H h) (e:h.objs.size<=a):H a=none:=by
 cases q:H a with
 | none=>rfl
 | some u=>exact absurd (aN (x.lt q) e) (bR _)
theorem HOk.kept (x:HOk P w H h) (k:∀ b u,h.get? b=some u->h'.get? b=some u):HOk P w H h':=fun a o e =>
 (x a o e).stay (fun b u _ q=>k b u q) (fun _ q=>q) fun _ _ q=>q
theorem HOk.laid (x:HOk P w H h) (k:∀ b u,h.get? b=some u->h'.get? b=some u) (hp:h.objs.size<=a) (new:ObjOk P w (upd H a o) h' a o):HOk P w (upd H a o) h':=fun b u e=>by
 have hn:=x.fresh hp
 by_cases hb:b=a
 .subst hb;rw [upd_same] at e;cases e;exact new
 .rw [upd_ne hb] at e
  exact (x b u e).stay (fun c v _ q=>k c v q) (fun c q=>by rw [upd_ne (ne_of_none q hn)];exact q) fun c xs q=>by rw [upd_ne (ne_of_none q hn)];exact q
end
def Rd (H:Hp) (a:Addr) (u:HO):Prop:=H a=some u∨∃ o,H a=some (.frz o u)
theorem Rd.ok {P:Program}{w:World}{H:Hp}{h:Heap}{a:Addr}{u:HO}(r:Rd H a u) (x:HOk P w H h):ObjOk P w H h a u:=by
 rcases r with r|⟨o,r⟩
 .exact x a u r
 .obtain ⟨_,q⟩:=x a _ r
  exact q
def Mut:Option HO->Prop
 | some (.lst _)=>True
 | some (.dK _)=>True
 | some (.dT _)=>True
 | some (.set _ _)=>True
 | some (.ins _ _ _)=>True
 | some (.ext _)=>True
 | _=>False
section
variable {P:Program}{w:World}{H:Hp}{h h':Heap}{x e:Addr}{o':HO}
theorem HOk.write (ok:HOk P w H h) (mu:Mut (H x)) (he:e=x∨H e=some (.own x)) (k:∀ b u,b≠e->h.get? b=some u->h'.get? b=some u) (heo:∃ u,h'.get? e=some u)
  (new:ObjOk P w (upd H x o') h' x o'):HOk P w (upd H x o') h':=fun b u q=>by
 have nown:∀ c y,H c=some (.own y)->c≠x:=fun c y r z=>by subst z;rw [r] at mu;exact mu
 have ntup:∀ c xs,H c=some (.tup xs)->c≠x:=fun c xs r z=>by subst z;rw [r] at mu;exact mu
 by_cases hb:b=x
 .subst hb;rw [upd_same] at q;cases q;exact new
 .rw [upd_ne hb] at q
  by_cases hbe:b=e
  .have q':H b=some (.own x):=by
    rcases he with z|z
    .exact absurd (hbe.trans z) hb
    .rw [hbe];exact z
   rw [q] at q';cases q'
   obtain ⟨v,hv⟩:=heo
   exact ⟨v,by rw [hbe];exact hv⟩
  .refine (ok b u q).stay (fun c v hc r=>k c v ?_ r) (fun c r=>by rw [upd_ne (nown c b r)];exact r) fun c xs r=>by rw [upd_ne (ntup c xs r)];exact r
   rcases hc with rfl|hc
   .exact hbe
   .rintro rfl
    rcases he with z|z
    .exact nown c b hc z
    .rw [hc] at z;cases z;exact hb rfl
end
structure Un (fs ex:List Addr) (H H':Hp) (h h':Heap):Prop where
 keep:∀ b o,h.get? b=some o->H b=none->b∉fs->b∉ex->h'.get? b=some o
 slot:∀ b o,h.get? b=some o->H b=none->b∈fs->b∉ex->∃ sl,h'.get? b=some { o with slots:=sl }
 free:∀ b o,h.get? b=some o->H b=none->b∉ex->H' b=none
 there:∀ b o,h.get? b=some o->b∉ex->∃ o',h'.get? b=some o'
 tups:∀ b xs,H b=some (.tup xs)->H' b=some (.tup xs)
 frzs:∀ b o u,H b=some (.frz o u)->H' b=some (.frz o u)
 tbls:∀ b ps,H b=some (.tbl ps)->∃ more,H' b=some (.tbl (ps++more))
section
variable {fs fs' ex ex':List Addr}{H H1 H2:Hp}{h h1 h2 h':Heap}{a x e:Addr}{o:HO}
theorem Un.any (u:Un fs ex H H1 h h1) {b:Addr}{ob:Obj}(q:h.get? b=some ob) (n:H b=none) (hx:b∉ex):∃ sl,h1.get? b=some { ob with slots:=sl }:=by
 by_cases hb:b∈fs
 .exact u.slot b ob q n hb hx
 .exact ⟨ob.slots,u.keep b ob q n hb hx⟩
theorem Un.kept (k:∀ b u,h.get? b=some u->h'.get? b=some u):Un fs ex H H h h' :=
 ⟨fun b ob q _ _ _=>k b ob q,fun b ob q _ _ _=>⟨ob.slots,k b ob q⟩,fun _ _ _ n _=>n,fun b ob q _=>⟨ob,k b ob q⟩,fun _ _ q=>q,fun _ _ _ q=>q,fun _ ps q=>⟨#[],by rw [q];simp⟩⟩
theorem Un.refl:Un fs ex H H h h:=Un.kept fun _ _ q=>q
theorem Un.laid (k:∀ b u,h.get? b=some u->h'.get? b=some u) (hp:h.objs.size<=a) (hn:H a=none):Un fs ex H (upd H a o) h h' where
 keep:=fun b u q _ _ _=>k b u q
 slot:=fun b u q _ _ _=>⟨u.slots,k b u q⟩
 free:=fun b u q n _=>by rw [upd_ne (ay (aN (ah q) hp))];exact n
 there:=fun b u q _=>⟨u,k b u q⟩
 tups:=fun b xs q=>by rw [upd_ne (ne_of_none q hn)];exact q
 frzs:=fun b u xs q=>by rw [upd_ne (ne_of_none q hn)];exact q
 tbls:=fun b ps q=>⟨#[],by rw [upd_ne (ne_of_none q hn),q];simp⟩
theorem Un.write (mu:Mut (H x)) (he:e=x∨H e=some (.own x)) (k:∀ b u,b≠e->h.get? b=some u->h'.get? b=some u) (heo:∃ u,h'.get? e=some u):Un fs ex H (upd H x o) h h':=by
 have hx:∀ b,H b=none->b≠x:=fun b n z=>by subst z;rw [n] at mu;exact mu
 have hb:∀ b,H b=none->b≠e:=fun b n z=>by
  subst z
  rcases he with r|r
  .exact hx b n r
  .rw [n] at r;cases r
 have hm:∀ b u,H b=some u->¬ Mut (some u)->b≠x:=fun b u q nm z=>by subst z;rw [q] at mu;exact nm mu
 refine ⟨fun b u q n _ _=>k b u (hb b n) q,fun b u q n _ _=>⟨u.slots,k b u (hb b n) q⟩,fun b u q n _=>by rw [upd_ne (hx b n)];exact n,fun b u q _=>?_,
  fun b xs q=>by rw [upd_ne (hm b _ q fun z=>z)];exact q,fun b u xs q=>by rw [upd_ne (hm b _ q fun z=>z)];exact q,fun b ps q=>⟨#[],by rw [upd_ne (hm b _ q fun z=>z),q];simp⟩⟩
 by_cases hbe:b=e
 .subst hbe;exact heo
 .exact ⟨u,k b u hbe q⟩
end
def trk (h:Heap) (H:Hp):List Addr:=(bf h.objs.size).filter fun a=>(H a).isSome
def hidT (h:Heap) (H:Hp):Heap:=W.hideAll h (trk h H)
theorem hidT_size (h:Heap) (H:Hp):(hidT h H).objs.size=h.objs.size:=W.hideAll_size _ _
theorem hidT_get {h:Heap}{H:Hp}{b:Addr}{o:Obj}(e:h.get? b=some o) (n:H b=none):(hidT h H).get? b=some o :=
 W.hideAll_get _ e fun hm=>by
  have q:(H b).isSome=true:=(bg.mp hm).2
  rw [n] at q;simp at q
theorem of_hidT {h:Heap}{H:Hp}{b:Addr}{o:Obj}(e:(hidT h H).get? b=some o):h.get? b=some o/\H b=none:=by
 have e':h.get? b=some o:=W.of_hideAll (trk h H) e
 refine ⟨e',?_⟩
 cases q:H b with
 | none=>rfl
 | some x =>
  have hm:b∈trk h H:=bg.mpr ⟨cj.mpr (ah e'),by simp [q]⟩
  have z:(hidT h H).get? b=none:=W.hideAll_none (trk h H) hm
  rw [z] at e;cases e
def allNews (g h:Heap) (L:Addr):List (Addr×Obj):=(bf h.objs.size).filterMap fun a=>if a=L∨(g.get? a).isSome=true then none else (h.get? a).map fun o=>(a,o)
def rest (g h:Heap) (L d:Addr):List (Addr×Obj):=(allNews g h L).filter fun p=>decide (p.1≠d)
structure Mod (K:W.Frag) (mg:Str->Option Value) (base:Heap):Prop where
 kin:K.In base
 glob:base.Ns mainGlobals mg
 blt:∃ mb,base.Ns builtinsNs mb/\∀ x:Str,x ≠ "__name__" -> mb x=bootBuiltins x
 nolimit:base.NoLimit
structure Cx where
 prog:Program
 w:World
 K:W.Frag
 mg:Str->Option Value
 base:Heap
 A:Around
 N:List Str
 s₀:Shared
 H₀:Hp
 env:Env
 outer:List Env
 stack:List Env
 ex:List Addr
 fn:Str->Bool
 calm:Bool
 pn:List (Addr×Obj)
 xe:Value->Shared->Prop
def frs (l:List Env):List Addr:=l.filterMap (·.frame)
abbrev Cx.fs (X:Cx):List Addr:=frs X.outer
def Vis (sc:Scope) (x:Str):Prop:=sc.names.lookup x=some .local∨sc.names.lookup x=some .cell∨sc.names.lookup x=some .free
def Loc (sc:Scope) (x:Str):Prop:=sc.names.lookup x=some .local∨sc.names.lookup x=some .cell
def Look (env:Env) (h:Heap) (m:Str->Option Value) (x:Str) (u:Value):Prop :=
 (env.kindOf x=some .local/\m x=some u)∨((env.kindOf x=some .cell∨env.kindOf x=some .free)/\∃ c,env.cells.lookup x=some c/\h.IsCell c (some u))
structure Cx.Ok (X:Cx):Prop where
 mod:Mod X.K X.mg X.base
 kind:X.env.scope.kind = .function
 glob:X.env.globals=mainGlobals
 blt:X.env.builtins=builtinsNs
 above:X.s₀.heap.objs.size<=X.env.locals
 inj:∀ x y c,X.env.cells.lookup x=some c->X.env.cells.lookup y=some c->x=y
 has:∀ x,(X.env.kindOf x=some .cell∨X.env.kindOf x=some .free)->∃ c,X.env.cells.lookup x=some c
 cab:∀ x c,X.fn x=true->X.env.cells.lookup x=some c->X.s₀.heap.objs.size<=c
 hd:X.calm=true->X.A.handled=none
 frames:X.A.frames=some X.stack
 stk:X.stack=X.outer∨(X.stack=X.env::X.outer/\X.env.frame=some X.env.locals)
 exf:∀ b∈X.ex,b≠X.env.locals/\∀ x c,X.env.cells.lookup x=some c->c≠b
 bs:∀ b o,X.base.get? b=some o->X.s₀.heap.get? b=some o/\X.H₀ b=none
 bsz:X.base.objs.size<=X.s₀.heap.objs.size
 noex:∀ b o,X.base.get? b=some o->b∉X.ex
 exfs:∀ b∈X.ex,b∉X.fs
 funs:X.s₀.heap.FunFrames X.base X.outer
 frf:∀ b∈X.fs,X.H₀ b=none
structure Inv (X:Cx) (pins:List (Addr×Obj)) (σ:List (Option V)) (H:Hp) (s:Shared):Prop where
 ok:X.Ok
 os:s.os=X.s₀.os
 bare:AllBare s.gens
 base:Un X.fs X.ex X.H₀ H X.s₀.heap s.heap
 loc:∃ m,s.heap.Ns X.env.locals m/\∀ (i:Nat) (x:Str) (v:V),X.N[i]?=some x->σ[i]?=some (some v)->Vis X.env.scope x->∃ u,RelV v u/\Look X.env s.heap m x u
 cell:∀ x c,X.env.cells.lookup x=some c->∃ v,s.heap.IsCell c v
 free:H X.env.locals=none
 freeC:∀ x c,X.env.cells.lookup x=some c->H c=none
 pin:∀ p∈X.pn++pins,s.heap.get? p.1=some p.2/\H p.1=none/\p.1≠X.env.locals/\p.1∉X.fs/\∀ v,p.2.data ≠ .cell v
 hok:HOk X.prog X.w H s.heap
 len:σ.length=X.N.length
section
variable {X:Cx}{pins:List (Addr×Obj)}{σ:List (Option V)}{H H':Hp}{s:Shared}{h':Heap}
theorem Cx.Ok.nofr (ok:X.Ok) {b:Addr}{o:Obj}(e:X.base.get? b=some o):b∉X.fs:=fun hb=>by
 have:=(ok.funs.mem hb).1
 rw [e] at this;cases this
theorem Inv.bs (I:Inv X pins σ H s):∀ b o,X.base.get? b=some o->s.heap.get? b=some o/\H b=none:=fun b o e =>
 ⟨I.base.keep b o (I.ok.bs b o e).1 (I.ok.bs b o e).2 (I.ok.nofr e) (I.ok.noex b o e),I.base.free b o (I.ok.bs b o e).1 (I.ok.bs b o e).2 (I.ok.noex b o e)⟩
theorem Inv.bk (I:Inv X pins σ H s):∀ b o,X.base.get? b=some o->s.heap.get? b=some o:=fun b o e=>(I.bs b o e).1
theorem Inv.mod (I:Inv X pins σ H s):Mod X.K X.mg X.base:=I.ok.mod
theorem Inv.kIn (I:Inv X pins σ H s):X.K.In s.heap:=I.ok.mod.kin.keeps I.bk
theorem Inv.lt (I:Inv X pins σ H s):X.env.locals<s.heap.objs.size:=let ⟨_,hn,_⟩:=I.loc;hn.lt
theorem Inv.sz (I:Inv X pins σ H s):X.s₀.heap.objs.size<=s.heap.objs.size:=bC I.ok.above (bX I.lt)
theorem Inv.nofs (I:Inv X pins σ H s) {a:Addr}(h:s.heap.objs.size<=a):a∉X.fs:=fun hb=>by
 obtain ⟨_,o,ho,_⟩:=I.ok.funs.mem hb
 exact absurd (aN (ah ho) (bC I.sz h)) (bR _)
theorem Inv.cne (I:Inv X pins σ H s):∀ x c,X.env.cells.lookup x=some c->c≠X.env.locals:=fun x c e z=>by
 obtain ⟨v,o,ho,hd⟩:=I.cell x c e
 obtain ⟨m,⟨o',es,ep,ho',hd',_⟩,_⟩:=I.loc
 rw [z,ho'] at ho;cases ho;rw [hd'] at hd;cases hd
theorem Inv.funs (I:Inv X pins σ H s):s.heap.FunFrames X.base X.outer:=by
 have all:∀ (l:List Env),(∀ b∈frs l,b∈X.fs)->X.s₀.heap.FunFrames X.base l->s.heap.FunFrames X.base l:=by
  intro l
  induction l with
  | nil=>intro _ _;trivial
  | cons env r ih =>
   intro hs hl
   obtain ⟨hk,⟨L,o,hf,hn,ho,hd⟩,hr⟩:=hl
   have hL:L∈X.fs:=hs L (by unfold frs;rw [eR,hf];exact bb)
   obtain ⟨sl,e⟩:=I.base.slot L o ho (I.ok.frf L hL) hL fun z=>I.ok.exfs L z hL
   exact ⟨hk,⟨L,_,hf,hn,e,hd⟩,ih (fun b hb=>hs b (by unfold frs;rw [eR,hf];exact mCo _ hb)) hr⟩
 exact all X.outer (fun _ hb=>hb) I.ok.funs
theorem Inv.stack (I:Inv X pins σ H s):s.heap.FunFrames X.base X.stack:=by
 rcases I.ok.stk with e|⟨e,hf⟩
 .rw [e];exact I.funs
 .rw [e]
  obtain ⟨m,hn,_⟩:=I.loc
  refine .cons (by rw [I.ok.kind];decide) hf hn ?_ I.funs
  exact bT (bC I.ok.bsz I.ok.above)
theorem Inv.stkSub (I:Inv X pins σ H s):∀ b∈frs X.stack,b∈X.env.locals::X.fs:=fun b hb=>by
 rcases I.ok.stk with e|⟨e,hf⟩
 .rw [e] at hb;exact mCo _ hb
 .rw [e] at hb
  unfold frs at hb
  rw [eR,hf] at hb
  exact hb
theorem Inv.stkFree (I:Inv X pins σ H s):∀ b∈frs X.stack,H b=none:=fun b hb=>by
 rcases ai.mp (I.stkSub b hb) with e|hb
 .rw [e];exact I.free
 .obtain ⟨_,o,ho,_⟩:=I.ok.funs.mem hb
  exact I.base.free b o ho (I.ok.frf b hb) fun z=>I.ok.exfs b z hb
theorem Inv.step {g':Array GenState}{t':Nat}{d':Drawn}{ch:List Addr}(I:Inv X pins σ H s)
  (hch:∀ b∈ch,(b∈X.ex∨X.s₀.heap.objs.size<=b)/\b≠X.env.locals/\(∀ x c,X.env.cells.lookup x=some c->c≠b)/\∀ p∈X.pn++pins,p.1≠b)
  (keep:∀ b o,b≠X.env.locals->b∉X.fs->b∉ch->s.heap.get? b=some o->H b=none->h'.get? b=some o)
  (slot:∀ b o,b≠X.env.locals->b∈X.fs->b∉ch->s.heap.get? b=some o->H b=none->∃ sl,h'.get? b=some { o with slots:=sl }) (free:∀ b o,b∉ch->s.heap.get? b=some o->H b=none->H' b=none)
  (there:∀ b o,b∉ch->s.heap.get? b=some o->∃ o',h'.get? b=some o')
  (tups:∀ b xs,H b=some (.tup xs)->H' b=some (.tup xs)) (frzs:∀ b o u,H b=some (.frz o u)->H' b=some (.frz o u)) (tbls:∀ b ps,H b=some (.tbl ps)->∃ more,H' b=some (.tbl (ps++more)))
  (ns:∀ m,s.heap.Ns X.env.locals m->h'.Ns X.env.locals m) (hok:HOk X.prog X.w H' h') (hg:AllBare g') :
  Inv X pins σ H' { s with heap:=h',gens:=g',drawn:=d',toks:=t' }:=by
 have neL:∀ b o,X.s₀.heap.get? b=some o->b≠X.env.locals:=fun b o e=>ay (aN (ah e) I.ok.above)
 have neC:∀ b o,X.s₀.heap.get? b=some o->b∉X.ex->b∉ch:=fun b o e hx hb=>by
  rcases (hch b hb).1 with z|z
  .exact hx z
  .exact absurd (aN (ah e) z) (bR _)
 have cellK:∀ x c,X.env.cells.lookup x=some c->∀ v,s.heap.IsCell c v->h'.IsCell c v:=fun x c e v ⟨o,ho,hd⟩=>by
  have nch:c∉ch:=fun z=>(hch c z).2.2.1 x c e rfl
  by_cases hc:c∈X.fs
  .obtain ⟨sl,q⟩:=slot c o (I.cne x c e) hc nch ho (I.freeC x c e)
   exact ⟨_,q,hd⟩
  .exact ⟨o,keep c o (I.cne x c e) hc nch ho (I.freeC x c e),hd⟩
 refine ⟨I.ok,I.os,hg,⟨fun b o e n hb hx=>?_,fun b o e n hb hx=>?_,fun b o e n hx=>?_,fun b o e hx=>?_,fun b xs e=>tups b xs (I.base.tups b xs e),fun b o xs e=>frzs b o xs (I.base.frzs b o xs e),fun b ps e=>?_⟩,?_,fun x c e=>?_,?_,fun x c e=>?_,fun p hp=>?_,hok,I.len⟩
 .exact keep b o (neL b o e) hb (neC b o e hx) (I.base.keep b o e n hb hx) (I.base.free b o e n hx)
 .obtain ⟨sl,e1⟩:=I.base.slot b o e n hb hx
  obtain ⟨sl',e2⟩:=slot b _ (neL b o e) hb (neC b o e hx) e1 (I.base.free b o e n hx)
  exact ⟨sl',e2⟩
 .obtain ⟨o',e1⟩:=I.base.there b o e hx
  exact free b o' (neC b o e hx) e1 (I.base.free b o e n hx)
 .obtain ⟨o',e1⟩:=I.base.there b o e hx
  exact there b o' (neC b o e hx) e1
 .obtain ⟨m1,e1⟩:=I.base.tbls b ps e
  obtain ⟨m2,e2⟩:=tbls b _ e1
  exact ⟨m1++m2,by rw [e2,gg]⟩
 .obtain ⟨m,hn,hl⟩:=I.loc
  refine ⟨m,ns m hn,fun i x v e1 e2 e3=>?_⟩
  obtain ⟨u,r,l⟩:=hl i x v e1 e2 e3
  refine ⟨u,r,?_⟩
  rcases l with l|⟨k,c,e,z⟩
  .exact .inl l
  .exact .inr ⟨k,c,e,cellK x c e _ z⟩
 .obtain ⟨v,z⟩:=I.cell x c e
  exact ⟨v,cellK x c e v z⟩
 .obtain ⟨m,⟨o,_,_,ho,_⟩,_⟩:=I.loc
  exact free _ o (fun z=>(hch _ z).2.1 rfl) ho I.free
 .obtain ⟨v,o,ho,hd⟩:=I.cell x c e
  exact free c o (fun z=>(hch c z).2.2.1 x c e rfl) ho (I.freeC x c e)
 .obtain ⟨e,n,ne,nf,d⟩:=I.pin p hp
  have nch:p.1∉ch:=fun z=>(hch p.1 z).2.2.2 p hp rfl
  exact ⟨keep p.1 p.2 ne nf nch e n,free p.1 p.2 nch e n,ne,nf,d⟩
theorem Inv.un {t':Nat}(I:Inv X pins σ H s) (u:Un X.fs [] H H' s.heap h') (hok:HOk X.prog X.w H' h'):Inv X pins σ H' { s with heap:=h',toks:=t' }:=by
 obtain ⟨m,⟨o,es,ep,ho,r⟩,_⟩:=id I.loc
 obtain ⟨sl,hL⟩:=u.any ho I.free (by simp)
 exact I.step (g':=s.gens) (d':=s.drawn) (ch:=[]) (fun _ z=>nomatch z) (fun b o _ hb _ e n=>u.keep b o e n hb (by simp)) (fun b o _ hb _ e n=>u.slot b o e n hb (by simp)) (fun b o _ e n=>u.free b o e n (by simp)) (fun b o _ e=>u.there b o e (by simp)) u.tups u.frzs u.tbls (fun m' hm=>by
  obtain ⟨o',es',ep',ho',r'⟩:=hm
  rw [ho] at ho';cases ho'
  exact ⟨_,es',ep',hL,r'⟩) hok I.bare
theorem Inv.call {g':Array GenState}{t':Nat}{d':Drawn}{ch:List Addr}(I:Inv X pins σ H s) (u:Un (frs X.stack) ch H H' s.heap h') (hok:HOk X.prog X.w H' h') (hg:AllBare g')
  (hch:∀ b∈ch,(b∈X.ex∨X.s₀.heap.objs.size<=b)/\b≠X.env.locals/\(∀ x c,X.env.cells.lookup x=some c->c≠b)/\∀ p∈X.pn++pins,p.1≠b) :
  Inv X pins σ H' { s with heap:=h',gens:=g',drawn:=d',toks:=t' }:=by
 obtain ⟨m,⟨o,es,ep,ho,r⟩,_⟩:=id I.loc
 obtain ⟨sl,hL⟩:=u.any ho I.free fun z=>(hch _ z).2.1 rfl
 exact I.step (ch:=ch) hch (fun b o hL hb hc e n=>u.keep b o e n (fun z=>(ai.mp (I.stkSub b z)).elim hL hb) hc) (fun b o _ _ hc e n=>u.any e n hc) (fun b o hc e n=>u.free b o e n hc) (fun b o hc e=>u.there b o e hc) u.tups u.frzs u.tbls (fun m' hm=>by
  obtain ⟨o',es',ep',ho',r'⟩:=hm
  rw [ho] at ho';cases ho'
  exact ⟨_,es',ep',hL,r'⟩) hok hg
theorem Inv.turned {t':Nat}{it:Addr}(I:Inv X pins σ H s) (k:∀ b o,b≠it->s.heap.get? b=some o->h'.get? b=some o) (hn:H it=none) (hL:it≠X.env.locals)
  (h1:it∈X.ex∨X.s₀.heap.objs.size<=it) (h2:∀ x c,X.env.cells.lookup x=some c->c≠it) (h3:∀ p∈X.pn++pins,p.1≠it):Inv X pins σ H { s with heap:=h',toks:=t' }:=by
 have nit:∀ b u,H b=some u->b≠it:=fun b u e z=>by rw [z,hn] at e;cases e
 refine I.step (g':=s.gens) (d':=s.drawn) (ch:=[it]) (fun b hb=>?_) (fun b o _ _ hc e _=>k b o (fun z=>hc (by simp [z])) e) (fun b o _ _ hc e _=>⟨o.slots,k b o (fun z=>hc (by simp [z])) e⟩) (fun _ _ _ _ n=>n)
  (fun b o hc e=>⟨o,k b o (fun z=>hc (by simp [z])) e⟩) (fun _ _ e=>e) (fun _ _ _ e=>e) (fun b ps e=>⟨#[],by rw [e];simp⟩) (fun m hm=>?_) (fun b u e=>?_) I.bare
 .have e:b=it:=by simpa using hb
  subst e
  exact ⟨h1,hL,h2,h3⟩
 .obtain ⟨o,es,ep,ho,r⟩:=hm
  exact ⟨o,es,ep,k _ o (Ne.symm hL) ho,r⟩
 .refine (I.hok b u e).stay (fun c v hc q=>k c v ?_ q) (fun _ q=>q) fun _ _ q=>q
  rcases hc with z|z
  .rw [z];exact nit b u e
  .exact nit c _ z
theorem Inv.tok (I:Inv X pins σ H s) (t:Nat):Inv X pins σ H { s with toks:=t }:=I.un (h':=s.heap) (t':=t) Un.refl I.hok
theorem Inv.kept {t':Nat}(I:Inv X pins σ H s) (k:∀ b u,s.heap.get? b=some u->h'.get? b=some u):Inv X pins σ H { s with heap:=h',toks:=t' }:=I.un (Un.kept k) (I.hok.kept k)
theorem Inv.laid {a:Addr}{o:HO}{t':Nat}(I:Inv X pins σ H s) (k:∀ b u,s.heap.get? b=some u->h'.get? b=some u) (hp:s.heap.objs.size<=a) (new:ObjOk X.prog X.w (upd H a o) h' a o) :
  Inv X pins σ (upd H a o) { s with heap:=h',toks:=t' }:=I.un (Un.laid k hp (I.hok.fresh hp)) (I.hok.laid k hp new)
theorem Inv.write {x e:Addr}{o:HO}{t':Nat}(I:Inv X pins σ H s) (mu:Mut (H x)) (he:e=x∨H e=some (.own x)) (k:∀ b u,b≠e->s.heap.get? b=some u->h'.get? b=some u) (heo:∃ u,h'.get? e=some u)
  (new:ObjOk X.prog X.w (upd H x o) h' x o):Inv X pins σ (upd H x o) { s with heap:=h',toks:=t' }:=I.un (Un.write mu he k heo) (I.hok.write mu he k heo new)
theorem Inv.pins_of {pins':List (Addr×Obj)}(I:Inv X pins σ H s) (h:∀ p∈pins',s.heap.get? p.1=some p.2/\H p.1=none/\p.1≠X.env.locals/\p.1∉X.fs/\∀ v,p.2.data ≠ .cell v):Inv X pins' σ H s :=
 ⟨I.ok,I.os,I.bare,I.base,I.loc,I.cell,I.free,I.freeC,fun p hp=>(mAq.mp hp).elim (fun z=>I.pin p (bM _ z)) (h p),I.hok,I.len⟩
theorem nodup_ix {N:List Str}(hN:N.Nodup) {i j:Nat}{x:Str}(a:N[i]?=some x) (b:N[j]?=some x):i=j:=by
 obtain ⟨h1,e1⟩:=gSq.mp a
 obtain ⟨h2,e2⟩:=gSq.mp b
 exact (List.getElem_inj hN).mp (e1.trans e2.symm)
theorem store_ok2 {M:Model}{A:Around}{E:Value->Shared->Prop}{i:Nat}{x:Str}{v:V}{u:Value}{Q:Unit->Shared->Prop}(I:Inv X pins σ H s) (hN:X.N.Nodup) (hi:X.N[i]?=some x) (hx:Loc X.env.scope x) (r:RelV v u)
  (h:∀ s',Inv X pins (σ.set i (some v)) H s'->(∃ a,dQ a s.heap s'.heap/\(a=X.env.locals∨X.env.cells.lookup x=some a))->Q () s') (hf:X.fn x=true∨X.env.scope.names.lookup x=some .local:=by first|exact .inl rfl|exact .inr rfl|assumption):wpAny M A (storeName X.env x u) Q E s:=by
 obtain ⟨m,hn,hl⟩:=id I.loc
 have hcls:(X.env.scope.kind == .class || (X.env.scope.kind == .module && X.env.locals != X.env.globals))=false:=by rw [I.ok.kind];rfl
 have hiσ:i<σ.length:=by rw [I.len];exact (gSq.mp hi).1
 have cne:=I.cne
 have tracked:∀ {a:Addr}{h':Heap},(∃ o,s.heap.get? a=some o/\H a=none)->dQ a s.heap h'->HOk X.prog X.w H h':=fun {a h'} ha hs b ob e=>by
  obtain ⟨_,_,hfree⟩:=ha
  refine (I.hok b ob e).stay (fun c w' hc q=>(hs.2 c ?_).trans q) (fun _ q=>q) fun _ _ q=>q
  rintro rfl
  rcases hc with rfl|hc
  .rw [hfree] at e;cases e
  .rw [hfree] at hc;cases hc
 rcases hx with hk|hk
 .refine wpAny_storeName_local hk hn (fun h' hn' hs=>?_) hcls
  obtain ⟨oL,_,_,hoL,_⟩:=id hn
  refine h _ ⟨I.ok,I.os,I.bare,⟨fun b o e n hb hx=>?_,fun b o e n hb hx=>?_,I.base.free,fun b o e hx=>?_,I.base.tups,I.base.frzs,I.base.tbls⟩,⟨_,hn',fun j y v' e1 e2 e3=>?_⟩,fun y c e=>?_,I.free,I.freeC,fun p hp=>?_,tracked ⟨oL,hoL,I.free⟩ hs,by simpa using I.len⟩ ⟨_,hs,.inl rfl⟩
  .exact (hs.2 b (ay (aN (ah e) I.ok.above))).trans (I.base.keep b o e n hb hx)
  .obtain ⟨sl,e1⟩:=I.base.slot b o e n hb hx
   exact ⟨sl,(hs.2 b (ay (aN (ah e) I.ok.above))).trans e1⟩
  .obtain ⟨o',e1⟩:=I.base.there b o e hx
   exact ⟨o',(hs.2 b (ay (aN (ah e) I.ok.above))).trans e1⟩
  .by_cases hj:j=i
   .subst hj
    rw [hi] at e1;cases e1
    rw [aF hiσ] at e2
    cases e2
    exact ⟨u,r,.inl ⟨hk,by simp⟩⟩
   .rw [au (Ne.symm hj)] at e2
    obtain ⟨u',r',q⟩:=hl j y v' e1 e2 e3
    refine ⟨u',r',?_⟩
    rcases q with ⟨k,e⟩|⟨k,c,e,z⟩
    .refine .inl ⟨k,?_⟩
     have:y≠x:=fun e=>hj (nodup_ix hN e1 (e ▸ hi))
     simp [this,e]
    .exact .inr ⟨k,c,e,z.sameBut hs (cne y c e)⟩
  .obtain ⟨w',z⟩:=I.cell y c e
   exact ⟨w',z.sameBut hs (cne y c e)⟩
  .obtain ⟨e,n,ne,nf,d⟩:=I.pin p hp
   exact ⟨(hs.2 p.1 ne).trans e,n,ne,nf,d⟩
 .have hfn:X.fn x=true:=by
   rcases hf with z|z
   .exact z
   .rw [z] at hk;cases hk
  obtain ⟨c,hc⟩:=I.ok.has x (.inl hk)
  obtain ⟨w',z⟩:=I.cell x c hc
  refine wpAny_storeName_cell I.ok.kind hk hc z (fun h' hc' hs=>?_)
  obtain ⟨oc,hoc,hocd⟩:=id z
  refine h { s with heap:=h' } ⟨I.ok,I.os,I.bare,⟨fun b o e n hb hx=>?_,fun b o e n hb hx=>?_,I.base.free,fun b o e hx=>?_,I.base.tups,I.base.frzs,I.base.tbls⟩,⟨m,hn.sameBut hs (Ne.symm (cne x c hc)),fun j y v' e1 e2 e3=>?_⟩,fun y c' e=>?_,I.free,I.freeC,fun p hp=>?_,tracked ⟨oc,hoc,I.freeC x c hc⟩ hs,by simpa using I.len⟩ ⟨c,hs,.inr hc⟩
  .exact (hs.2 b (ay (aN (ah e) (I.ok.cab x c hfn hc)))).trans (I.base.keep b o e n hb hx)
  .obtain ⟨sl,e1⟩:=I.base.slot b o e n hb hx
   exact ⟨sl,(hs.2 b (ay (aN (ah e) (I.ok.cab x c hfn hc)))).trans e1⟩
  .obtain ⟨o',e1⟩:=I.base.there b o e hx
   exact ⟨o',(hs.2 b (ay (aN (ah e) (I.ok.cab x c hfn hc)))).trans e1⟩
  .by_cases hj:j=i
   .subst hj
    rw [hi] at e1;cases e1
    rw [aF hiσ] at e2
    cases e2
    exact ⟨u,r,.inr ⟨.inl hk,c,hc,hc'⟩⟩
   .rw [au (Ne.symm hj)] at e2
    obtain ⟨u',r',q⟩:=hl j y v' e1 e2 e3
    refine ⟨u',r',?_⟩
    rcases q with q|⟨k,c',e,z'⟩
    .exact .inl q
    .refine .inr ⟨k,c',e,z'.sameBut hs ?_⟩
     rintro rfl
     exact hj (nodup_ix hN e1 (I.ok.inj _ _ _ e hc ▸ hi))
  .by_cases hcc:c'=c
   .subst hcc;exact ⟨_,hc'⟩
   .obtain ⟨w2,z2⟩:=I.cell y c' e
    exact ⟨w2,z2.sameBut hs hcc⟩
  .obtain ⟨e,n,ne,nf,d⟩:=I.pin p hp
   refine ⟨(hs.2 p.1 ?_).trans e,n,ne,nf,d⟩
   intro q
   rw [q,hoc] at e
   have q':oc=p.2:=aT.inj e
   exact d w' (by rw [← q'];exact hocd)
theorem store_ok {M:Model}{A:Around}{E:Value->Shared->Prop}{i:Nat}{x:Str}{v:V}{u:Value}{Q:Unit->Shared->Prop}(I:Inv X pins σ H s) (hN:X.N.Nodup) (hi:X.N[i]?=some x) (hx:Loc X.env.scope x) (r:RelV v u)
  (h:∀ s',Inv X pins (σ.set i (some v)) H s'->Q () s') (hf:X.fn x=true∨X.env.scope.names.lookup x=some .local:=by first|exact .inl rfl|exact .inr rfl|assumption):wpAny M A (storeName X.env x u) Q E s :=
 store_ok2 I hN hi hx r (fun s' I' _=>h s' I') hf
theorem Inv.call' {s':Shared}{ch:List Addr}(I:Inv X pins σ H s) (ho:s'.os=s.os) (u:Un (frs X.stack) ch H H' s.heap s'.heap) (hok:HOk X.prog X.w H' s'.heap) (hg:AllBare s'.gens)
  (hch:∀ b∈ch,(b∈X.ex∨X.s₀.heap.objs.size<=b)/\b≠X.env.locals/\(∀ x c,X.env.cells.lookup x=some c->c≠b)/\∀ p∈X.pn++pins,p.1≠b):Inv X pins σ H' s':=by
 obtain ⟨h',g',d',t',o'⟩:=s'
 have e:o'=s.os:=ho
 subst e
 exact I.call (g':=g') (t':=t') (d':=d') u hok hg hch
end
abbrev XK:=Value->Option Addr->Hp->Prop
abbrev St:=List (Option V)
abbrev VK:=V->Hp->Prop
abbrev TE:=St->Hp->VK->Prop
abbrev TT:=St->Hp->(Bool->Hp->Prop)->Prop
abbrev TA:=St->Hp->(List V->Hp->Prop)->Prop
structure Ends where
 nx:St->Hp->Prop
 rt:VK
 bk:St->Hp->Prop:=fun _ _=>False
 ct:St->Hp->Prop:=fun _ _=>False
abbrev TS:=Ends->St->Hp->Prop
def EP (X:Cx) (pins:List (Addr×Obj)) (σ:St) (Q:VK) (u:Value) (s':Shared):Prop:=∃ v H',Inv X pins σ H' s'/\RelV v u/\Q v H'
def TP (X:Cx) (pins:List (Addr×Obj)) (σ:St) (Q:Bool->Hp->Prop) (b:Bool) (s':Shared):Prop:=∃ H',Inv X pins σ H' s'/\Q b H'
def AP (X:Cx) (pins:List (Addr×Obj)) (σ:St) (Q:List V->Hp->Prop) (us:List Value) (s':Shared):Prop:=∃ vs H',Inv X pins σ H' s'/\Vals vs us/\Q vs H'
def SP (X:Cx) (pins:List (Addr×Obj)) (D:Ends) (f:Flow) (s':Shared):Prop :=
 match f with
 | .next=>∃ σ' H',Inv X pins σ' H' s'/\D.nx σ' H'
 | .brk=>∃ σ' H',Inv X pins σ' H' s'/\D.bk σ' H'
 | .cont=>∃ σ' H',Inv X pins σ' H' s'/\D.ct σ' H'
 | .ret u=>∃ v σ' H',Inv X pins σ' H' s'/\RelV v u/\D.rt v H'
def PE (X:Cx) (e:Expr) (t:TE):Prop :=
 ∀ (pins:List (Addr×Obj)) (s:Shared) (σ:St) (H:Hp) (Q:VK),Inv X pins σ H s->t σ H Q->wpAny (model X.prog X.w) X.A (eval e X.env) (EP X pins σ Q) X.xe s
def PT (X:Cx) (e:Expr) (t:TT):Prop :=
 ∀ (pins:List (Addr×Obj)) (s:Shared) (σ:St) (H:Hp) (Q:Bool->Hp->Prop),Inv X pins σ H s->t σ H Q->wpAny (model X.prog X.w) X.A (isTrue e X.env (eval e X.env)) (TP X pins σ Q) X.xe s
def PW (X:Cx) (e:Expr) (t:TT):Prop :=
 ∀ (whole:Sem Value) (pins:List (Addr×Obj)) (s:Shared) (σ:St) (H:Hp) (Q:Bool->Hp->Prop),Inv X pins σ H s->t σ H Q->wpAny (model X.prog X.w) X.A (isTrue e X.env whole) (TP X pins σ Q) X.xe s
theorem PW.pt {X:Cx}{e:Expr}{t:TT}(h:PW X e t):PT X e t:=h _
def PA (X:Cx) (es:List Expr) (t:TA):Prop :=
 ∀ (pos:Pos) (pins:List (Addr×Obj)) (s:Shared) (σ:St) (H:Hp) (Q:List V->Hp->Prop),Inv X pins σ H s->t σ H Q->wpAny (model X.prog X.w) X.A (spliced (backTo pos (starEach es X.env))) (AP X pins σ Q) X.xe s
def PS (X:Cx) (st:Stmt) (t:TS):Prop :=
 ∀ (pins:List (Addr×Obj)) (s:Shared) (σ:St) (H:Hp) (D:Ends),Inv X pins σ H s->t D σ H->wpAny (model X.prog X.w) X.A (exec st X.env) (SP X pins D) X.xe s
def PSs (X:Cx) (st:List Stmt) (t:TS):Prop :=
 ∀ (pins:List (Addr×Obj)) (s:Shared) (σ:St) (H:Hp) (D:Ends),Inv X pins σ H s->t D σ H->wpAny (model X.prog X.w) X.A (execs st X.env) (SP X pins D) X.xe s
theorem thn {α:Type}{t:Sem α}{Q Q':α->Shared->Prop}{M:Model}{A:Around}{E:Value->Shared->Prop}{s:Shared}(h:wpAny M A t Q E s) (hQ:∀ a s,Q a s->Q' a s):wpAny M A t Q' E s:=wpAny_mono h hQ fun _ _ x=>x
section
variable {X:Cx}
def tVar (i:Nat):TE:=fun σ H Q=>∃ v,σ[i]?=some (some v)/\Q v H
def tC (v:V):TE:=fun _ H Q=>Q v H
theorem pe_var {i:Nat}{x:Str}{pos:Pos}(hN:X.N[i]?=some x) (hv:Vis X.env.scope x) (hd:(x == ("__debug__" : Str))=false:=by decide) (hcd:(x == ("__classdict__" : Str))=false:=by decide):PE X (.Name x pos) (tVar i):=by
 intro pins s σ H Q I h
 obtain ⟨v,e,h⟩:=h
 obtain ⟨m,hn,hl⟩:=I.loc
 obtain ⟨u,r,l⟩:=hl i x v hN e hv
 have fin:EP X pins σ Q u s:=⟨v,H,I,r,h⟩
 rcases l with ⟨hk,hm⟩|⟨hk,c,hc,hcell⟩
 .exact wpAny_Name (wpAny_loadName_local I.ok.kind hk hn hm fin) hd
 .rcases hk with hk|hk
  .exact wpAny_Name (wpAny_loadName_cell I.ok.kind hk hc hcell fin) hd
  .exact wpAny_Name (wpAny_loadName_free I.ok.kind hk hc hcell fin hcd) hd
theorem pe_int {i j pos}:PE X (.Constant (.int i) j pos) (tC (.int i)):=fun _ _ _ H _ I h=>wpAny_Constant_int ⟨.int i,H,I.tok _,⟨_,rfl⟩,h⟩
theorem pe_bl {b j pos}:PE X (.Constant (.bool b) j pos) (tC (.bl b)):=fun _ _ _ H _ I h=>Constant_bool ⟨.bl b,H,I,rfl,h⟩
theorem pe_str {x j pos}:PE X (.Constant (.str x) j pos) (tC (.str x)):=fun _ _ _ H _ I h=>Calls.Constant_str ⟨.str x,H,I.tok _,⟨_,rfl⟩,h⟩
def Gl (X:Cx) (x:Str):Prop:=X.env.kindOf x=some .globalImplicit
theorem ld_glob {E:Value->Shared->Prop}{pins:List (Addr×Obj)}{s:Shared}{σ:St}{H:Hp}{x:Str}{u:Value}{pos:Pos}{Q:Value->Shared->Prop}(I:Inv X pins σ H s) (hg:Gl X x) (hm:X.mg x=some u) (h:Q u s)
  (hd:(x == ("__debug__" : Str))=false:=by decide):wpAny (model X.prog X.w) X.A (eval (.Name x pos) X.env) Q E s :=
 Calls.Name_function_global I.ok.kind hg (Calls.loadGlobal_global (by rw [I.ok.glob];exact I.mod.glob.keeps I.bk) hm h) hd
theorem ld_blt {E:Value->Shared->Prop}{pins:List (Addr×Obj)}{s:Shared}{σ:St}{H:Hp}{x:Str}{u:Value}{pos:Pos}{Q:Value->Shared->Prop}(I:Inv X pins σ H s) (hg:Gl X x) (hm:X.mg x=none) (hv:bootBuiltins x=some u) (h:Q u s)
  (hn:x ≠ "__name__" := by decide) (hd:(x == ("__debug__" : Str))=false:=by decide):wpAny (model X.prog X.w) X.A (eval (.Name x pos) X.env) Q E s:=by
 obtain ⟨mb,h1,h2⟩:=I.mod.blt
 exact Calls.Name_function_global I.ok.kind hg (Calls.loadGlobal_builtin (by rw [I.ok.glob];exact I.mod.glob.keeps I.bk) hm (by rw [I.ok.blt];exact h1.keeps I.bk) ((h2 x hn).trans hv) h) hd
theorem pe_glob {x:Str}{v:V}{u:Value}{pos:Pos}(hg:Gl X x) (hm:X.mg x=some u) (r:RelV v u) (hd:(x == ("__debug__" : Str))=false:=by decide):PE X (.Name x pos) (tC v) :=
 fun _ _ _ H _ I h=>ld_glob I hg hm ⟨v,H,I,r,h⟩ hd
theorem pe_bltn {x:Str}{v:V}{u:Value}{pos:Pos}(hg:Gl X x) (hm:X.mg x=none) (hv:bootBuiltins x=some u) (r:RelV v u) (hn:x ≠ "__name__" := by decide) (hd:(x == ("__debug__" : Str))=false:=by decide):PE X (.Name x pos) (tC v) :=
 fun _ _ _ H _ I h=>ld_blt I hg hm hv ⟨v,H,I,r,h⟩ hn hd
variable {a b:Expr}{ta tb:TE}{pos:Pos}
def PC (X:Cx) (op:CmpOp) (a b:Expr) (t:TE):Prop :=
 ∀ (pins:List (Addr×Obj)) (s:Shared) (σ:St) (H:Hp) (Q:VK),Inv X pins σ H s->t σ H Q ->
  wpAny (model X.prog X.w) X.A (eval a X.env) (fun v s₁=>wpAny (model X.prog X.w) X.A (eval b X.env) (fun u s₂=>wpAny (model X.prog X.w) X.A (compareOp op v u) (EP X pins σ Q) X.xe s₂) X.xe s₁) X.xe s
def tB (t:TE):TT:=fun σ H Q=>t σ H fun x H1=>∃ c,x = .bl c/\Q c H1
theorem pt_cmp {op:CmpOp}{t:TE}(h:PC X op a b t) (h1:behindInMarks op b=false:=by first|exact nobehind _ (by decide) (by decide)|rfl):PT X (.Compare a [op] [b] pos) (tB t):=by
 intro pins s σ H Q I hw
 refine wpAny_isTrue_Compare1 (thn (h pins s σ H _ I hw) fun v s1 h1=>thn h1 fun u s2 h2=>thn h2 fun c s3 ⟨x,H1,I1,r1,q1⟩=>?_) h1
 obtain ⟨d,rfl,q⟩:=q1
 cases r1
 exact wpAny_truthy_bool ⟨H1,I1,q⟩
theorem pt_val {e:Expr}{t:TE}(h:PE X e t) (he:∀ whole,isTrue e X.env whole=(do let v ← whole;standAt e.pos;holding [v] (truthy v)):=by intro _;rfl):PT X e (tB t):=by
 intro pins s σ H Q I hw
 refine isTrue_plain (thn (h pins s σ H _ I hw) fun v s1 ⟨x,H1,I1,r1,q1⟩=>?_) (he _)
 obtain ⟨d,rfl,q⟩:=q1
 cases r1
 exact wpAny_truthy_bool ⟨H1,I1,q⟩
variable {tA tB':TT}{rest:List Expr}
def tAnd (t u:TT):TT:=fun σ H Q=>t σ H fun c H1=>if c=true then u σ H1 Q else Q false H1
def tNot (t:TT):TT:=fun σ H Q=>t σ H fun c H1=>Q (!c) H1
theorem pw_and1 (ha:PT X a tA):PW X (.BoolOp .And [a] pos) tA:=by
 intro wh pins s σ H Q I h
 refine isTrue_and (thn (ha pins s σ H Q I h) fun c s1 e=>?_)
 cases c with
 | true=>exact isTrue_and_nil e
 | false=>exact e
theorem pw_and (ha:PT X a tA) (hb:PW X (.BoolOp .And (b::rest) pos) tB'):PW X (.BoolOp .And (a::b::rest) pos) (tAnd tA tB'):=by
 intro wh pins s σ H Q I h
 refine isTrue_and (thn (ha pins s σ H _ I h) fun c s1 ⟨H1,I1,q1⟩=>?_)
 cases c with
 | true=>exact hb wh pins s1 σ H1 Q I1 q1
 | false=>exact ⟨H1,I1,q1⟩
theorem pt_not (ha:PT X a tA):PT X (.UnaryOp .Not a pos) (tNot tA):=by
 intro pins s σ H Q I h
 exact isTrue_not (ha pins s σ H (fun c H1=>Q (!c) H1) I h)
end
def SqL (K:W.Frag) (H:Hp) (a:Addr) (xs:List V):Prop :=
 Rd H a (.lst xs) ∨
  ∃ (o:Obj) (its:Array Value) (n:Nat),K.lookup a=some o/\o.cls = .type "list" /\ o.dict=none/\o.data = .seq its n/\its.size<=sizeLine/\Vals xs its.toList
def SqT (K:W.Frag) (H:Hp) (a:Addr) (xs:List V):Prop :=
 Rd H a (.tup xs) ∨
  ∃ (o:Obj) (its:Array Value) (n:Nat),K.lookup a=some o/\o.cls = .type "tuple" /\ o.data = .seq its n/\its.size<=sizeLine/\Vals xs its.toList
def absV:Value->Option V
 | .none=>some .non
 | .bool b=>some (.bl b)
 | .int i _=>some (.int i)
 | .str x _=>some (.str x)
 | .bytes b _=>some (.byt b)
 | .float b _=>some (.flt b)
 | .ref a=>some (.ref a)
 | .type n=>some (.ty n)
 | _=>none
theorem RelV.abs {x:V}{u:Value}(r:RelV x u):absV u=some x:=by
 cases x with
 | non=>cases r;rfl
 | bl _=>cases r;rfl
 | int _=>obtain ⟨t,rfl⟩:=r;rfl
 | str _=>obtain ⟨t,rfl⟩:=r;rfl
 | byt _=>obtain ⟨t,rfl⟩:=r;rfl
 | flt _=>obtain ⟨t,rfl⟩:=r;rfl
 | ref _=>cases r;rfl
 | ty _=>cases r;rfl
theorem RelV.inj {x y:V}{u:Value}(r:RelV x u) (q:RelV y u):x=y:=aT.inj (r.abs.symm.trans q.abs)
theorem Vals.inj:∀ {xs ys:List V}{us:List Value},Vals xs us->Vals ys us->xs=ys
 | _,_,_,.nil,.nil=>rfl
 | _,_,_,.cons r t,.cons r' t'=>by rw [r.inj r',Vals.inj t t']
section
variable {X:Cx}{pins:List (Addr×Obj)}{σ:St}{H:Hp}{s:Shared}{a:Addr}{xs ys:List V}
theorem SqL.of {K:W.Frag}(h:H a=some (.lst xs)):SqL K H a xs:=.inl (.inl h)
theorem SqT.of {K:W.Frag}(h:H a=some (.tup xs)):SqT K H a xs:=.inl (.inl h)
theorem Inv.list (I:Inv X pins σ H s) (h:SqL X.K H a xs):∃ its:List Value,Vals xs its/\PlainL s.heap a its.toArray/\xs.length<=sizeLine:=by
 rcases h with h|⟨o,its,n,hk,hc,hd,hs,hz,r⟩
 .obtain ⟨z,its,n,r,e⟩:=h.ok I.hok
  exact ⟨its,r,⟨_,n,e,rfl,rfl,rfl⟩,z⟩
 .refine ⟨its.toList,r,⟨o,n,I.kIn a o hk,hc,hd,by simpa using hs⟩,?_⟩
  have e:=r.length
  simp only [ao] at e
  omega
theorem Inv.tuple (I:Inv X pins σ H s) (h:SqT X.K H a xs):∃ its:List Value,Vals xs its/\IsTup s.heap a its.toArray/\xs.length<=sizeLine:=by
 rcases h with h|⟨o,its,n,hk,hc,hs,hz,r⟩
 .obtain ⟨z,its,r,p⟩:=h.ok I.hok
  exact ⟨its,r,p,z⟩
 .refine ⟨its.toList,r,⟨o,I.kIn a o hk,hc,n,by simpa using hs⟩,?_⟩
  have e:=r.length
  simp only [ao] at e
  omega
theorem Inv.list_inj (I:Inv X pins σ H s) (h:SqL X.K H a xs) (h':SqL X.K H a ys):xs=ys:=by
 obtain ⟨its,r,⟨o,n,e,_,_,d⟩,_⟩:=I.list h
 obtain ⟨its',r',⟨o',n',e',_,_,d'⟩,_⟩:=I.list h'
 rw [e] at e';cases e'
 rw [d] at d'
 injection d' with d1 _
 have:its=its':=by simpa using congrArg Array.toList d1
 subst this
 exact r.inj r'
end
abbrev Cx.wish (X:Cx) (E:Value->Shared->Prop):Cx:={ X with xe:=E }
abbrev Cx.nox (X:Cx):Cx:=X.wish fun _ _=>False
theorem Cx.Ok.wish {X:Cx}(ok:X.Ok) (E:Value->Shared->Prop):(X.wish E).Ok :=
 ⟨ok.mod,ok.kind,ok.glob,ok.blt,ok.above,ok.inj,ok.has,ok.cab,ok.hd,ok.frames,ok.stk,ok.exf,ok.bs,ok.bsz,ok.noex,ok.exfs,ok.funs,ok.frf⟩
theorem Cx.Ok.unwish {X:Cx}{E:Value->Shared->Prop}(ok:(X.wish E).Ok):X.Ok :=
 ⟨ok.mod,ok.kind,ok.glob,ok.blt,ok.above,ok.inj,ok.has,ok.cab,ok.hd,ok.frames,ok.stk,ok.exf,ok.bs,ok.bsz,ok.noex,ok.exfs,ok.funs,ok.frf⟩
section
variable {X:Cx}{pins:List (Addr×Obj)}{σ:St}{H:Hp}{s:Shared}{E:Value->Shared->Prop}
theorem Inv.wish (I:Inv X pins σ H s) (E:Value->Shared->Prop):Inv (X.wish E) pins σ H s:=⟨I.ok.wish E,I.os,I.bare,I.base,I.loc,I.cell,I.free,I.freeC,I.pin,I.hok,I.len⟩
theorem Inv.unwish (I:Inv (X.wish E) pins σ H s):Inv X pins σ H s:=⟨I.ok.unwish,I.os,I.bare,I.base,I.loc,I.cell,I.free,I.freeC,I.pin,I.hok,I.len⟩
theorem SP.unwish {D:Ends}{f:Flow}{s':Shared}(h:SP (X.wish E) pins D f s'):SP X pins D f s':=by
 cases f with
 | next=>obtain ⟨σ',H',I,q⟩:=h;exact ⟨σ',H',I.unwish,q⟩
 | brk=>obtain ⟨σ',H',I,q⟩:=h;exact ⟨σ',H',I.unwish,q⟩
 | cont=>obtain ⟨σ',H',I,q⟩:=h;exact ⟨σ',H',I.unwish,q⟩
 | ret u=>obtain ⟨v,σ',H',I,r,q⟩:=h;exact ⟨v,σ',H',I.unwish,r,q⟩
theorem PSs.nox {st:List Stmt}{t:TS}(h:PSs X.nox st t):PSs X st t:=fun pins s σ H D I hw =>
 wpAny_mono (h pins s σ H D (I.wish _) hw) (fun _ _ q=>q.unwish) fun _ _ z=>False.elim z
end
section
variable {X:Cx}{st:Stmt}{rest:List Stmt}{t u:TS}{e:Expr}{te:TE}{pos:Pos}
def tNext:TS:=fun D σ H=>D.nx σ H
def tSeq (t u:TS):TS:=fun D σ H=>t { D with nx:=u D } σ H
theorem pss_nil:PSs X [] tNext:=fun _ _ σ H _ I h=>wpAny_execs_nil ⟨σ,H,I,h⟩
theorem pss_cons (h1:PS X st t) (h2:PSs X rest u):PSs X (st::rest) (tSeq t u):=by
 intro pins s σ H D I h
 refine wpAny_execs_cons (thn (h1 pins s σ H { D with nx:=u D } I h) fun f s1 q=>?_)
 cases f with
 | next =>
  obtain ⟨σ',H',I',q⟩:=q
  exact h2 pins s1 σ' H' D I' q
 | ret v=>exact q
 | brk=>exact q
 | cont=>exact q
theorem pss_one (h1:PS X st t):PSs X [st] t:=by
 intro pins s σ H D I h
 refine wpAny_execs_cons (thn (h1 pins s σ H D I h) fun f s1 q=>?_)
 cases f with
 | next=>exact wpAny_execs_nil q
 | ret v=>exact q
 | brk=>exact q
 | cont=>exact q
theorem Inv.quiet {pins:List (Addr×Obj)}{σ:St}{H:Hp}{s:Shared}(I:Inv X pins σ H s):interactive X.env=false:=by simp [interactive,I.ok.kind]
def tDrop (te:TE):TS:=fun D σ H=>te σ H fun _ H1=>D.nx σ H1
theorem ps_expr (he:PE X e te) (hs:swapsWith e none pos.line X.env=pure false:=by rfl):PS X (.Expr e pos) (tDrop te):=by
 intro pins s σ H D I h
 exact wpAny_Expr_any (thn (he pins s σ H _ I h) fun v s1 ⟨x,H1,I1,r1,q1⟩=>⟨σ,H1,I1,q1⟩) I.quiet hs
def tRet (te:TE):TS:=fun D σ H=>te σ H D.rt
theorem ps_ret (he:PE X e te):PS X (.Return (some e) pos) (tRet te):=by
 intro pins s σ H D I h
 exact wpAny_Return_some (thn (he pins s σ H _ I h) fun v s1 ⟨x,H1,I1,r1,q1⟩=>⟨x,σ,H1,I1,r1,q1⟩)
def tIfS (c:TT) (t u:TS):TS:=fun D σ H=>c σ H fun b H1=>if b=true then t D σ H1 else u D σ H1
theorem ps_if {c:Expr}{a b:List Stmt}{tc:TT}(hc:PT X c tc) (ha:PSs X a t) (hb:PSs X b u):PS X (.If c a b pos) (tIfS tc t u):=by
 intro pins s σ H D I h
 refine wpAny_If (thn (hc pins s σ H _ I h) fun d s1 ⟨H1,I1,q1⟩=>?_)
 cases d with
 | true=>exact ha pins s1 σ H1 D I1 q1
 | false=>exact hb pins s1 σ H1 D I1 q1
end
abbrev TG:=V->St->Hp->(St->Hp->Prop)->Prop
abbrev TGs:=List V->St->Hp->(St->Hp->Prop)->Prop
def PG (X:Cx) (target:Expr) (t:TG):Prop :=
 ∀ (pins:List (Addr×Obj)) (s:Shared) (σ:St) (H:Hp) (v:V) (u:Value) (Q:St->Hp->Prop),Inv X pins σ H s->RelV v u->t v σ H Q ->
  wpAny (model X.prog X.w) X.A (assign target X.env u) (fun _ s'=>∃ σ' H',Inv X pins σ' H' s'/\Q σ' H') X.xe s
def PGs (X:Cx) (ts:List Expr) (t:TGs):Prop :=
 ∀ (pins:List (Addr×Obj)) (s:Shared) (σ:St) (H:Hp) (vs:List V) (us:List Value) (Q:St->Hp->Prop),Inv X pins σ H s->Vals vs us->t vs σ H Q ->
  wpAny (model X.prog X.w) X.A (assignInOrder ((assignEach ts X.env).map (·.2)) us) (fun _ s'=>∃ σ' H',Inv X pins σ' H' s'/\Q σ' H') X.xe s
section
variable {X:Cx}{pos:Pos}
def gName (i:Nat):TG:=fun v σ H Q=>Q (σ.set i (some v)) H
theorem pg_name {i:Nat}{x:Str}(hN:X.N.Nodup) (hi:X.N[i]?=some x) (hx:Loc X.env.scope x) (hf:X.fn x=true∨X.env.scope.names.lookup x=some .local:=by first|exact .inl rfl|exact .inr rfl|assumption):PG X (.Name x pos) (gName i):=by
 intro pins s σ H v u Q I r h
 exact wpAny_assign_Name (store_ok I hN hi hx r (fun s' I'=>⟨_,H,I',h⟩) hf)
def gNil:TGs:=fun vs σ H Q=>vs=[]/\Q σ H
def gCons (t:TG) (u:TGs):TGs:=fun vs σ H Q=>∃ v r,vs=v::r/\t v σ H fun σ' H'=>u r σ' H' Q
theorem pgs_nil:PGs X [] gNil:=by
 intro pins s σ H vs us Q I r h
 obtain ⟨e,h⟩:=h
 subst e
 cases r
 exact assignInOrder_nil ⟨σ,H,I,h⟩
theorem pgs_cons {e:Expr}{es:List Expr}{t:TG}{u:TGs}(h1:PG X e t) (h2:PGs X es u)
  (hs:(assignEach (e::es) X.env).map (·.2)=assign e X.env::(assignEach es X.env).map (·.2):=by rfl):PGs X (e::es) (gCons t u):=by
 intro pins s σ H vs us Q I r h
 obtain ⟨v,vr,e1,h⟩:=h
 subst e1
 cases r with
 | cons r rr =>
  rw [hs]
  refine assignInOrder_cons (thn (h1 pins s σ H _ _ _ I r h) fun _ s1 ⟨σ1,H1,I1,q1⟩=>?_)
  exact h2 pins s1 σ1 H1 _ _ Q I1 rr q1
def gTup (K:W.Frag) (n:Nat) (t:TGs):TG:=fun v σ H Q=>∃ a xs,v = .ref a/\SqT K H a xs/\xs.length=n/\t xs σ H Q
theorem pg_tup {es:List Expr}{k:Nat}{t:TGs}{n:Nat}(hc:X.calm=true) (h:PGs X es t)
  (hn:(assignEach es X.env).length=n:=by rfl) (hst:(assignEach es X.env).findIdx? (·.1)=none:=by rfl):PG X (.Tuple es k pos) (gTup X.K n t):=by
 intro pins s σ H v u Q I r hw
 obtain ⟨a,xs,e1,hq,hl,hw⟩:=hw
 subst e1
 cases r
 obtain ⟨its,rv,ht,hz⟩:=I.tuple hq
 refine assign_Tuple_tuple (I.ok.hd hc) ht (by simp [hn,← hl,rv.length]) hst fun h' hx=>?_
 have I1:Inv X pins σ H { s with heap:=h' }:=I.kept (t':=s.toks) fun b o e=>hx b o (ay (ah e)) e
 exact h pins _ σ H xs _ Q I1 (by simpa using rv) hw
def tAsg (te:TE) (g:TG):TS:=fun D σ H=>te σ H fun x H1=>g x σ H1 D.nx
theorem ps_set {i:Nat}{x:Str}{e:Expr}{te:TE}{pos':Pos}(hN:X.N.Nodup) (hi:X.N[i]?=some x) (hx:Loc X.env.scope x) (he:PE X e te) (hs:swapsWith e (some (.Name x pos')) pos.line X.env=pure false:=by rfl) (hf:X.fn x=true∨X.env.scope.names.lookup x=some .local:=by first|exact .inl rfl|exact .inr rfl|assumption) :
  PS X (.Assign [.Name x pos'] e pos) (tAsg te (gName i)):=by
 intro pins s σ H D I h
 refine wpAny_Assign_Name (thn (he pins s σ H _ I h) fun v s1 ⟨y,H1,I1,r1,q1⟩=>?_) hs
 exact store_ok I1 hN hi hx r1 (fun s2 I2=>⟨_,H1,I2,q1⟩) hf
end
section
variable {X:Cx}{pos:Pos}
def tWhile (c:TT) (tb:TS):TS:=fun D σ H=>∃ W:Nat->St->Hp->Prop,(∃ m,W m σ H)/\∀ m σ H,W m σ H ->
 c σ H fun b H1=>if b=true then ∃ N:St->Hp->Prop,(∀ σ' H',N σ' H'->∃ m',m'<m/\W m' σ' H')/\tb { D with nx:=N,ct:=N,bk:=D.nx } σ H1 else D.nx σ H1
theorem ps_while {c:Expr}{body:List Stmt}{tc:TT}{tb:TS}(hp:PassesOwn (model X.prog X.w) X.A X.env X.xe) (hc:PT X c tc) (hb:PSs X body tb):PS X (.While c body [] pos) (tWhile tc tb):=by
 intro pins s σ H D I h
 obtain ⟨W,⟨m0,w0⟩,turn⟩:=h
 refine wpAny_While (codeAny_whileLoop (fun n s'=>∃ σ' H',Inv X pins σ' H' s'/\W n σ' H') ?_ m0 ⟨σ,H,I,w0⟩)
 rintro n s1 ⟨σ1,H1,I1,w1⟩
 refine wpAny_passesOwn hp (thn (hc pins s1 σ1 H1 _ I1 (turn n σ1 H1 w1)) fun b s2 ⟨H2,I2,q2⟩=>?_)
 cases b with
 | true =>
  obtain ⟨N,hN,q2⟩:=q2
  rw [if_pos rfl]
  refine wpAny_passesOwn hp (thn (hb pins s2 σ1 H2 _ I2 q2) fun f s3 q3=>?_)
  cases f with
  | next =>
   obtain ⟨σ3,H3,I3,n3⟩:=q3
   obtain ⟨m',hm,w3⟩:=hN σ3 H3 n3
   exact ⟨m',hm,σ3,H3,I3,w3⟩
  | cont =>
   obtain ⟨σ3,H3,I3,n3⟩:=q3
   obtain ⟨m',hm,w3⟩:=hN σ3 H3 n3
   exact ⟨m',hm,σ3,H3,I3,w3⟩
  | brk=>exact q3
  | ret v=>exact q3
 | false =>
  rw [if_neg aw]
  exact wpAny_execs_nil ⟨σ1,H2,I2,q2⟩
end
structure It where
 go:Nat->Hp->Prop
 yld:Nat->Hp->V->Hp->Prop
 stop:Nat->Hp->Prop
def FpOk (X:Cx) (pins:List (Addr×Obj)) (H:Hp) (b:Addr):Prop :=
 H b=none/\b≠X.env.locals/\b∉X.fs/\(b∈X.ex∨X.s₀.heap.objs.size<=b)/\(∀ x c,X.env.cells.lookup x=some c->c≠b)/\∀ p∈X.pn++pins,p.1≠b
theorem Inv.fpOk {X:Cx}{pins:List (Addr×Obj)}{σ:St}{H H':Hp}{s:Shared}{b:Addr}(I:Inv X pins σ H s) (hb:s.heap.objs.size<=b) (hn:H' b=none):FpOk X pins H' b:=by
 refine ⟨hn,cC (aN I.lt hb),I.nofs hb,.inr (bC I.sz hb),fun x c e z=>?_,fun p hp z=>?_⟩
 .obtain ⟨v,q⟩:=I.cell x c e
  exact absurd (aN q.lt (by rw [z];exact hb)) (bR _)
 .exact absurd (aN (ah (I.pin p hp).1) (by rw [z];exact hb)) (bR _)
structure Turn (P:Program) (w:World) (K:W.Frag) (tg:Expr) (J:It) (fp:List Addr) (it:Addr) (tn:Nat->Heap->Prop):Prop where
 mem:it∈fp
 obj:∀ i h,tn i h->∀ b∈fp,∃ o,h.get? b=some o/\∀ v,o.data ≠ .cell v
 keep:∀ i h h',tn i h->(∀ b∈fp,∀ o,h.get? b=some o->h'.get? b=some o)->tn i h'
 item:∀ (X:Cx),X.prog=P->X.w=w->X.K=K->X.calm=true->∀ (i:Nat) (pins:List (Addr×Obj)) (s:Shared) (σ:St) (H:Hp) (E:Value->Shared->Prop),Inv X pins σ H s->(∀ b∈fp,FpOk X pins H b)->tn i s.heap->J.go i H ->
  wpAny (model P w) X.A (pyNext (.ref it)) (fun r s1=>∃ u,r=some u /\
   wpAny (model P w) X.A (letOwnedTupleGo tg (.ref it) u) (fun _ s2=>∃ x H',Inv X pins σ H' s2/\RelV x u/\J.yld i H x H'/\tn (i+1) s2.heap/\∀ b∈fp,H' b=none) E s1) E s
 done:∀ (X:Cx),X.prog=P->X.w=w->X.K=K->X.calm=true->∀ (i:Nat) (pins:List (Addr×Obj)) (s:Shared) (σ:St) (H:Hp) (E:Value->Shared->Prop),Inv X pins σ H s->(∀ b∈fp,FpOk X pins H b)->tn i s.heap->J.stop i H ->
  wpAny (model P w) X.A (pyNext (.ref it)) (fun r s1=>r=none/\Inv X pins σ H s1) E s
 self:∀ (A:Around) (i:Nat) (s:Shared) (Q:Value->Shared->Prop) (E:Value->Shared->Prop),tn i s.heap->Q (.ref it) s->wpAny (model P w) A (pyIter (.ref it)) Q E s
abbrev TI:=St->Hp->(It->Hp->Prop)->Prop
def PIE (X:Cx) (pins:List (Addr×Obj)) (σ:St) (tg:Expr) (R:It->Hp->Prop) (itv:Value) (s2:Shared):Prop :=
 ∃ (it:Addr) (fp:List Addr) (tn:Nat->Heap->Prop) (J:It) (H':Hp),itv = .ref it/\Inv X pins σ H' s2/\Turn X.prog X.w X.K tg J fp it tn/\tn 0 s2.heap/\(∀ b∈fp,FpOk X pins H' b)/\R J H'
def PI (X:Cx) (tg iter:Expr) (wi:TI):Prop :=
 ∀ (pins:List (Addr×Obj)) (s:Shared) (σ:St) (H:Hp) (R:It->Hp->Prop),Inv X pins σ H s->wi σ H R ->
  wpAny (model X.prog X.w) X.A (eval iter X.env) (fun v s1=>wpAny (model X.prog X.w) X.A (pyIter v) (PIE X pins σ tg R) X.xe s1) X.xe s
theorem go_of {M:Model}{A:Around}{E:Value->Shared->Prop}{s:Shared}{tg:Expr}{it:Addr}{u:Value}{o:Obj}{n:String}{vs:Array Value}{Q:Unit->Shared->Prop}(ho:s.heap.get? it=some o) (hc:o.cls = .type n) (hd:o.data = .fields vs)
    (hn:["enumerate", "zip", "dict_itemiterator", "dict_reverseitemiterator", "odict_iterator", "itertools.zip_longest", "itertools.pairwise"].contains n=false) (hQ:Q () s):wpAny M A (letOwnedTupleGo tg (.ref it) u) Q E s:=by
  unfold letOwnedTupleGo
  cases tg <;> first
    | exact wpAny_pure hQ
    | (cases u <;> first
        | exact wpAny_pure hQ
        | (refine wpAny_bind (wpAny_load ho ?_)
           rw [hc,hd]
           show wpAny M A (if (["enumerate", "zip", "dict_itemiterator", "dict_reverseitemiterator", "odict_iterator", "itertools.zip_longest", "itertools.pairwise"].contains n && vs[0]? == some (rawInt _))=true then _ else _) Q E s
           rw [if_neg (by intro h;rw [hn,gN] at h;cases h)]
           exact wpAny_pure hQ))
def Itl (K:W.Frag) (a:Addr):It :=
 ⟨fun i H=>∃ xs x,SqL K H a xs/\xs[i]?=some x,fun i H x H'=>H'=H/\∀ xs,SqL K H a xs->xs[i]?=some x,fun i H=>∃ xs,SqL K H a xs/\xs.length<=i⟩
def Itr (lo:Int) (n:Nat):It:=⟨fun i _=>i<n,fun i H x H'=>H'=H/\x = .int (lo+i),fun i _=>n<=i⟩
theorem turn_list {P:Program}{w:World}{K:W.Frag}{tg:Expr}(a it:Addr):Turn P w K tg (Itl K a) [it] it (fun i h=>h.IsListIter it a i) where
 mem:=by simp
 obj:=fun i h st b hb=>by
  have e:b=it:=by simpa using hb
  subst e
  obtain ⟨o,e,c,d⟩:=st
  exact ⟨o,e,fun v z=>by rw [d] at z;cases z⟩
 keep:=fun i h h' st k=>st.at fun o e=>k it (by simp) o e
 item:=by
  intro X hP hw hK hc i pins s σ H E I hf st hg
  subst hP hw hK
  obtain ⟨xs,x,hq,hx⟩:=hg
  obtain ⟨its,rv,p,hz⟩:=I.list hq
  obtain ⟨u,hu,ru⟩:=rv.get hx
  obtain ⟨f0,f1,f2,f3,f4,f5⟩:=hf it (by simp)
  refine wpAny_pyNext_list_item st p.isList (x:=u) (by simpa using hu) fun h' st' sb=>?_
  have I1:Inv X pins σ H { s with heap:=h' }:=I.turned (t':=s.toks) (fun b o hb e=>(sb.2 b hb).trans e) f0 f1 f3 f4 f5
  obtain ⟨o,e,c,d⟩:=id st'
  exact ⟨u,rfl,go_of (s:={ s with heap:=h' }) e c d (by decide) ⟨x,H,I1,ru,⟨rfl,fun ys hy=>by rw [I.list_inj hy hq];exact hx⟩,st',fun b hb=>(hf b hb).1⟩⟩
 done:=by
  intro X hP hw hK hc i pins s σ H E I hf st hg
  subst hP hw hK
  obtain ⟨xs,hq,hx⟩:=hg
  obtain ⟨its,rv,p,hz⟩:=I.list hq
  obtain ⟨f0,f1,f2,f3,f4,f5⟩:=hf it (by simp)
  have hl:=rv.length
  exact wpAny_pyNext_list_end (I.ok.hd hc) st p.isList (by simp;omega) fun h' eb=>⟨rfl,I.turned (t':=s.toks) (fun b o hb e=>eb b o hb e) f0 f1 f3 f4 f5⟩
 self:=fun _ _ _ _ _ st h=>wpAny_pyIter_listiter st h
theorem turn_range {P:Program}{w:World}{K:W.Frag}{tg:Expr}(it:Addr) (lo:Int) (n:Nat):Turn P w K tg (Itr lo n) [it] it (fun i h=>IsRangeIter h it (lo+(i:Nat)*1) ((n:Int)-(i:Nat)) 1) where
 mem:=by simp
 obj:=fun i h st b hb=>by
  have e:b=it:=by simpa using hb
  subst e
  exact ⟨_,st,fun v z=>by
   have z':Data.fields _=Data.cell v:=z
   cases z'⟩
 keep:=fun i h h' st k=>k it (by simp) _ st
 item:=by
  intro X hP hw hK hc i pins s σ H E I hf st hg
  subst hP hw hK
  obtain ⟨f0,f1,f2,f3,f4,f5⟩:=hf it (by simp)
  have W:=Walks.range (prog:=X.prog) (w:=X.w) (I.ok.hd hc) it lo 1 n
  refine W.item i s _ _ hg st fun v h' tk hv st' kk=>?_
  obtain ⟨t,rfl⟩:=hv
  have I1:Inv X pins σ H { s with heap:=h',toks:=tk }:=I.turned (fun b o hb e=>kk b o (by simpa using hb) e) f0 f1 f3 f4 f5
  refine ⟨_,rfl,go_of (s:={ s with heap:=h',toks:=tk }) (n := "range_iterator") st' rfl rfl (by decide) ⟨.int (lo+i),H,I1,⟨t,?_⟩,⟨rfl,rfl⟩,st',fun b hb=>(hf b hb).1⟩⟩
  rw [gv]
 done:=by
  intro X hP hw hK hc i pins s σ H E I hf st hg
  subst hP hw hK
  obtain ⟨f0,f1,f2,f3,f4,f5⟩:=hf it (by simp)
  exact wpAny_pyNext_range_end (I.ok.hd hc) st (by have:n<=i:=hg;omega) fun h' eb=>⟨rfl,I.turned (t':=s.toks) (fun b o hb e=>eb b o hb e) f0 f1 f3 f4 f5⟩
 self:=fun _ _ _ _ _ st h=>wpAny_pyIter_rangeiter st h
section
variable {X:Cx}{tg:Expr}
def iList (K:W.Frag) (tl:TE):TI:=fun σ H R=>tl σ H fun x H1=>∃ a,x = .ref a/\(∃ xs,SqL K H1 a xs)/\R (Itl K a) H1
theorem pi_list {l:Expr}{tl:TE}(hl:PE X l tl):PI X tg l (iList X.K tl):=by
 intro pins s σ H R I h
 refine thn (hl pins s σ H _ I h) fun v s1 ⟨x,H1,I1,r1,q1⟩=>?_
 obtain ⟨a,e,⟨xs,hq⟩,q⟩:=q1
 subst e
 cases r1
 obtain ⟨its,rv,p,hz⟩:=I1.list hq
 refine wpAny_pyIter_list p.isList ?_
 refine ⟨s1.heap.objs.size,[s1.heap.objs.size],_,_,H1,rfl,I1.kept (t':=s1.toks) fun b o e=>ae _ e,turn_list a _,⟨_,aQ _ rfl,rfl,rfl⟩,fun b hb=>?_,q⟩
 have e:b=s1.heap.objs.size:=by simpa using hb
 subst e
 exact I1.fpOk (af _) (I1.hok.fresh (af _))
theorem range_it {pins:List (Addr×Obj)}{σ:St}{H:Hp}{s:Shared}{R:It->Hp->Prop}{E:Value->Shared->Prop}{lo hi:Int}{t u v:Tok}{tk:Nat}(I:Inv X pins σ H s) (h1:-(2 ^ 62)<=lo) (h2:lo<2 ^ 62) (h3:-(2 ^ 62)<=hi) (h4:hi<2 ^ 62)
  (q:R (Itr lo (hi-lo).toNat) H):wpAny (model X.prog X.w) X.A (pyIter (.ref s.heap.objs.size)) (PIE X pins σ tg R) E { s with heap:=s.heap.push { cls:=.type "range", data:=.fields #[.int lo t,.int hi u,.int 1 v] },toks:=tk }:=by
 refine wpAny_pyIter_range (IsRange.new ..) (small_one h1 h2 h3 h4) ?_
 have I1:Inv X pins σ H { s with heap:=s.heap.push { cls:=.type "range", data:=.fields #[.int lo t,.int hi u,.int 1 v] },toks:=tk }:=I.kept fun b o e=>ae _ e
 refine ⟨(s.heap.push { cls:=.type "range", data:=.fields #[.int lo t,.int hi u,.int 1 v] }).objs.size,[(s.heap.push { cls:=.type "range", data:=.fields #[.int lo t,.int hi u,.int 1 v] }).objs.size],_,_,H,rfl,
  I1.kept (t':=tk) fun b o e=>ae _ e,turn_range _ lo (hi-lo).toNat,?_,fun b hb=>?_,q⟩
 .have e1:lo+((0:Nat):Int)*1=lo:=by simp
  have e2:(((hi-lo).toNat:Nat):Int)-((0:Nat):Int)=Builtin.Range.rangeSize lo hi 1:=by rw [rangeSize_one];split <;> omega
  show IsRangeIter _ _ (lo+((0:Nat):Int)*1) ((((hi-lo).toNat:Nat):Int)-((0:Nat):Int)) 1
  rw [e1,e2]
  exact aQ _ rfl
 .have e:b=(s.heap.push { cls:=.type "range", data:=.fields #[.int lo t,.int hi u,.int 1 v] }).objs.size:=by simpa using hb
  subst e
  exact I1.fpOk (af _) (I1.hok.fresh (af _))
def iRng1 (ta:TA):TI:=fun σ H R=>ta σ H fun vs H1=>∃ j:Int,vs=[.int j]/\-(2 ^ 62)<=j/\j<2 ^ 62/\R (Itr 0 j.toNat) H1
theorem pi_range1 {a:Expr}{ta:TA}{p pos:Pos}(hg:Gl X "range") (hm:X.mg "range" = none) (ha:PA X [a] ta) (hs:starEach [a] X.env=[(false,eval a X.env)]:=by rfl):PI X tg (.Call (.Name "range" p) [a] [] pos) (iRng1 ta):=by
 intro pins s σ H R I h
 refine Call_ (ld_blt I hg hm boot_range (cu (thn (ha pos pins s σ H _ I h) fun us s1 ⟨vs,H1,I1,r1,q1⟩=>?_) hs rfl))
 obtain ⟨j,e,q1,q2,q⟩:=q1
 subst e
 cases r1 with
 | cons r rr =>
  cases rr
  obtain ⟨t,rfl⟩:=r
  exact call_range_1 (range_it I1 (by omega) (by omega) q1 q2 (by simpa using q))
def tFor (wi:TI) (g:TG) (tb:TS):TS:=fun D σ H=>wi σ H fun J H1=>∃ W:Nat->Nat->St->Hp->Prop,(∃ m,W 0 m σ H1)/\∀ i m σ H,W i m σ H ->
 (J.stop i H/\D.nx σ H)∨(J.go i H/\∃ N:St->Hp->Prop,(∀ σ' H',N σ' H'->∃ m',m'<m/\W (i+1) m' σ' H')/\∀ x H',J.yld i H x H'->g x σ H' fun σ2 H2=>tb { D with nx:=N,ct:=N,bk:=D.nx } σ2 H2)
def pinsAt (fp:List Addr) (h:Heap):List (Addr×Obj):=fp.filterMap fun b=>(h.get? b).map fun o=>(b,o)
theorem mem_pinsAt {fp:List Addr}{h:Heap}{b:Addr}{o:Obj}(hb:b∈fp) (e:h.get? b=some o):(b,o)∈pinsAt fp h:=gh.mpr ⟨b,hb,by rw [e];rfl⟩
theorem of_pinsAt {fp:List Addr}{h:Heap}{p:Addr×Obj}(hp:p∈pinsAt fp h):p.1∈fp/\h.get? p.1=some p.2:=by
 obtain ⟨b,hb,e⟩:=gh.mp hp
 cases q:h.get? b with
 | none=>rw [q] at e;cases e
 | some o =>
  rw [q] at e
  have e':(b,o)=p:=aT.inj e
  subst e'
  exact ⟨hb,q⟩
theorem Inv.pinned {pins:List (Addr×Obj)}{σ:St}{H:Hp}{s:Shared}{fp:List Addr}(I:Inv X pins σ H s) (hf:∀ b∈fp,FpOk X pins H b) (ho:∀ b∈fp,∃ o,s.heap.get? b=some o/\∀ v,o.data ≠ .cell v):Inv X (pins++pinsAt fp s.heap) σ H s :=
 I.pins_of fun p hp=>(mAq.mp hp).elim (fun z=>I.pin p (ar _ z)) fun z=>by
  obtain ⟨hb,e⟩:=of_pinsAt z
  obtain ⟨f0,f1,f2,_⟩:=hf p.1 hb
  obtain ⟨o,e',d⟩:=ho p.1 hb
  rw [e] at e';cases e'
  exact ⟨e,f0,f1,f2,d⟩
theorem Inv.unpinned {pins pl:List (Addr×Obj)}{σ:St}{H:Hp}{s:Shared}(I:Inv X (pins++pl) σ H s):Inv X pins σ H s:=I.pins_of fun p hp=>I.pin p (ar _ (bM _ hp))
theorem ps_for {iter:Expr}{body:List Stmt}{wi:TI}{g:TG}{tb:TS}{pos:Pos}(hp:PassesOwn (model X.prog X.w) X.A X.env X.xe) (hc:X.calm=true) (hi:PI X tg iter wi) (hg:PG X tg g) (hb:PSs X body tb)
  (hs:∀ x,foldedSetIterable iter X.env x=pure x:=by intro _;rfl):PS X (.For tg iter body [] pos) (tFor wi g tb):=by
 intro pins s σ H D I h
 refine wpAny_For (thn (hi pins s σ H _ I h) fun v s1 h1=>thn h1 fun itv s2 h2=>?_) hs
 obtain ⟨it,fp,tn,J,H2,e,I2,T,st2,f2,W,⟨m0,w0⟩,turn⟩:=h2
 subst e
 have stat:∀ {H':Hp},(∀ b∈fp,H' b=none)->∀ b∈fp,FpOk X pins H' b:=fun hn b hb=>⟨hn b hb,(f2 b hb).2⟩
 refine codeAny_forLoop_any (fun n s'=>∃ i σ' H',Inv X pins σ' H' s'/\tn i s'.heap/\(∀ b∈fp,H' b=none)/\W i n σ' H') ?_ m0 ⟨0,σ,H2,I2,st2,fun b hb=>(f2 b hb).1,w0⟩
 rintro n s3 ⟨i,σ3,H3,I3,st3,fr3,w3⟩
 rcases turn i n σ3 H3 w3 with ⟨stop,qn⟩|⟨go,N,hN,step⟩
 .refine wpAny_passesOwn hp (thn (T.done X rfl rfl rfl hc i pins s3 σ3 H3 X.xe I3 (stat fr3) st3 stop) fun r s4 ⟨hr,I4⟩=>?_)
  subst hr
  exact wpAny_execs_nil ⟨σ3,H3,I4,qn⟩
 .refine wpAny_passesOwn hp (thn (T.item X rfl rfl rfl hc i pins s3 σ3 H3 X.xe I3 (stat fr3) st3 go) fun r s4 ⟨u,hr,h4⟩=>?_)
  subst hr
  refine wpAny_passesOwn hp (thn h4 fun _ s5 ⟨x,H5,I5,r5,y5,st5,fr5⟩=>?_)
  have I5':=I5.pinned (stat fr5) (T.obj _ _ st5)
  refine wpAny_passesOwn hp (thn (hg _ s5 σ3 H5 x u _ I5' r5 (step x H5 y5)) fun _ s6 ⟨σ6,H6,I6,q6⟩=>?_)
  refine wpAny_passesOwn hp (thn (hb _ s6 σ6 H6 _ I6 q6) fun f s7 q7=>?_)
  have again:∀ {σ7:St}{H7:Hp},Inv X (pins++pinsAt fp s5.heap) σ7 H7 s7->N σ7 H7->∃ m,m<n/\∃ i σ' H',Inv X pins σ' H' s7/\tn i s7.heap/\(∀ b∈fp,H' b=none)/\W i m σ' H':=fun {σ7 H7} I7 n7=>by
   obtain ⟨m',hm,w7⟩:=hN σ7 H7 n7
   refine ⟨m',hm,i+1,σ7,H7,I7.unpinned,T.keep _ _ _ st5 fun b hb o e=>(I7.pin (b,o) (ar _ (ar _ (mem_pinsAt hb e)))).1,fun b hb=>?_,w7⟩
   obtain ⟨o,e,d⟩:=T.obj _ _ st5 b hb
   exact (I7.pin (b,o) (ar _ (ar _ (mem_pinsAt hb e)))).2.1
  cases f with
  | next=>obtain ⟨σ7,H7,I7,n7⟩:=q7;exact again I7 n7
  | cont=>obtain ⟨σ7,H7,I7,n7⟩:=q7;exact again I7 n7
  | brk=>obtain ⟨σ7,H7,I7,q7⟩:=q7;exact ⟨σ7,H7,I7.unpinned,q7⟩
  | ret v=>obtain ⟨x7,σ7,H7,I7,r7,q7⟩:=q7;exact ⟨x7,σ7,H7,I7.unpinned,r7,q7⟩
end
theorem for_list {K:W.Frag}{a:Addr}{xs:List V}{g:TG}{tb:TS}{D:Ends}{σ:St}{H:Hp}(Pv:Nat->St->Hp->Prop) (h0:Pv 0 σ H) (hl:∀ i σ H,i<=xs.length->Pv i σ H->SqL K H a xs)
  (hs:∀ i x σ H,xs[i]?=some x->Pv i σ H->g x σ H fun σ2 H2=>tb { D with nx:=Pv (i+1),ct:=Pv (i+1),bk:=D.nx } σ2 H2) (hd:∀ σ H,Pv xs.length σ H->D.nx σ H) :
  ∃ W:Nat->Nat->St->Hp->Prop,(∃ m,W 0 m σ H)/\∀ i m σ H,W i m σ H ->
   ((Itl K a).stop i H/\D.nx σ H)∨((Itl K a).go i H/\∃ N:St->Hp->Prop,(∀ σ' H',N σ' H'->∃ m',m'<m/\W (i+1) m' σ' H')/\∀ x H',(Itl K a).yld i H x H'->g x σ H' fun σ2 H2=>tb { D with nx:=N,ct:=N,bk:=D.nx } σ2 H2):=by
 refine ⟨fun i m σ H=>m=xs.length-i/\i<=xs.length/\Pv i σ H,⟨xs.length,by simp,ba _,h0⟩,?_⟩
 rintro i m σ H ⟨rfl,hi,p⟩
 have q:=hl i σ H hi p
 by_cases hlt:i<xs.length
 .refine .inr ⟨⟨xs,xs[i],q,by simp [hlt]⟩,Pv (i+1),fun σ' H' p'=>⟨xs.length-(i+1),by omega,rfl,hlt,p'⟩,fun x H' y=>?_⟩
  obtain ⟨e,y⟩:=y
  subst e
  exact hs i x σ _ (y xs q) p
 .have e:i=xs.length:=by omega
  subst e
  exact .inl ⟨⟨xs,q,af _⟩,hd σ H p⟩
theorem for_range {lo:Int}{n:Nat}{g:TG}{tb:TS}{D:Ends}{σ:St}{H:Hp}(Pv:Nat->St->Hp->Prop) (h0:Pv 0 σ H)
  (hs:∀ i σ H,i<n->Pv i σ H->g (.int (lo+i)) σ H fun σ2 H2=>tb { D with nx:=Pv (i+1),ct:=Pv (i+1),bk:=D.nx } σ2 H2) (hd:∀ σ H,Pv n σ H->D.nx σ H) :
  ∃ W:Nat->Nat->St->Hp->Prop,(∃ m,W 0 m σ H)/\∀ i m σ H,W i m σ H ->
   ((Itr lo n).stop i H/\D.nx σ H)∨((Itr lo n).go i H/\∃ N:St->Hp->Prop,(∀ σ' H',N σ' H'->∃ m',m'<m/\W (i+1) m' σ' H')/\∀ x H',(Itr lo n).yld i H x H'->g x σ H' fun σ2 H2=>tb { D with nx:=N,ct:=N,bk:=D.nx } σ2 H2):=by
 refine ⟨fun i m σ H=>m=n-i/\i<=n/\Pv i σ H,⟨n,by simp,ba _,h0⟩,?_⟩
 rintro i m σ H ⟨rfl,hi,p⟩
 by_cases hlt:i<n
 .refine .inr ⟨hlt,Pv (i+1),fun σ' H' p'=>⟨n-(i+1),by omega,rfl,hlt,p'⟩,fun x H' y=>?_⟩
  obtain ⟨e,y⟩:=y
  subst e y
  exact hs i σ _ hlt p
 .have e:i=n:=by omega
  subst e
  exact .inl ⟨af _,hd σ H p⟩
abbrev R2:=V->V->Hp->VK->Prop
def OpR (X:Cx) (f:Value->Value->Sem Value) (r:R2):Prop :=
 ∀ (pins:List (Addr×Obj)) (s:Shared) (σ:St) (H:Hp) (x y:V) (v u:Value) (Q:VK),Inv X pins σ H s->RelV x v->RelV y u->r x y H Q ->
  wpAny (model X.prog X.w) X.A (f v u) (EP X pins σ Q) X.xe s
def UnR (X:Cx) (f:Value->Sem Value) (r:V->Hp->VK->Prop):Prop :=
 ∀ (pins:List (Addr×Obj)) (s:Shared) (σ:St) (H:Hp) (x:V) (v:Value) (Q:VK),Inv X pins σ H s->RelV x v->r x H Q ->
  wpAny (model X.prog X.w) X.A (f v) (EP X pins σ Q) X.xe s
def CallR (X:Cx) (f:Value) (r:List V->Hp->VK->Prop):Prop :=
 ∀ (pins:List (Addr×Obj)) (s:Shared) (σ:St) (H:Hp) (xs:List V) (us:List Value) (Q:VK),Inv X pins σ H s->Vals xs us->r xs H Q ->
  wpAny (model X.prog X.w) X.A (call f us) (EP X pins σ Q) X.xe s
def tOp (r:R2) (ta tb:TE):TE:=fun σ H Q=>ta σ H fun x H1=>tb σ H1 fun y H2=>r x y H2 Q
def tUn (r:V->Hp->VK->Prop) (ta:TE):TE:=fun σ H Q=>ta σ H fun x H1=>r x H1 Q
def rI (C:Int->Int->Prop) (g:Int->Int->V):R2:=fun x y H Q=>∃ i j,x = .int i/\y = .int j/\C i j/\Q (g i j) H
def rI0 (g:Int->Int->V):R2:=fun x y H Q=>∃ i j,x = .int i/\y = .int j/\Q (g i j) H
def rU (g:Int->V):V->Hp->VK->Prop:=fun x H Q=>∃ i,x = .int i/\Q (g i) H
section
variable {X:Cx}{a b c:Expr}{ta tb tc:TE}{pos:Pos}
theorem binT (ha:PE X a ta) (hb:PE X b tb) {pins:List (Addr×Obj)}{s:Shared}{σ:St}{H:Hp}{R:V->V->Hp->Prop}(I:Inv X pins σ H s)
  (h:ta σ H fun x H1=>tb σ H1 fun y H2=>R x y H2) {Q:Value->Shared->Prop}{f:Value->Value->Sem Value}
  (hf:∀ v u s2 x y H2,Inv X pins σ H2 s2->RelV x v->RelV y u->R x y H2->wpAny (model X.prog X.w) X.A (f v u) Q X.xe s2) :
  wpAny (model X.prog X.w) X.A (eval a X.env) (fun v s₁=>wpAny (model X.prog X.w) X.A (eval b X.env) (fun u s₂=>wpAny (model X.prog X.w) X.A (f v u) Q X.xe s₂) X.xe s₁) X.xe s:=by
 refine thn (ha pins s σ H _ I h) fun v s1 ⟨x,H1,I1,r1,q1⟩=>?_
 refine thn (hb pins s1 σ H1 _ I1 q1) fun u s2 ⟨y,H2,I2,r2,q2⟩=>?_
 exact hf v u s2 x y H2 I2 r1 r2 q2
theorem pe_op {op:Operator}{r:R2}(ho:OpR X (binaryOp op) r) (ha:PE X a ta) (hb:PE X b tb):PE X (.BinOp a op b pos) (tOp r ta tb):=by
 intro pins s σ H Q I h
 exact wpAny_BinOp (binT ha hb I h fun v u s2 x y H2 I2 rx ry q=>ho pins s2 σ H2 x y v u Q I2 rx ry q)
theorem pe_un {op:UnaryOp}{r:V->Hp->VK->Prop}(ho:UnR X (unaryOp op) r) (ha:PE X a ta):PE X (.UnaryOp op a pos) (tUn r ta):=by
 intro pins s σ H Q I h
 exact UnaryOp_ (thn (ha pins s σ H _ I h) fun v s1 ⟨x,H1,I1,r1,q1⟩=>ho pins s1 σ H1 x v Q I1 r1 q1)
theorem opI {f:Value->Value->Sem Value}{C:Int->Int->Prop}{g:Int->Int->Int}
  (rule:∀ (i j:Int) (t u:Tok) (s:Shared) (Q:Value->Shared->Prop) (E:Value->Shared->Prop),C i j->Q (.int (g i j) s.toks) { s with toks:=s.toks+1 }->wpAny (model X.prog X.w) X.A (f (.int i t) (.int j u)) Q E s) :
  OpR X f (rI C fun i j=>.int (g i j)):=by
 intro pins s σ H x y v u Q I rx ry h
 obtain ⟨i,j,rfl,rfl,hc,q⟩:=h
 obtain ⟨t,rfl⟩:=rx
 obtain ⟨t',rfl⟩:=ry
 exact rule i j t t' s _ _ hc ⟨.int (g i j),H,I.tok _,⟨_,rfl⟩,q⟩
theorem opI0 {f:Value->Value->Sem Value}{g:Int->Int->Int}
  (rule:∀ (i j:Int) (t u:Tok) (s:Shared) (Q:Value->Shared->Prop) (E:Value->Shared->Prop),Q (.int (g i j) s.toks) { s with toks:=s.toks+1 }->wpAny (model X.prog X.w) X.A (f (.int i t) (.int j u)) Q E s) :
  OpR X f (rI0 fun i j=>.int (g i j)):=by
 intro pins s σ H x y v u Q I rx ry h
 obtain ⟨i,j,rfl,rfl,q⟩:=h
 obtain ⟨t,rfl⟩:=rx
 obtain ⟨t',rfl⟩:=ry
 exact rule i j t t' s _ _ ⟨.int (g i j),H,I.tok _,⟨_,rfl⟩,q⟩
theorem opB0 {f:Value->Value->Sem Value}{g:Int->Int->Bool}
  (rule:∀ (i j:Int) (t u:Tok) (s:Shared) (Q:Value->Shared->Prop) (E:Value->Shared->Prop),Q (.bool (g i j)) s->wpAny (model X.prog X.w) X.A (f (.int i t) (.int j u)) Q E s) :
  OpR X f (rI0 fun i j=>.bl (g i j)):=by
 intro pins s σ H x y v u Q I rx ry h
 obtain ⟨i,j,rfl,rfl,q⟩:=h
 obtain ⟨t,rfl⟩:=rx
 obtain ⟨t',rfl⟩:=ry
 exact rule i j t t' s _ _ ⟨.bl (g i j),H,I,rfl,q⟩
def CDiv (i j:Int):Prop:=0<j/\j<1073741824
def CPow (i j:Int):Prop:=0<=j/\j<=1000000/\i.natAbs<2 ^ 64
def CMul (i j:Int):Prop:=(-(2 ^ 64)<i/\i<2 ^ 64)∨(-(2 ^ 64)<j/\j<2 ^ 64)
theorem CMul.ok {i j:Int}(h:CMul i j):IntMulOk i j:=by
 rcases h with ⟨h1,h2⟩|⟨h1,h2⟩
 .exact .of_left (intBits_le_64 h1 h2)
 .exact .of_right (intBits_le_64 h1 h2)
theorem op_add:OpR X (binaryOp .Add) (rI0 fun i j=>.int (i+j)):=opI0 fun _ _ _ _ _ _ _ q=>add_int q
theorem op_sub:OpR X (binaryOp .Sub) (rI0 fun i j=>.int (i-j)):=opI0 fun _ _ _ _ _ _ _ q=>sub_int q
theorem op_mul:OpR X (binaryOp .Mult) (rI CMul fun i j=>.int (i*j)):=opI fun _ _ _ _ _ _ _ hc q=>mul_int q hc.ok
theorem op_fdiv:OpR X (binaryOp .FloorDiv) (rI CDiv fun i j=>.int (i / j)):=opI fun i j _ _ _ _ _ hc q=>by
 have h1:(0:Int)<j:=hc.1
 have h2:j<1073741824:=hc.2
 exact floordiv_int (by omega) (by rw [Int.fdiv_eq_ediv_of_nonneg i (by omega)];exact q) (.inl (PyProof.noPylong_small (by omega)))
theorem op_mod:OpR X (binaryOp .Mod) (rI (fun _ j=>0<j) fun i j=>.int (i % j)):=opI fun i j _ _ _ _ _ hc q=>by
 have h1:(0:Int)<j:=hc
 exact mod_int' (by omega) (by rw [Int.fmod_eq_emod_of_nonneg i (by omega)];exact q)
theorem op_pow:OpR X (binaryOp .Pow) (rI CPow fun i j=>.int (i ^ j.toNat)):=opI fun _ _ _ _ _ _ _ hc q=>pow_int_small hc.1 hc.2.1 hc.2.2 q
theorem unI {f:Value->Sem Value}{g:Int->Int}
  (rule:∀ (i:Int) (t:Tok) (s:Shared) (Q:Value->Shared->Prop) (E:Value->Shared->Prop),Q (.int (g i) s.toks) { s with toks:=s.toks+1 }->wpAny (model X.prog X.w) X.A (f (.int i t)) Q E s) :
  UnR X f (rU fun i=>.int (g i)):=by
 intro pins s σ H x v Q I rx h
 obtain ⟨i,rfl,q⟩:=h
 obtain ⟨t,rfl⟩:=rx
 exact rule i t s _ _ ⟨.int (g i),H,I.tok _,⟨_,rfl⟩,q⟩
theorem un_neg:UnR X (unaryOp .USub) (rU fun i=>.int (-i)):=unI fun _ _ _ _ _ q=>neg_int q
end
def scal:V->V->Bool
 | .non,.non=>true|.non,.int _=>true|.int _,.non=>true|.non,.bl _=>true|.bl _,.non=>true|.non,.str _=>true|.str _,.non=>true
 | .int _,.int _=>true|.bl _,.bl _=>true|.str _,.str _=>true|.byt _,.byt _=>true
 | .int _,.str _=>true|.str _,.int _=>true|.bl _,.str _=>true|.str _,.bl _=>true
 | _,_=>false
def rEq:R2:=fun x y H Q=>scal x y=true/\Q (.bl (decide (x=y))) H
def rNe:R2:=fun x y H Q=>scal x y=true/\Q (.bl (!decide (x=y))) H
theorem dec_int {i j:Int}:decide (V.int i=V.int j)=(i == j):=by
 rw [bx]
 simp
theorem dec_bl {i j:Bool}:decide (V.bl i=V.bl j)=(i == j):=by
 rw [bx]
 simp
theorem dec_str {i j:Str}:decide (V.str i=V.str j)=(i == j):=by
 rw [bx]
 simp
theorem dec_byt {i j:Array UInt8}:decide (V.byt i=V.byt j)=(i.toList == j.toList):=by
 rw [bx]
 cases i
 cases j
 simp
section
variable {X:Cx}{a b c:Expr}{ta tb tc:TE}{pos:Pos}
theorem fin_bl {pins:List (Addr×Obj)}{σ:St}{H:Hp}{s:Shared}{Q:VK}{k k':Bool}(I:Inv X pins σ H s) (q:Q (.bl k) H) (e:k=k'):EP X pins σ Q (.bool k') s:=by
 subst e
 exact ⟨.bl k,H,I,rfl,q⟩
theorem op_eq:OpR X (compareOp .Eq) rEq:=by
 intro pins s σ H x y v u Q I rx ry h
 obtain ⟨hs,q⟩:=h
 cases x with
 | non =>
  cases rx
  cases y with
  | non=>cases ry;exact PySem.EqNone.eq_none_none (fin_bl I q (by simp))
  | bl j=>cases ry;exact PySem.EqNone.eq_none_bool (fin_bl I q (by simp))
  | int j=>obtain ⟨t',rfl⟩:=ry;exact PySem.EqNone.eq_none_int (fin_bl I q (by simp))
  | str j=>obtain ⟨t',rfl⟩:=ry;exact PySem.EqNone.eq_none_str (fin_bl I q (by simp))
  | _=>exact absurd (show false=true from hs) aw
 | bl i =>
  cases rx
  cases y with
  | non=>cases ry;exact PySem.EqNone.eq_bool_none (fin_bl I q (by simp))
  | bl j=>cases ry;exact eq_bool (fin_bl I q dec_bl)
  | str j=>obtain ⟨t',rfl⟩:=ry;exact PySem.EqMixed.eq_bool_str (fin_bl I q (by simp))
  | _=>exact absurd (show false=true from hs) aw
 | int i =>
  obtain ⟨t,rfl⟩:=rx
  cases y with
  | non=>cases ry;exact PySem.EqNone.eq_int_none (fin_bl I q (by simp))
  | int j=>obtain ⟨t',rfl⟩:=ry;exact eq_int (fin_bl I q dec_int)
  | str j=>obtain ⟨t',rfl⟩:=ry;exact PySem.EqMixed.eq_int_str (fin_bl I q (by simp))
  | _=>exact absurd (show false=true from hs) aw
 | str i =>
  obtain ⟨t,rfl⟩:=rx
  cases y with
  | non=>cases ry;exact PySem.EqNone.eq_str_none (fin_bl I q (by simp))
  | bl j=>cases ry;exact PySem.EqMixed.eq_str_bool (fin_bl I q (by simp))
  | int j=>obtain ⟨t',rfl⟩:=ry;exact PySem.EqMixed.eq_str_int (fin_bl I q (by simp))
  | str j=>obtain ⟨t',rfl⟩:=ry;exact eq_str (fin_bl I q dec_str)
  | _=>exact absurd (show false=true from hs) aw
 | byt i =>
  obtain ⟨t,rfl⟩:=rx
  cases y with
  | byt j=>obtain ⟨t',rfl⟩:=ry;exact W.eq_bytes (fin_bl I q dec_byt)
  | _=>exact absurd (show false=true from hs) aw
 | _=>cases y <;> exact absurd (show false=true from hs) aw
theorem op_ne:OpR X (compareOp .NotEq) rNe:=by
 intro pins s σ H x y v u Q I rx ry h
 obtain ⟨hs,q⟩:=h
 cases x with
 | non =>
  cases rx
  cases y with
  | non=>cases ry;exact PySem.EqNone.ne_none_none (fin_bl I q (by simp))
  | bl j=>cases ry;exact PySem.EqNone.ne_none_bool (fin_bl I q (by simp))
  | int j=>obtain ⟨t',rfl⟩:=ry;exact PySem.EqNone.ne_none_int (fin_bl I q (by simp))
  | str j=>obtain ⟨t',rfl⟩:=ry;exact PySem.EqNone.ne_none_str (fin_bl I q (by simp))
  | _=>exact absurd (show false=true from hs) aw
 | bl i =>
  cases rx
  cases y with
  | non=>cases ry;exact PySem.EqNone.ne_bool_none (fin_bl I q (by simp))
  | bl j=>cases ry;exact ne_bool (fin_bl I q (congrArg not dec_bl))
  | str j=>obtain ⟨t',rfl⟩:=ry;exact PySem.EqMixed.ne_bool_str (fin_bl I q (by simp))
  | _=>exact absurd (show false=true from hs) aw
 | int i =>
  obtain ⟨t,rfl⟩:=rx
  cases y with
  | non=>cases ry;exact PySem.EqNone.ne_int_none (fin_bl I q (by simp))
  | int j=>obtain ⟨t',rfl⟩:=ry;exact ne_int (fin_bl I q (congrArg not dec_int))
  | str j=>obtain ⟨t',rfl⟩:=ry;exact PySem.EqMixed.ne_int_str (fin_bl I q (by simp))
  | _=>exact absurd (show false=true from hs) aw
 | str i =>
  obtain ⟨t,rfl⟩:=rx
  cases y with
  | non=>cases ry;exact PySem.EqNone.ne_str_none (fin_bl I q (by simp))
  | bl j=>cases ry;exact PySem.EqMixed.ne_str_bool (fin_bl I q (by simp))
  | int j=>obtain ⟨t',rfl⟩:=ry;exact PySem.EqMixed.ne_str_int (fin_bl I q (by simp))
  | str j=>obtain ⟨t',rfl⟩:=ry;exact ne_str (fin_bl I q (congrArg not dec_str))
  | _=>exact absurd (show false=true from hs) aw
 | byt i =>
  obtain ⟨t,rfl⟩:=rx
  cases y with
  | byt j=>obtain ⟨t',rfl⟩:=ry;exact W.ne_bytes (fin_bl I q (congrArg not dec_byt))
  | _=>exact absurd (show false=true from hs) aw
 | _=>cases y <;> exact absurd (show false=true from hs) aw
theorem op_lt:OpR X (compareOp .Lt) (rI0 fun i j=>.bl (decide (i<j))):=opB0 fun _ _ _ _ _ _ _ q=>lt_int q
theorem op_gt:OpR X (compareOp .Gt) (rI0 fun i j=>.bl (decide (j<i))):=opB0 fun _ _ _ _ _ _ _ q=>gt_int q
theorem nomark (b:Expr) {op:CmpOp}(h:op ≠ .In:=by decide) (h2:op ≠ .NotIn:=by decide):behindInMarks op b=false:=by
 have e1:(op == CmpOp.In)=false:=by cases op <;> first|rfl|exact absurd rfl h
 have e2:(op == CmpOp.NotIn)=false:=by cases op <;> first|rfl|exact absurd rfl h2
 cases b <;> simp [behindInMarks,e1,e2]
theorem pe_cmpR {op:CmpOp}{r:R2}(ho:OpR X (compareOp op) r) (ha:PE X a ta) (hb:PE X b tb) (hm:behindInMarks op b=false):PE X (.Compare a [op] [b] pos) (tOp r ta tb):=by
 intro pins s σ H Q I h
 exact wpAny_Compare1 (binT ha hb I h fun v u s2 x y H2 I2 rx ry q=>ho pins s2 σ H2 x y v u Q I2 rx ry q) hm
def tTest (t:TE):TT:=fun σ H Q=>t σ H fun x H'=>∃ k,x = .bl k/\Q k H'
theorem pt_cmpR {op:CmpOp}{r:R2}(ho:OpR X (compareOp op) r) (ha:PE X a ta) (hb:PE X b tb) (hm:behindInMarks op b=false):PT X (.Compare a [op] [b] pos) (tTest (tOp r ta tb)):=by
 intro pins s σ H Q I h
 refine wpAny_isTrue_Compare1 (thn (ha pins s σ H _ I h) fun v s1 ⟨x,H1,I1,r1,q1⟩=>thn (hb pins s1 σ H1 _ I1 q1) fun u s2 ⟨y,H2,I2,r2,q2⟩ =>
  thn (ho pins s2 σ H2 x y v u _ I2 r1 r2 q2) fun c s3 ⟨z,H3,I3,r3,k,e,q3⟩=>?_) hm
 subst e
 cases r3
 exact wpAny_truthy_bool ⟨H3,I3,q3⟩
theorem line63:(sizeLine:Nat)<2 ^ 63:=by rw [sizeLine_eq];decide
theorem vals1 {x:V}{us:List Value}(r:Vals [x] us):∃ u,us=[u]/\RelV x u:=by
 cases r with
 | cons r1 r2=>cases r2;exact ⟨_,rfl,r1⟩
theorem vals2 {x y:V}{us:List Value}(r:Vals [x,y] us):∃ u w',us=[u,w']/\RelV x u/\RelV y w':=by
 cases r with
 | cons r1 r2 =>
  cases r2 with
  | cons r3 r4=>cases r4;exact ⟨_,_,rfl,r1,r3⟩
def LenV (K:W.Frag) (x:V) (H:Hp) (n:Nat):Prop :=
 match x with
 | .str y=>y.length<=sizeLine/\n=y.length
 | .byt y=>y.size<=sizeLine/\n=y.size
 | .ref p=>(∃ xs,SqL K H p xs/\n=xs.length)∨∃ xs,SqT K H p xs/\n=xs.length
 | _=>False
theorem call_len:CallR X (.builtin "len") (fun xs H Q=>∃ x n,xs=[x]/\LenV X.K x H n/\Q (.int n) H):=by
 intro pins s σ H xs us Q I r h
 obtain ⟨x,n,rfl,e,q⟩:=h
 obtain ⟨u,rfl,rx⟩:=vals1 r
 have hl:=line63
 have hs:sizeLine=16777216:=sizeLine_eq
 cases x with
 | str y =>
  obtain ⟨t,rfl⟩:=rx
  obtain ⟨hy,e'⟩:y.length<=sizeLine/\n=y.length:=e
  subst e'
  exact len_str (by omega) ⟨.int _,H,I.tok _,⟨_,rfl⟩,q⟩
 | byt y =>
  obtain ⟨t,rfl⟩:=rx
  obtain ⟨hy,e'⟩:y.size<=sizeLine/\n=y.size:=e
  subst e'
  exact W.len_bytes (by omega) ⟨.int _,H,I.tok _,⟨_,rfl⟩,q⟩
 | ref p =>
  cases rx
  have e':(∃ xs,SqL X.K H p xs/\n=xs.length)∨∃ xs,SqT X.K H p xs/\n=xs.length:=e
  rcases e' with ⟨xs,hx,e'⟩|⟨xs,hx,e'⟩
  .subst e'
   obtain ⟨its,r',pl,hz⟩:=I.list hx
   have hlen:=r'.length
   exact Calls.call_len_list pl.isList (by simp only [ax];omega) ⟨.int xs.length,H,I.tok _,⟨_,by simp only [ax];rw [hlen]⟩,q⟩
  .subst e'
   obtain ⟨its,r',pl,hz⟩:=I.tuple hx
   have hlen:=r'.length
   exact len_tuple pl (by simp only [ax];omega) ⟨.int xs.length,H,I.tok _,⟨_,by simp only [ax];rw [hlen]⟩,q⟩
 | _=>exact (show False from e).elim
end
structure ObjM (h:Heap) (x dx C:Addr) (mA:Str->Option Value):Prop where
 obj:h.get? x=some (W.instObj C dx)
 ns:h.Ns1 dx mA
 ne:dx≠x
theorem lookIn_ns {h:Heap}{dx:Addr}{mA:Str->Option Value}(n:h.Ns1 dx mA):∃ od,h.get? dx=some od/\∀ name,W.lookIn name od=some (mA name):=by
 obtain ⟨o,es,ep,ho,hd,hk,_,hm⟩:=n
 refine ⟨o,ho,fun name=>?_⟩
 have e:=hm name
 unfold nsFind findBy at e
 rw [← Array.find?_toList] at e
 unfold W.lookIn
 rw [hd]
 dsimp only
 split
 .rename_i y q
  rw [q] at e
  exact congrArg some e
 .rename_i q
  rw [q] at e
  have a:es.toList.any (·.refKey)=false:=by
   rw [List.any_eq_false]
   intro y hy
   obtain ⟨z,t,hkey⟩:=hk y (eF.mp hy)
   simp [DictEntry.refKey,hkey]
  have a':¬ es.toList.any (·.refKey)=true:=by rw [a];exact aw
  rw [if_neg a']
  exact congrArg some e
theorem ObjM.look {h:Heap}{x dx C:Addr}{mA:Str->Option Value}(I:ObjM h x dx C mA):∃ od,W.InstAt h x (W.instObj C dx) C (some od)/\∀ name,W.lookIn name od=some (mA name) :=
 let ⟨od,ho,hl⟩:=lookIn_ns I.ns
 ⟨od,⟨I.obj,rfl,rfl,ho⟩,hl⟩
section
variable {prog:Program}{w:World}{A:Around}{E:Value->Shared->Prop}{s:Shared}{K:W.Frag}{x dx C f:Addr}{mA:Str->Option Value}{name:Str}{v:Value}
theorem get_map {expr:Bool}{Q:Value->Shared->Prop}(X:K.In s.heap) (I:ObjM s.heap x dx C mA) (hg:W.plainGet K C name=true) (hh:W.hasDictIn K C=true)
  (ha:W.findIn K (.ref C) name=some none) (hv:mA name=some v) (hv':W.handedIn v=true) (h:Q v { s with toks:=s.toks+1 }) :
  wpAny (model prog w) A (getAttr (.ref x) name expr) Q E s:=by
 obtain ⟨od,J,hl⟩:=I.look
 exact W.get_value X J (W.plainGet_of hg).1 (W.findObj_own hh ha rfl (by rw [hl,hv])) hv' h
theorem get_meth {pl:Sem Bool}{Q:Value×List Value->Shared->Prop}(X:K.In s.heap) (I:ObjM s.heap x dx C mA) (hg:W.plainGet K C name=true)
  (hf:W.findIn K (.ref C) name=some (some (.ref f))) (ht:W.isFn K (.ref f)=true) (hv:mA name=none) (h:Q (.ref f,[.ref x]) s) :
  wpAny (model prog w) A (getMethod (.ref x) name pl) Q E s:=by
 obtain ⟨od,J,hl⟩:=I.look
 exact W.method_fn X J (W.plainGet_of hg).1 (W.plainGet_of hg).2 hf (beq_iff_eq.mp ht) (by show (W.lookIn name od).map (·.isSome)=some false;rw [hl,hv];rfl) h
theorem set_map {ns:List Str}{Q:Unit->Shared->Prop}(X:K.In s.heap) (I:ObjM s.heap x dx C mA)
  (hs:W.findIn K (.ref C) "__setattr__" = some (some (.builtin "object.__setattr__"))) (hp:W.plainOver K C=true) (ht:W.takerIn K C name=some none) (hh:W.hasDictIn K C=true)
  (hw:PySem.Within mA ns) (hsz:ns.length<=sizeLine)
  (h:∀ h',ObjM h' x dx C (fun y=>if y=name then some v else mA y)->dQ dx s.heap h'->Q () { s with heap:=h',toks:=s.toks+2 }) :
  wpAny (model prog w) A (setAttr (.ref x) name v) Q E s:=by
 obtain ⟨od,J,hl⟩:=I.look
 refine W.set_plain X J hs (W.osa_open (s:={ s with toks:=s.toks+1 }) (r:=none) X J hp ht fun b=>?_)
 obtain ⟨cd,hc,hd'⟩:=W.any_some hh
 have hx:s.heap.get? x=some ⟨.ref C,some dx,.plain,#[]⟩:=I.obj
 refine wpAny_bind (wpAny_pure (wpAny_bind (wpAny_bind (wpAny_loadPart hx (wpAny_bind (W.Looks.here (s:={ s with toks:=s.toks+1 }) (W.looks_clsIn X hc) ?_))))))
 rw [hd']
 refine wpAny_pure (a:=some dx) (wpAny_bind (wpAny_pure (wpAny_bind ?_)))
 refine wpAny_nsSet1 (s:={ s with toks:=s.toks+1 }) I.ns fun h' hn2 hs2=>?_
 obtain ⟨oD,esD,epD,hoD,hdD,hcD⟩:=hn2.count (PySem.Within.cons name v hw)
 refine wpAny_bind (wpAny_lookBehind hoD (by rw [hdD];exact pastItsLine_dict (bC hcD (by rw [lCq];omega))) ?_)
 exact wpAny_pure (h _ ⟨(hs2.2 _ (Ne.symm I.ne)).trans I.obj,hn2,I.ne⟩ hs2)
theorem make_map {R:Result->Shared->Prop}{vs:List Value}{kw:List (Str×Value)}(X:K.In s.heap) (hm:W.makesIn K C=true)
  (hi:W.findIn K (.ref C) "__init__" = some (some (.ref f))) (hf:W.typeIn K (.ref f)=some (.type "function"))
  (h:codeAny (model prog w) (A.under (.builtin "type.__call__" ⟨.ref C::vs,kw⟩)) (.call (.ref f) ⟨.ref (s.heap.objs.size+1)::vs,kw⟩) (W.InitBack (s.heap.objs.size+1) R)
   { s with heap:=(s.heap.push W.emptyDict).push (W.instObj C s.heap.objs.size) }) :
  codeAny (model prog w) A (.call (.ref C) ⟨vs,kw⟩) R s:=by
 obtain ⟨hh,g,d,t,os⟩:=s
 exact W.make_core (W.makes_of X hm) (W.looks_findIn X hi) (fun self=>W.bind_fn X self hf) (.inl rfl) h
end
def putF (f:Str) (v:V):List (Str×V)->List (Str×V)
 | []=>[(f,v)]
 | (g,x)::r=>if g=f then (g,v)::r else (g,x)::putF f v r
theorem lookup_putF (f g:Str) (v:V):∀ fs:List (Str×V),(putF f v fs).lookup g=if g=f then some v else fs.lookup g
 | []=>by
  show cR g [(f,v)]=_
  by_cases h:g=f
  .have hb:(g == f)=true:=beq_iff_eq.mpr h
   simp only [cR,hb,if_pos h]
  .have hb:(g == f)=false:=beq_eq_false_iff_ne.mpr h
   simp only [cR,hb,if_neg h]
 | (k,x)::r=>by
  have ih:=lookup_putF f g v r
  rw [show putF f v ((k,x)::r)=(if k=f then (k,v)::r else (k,x)::putF f v r) from rfl]
  by_cases hk:k=f
  .rw [if_pos hk]
   by_cases h:g=k
   .have hb:(g == k)=true:=beq_iff_eq.mpr h
    simp only [cR,hb,if_pos (h.trans hk)]
   .have hb:(g == k)=false:=beq_eq_false_iff_ne.mpr h
    simp only [cR,hb,if_neg (fun e:g=f=>h (e.trans hk.symm))]
  .rw [if_neg hk]
   by_cases h:g=k
   .have hb:(g == k)=true:=beq_iff_eq.mpr h
    simp only [cR,hb,if_neg (fun e:g=f=>hk (h.symm.trans e))]
   .have hb:(g == k)=false:=beq_eq_false_iff_ne.mpr h
    simp only [cR,hb]
    exact ih
theorem keys_putF (f:Str) (v:V):∀ fs:List (Str×V),f∈(putF f v fs).map (·.1)/\∀ g,g∈fs.map (·.1)->g∈(putF f v fs).map (·.1)
 | []=>⟨by simp [putF],fun g h=>by simp at h⟩
 | (k,x)::r=>by
  obtain ⟨i1,i2⟩:=keys_putF f v r
  rw [show putF f v ((k,x)::r)=(if k=f then (k,v)::r else (k,x)::putF f v r) from rfl]
  by_cases hk:k=f
  .rw [if_pos hk]
   subst hk
   exact ⟨by simp,fun g h=>by simpa using h⟩
  .rw [if_neg hk]
   refine ⟨?_,fun g h=>?_⟩
   .rw [aq]
    exact mCo _ i1
   .rw [aq] at h ⊢
    rcases ai.mp h with e|e
    .exact ai.mpr (.inl e)
    .exact mCo _ (i2 g e)
theorem length_putF (f:Str) (v:V):∀ fs:List (Str×V),(putF f v fs).length<=fs.length+1
 | []=>by simp [putF]
 | (k,x)::r=>by
  have ih:=length_putF f v r
  rw [show putF f v ((k,x)::r)=(if k=f then (k,v)::r else (k,x)::putF f v r) from rfl]
  by_cases hk:k=f
  .rw [if_pos hk,lCq,lCq];omega
  .rw [if_neg hk,lCq,lCq];omega
theorem RelO.some_of {v:V}{o:Option Value}(r:RelO (some v) o):∃ u,o=some u/\RelV v u:=by
 cases o with
 | none=>exact (show False from r).elim
 | some u=>exact ⟨u,rfl,r⟩
theorem RelO.none_of {o:Option Value}(r:RelO none o):o=none:=by
 cases o with
 | none=>rfl
 | some u=>exact (show False from r).elim
theorem handed_of {v:V}{u:Value}(r:RelV v u):W.handedIn u=true:=by
 cases v with
 | non=>cases (show u=cQ from r);rfl
 | bl b=>cases (show u=ed b from r);rfl
 | int i=>obtain ⟨t,e⟩:=(show ∃ t,u=eY i t from r);cases e;rfl
 | str x=>obtain ⟨t,e⟩:=(show ∃ t,u=gm x t from r);cases e;rfl
 | byt b=>obtain ⟨t,e⟩:=(show ∃ t,u=gX b t from r);cases e;rfl
 | flt b=>obtain ⟨t,e⟩:=(show ∃ t,u=gY b t from r);cases e;rfl
 | ref a=>cases (show u=az a from r);rfl
 | ty n=>cases (show u=dE n from r);rfl
section
variable {P:Program}{w:World}{H H':Hp}{h h':Heap}{a C dx:Addr}{fs fs':List (Str×V)}
theorem ins_get (hok:HOk P w H h) (e:H a=some (.ins C dx fs)):∃ mA,ObjM h a dx C mA/\(∀ f,RelO (fs.lookup f) (mA f))/\PySem.Within mA (fs.map (·.1))/\fs.length<=1000/\H dx=some (.own a):=by
 obtain ⟨d,z,ne,ob,mA,n,r,q⟩:=(show ObjOk P w H h a (.ins C dx fs) from hok a _ e)
 exact ⟨mA,⟨ob,n,ne⟩,r,q,z,d⟩
end
structure Cls (K:W.Frag) (C:Addr):Prop where
 pg:W.plainGet K C Str.empty=true
 hd:W.hasDictIn K C=true
 po:W.plainOver K C=true
 sa:W.findIn K (.ref C) "__setattr__" = some (some (.builtin "object.__setattr__"))
theorem Cls.get {K:W.Frag}{C:Addr}(c:Cls K C) (f:Str):W.plainGet K C f=true:=c.pg
def NoAttr (K:W.Frag) (C:Addr) (f:Str):Prop:=W.findIn K (.ref C) f=some none
theorem NoAttr.taker {K:W.Frag}{C:Addr}{f:Str}(n:NoAttr K C f):W.takerIn K C f=some none:=by
 unfold W.takerIn
 rw [show W.findIn K (.ref C) f=some none from n]
 rfl
structure Meth (K:W.Frag) (C:Addr) (m:Str) (f:Addr):Prop where
 at_:W.findIn K (.ref C) m=some (some (.ref f))
 fn:W.isFn K (.ref f)=true
 kp:W.keepIn K (.ref f)=true
section
variable {X:Cx}{pins:List (Addr×Obj)}{σ:St}{H:Hp}{s:Shared}{a C dx:Addr}{fs:List (Str×V)}{f:Str}{v:V}{A:Around}{E:Value->Shared->Prop}
theorem getattr_ok {b:Bool}{Q:Value->Shared->Prop}(I:Inv X pins σ H s) (e:H a=some (.ins C dx fs)) (c:Cls X.K C) (n:NoAttr X.K C f) (l:fs.lookup f=some v)
  (h:∀ u s',Inv X pins σ H s'->RelV v u->Q u s'):wpAny (model X.prog X.w) A (getAttr (.ref a) f b) Q E s:=by
 obtain ⟨mA,O,r,_,_,_⟩:=ins_get I.hok e
 obtain ⟨u,hu,ru⟩:=RelO.some_of (v:=v) (o:=mA f) (by rw [← l];exact r f)
 exact get_map I.kIn O (c.get f) c.hd n hu (handed_of ru) (h u _ (I.tok _) ru)
theorem getmeth_ok {m:Str}{g:Addr}{pl:Sem Bool}{Q:Value×List Value->Shared->Prop}(I:Inv X pins σ H s) (e:H a=some (.ins C dx fs)) (c:Cls X.K C) (k:Meth X.K C m g) (l:fs.lookup m=none)
  (h:Q (.ref g,[.ref a]) s):wpAny (model X.prog X.w) A (getMethod (.ref a) m pl) Q E s:=by
 obtain ⟨mA,O,r,_,_,_⟩:=ins_get I.hok e
 have hn:mA m=none:=RelO.none_of (by rw [← l];exact r m)
 exact get_meth I.kIn O (c.get m) k.at_ k.fn hn h
theorem setattr_ok {y:V}{u:Value}{Q:Unit->Shared->Prop}(I:Inv X pins σ H s) (e:H a=some (.ins C dx fs)) (c:Cls X.K C) (n:NoAttr X.K C f) (hl:fs.length<1000) (ry:RelV y u)
  (h:∀ s',Inv X pins σ (upd H a (.ins C dx (putF f y fs))) s'->Q () s'):wpAny (model X.prog X.w) A (setAttr (.ref a) f u) Q E s:=by
 obtain ⟨mA,O,r,wi,_,ho⟩:=ins_get I.hok e
 have hz:(fs.map (·.1)).length<=sizeLine:=by rw [lMq,sizeLine_eq];omega
 refine set_map I.kIn O c.sa c.po n.taker c.hd wi hz fun h' O' sb=>h _ ?_
 have hd:∃ o,h'.get? dx=some o:=let ⟨o,_,_,e',_⟩:=O'.ns;⟨o,e'⟩
 refine I.write (x:=a) (e:=dx) (by rw [e];exact True.intro) (.inr ho) (fun b q hb z=>(sb.2 b hb).trans z) hd ?_
 refine ⟨by rw [upd_ne O.ne];exact ho,?_,O.ne,O'.obj,_,O'.ns,fun g=>?_,fun g hg=>?_⟩
 .have:=length_putF f y fs;omega
 .show RelO ((putF f y fs).lookup g) (if g=f then some u else mA g)
  rw [lookup_putF]
  by_cases q:g=f
  .rw [if_pos q,if_pos q];exact ry
  .rw [if_neg q,if_neg q];exact r g
 .by_cases q:g=f
  .rw [q];exact (keys_putF f y fs).1
  .refine (keys_putF f y fs).2 g (wi g fun z=>hg ?_)
   show (if g=f then some u else mA g)=none
   rw [if_neg q];exact z
theorem Inv.made (I:Inv X pins σ H s):Inv X pins σ (upd (upd H s.heap.objs.size (.own (s.heap.objs.size+1))) (s.heap.objs.size+1) (.ins C s.heap.objs.size []))
  { s with heap:=(s.heap.push W.emptyDict).push (W.instObj C s.heap.objs.size) }:=by
 have e1:(s.heap.push W.emptyDict).get? s.heap.objs.size=some W.emptyDict:=aQ s.heap rfl
 have e2:((s.heap.push W.emptyDict).push (W.instObj C s.heap.objs.size)).get? (s.heap.objs.size+1)=some (W.instObj C s.heap.objs.size):=by
  have:=aQ (s.heap.push W.emptyDict) (o:=W.instObj C s.heap.objs.size) rfl
  rwa [dU] at this
 have e3:(s.heap.push W.emptyDict).Ns s.heap.objs.size (fun _=>none):=⟨W.emptyDict,#[],_,e1,rfl,(fun e he=>absurd he (by simp)),fun _=>rfl⟩
 have I1:=I.laid (a:=s.heap.objs.size) (o:=.own (s.heap.objs.size+1)) (h':=s.heap.push W.emptyDict) (t':=s.toks) (fun b u q=>ae _ q) (af _) ⟨_,e1⟩
 refine I1.laid (a:=s.heap.objs.size+1) (o:=.ins C s.heap.objs.size []) (t':=s.toks) (fun b u q=>ae _ q) (eM (dU _ _)) ?_
 have ne:s.heap.objs.size≠s.heap.objs.size+1:=ay (cS _)
 refine ⟨by rw [upd_ne ne,upd_same],ba _,ne,e2,fun _=>none,(Heap.Ns1.of_empty e3).at fun o q=>ae _ q,fun _=>True.intro,fun y hy=>absurd rfl hy⟩
theorem attr_of {prog:Program}{w:World}{env:Env}{e:Expr}{f:Str}{pos:Pos}{s:Shared}{Q:Value->Shared->Prop}(hb:attributeBase e f env (eval e env)=eval e env)
  (h:wpAny (model prog w) A (eval e env) (fun o s₁=>wpAny (model prog w) A (getAttr o f true) Q E s₁) E s):wpAny (model prog w) A (eval (.Attribute e f pos) env) Q E s :=
 Attribute_any_ h (by rw [arm_eval_Attribute,hb])
end
def tFld (K:W.Frag) (ta:TE) (f:Str):TE:=fun σ H Q=>ta σ H fun x H1=>∃ a C dx fs v,x = .ref a/\H1 a=some (.ins C dx fs)/\Cls K C/\NoAttr K C f/\fs.lookup f=some v/\Q v H1
def sFld (K:W.Frag) (ta tv:TE) (f:Str):TS:=fun D σ H=>tv σ H fun y H1=>ta σ H1 fun x H2=>∃ a C dx fs,x = .ref a/\H2 a=some (.ins C dx fs)/\Cls K C/\NoAttr K C f/\fs.length<1000 /\
 D.nx σ (upd H2 a (.ins C dx (putF f y fs)))
section
variable {X:Cx}{o e value:Expr}{f:Str}{pos pos' tpos:Pos}{ta tv:TE}
theorem pe_fld (he:PE X e ta) (hb:attributeBase e f X.env (eval e X.env)=eval e X.env):PE X (.Attribute e f pos) (tFld X.K ta f):=by
 intro pins s σ H Q I h
 refine attr_of hb (thn (he pins s σ H _ I h) fun u s1 ⟨x,H1,I1,rx,a,C,dx,fs,v,ex,ea,c,n,l,q⟩=>?_)
 subst ex
 obtain rfl:u=az a:=rx
 exact getattr_ok I1 ea c n l fun u' s2 I2 ru=>⟨v,H1,I2,ru,q⟩
theorem ps_fld (ha:PE X o ta) (hv:PE X value tv) (hs:swapsWith value (some (.Attribute o f pos')) pos.line X.env=pure false):PS X (.Assign [.Attribute o f pos'] value pos) (sFld X.K ta tv f):=by
 intro pins s σ H D I h
 refine plainObj_wpAny_Assign_Attribute (thn (hv pins s σ H _ I h) fun u s1 ⟨y,H1,I1,ry,q⟩=>thn (ha pins s1 σ H1 _ I1 q) fun ov s2 ⟨x,H2,I2,rx,a,C,dx,fs,ex,ea,c,n,l,q2⟩=>?_) hs
 subst ex
 obtain rfl:ov=az a:=rx
 exact setattr_ok I2 ea c n l ry fun s3 I3=>⟨σ,_,I3,q2⟩
end
structure Room (k:Nat) (A:Around):Prop where
 hd:A.handled=none
 dp:A.depth+3*k+5<recursionLimit
 un:A.units+16*k+200<cLine
theorem Room.mono {j k:Nat}{A:Around}(r:Room k A) (h:j<=k):Room j A:=⟨r.hd,by have:=r.dp;omega,by have:=r.un;omega⟩
theorem Room.deeper {k:Nat}{A:Around}(r:Room (k+1) A) (env:Env):Room k (A.deeper env) :=
 ⟨r.hd,by have:=r.dp;show A.depth+1+3*k+5<_;omega,by have:=r.un;show A.units+3+16*k+200<_;omega⟩
theorem make_depth {A:Around}{C:Addr}{us:List Value}{kw:List (Str×Value)}:(A.under (.builtin "type.__call__" ⟨.ref C::us,kw⟩)).depth=A.depth+1:=by
 first|rfl|simp [Around.under,Code.weight,Code.isCreation,Code.isGuard,Code.isCaller,Code.frames,Code.isFrame,guardIds]
theorem make_units {A:Around}{C:Addr}{us:List Value}{kw:List (Str×Value)}:(A.under (.builtin "type.__call__" ⟨.ref C::us,kw⟩)).units=A.units+1:=by
 first|rfl|simp [Around.under,Code.cUnits,Code.frames,Code.isFrame]
theorem Room.make {k:Nat}{A:Around}(r:Room (k+1) A) (C:Addr) (us:List Value) (kw:List (Str×Value)):Room k (A.under (.builtin "type.__call__" ⟨.ref C::us,kw⟩)) :=
 ⟨r.hd,by have:=r.dp;rw [make_depth];omega,by have:=r.un;rw [make_units];omega⟩
theorem Room.depth {k:Nat}{A:Around}(r:Room k A):A.depth<recursionLimit:=by have:=r.dp;omega
theorem Room.units {k:Nat}{A:Around}(r:Room k A):A.units+64<cLine:=by have:=r.un;omega
def tNil:TA:=fun _ H Q=>Q [] H
def tCons (ta:TE) (tr:TA):TA:=fun σ H Q=>ta σ H fun x H1=>tr σ H1 fun xs H2=>Q (x::xs) H2
section
variable {X:Cx}{e:Expr}{es:List Expr}{te:TE}{t:TA}{pos:Pos}
theorem pa_nil:PA X [] tNil:=fun _ _ _ _ H Q I h=>Calls.spliced_nil ⟨[],H,I,.nil,h⟩
theorem pa_cons (ha:PE X e te) (hr:PA X es t) (hs:starEach (e::es) X.env=(false,eval e X.env)::starEach es X.env:=by rfl):PA X (e::es) (tCons te t):=by
 intro pos pins s σ H Q I h
 rw [hs]
 show wpAny _ _ (spliced ((false,eval e X.env)::backTo pos (starEach es X.env))) _ _ s
 refine Calls.spliced_cons (thn (ha pins s σ H _ I h) fun u s1 ⟨x,H1,I1,r1,q1⟩=>?_)
 exact thn (hr pos pins s1 σ H1 _ I1 q1) fun us s2 ⟨xs,H2,I2,r2,q2⟩=>⟨x::xs,H2,I2,.cons r1 r2,q2⟩
def tTup (t:TA):TE:=fun σ H Q=>t σ H fun xs H1=>xs.length<=sizeLine/\∀ p,H1 p=none->Q (.ref p) (upd H1 p (.tup xs))
def tLst (t:TA):TE:=fun σ H Q=>t σ H fun xs H1=>xs.length<=sizeLine/\∀ p,H1 p=none->Q (.ref p) (upd H1 p (.lst xs))
theorem pe_tup {x1} (h:PA X es t):PE X (.Tuple es x1 pos) (tTup t):=by
 intro pins s σ H Q I hq
 refine wpAny_Tuple_spliced (thn (h pos pins s σ H _ I hq) fun us s1 ⟨xs,H1,I1,r,z,q⟩=>⟨by rw [← r.length];exact z,?_⟩)
 have hf:H1 s1.heap.objs.size=none:=I1.hok.fresh (af _)
 refine ⟨.ref s1.heap.objs.size,upd H1 s1.heap.objs.size (.tup xs),I1.laid (t':=s1.toks) (fun b u e=>ae _ e) (af _) ?_,rfl,q _ hf⟩
 exact ⟨z,us,r,⟨_,aQ _ rfl,rfl,_,rfl⟩⟩
theorem pe_lst (h:PA X es t):PE X (.List es pos) (tLst t):=by
 intro pins s σ H Q I hq
 refine wpAny_List_spliced (thn (h pos pins s σ H _ I hq) fun us s1 ⟨xs,H1,I1,r,z,q⟩=>⟨by rw [← r.length];exact z,?_⟩)
 have hf:H1 s1.heap.objs.size=none:=I1.hok.fresh (af _)
 refine ⟨.ref s1.heap.objs.size,upd H1 s1.heap.objs.size (.lst xs),I1.laid (t':=s1.toks) (fun b u e=>ae _ e) (af _) ?_,rfl,q _ hf⟩
 exact ⟨z,us,0,r,aQ _ rfl⟩
end
abbrev Sp:=List V->Hp->VK->XK->Prop
abbrev CXT:=List Env->Hp->Shared->XK->Value->Shared->Prop
structure Env0 (P:Program) (w:World) (K:W.Frag) (mg:Str->Option Value) (base:Heap) (A:Around) (outer:List Env) (s:Shared) (H:Hp):Prop where
 frames:A.frames=some outer
 mod:Mod K mg base
 bs:∀ b o,base.get? b=some o->s.heap.get? b=some o/\H b=none
 bsz:base.objs.size<=s.heap.objs.size
 funs:s.heap.FunFrames base outer
 frf:∀ b∈frs outer,H b=none
 hok:HOk P w H s.heap
 bare:AllBare s.gens
def CE (outer:List Env) (P:Program) (w:World) (H:Hp) (s:Shared) (Q:VK) (u:Value) (s':Shared):Prop :=
 ∃ v H',s'.os=s.os/\AllBare s'.gens/\Un (frs outer) [] H H' s.heap s'.heap/\HOk P w H' s'.heap/\RelV v u/\Q v H'
def CR (CX:CXT) (outer:List Env) (P:Program) (w:World) (H:Hp) (s:Shared) (Q:VK) (E:XK) (r:Result) (s':Shared):Prop :=
 match r with
 | .ok (.ret u)=>CE outer P w H s Q u s'
 | .ok _=>False
 | .error e=>CX outer H s E e s'
structure FnOk (P:Program) (w:World) (K:W.Frag) (mg:Str->Option Value) (base:Heap) (CX:CXT) (k:Nat) (f:Addr) (fd:FuncData) (ps:List Str) (sp:Sp):Prop where
 len:∀ vs H Q E,sp vs H Q E->vs.length=ps.length
 run:∀ (A:Around) (outer:List Env) (s:Shared) (H:Hp) (args:Args) (us:List Value) (vs:List V) (Q:VK) (E:XK),Room k A->Env0 P w K mg base A outer s H->BindsTo s fd args (ps.zip us)->Vals vs us->sp vs H Q E ->
  codeAny (model P w) A (.call (.ref f) args) (CR CX outer P w H s Q E) s
theorem FnOk.imp {P:Program}{w:World}{K:W.Frag}{mg:Str->Option Value}{base:Heap}{CX:CXT}{k:Nat}{f:Addr}{fd:FuncData}{ps:List Str}{sp sp':Sp}(F:FnOk P w K mg base CX k f fd ps sp)
  (h:∀ vs H Q E,sp' vs H Q E->sp vs H Q E):FnOk P w K mg base CX k f fd ps sp' :=
 ⟨fun vs H Q E q=>F.len vs H Q E (h _ _ _ _ q),fun A outer s H args us vs Q E hr he hb hv hs=>F.run A outer s H args us vs Q E hr he hb hv (h _ _ _ _ hs)⟩
theorem Env0.make {P:Program}{w:World}{K:W.Frag}{mg:Str->Option Value}{base:Heap}{A:Around}{outer:List Env}{s:Shared}{H:Hp}(e:Env0 P w K mg base A outer s H) (C:Addr) (us:List Value) (kw:List (Str×Value)) :
  Env0 P w K mg base (A.under (.builtin "type.__call__" ⟨.ref C::us,kw⟩)) outer s H:=⟨by first|exact e.frames|(simpa [Around.under,Code.envs,Code.isFrame,pushEnvs] using e.frames),e.mod,e.bs,e.bsz,e.funs,e.frf,e.hok,e.bare⟩
section
variable {X:Cx}{pins:List (Addr×Obj)}{σ:St}{H:Hp}{s s':Shared}
theorem Inv.env0 (I:Inv X pins σ H s):Env0 X.prog X.w X.K X.mg X.base X.A X.stack s H :=
 ⟨I.ok.frames,I.ok.mod,I.bs,bC I.ok.bsz I.sz,I.stack,I.stkFree,I.hok,I.bare⟩
theorem Inv.after {Q:VK}{u:Value}(I:Inv X pins σ H s) (h:CE X.stack X.prog X.w H s Q u s'):EP X pins σ Q u s':=by
 obtain ⟨v,H',os,bare,un,hok,r,q⟩:=h
 obtain ⟨hh,g,d,t,os'⟩:=s'
 obtain rfl:os'=s.os:=os
 exact ⟨v,H',I.call (h':=hh) (g':=g) (d':=d) (t':=t) (ch:=[]) un hok bare (fun b z=>absurd z (by simp)),r,q⟩
end
def tCall (sp:Sp) (dvs:List V) (E:XK) (t:TA):TE:=fun σ H Q=>t σ H fun vs H1=>sp (vs++dvs) H1 Q E
def tMeth (C:Addr) (m:Str) (sp:Sp) (dvs:List V) (E:XK) (ta:TE) (t:TA):TE:=fun σ H Q=>ta σ H fun x H1=>∃ a dx fs,x = .ref a/\H1 a=some (.ins C dx fs)/\fs.lookup m=none /\
 t σ H1 fun vs H2=>sp (x::(vs++dvs)) H2 Q E
def tMake (C:Addr) (sp:Sp) (dvs:List V) (E:XK) (t:TA):TE:=fun σ H Q=>t σ H fun vs H1=>∀ x dx,H1 x=none->H1 dx=none->dx≠x ->
 sp (.ref x::(vs++dvs)) (upd (upd H1 dx (.own x)) x (.ins C dx [])) (fun v H2=>v = .non/\Q (.ref x) H2) E
def Binds (K:W.Frag) (fd:FuncData) (ps:List Str) (ds:List Value):Prop :=
 ∀ (s:Shared) (us:List Value),K.In s.heap->(us++ds).length=ps.length->BindsTo s fd ⟨us,[]⟩ (ps.zip (us++ds))
theorem Binds.all {K:W.Frag}{fd:FuncData}{ps:List Str}(h:∀ us:List Value,us.length=ps.length->bindArgs fd ⟨us,[]⟩=pure (ps.zip us)):Binds K fd ps []:=fun s us _ hl=>by
 rw [aNq] at hl ⊢
 exact .of_eq (h us hl)
def Passes (CX:CXT) (X:Cx) (E:XK):Prop:=∀ (pins:List (Addr×Obj)) (σ:St) (H:Hp) (s:Shared) (e:Value) (s':Shared),Inv X pins σ H s->CX X.stack H s E e s'->X.xe e s'
section
variable {X:Cx}{CX:CXT}{k:Nat}{f C:Addr}{fd:FuncData}{ps:List Str}{sp:Sp}{dvs:List V}{ds:List Value}{E:XK}{x m:Str}{p pos apos:Pos}{e o:Expr}{es:List Expr}{ta:TE}{t:TA}
theorem run_fn {pins:List (Addr×Obj)}{σ:St}{H:Hp}{s:Shared}{Q:VK}{us:List Value}{vs:List V}(F:FnOk X.prog X.w X.K X.mg X.base CX k f fd ps sp) (hr:Room k X.A) (hb:Binds X.K fd ps ds) (hd:Vals dvs ds) (hx:Passes CX X E)
  (I:Inv X pins σ H s) (r:Vals vs us) (h:sp (vs++dvs) H Q E):wpAny (model X.prog X.w) X.A (call (.ref f) us) (EP X pins σ Q) X.xe s:=by
 have r2:Vals (vs++dvs) (us++ds):=r.append hd
 have hl:(us++ds).length=ps.length:=by rw [← r2.length];exact F.len _ _ _ _ h
 refine wpAny_call (codeAny_mono (F.run X.A X.stack s H ⟨us,[]⟩ (us++ds) (vs++dvs) Q E hr I.env0 (hb s us I.kIn hl) r2 h) fun r s' hq=>?_)
 cases r with
 | error e=>exact hx pins σ H s e s' I hq
 | ok fl =>
  cases fl with
  | ret u=>exact I.after hq
  | next=>exact False.elim hq
  | brk=>exact False.elim hq
  | cont=>exact False.elim hq
theorem pe_call (F:FnOk X.prog X.w X.K X.mg X.base CX k f fd ps sp) (hr:Room k X.A) (hg:Gl X x) (hm:X.mg x=some (.ref f)) (hk:W.keepIn X.K (.ref f)=true) (hb:Binds X.K fd ps ds) (hd:Vals dvs ds) (hx:Passes CX X E)
  (ha:PA X (e::es) t) (hdb:(x == ("__debug__" : Str))=false:=by decide) (he:starEach (e::es) X.env=(false,eval e X.env)::starEach es X.env:=by rfl) (hpl:(backTo pos (starEach es X.env)).any (·.1)=false:=by rfl) :
  PE X (.Call (.Name x p) (e::es) [] pos) (tCall sp dvs E t):=by
 intro pins s σ H Q I h
 refine wpAny_Call_Name_kw (ld_glob I hg hm ?_ hdb)
 refine W.callWith_K (h₀:=X.base) I.ok.mod.kin hk (thn (ha pos pins s σ H _ I h) fun us s1 ⟨vs,H1,I1,r,q⟩=>⟨I1.kIn,?_⟩) he hpl
 exact run_fn F hr hb hd hx I1 r q
theorem pe_meth {pl:Sem Bool}(he:PE X o ta) (c:Cls X.K C) (hm:Meth X.K C m f) (F:FnOk X.prog X.w X.K X.mg X.base CX k f fd ps sp) (hr:Room k X.A) (hb:Binds X.K fd ps ds) (hd:Vals dvs ds) (hx:Passes CX X E) (ha:PA X (e::es) t)
  (hst:starEach (e::es) X.env=(false,eval e X.env)::starEach es X.env:=by rfl) (hpl:(backTo pos (starEach es X.env)).any (·.1)=false:=by rfl)
  (ht:eval (.Call (.Attribute o m apos) (e::es) [] pos) X.env=(do
   let ov ← eval o X.env
   standAt apos.atName
   let (f,first) ← holding [ov] (getMethod ov m pl)
   callWith pos f first (backTo pos (starEach (e::es) X.env)) (backToKw pos (keywordEach [] X.env))):=by rfl) :
  PE X (.Call (.Attribute o m apos) (e::es) [] pos) (tMeth C m sp dvs E ta t):=by
 intro pins s σ H Q I h
 refine W.methodCall_KW (pl:=pl) (thn (he pins s σ H _ I h) fun u s1 ⟨x,H1,I1,rx,a,dx,fs,ex,ea,l,q⟩=>?_) ht
 subst ex
 obtain rfl:u=az a:=rx
 refine getmeth_ok I1 ea c hm l ?_
 refine W.callWith_K (first:=[.ref a]) (h₀:=X.base) I.ok.mod.kin hm.kp (thn (ha pos pins s1 σ H1 _ I1 q) fun us s2 ⟨vs,H2,I2,r,q2⟩=>⟨I2.kIn,?_⟩) hst hpl
 exact run_fn (us:=.ref a::us) (vs:=.ref a::vs) F hr hb hd hx I2 (.cons rfl r) q2
structure Mk (K:W.Frag) (C f:Addr):Prop where
 makes:W.makesIn K C=true
 init:W.findIn K (.ref C) "__init__" = some (some (.ref f))
 fn:W.isFn K (.ref f)=true
 kp:W.keepIn K (.ref C)=true
theorem run_make {pins:List (Addr×Obj)}{σ:St}{H:Hp}{s:Shared}{Q:VK}{us:List Value}{vs:List V}(M:Mk X.K C f) (F:FnOk X.prog X.w X.K X.mg X.base CX k f fd ps sp) (hr:Room (k+1) X.A) (hb:Binds X.K fd ps ds) (hd:Vals dvs ds)
  (hx:Passes CX X E) (I:Inv X pins σ H s) (r:Vals vs us)
  (h:∀ x dx,H x=none->H dx=none->dx≠x->sp (.ref x::(vs++dvs)) (upd (upd H dx (.own x)) x (.ins C dx [])) (fun v H2=>v = .non/\Q (.ref x) H2) E) :
  wpAny (model X.prog X.w) X.A (call (.ref C) us) (EP X pins σ Q) X.xe s:=by
 have hq:=h (s.heap.objs.size+1) s.heap.objs.size (I.hok.fresh (bA _)) (I.hok.fresh (af _)) (ay (cS _))
 have I2:=Inv.made (C:=C) I
 have r2:Vals (V.ref (s.heap.objs.size+1)::(vs++dvs)) (az (s.heap.objs.size+1)::(us++ds)):=.cons rfl (r.append hd)
 have hl:(az (s.heap.objs.size+1)::us++ds).length=ps.length:=by
  have e:=r2.length
  rw [F.len _ _ _ _ hq] at e
  exact e.symm
 refine wpAny_call (make_map (f:=f) I.kIn M.makes M.init (beq_iff_eq.mp M.fn) (codeAny_mono (F.run _ X.stack _ _ ⟨az (s.heap.objs.size+1)::us,[]⟩ (az (s.heap.objs.size+1)::(us++ds)) _ _ E (hr.make C us [])
  (I2.env0.make C us []) (hb _ (az (s.heap.objs.size+1)::us) I2.kIn hl) r2 hq) fun r s' hq'=>?_))
 cases r with
 | error e=>exact hx pins σ _ _ e s' I2 hq'
 | ok fl =>
  cases fl with
  | ret u =>
   obtain ⟨v,H',I3,rv,ev,q3⟩:=I2.after hq'
   subst ev
   exact ⟨rv,⟨V.ref (s.heap.objs.size+1),H',I3,rfl,q3⟩⟩
  | next=>exact False.elim hq'
  | brk=>exact False.elim hq'
  | cont=>exact False.elim hq'
theorem pe_make (M:Mk X.K C f) (F:FnOk X.prog X.w X.K X.mg X.base CX k f fd ps sp) (hr:Room (k+1) X.A) (hg:Gl X x) (hm:X.mg x=some (.ref C)) (hb:Binds X.K fd ps ds) (hd:Vals dvs ds) (hx:Passes CX X E)
  (ha:PA X (e::es) t) (hdb:(x == ("__debug__" : Str))=false:=by decide) (he:starEach (e::es) X.env=(false,eval e X.env)::starEach es X.env:=by rfl) (hpl:(backTo pos (starEach es X.env)).any (·.1)=false:=by rfl) :
  PE X (.Call (.Name x p) (e::es) [] pos) (tMake C sp dvs E t):=by
 intro pins s σ H Q I h
 refine wpAny_Call_Name_kw (ld_glob I hg hm ?_ hdb)
 refine W.callWith_K (h₀:=X.base) I.ok.mod.kin M.kp (thn (ha pos pins s σ H _ I h) fun us s1 ⟨vs,H1,I1,r,q⟩=>⟨I1.kIn,?_⟩) he hpl
 exact run_make M F hr hb hd hx I1 r q
end
structure FnScope (N P:List Str) (sc:Scope):Prop where
 kind:sc.kind = .function
 co:sc.isCoroutine=false
 gen:sc.isGenerator=false
 nd:N.Nodup
 pre:N.take P.length=P
 par:∀ x∈P,sc.names.lookup x=some .local∨sc.names.lookup x=some .cell
 nofree:∀ y∈sc.names,y.2 ≠ .free
theorem bindL_out {kindOf:Str->Option NameKind}{x:Str}:∀ {binds:List (Str×Value)}{m:Str->Option Value},(∀ v,(x,v)∉binds)->bindL kindOf binds m x=m x
 | [],_,_=>rfl
 | (n,v)::r,m,h=>by
  unfold bindL
  rw [bindL_out fun w hw=>h w (mCo _ hw)]
  split
  .have:x≠n:=by rintro rfl;exact h v bb
   simp [this]
  .rfl
theorem bindC_out {kindOf:Str->Option NameKind}{x:Str}:∀ {binds:List (Str×Value)}{m:Str->Option Value},(∀ v,(x,v)∉binds)->bindC kindOf binds m x=m x
 | [],_,_=>rfl
 | (n,v)::r,m,h=>by
  unfold bindC
  rw [bindC_out fun w hw=>h w (mCo _ hw)]
  split
  .rfl
  .have:x≠n:=by rintro rfl;exact h v bb
   simp [this]
theorem bindL_get {kindOf:Str->Option NameKind}{x:Str}{v:Value}:∀ {P:List Str}{vs:List Value}{i:Nat}{m:Str->Option Value},P.Nodup->P[i]?=some x->vs[i]?=some v->kindOf x=some .local ->
  bindL kindOf (P.zip vs) m x=some v
 | [],_,_,_,_,h,_,_=>by simp at h
 | _::_,[],_,_,_,_,h,_=>by simp at h
 | p::P,w::vs,0,m,nd,h1,h2,hk=>by
  simp at h1 h2;subst h1;subst h2
  show bindL kindOf ((p,w)::P.zip vs) m p=_
  unfold bindL
  rw [bindL_out fun v hv=>(aL.mp nd).1 (fJ hv).1,if_pos hk]
  simp
 | p::P,w::vs,i+1,m,nd,h1,h2,hk=>by
  show bindL kindOf ((p,w)::P.zip vs) m x=_
  unfold bindL
  exact bindL_get (i:=i) (aL.mp nd).2 (by simpa using h1) (by simpa using h2) hk
theorem bindC_get {kindOf:Str->Option NameKind}{x:Str}{v:Value}:∀ {P:List Str}{vs:List Value}{i:Nat}{m:Str->Option Value},P.Nodup->P[i]?=some x->vs[i]?=some v->kindOf x≠some .local ->
  bindC kindOf (P.zip vs) m x=some v
 | [],_,_,_,_,h,_,_=>by simp at h
 | _::_,[],_,_,_,_,h,_=>by simp at h
 | p::P,w::vs,0,m,nd,h1,h2,hk=>by
  simp at h1 h2;subst h1;subst h2
  show bindC kindOf ((p,w)::P.zip vs) m p=_
  unfold bindC
  rw [bindC_out fun v hv=>(aL.mp nd).1 (fJ hv).1,if_neg hk]
  simp
 | p::P,w::vs,i+1,m,nd,h1,h2,hk=>by
  show bindC kindOf ((p,w)::P.zip vs) m x=_
  unfold bindC
  exact bindC_get (i:=i) (aL.mp nd).2 (by simpa using h1) (by simpa using h2) hk
def start (N:List Str) (vs:List V):St:=vs.map some++aB (N.length-vs.length) none
def cxOf (CX:CXT) (P:Program) (w:World) (K:W.Frag) (mg:Str->Option Value) (base:Heap) (N:List Str) (qual:Str) (scope:Scope) (f:Addr) (cd:Value) (A:Around) (outer:List Env) (s:Shared) (H:Hp) (E:XK):Cx where
 prog:=P
 w:=w
 K:=K
 mg:=mg
 base:=base
 A:=A.deeper (envOfC qual scope s.heap.objs.size f cd)
 N:=N
 s₀:=s
 H₀:=H
 env:=envOfC qual scope s.heap.objs.size f cd
 outer:=outer
 stack:=envOfC qual scope s.heap.objs.size f cd::outer
 ex:=[]
 calm:=true
 fn:=fun _=>true
 pn:=[]
 xe:=fun e s'=>wpAny (model P w) (A.deeper (envOfC qual scope s.heap.objs.size f cd)) (leaving (envOfC qual scope s.heap.objs.size f cd) e) (fun _ s''=>CX outer H s E e s'') (fun e' s''=>CX outer H s E e' s'') s'
theorem cell_has {sc:Scope}{n:Nat}{x:Str}(h:sc.names.lookup x=some .cell):∃ c,(cellsFrom n sc.names []).lookup x=some c:=by
 have q:=W.cellsFrom_some sc.names n [] (.inl h)
 exact Option.isSome_iff_exists.mp q
theorem inv_start {CX:CXT}{P:Program}{w:World}{K:W.Frag}{mg:Str->Option Value}{base:Heap}{N ps:List Str}{qual:Str}{scope:Scope}{f:Addr}{cd:Value}{A:Around}{outer:List Env}{s s1:Shared}{H:Hp}{E:XK}{us:List Value}{vs:List V}
  (S:FnScope N ps scope) (hd:A.handled=none) (e0:Env0 P w K mg base A outer s H) (hl:vs.length=ps.length) (r:Vals vs us)
  (x:InCallC s s.heap.objs.size (bindL (envOfC qual scope s.heap.objs.size f cd).kindOf (ps.zip us) fun _=>none) (cellsFrom (s.heap.objs.size+1) scope.names []) (bindC (envOfC qual scope s.heap.objs.size f cd).kindOf (ps.zip us) fun _=>none) s1) :
  Inv (cxOf CX P w K mg base N qual scope f cd A outer s H E) [] (start N vs) H s1:=by
 have hpl:ps.length<=N.length:=by have:=congrArg bY S.pre;rw [lTq] at this;omega
 obtain ⟨h1,tk,rfl,hk⟩:=x.done
 have noA:∀ b:Addr,b∉(cxOf CX P w K mg base N qual scope f cd A outer s H E).ex:=fun b z=>absurd (show b∈([]:List Addr) from z) (by simp)
 refine ⟨⟨e0.mod,S.kind,rfl,rfl,af _,fun y z c h1 h2=>?_,fun y hy=>?_,fun y c _ h=>?_,fun _=>hd,Around.frames_deeper e0.frames,.inr ⟨rfl,rfl⟩,fun b z=>absurd z (noA b),e0.bs,e0.bsz,fun b _ _=>noA b,fun b z=>absurd z (noA b),e0.funs,e0.frf⟩,
  rfl,e0.bare,Un.kept hk,⟨_,x.toInCall.ns,fun i y v h1 h2 h3=>?_⟩,fun y c h=>⟨_,x.cell y c h⟩,e0.hok.fresh (af _),fun y c h=>?_,fun p hp=>absurd (show p∈([]:List (Addr×Obj)) from hp) (by simp),e0.hok.kept hk,?_⟩
 .exact name_of_addr x.apart (PySem.mem_of_lookup h1) (PySem.mem_of_lookup h2)
 .have hy:scope.names.lookup y=some .cell∨scope.names.lookup y=some .free:=hy
  rcases hy with hy|hy
  .exact cell_has hy
  .exact absurd rfl (S.nofree _ (PySem.mem_of_lookup hy))
 .exact bX (x.above y c (PySem.mem_of_lookup h))
 .have hi:i<vs.length:=by
   unfold start at h2
   by_cases hi:i<vs.length
   .exact hi
   .rw [gYq (by simpa using hi)] at h2
    rw [bZ] at h2
    split at h2 <;> cases h2
  have ha:vs[i]?=some v:=by
   unfold start at h2
   rw [gZq (by simpa using hi),gMq] at h2
   cases e:vs[i]? with
   | none=>rw [e] at h2;cases h2
   | some a=>rw [e] at h2;cases h2;rfl
  obtain ⟨u,hu,rv⟩:=r.get ha
  have hp:ps[i]?=some y:=by
   rw [← S.pre,fi (by omega)];exact h1
  have ndP:ps.Nodup:=by rw [← S.pre];exact S.nd.sublist (bj _ _)
  refine ⟨u,rv,?_⟩
  rcases S.par y (mGq hp) with k|k
  .exact .inl ⟨k,bindL_get ndP hp hu k⟩
  .obtain ⟨c,e⟩:=cell_has (n:=s.heap.objs.size+1) k
   refine .inr ⟨.inl k,c,e,?_⟩
   have q:=x.cell y c e
   rw [bindC_get ndP hp hu (by show scope.names.lookup y≠_;rw [k];decide)] at q
   exact q
 .exact e0.hok.fresh (bX (x.above y c (PySem.mem_of_lookup h)))
 .unfold start
  show _=N.length
  rw [lAq,lMq,ez]
  omega
theorem fn_of {CX:CXT}{P:Program}{w:World}{K:W.Frag}{mg:Str->Option Value}{base:Heap}{k:Nat}{f:Addr}{name qual:Str}{params:Arguments}{body:List Stmt}{scope:Scope}{dV kV doc pm cdv ct oc:Value}{an od:Option Addr}
  {osl:Array (Option Value)}{N ps:List Str}{sp:Sp}(lk:K.lookup f=some ⟨oc,od,.func (W.fnOf name qual params body scope dV kV doc pm an cdv ct),osl⟩) (hcd:W.codeIn K cdv qual=true) (S:FnScope N ps scope)
  (len:∀ vs H Q E,sp vs H Q E->vs.length=ps.length)
  (hbody:∀ (A:Around) (outer:List Env) (s:Shared) (H:Hp) (vs:List V) (Q:VK) (E:XK),Room k (A.deeper (envOfC qual scope s.heap.objs.size f cdv))->sp vs H Q E ->
   ∃ t,PSs (cxOf CX P w K mg base N qual scope f cdv A outer s H E) body t/\t { nx:=fun _ H'=>Q .non H',rt:=Q } (start N vs) H) :
  FnOk P w K mg base CX (k+1) f (W.fnOf name qual params body scope dV kV doc pm an cdv ct) ps sp:=by
 refine ⟨len,fun A outer s H args us vs Q E hr e0 hb r hsp=>?_⟩
 have hl:=len _ _ _ _ hsp
 have KX:K.In s.heap:=e0.mod.kin.keeps fun b o e=>(e0.bs b o e).1
 have lim:s.heap.NoLimit:=e0.mod.nolimit.keeps fun b o e=>(e0.bs b o e).1
 have hkind:∀ y∈ps.zip us,scope.names.lookup y.1=some .local∨(scope.names.lookup y.1=some .cell/\((cellsFrom (s.heap.objs.size+1) scope.names []).lookup y.1).isSome=true):=fun ⟨n,v⟩ hy=>by
  rcases S.par n (fJ hy).1 with q|q
  .exact .inl q
  .exact .inr ⟨q,W.cellsFrom_some _ _ _ (.inl q)⟩
 refine codeAny_call_function hr.depth (KX _ _ lk) rfl S.co S.gen rfl (W.codeRec_of KX hcd) (hb _ _ _ _ ?_)
 refine wpAny_newFunctionEnv_cells S.kind hkind fun env he s1 x=>?_
 subst he
 refine ⟨lim.keeps x.toInCall.keep,codeAny_func ?_⟩
 obtain ⟨t,ht,hq⟩:=hbody A outer s H vs Q E (hr.deeper _) hsp
 have I:Inv (cxOf CX P w K mg base N qual scope f cdv A outer s H E) [] (start N vs) H s1:=inv_start S hr.hd e0 hl r x
 refine wpAny_mono (ht [] s1 (start N vs) H _ I hq) (fun fl s' hs=>?_) fun e s' hs=>hs
 have fin:∀ {σ':St}{H':Hp}{v:V}{u:Value},Inv (cxOf CX P w K mg base N qual scope f cdv A outer s H E) [] σ' H' s'->RelV v u->Q v H'->CE outer P w H s Q u s' :=
  fun {σ' H' v u} J rv q=>⟨v,H',J.os,J.bare,J.base,J.hok,rv,q⟩
 cases fl with
 | ret u =>
  obtain ⟨v,σ',H',J,rv,q⟩:=hs
  exact fin J rv q
 | next =>
  obtain ⟨σ',H',J,q⟩:=hs
  exact fin (v:=V.non) (u:=cQ) J rfl q
 | brk =>
  obtain ⟨_,_,_,q⟩:=hs
  exact False.elim q
 | cont =>
  obtain ⟨_,_,_,q⟩:=hs
  exact False.elim q
section
variable {X:Cx}{x:Str}{p pos:Pos}{e:Expr}{es:List Expr}{t:TA}{id T:String}{r:List V->Hp->VK->Prop}
def tCB (r:List V->Hp->VK->Prop) (t:TA):TE:=fun σ H Q=>t σ H fun vs H1=>r vs H1 Q
theorem pe_callB (hc:CallR X (.builtin id) r) (hg:Gl X x) (hm:X.mg x=none) (hv:bootBuiltins x=some (.builtin id)) (ha:PA X (e::es) t) (hn:x ≠ "__name__" := by decide) (hdb:(x == ("__debug__" : Str))=false:=by decide)
  (he:starEach (e::es) X.env=(false,eval e X.env)::starEach es X.env:=by rfl) (hpl:(backTo pos (starEach es X.env)).any (·.1)=false:=by rfl):PE X (.Call (.Name x p) (e::es) [] pos) (tCB r t):=by
 intro pins s σ H Q I h
 refine wpAny_Call_Name_kw (ld_blt I hg hm hv ?_ hn hdb)
 exact eE (thn (ha pos pins s σ H _ I h) fun us s1 ⟨vs,H1,I1,r1,q1⟩=>hc pins s1 σ H1 vs us Q I1 r1 q1) he hpl
theorem pe_callTy (hc:CallR X (.type T) r) (hg:Gl X x) (hm:X.mg x=none) (hv:bootBuiltins x=some (.type T)) (ha:PA X (e::es) t) (hn:x ≠ "__name__" := by decide) (hdb:(x == ("__debug__" : Str))=false:=by decide)
  (he:starEach (e::es) X.env=(false,eval e X.env)::starEach es X.env:=by rfl) (hpl:(backTo pos (starEach es X.env)).any (·.1)=false:=by rfl):PE X (.Call (.Name x p) (e::es) [] pos) (tCB r t):=by
 intro pins s σ H Q I h
 refine wpAny_Call_Name_kw (ld_blt I hg hm hv ?_ hn hdb)
 exact cu (thn (ha pos pins s σ H _ I h) fun us s1 ⟨vs,H1,I1,r1,q1⟩=>hc pins s1 σ H1 vs us Q I1 r1 q1) he hpl
end
end L2
namespace HT
open PySem PyProof.Rows
def lexLt:List Int->List Int->Bool
 | [],[]=>false
 | [],_::_=>true
 | _::_,[]=>false
 | x::xs,y::ys=>if x=y then lexLt xs ys else decide (x<y)
theorem lexLt_cons (x y:Int) (xs ys:List Int):lexLt (x::xs) (y::ys)=if x=y then lexLt xs ys else decide (x<y):=rfl
theorem lexLt_nil_nil:lexLt [] []=false:=rfl
theorem lexLt_nil_cons (y:Int) (ys:List Int):lexLt [] (y::ys)=true:=rfl
theorem lexLt_cons_nil (x:Int) (xs:List Int):lexLt (x::xs) []=false:=rfl
theorem eqAt_int (A:Around) (s:Shared) (a:Int) (t:Tok) (c:Int) (u:Tok):∃ e,SeqAt.EqAt A s (.int a t) (.int c u) e/\(e=true↔a=c) :=
 ⟨(a == c),SeqAt.EqAt.int_int a t c u,by simp⟩
theorem rcLt_int (A:Around) (s:Shared) (a:Int) (t:Tok) (c:Int) (u:Tok) (prog:Program) (w:World) (E:Value->Shared->Prop) (Q:Value->Shared->Prop) (h:Q (.bool (decide (a<c))) s) :
  wpAny (model prog w) A (richCompare .Lt (.int a t) (.int c u)) Q E s :=
 (hV h:wpAny (model prog w) A (compareOp .Lt (.int a t) (.int c u)) Q E s)
section
open PySem.SeqAt
open PySem.AutoSeq1 (wpAny_loadPart')
open PySem.MeetsSeq PySem.MeetsSeq2 PySem.MeetsSeq3
end
section
variable {prog:Program}{w:World}{A:Around}{E:Value->Shared->Prop}{s:Shared}
def sIx (n d:Nat):Option Int->Nat
 | none=>d
 | some v=>if v<0 then (v+(n:Int)).toNat else min v.toNat n
theorem sIx_none (n d:Nat):sIx n d none=d:=rfl
theorem sIx_nat (n d k:Nat):sIx n d (some (k:Int))=min k n:=by
 show (if (k:Int)<0 then ((k:Int)+(n:Int)).toNat else min (k:Int).toNat n)=min k n
 rw [if_neg (by omega),cE]
end
end HT
namespace L2
open PySem PySem.Spec PyProof.Rows
abbrev TO:=St->Hp->(Option Int->Hp->Prop)->Prop
def PO (X:Cx) (e:Option Expr) (t:TO):Prop :=
 ∀ (pins:List (Addr×Obj)) (s:Shared) (σ:St) (H:Hp) (Q:Option Int->Hp->Prop),Inv X pins σ H s->t σ H Q ->
  wpAny (model X.prog X.w) X.A (evalPart e X.env) (fun u s'=>∃ o H',Inv X pins σ H' s'/\IsPart u o/\Q o H') X.xe s
def tNoPart:TO:=fun _ H Q=>Q none H
def tPart (t:TE):TO:=fun σ H Q=>t σ H fun x H1=>∃ i,x = .int i/\Q (some i) H1
theorem intsAre_of {ns:List Int}:∀ {us:List Value},Vals (ns.map V.int) us->IntsAre us ns:=by
 induction ns with
 | nil=>intro us r;rw [eN] at r;cases r;exact .nil
 | cons n ns ih =>
  intro us r
  rw [aq] at r
  cases r with
  | cons r1 r2 =>
   obtain ⟨t,e⟩:=r1
   subst e
   exact .cons n t (ih r2)
section
variable {X:Cx}{e:Expr}{te:TE}{lo hi:Option Expr}{tl th:TO}{pos p2:Pos}
theorem po_none:PO X none tNoPart:=by
 intro pins s σ H Q I h
 rw [evalPart_none]
 exact wpAny_pure ⟨none,H,I,.none,h⟩
theorem po_some (h:PE X e te):PO X (some e) (tPart te):=by
 intro pins s σ H Q I hw
 rw [evalPart_some]
 refine thn (h pins s σ H _ I hw) fun u s1 ⟨x,H1,I1,r1,q1⟩=>?_
 obtain ⟨i,rfl,q⟩:=q1
 obtain ⟨t,rfl⟩:=r1
 exact ⟨some i,H1,I1,.int i t,q⟩
def SlR (X:Cx) (r:V->Option Int->Option Int->Hp->VK->Prop):Prop :=
 ∀ (pins:List (Addr×Obj)) (s:Shared) (σ:St) (H:Hp) (x:V) (v vl vu:Value) (lo hi:Option Int) (sl:Addr) (Q:VK),Inv X pins σ H s->RelV x v->s.heap.IsSliceOf sl vl vu .none->IsPart vl lo->IsPart vu hi->r x lo hi H Q ->
  ∃ T id,typeLookup (.type T) "__getitem__" = pure (some (.builtin id))/\s.TypeIs v T/\wpAny (model X.prog X.w) X.A (getItem v (.ref sl)) (EP X pins σ Q) X.xe s
def tSl (r:V->Option Int->Option Int->Hp->VK->Prop) (te:TE) (tl th:TO):TE:=fun σ H Q=>te σ H fun x H1=>tl σ H1 fun l H2=>th σ H2 fun u H3=>r x l u H3 Q
theorem pe_slice {r:V->Option Int->Option Int->Hp->VK->Prop}(hr:SlR X r) (he:PE X e te) (hl:PO X lo tl) (hu:PO X hi th):PE X (.Subscript e (.Slice lo hi none p2) pos) (tSl r te tl th):=by
 intro pins s σ H Q I h
 refine Subscript_ (thn (he pins s σ H _ I h) fun v s1 ⟨x,H1,I1,r1,q1⟩=>?_)
 refine wpAny_Slice (thn (hl pins s1 σ H1 _ I1 q1) fun vl s2 ⟨l,H2,I2,pl,q2⟩=>thn (hu pins s2 σ H2 _ I2 q2) fun vu s3 ⟨u,H3,I3,pu,q3⟩=>?_)
 rw [evalPart_none]
 refine wpAny_pure ?_
 have I4:Inv X pins σ H3 { s3 with heap:=s3.heap.push { cls:=.type "slice", data:=.fields #[vl,vu,.none] } }:=I3.kept (t':=s3.toks) fun b ob q=>ae _ q
 obtain ⟨T,id,hT,ht,hg⟩:=hr pins { s3 with heap:=s3.heap.push { cls:=.type "slice", data:=.fields #[vl,vu,.none] } } σ H3 x v vl vu l u s3.heap.objs.size Q I4 r1 (Heap.IsSliceOf.new ..) pl pu q3
 show wpAny (model X.prog X.w) X.A (subscriptTail e (.Slice lo hi none p2) v (.ref s3.heap.objs.size)) (EP X pins σ Q) X.xe { s3 with heap:=s3.heap.push { cls:=.type "slice", data:=.fields #[vl,vu,.none] } }
 exact tail_any (ops:=[.ref s3.heap.objs.size,v]) ht hT hg (by with_unfolding_all rfl)
def cutV (xs:List V) (lo hi:Option Int):List V:=(xs.drop (HT.sIx xs.length 0 lo)).take (HT.sIx xs.length xs.length hi-HT.sIx xs.length 0 lo)
theorem cutV_length (xs:List V) (lo hi:Option Int):(cutV xs lo hi).length<=xs.length:=by
 unfold cutV
 rw [lTq,aU]
 omega
end
def ixN (n:Nat) (i:Int):Option Nat:=if 0<=i then (if i<n then some i.toNat else none) else if -(n:Int)<=i then some (i+n).toNat else none
def atI {α:Type}(xs:List α) (i:Int):Option α:=(ixN xs.length i).bind fun j=>xs[j]?
theorem ixN_seq {n:Nat}{i:Int}{j:Nat}(h:ixN n i=some j):seqIndex? i n=some j/\j<n/\-(n:Int)<=i/\i<n:=by
 unfold ixN at h
 by_cases h0:0<=i
 .rw [if_pos h0] at h
  by_cases h1:i<n
  .rw [if_pos h1] at h
   have e:i.toNat=j:=aT.inj h
   exact ⟨by rw [seqIndex_of h0 h1,e],by omega,by omega,h1⟩
  .rw [if_neg h1] at h;cases h
 .rw [if_neg h0] at h
  by_cases h1:-(n:Int)<=i
  .rw [if_pos h1] at h
   have e:(i+n).toNat=j:=aT.inj h
   exact ⟨by rw [seqIndex_neg (by omega) h1,e],by omega,h1,by omega⟩
  .rw [if_neg h1] at h;cases h
theorem atI_get {α:Type}{xs:List α}{i:Int}{v:α}(h:atI xs i=some v):∃ j,seqIndex? i xs.length=some j/\xs[j]?=some v/\j<xs.length/\-(xs.length:Int)<=i/\i<xs.length:=by
 unfold atI at h
 cases e:ixN xs.length i with
 | none=>rw [e] at h;cases h
 | some j =>
  rw [e] at h
  obtain ⟨h1,h2,h3,h4⟩:=ixN_seq e
  exact ⟨j,h1,h,h2,h3,h4⟩
theorem atI_nat {α:Type}{xs:List α}{j:Nat}{v:α}(h:xs[j]?=some v):atI xs (j:Int)=some v:=by
 have hj:j<xs.length:=(gSq.mp h).1
 have e:ixN xs.length (j:Int)=some j:=by
  unfold ixN
  rw [if_pos (by omega),if_pos (by omega)];simp
 unfold atI;rw [e];exact h
def PlainIx (b:Expr):Prop:=∀ o i,subscripted b false o i=operate [o,i] (getItem o i)
def IxR (X:Cx) (r:R2):Prop :=
 ∀ (value slice:Expr) (pins:List (Addr×Obj)) (s:Shared) (σ:St) (H:Hp) (x y:V) (v u:Value) (Q:VK),Inv X pins σ H s->RelV x v->RelV y u->r x y H Q ->
  subscripted slice false v u=operate [v,u] (getItem v u)->wpAny (model X.prog X.w) X.A (subscriptTail value slice v u) (EP X pins σ Q) X.xe s
def MtR (X:Cx) (id:String) (r:V->List V->Hp->VK->Prop):Prop :=
 ∀ (pins:List (Addr×Obj)) (s:Shared) (σ:St) (H:Hp) (x:V) (xs:List V) (v:Value) (us:List Value) (Q:VK),Inv X pins σ H s->RelV x v->Vals xs us->r x xs H Q ->
  wpAny (model X.prog X.w) X.A (call (.builtin id) (v::us)) (EP X pins σ Q) X.xe s
section
variable {X:Cx}{a b:Expr}{ta tb:TE}{pos:Pos}
theorem pe_ix {r:R2}(hr:IxR X r) (ha:PE X a ta) (hb:PE X b tb) (hs:PlainIx b):PE X (.Subscript a b pos) (tOp r ta tb):=by
 intro pins s σ H Q I h
 exact Subscript_ (binT ha hb I h fun v u s2 x y H2 I2 rx ry q=>hr a b pins s2 σ H2 x y v u Q I2 rx ry q (hs _ _))
def rIxL (K:W.Frag):R2:=fun x y H Q=>∃ p xs i v,x = .ref p/\y = .int i/\SqL K H p xs/\atI xs i=some v/\Q v H
def rIxT (K:W.Frag):R2:=fun x y H Q=>∃ p xs i v,x = .ref p/\y = .int i/\SqT K H p xs/\atI xs i=some v/\Q v H
theorem ix_list:IxR X (rIxL X.K):=by
 intro value slice pins s σ H x y v u Q I rx ry h hs
 obtain ⟨p,xs,i,z,rfl,rfl,hq,he,q⟩:=h
 cases rx
 obtain ⟨t,rfl⟩:=ry
 obtain ⟨its,r,pl,hz⟩:=I.list hq
 obtain ⟨j,h1,h2,h3,h4,h5⟩:=atI_get he
 obtain ⟨w,ew,rw'⟩:=r.get h2
 have hl:=r.length
 have hn:=line63
 have fin:EP X pins σ Q w s:=⟨z,H,I,rw',q⟩
 by_cases h0:0<=i
 .have hj:i.toNat=j:=by
   rw [seqIndex_of h0 h5] at h1
   exact aT.inj h1
  exact item_listR pl.isList h0 (by omega) (by rw [hj];simpa using ew) fin hs
 .have hj:(i+(its.toArray.size:Int)).toNat=j:=by
   rw [seqIndex_neg (by omega) h4] at h1
   rw [ax,← hl]
   exact aT.inj h1
  exact subscriptTail_builtinR (x:=w) pl.isList.typeIs slot_list_getitem.lookup
   (wpAny_getItem_list_neg (Q:=fun r s'=>r=w/\EP X pins σ Q r s') pl.isList (by omega) (by rw [ax] <;> omega) (by omega) (by rw [hj];simpa using ew) ⟨rfl,fin⟩) hs
theorem ix_tup:IxR X (rIxT X.K):=by
 intro value slice pins s σ H x y v u Q I rx ry h hs
 obtain ⟨p,xs,i,z,rfl,rfl,hq,he,q⟩:=h
 cases rx
 obtain ⟨t,rfl⟩:=ry
 obtain ⟨its,r,pl,hz⟩:=I.tuple hq
 obtain ⟨j,h1,h2,h3,h4,h5⟩:=atI_get he
 obtain ⟨w,ew,rw'⟩:=r.get h2
 have hl:=r.length
 have hn:=line63
 have fin:EP X pins σ Q w s:=⟨z,H,I,rw',q⟩
 exact subscriptTail_builtinR (x:=w) pl.typeIs slot_tuple_getitem.lookup
  (getItem_tuple (j:=j) (Q:=fun r s'=>r=w/\EP X pins σ Q r s') pl (by omega) (by omega) (by rw [ax,← hl];exact h1) (by simpa using ew) ⟨rfl,fin⟩) hs
theorem slice_bounds (lo hi:Option Int) (n:Nat):(sliceBounds lo hi none n).1=((HT.sIx n 0 lo:Nat):Int)/\(sliceBounds lo hi none n).2.1=((HT.sIx n n hi:Nat):Int)/\(sliceBounds lo hi none n).2.2=1:=by
 refine ⟨?_,?_,rfl⟩
 .cases lo with
  | none=>simp [sliceBounds,HT.sIx]
  | some i =>
   simp only [sliceBounds,HT.sIx,gw,show (1:Int)>0 by decide,if_true]
   by_cases h:i<0
   .simp only [h,if_true] <;> omega
   .simp only [h,if_false] <;> omega
 .cases hi with
  | none=>simp [sliceBounds,HT.sIx]
  | some i =>
   simp only [sliceBounds,HT.sIx,gw,show (1:Int)>0 by decide,if_true]
   by_cases h:i<0
   .simp only [h,if_true] <;> omega
   .simp only [h,if_false] <;> omega
theorem slicePick_cut (its:List Value) (lo hi:Option Int):slicePick its.toArray lo hi none=((its.drop (HT.sIx its.length 0 lo)).take (HT.sIx its.length its.length hi-HT.sIx its.length 0 lo)).toArray:=by
 obtain ⟨h1,h2,h3⟩:=slice_bounds lo hi its.toArray.size
 unfold slicePick
 rw [h1,h2,h3]
 simp only [sliceRange_one,pick_run,ax] <;> rfl
def rSlL (K:W.Frag):V->Option Int->Option Int->Hp->VK->Prop:=fun x lo hi H Q=>∃ a xs,x = .ref a/\SqL K H a xs/\∀ p,H p=none->Q (.ref p) (upd H p (.lst (cutV xs lo hi)))
theorem sl_list:SlR X (rSlL X.K):=by
 intro pins s σ H x v vl vu lo hi sl Q I rx hs pl pu h
 obtain ⟨a,xs,rfl,hx,q⟩:=h
 cases rx
 obtain ⟨its,r,ht,hz⟩:=I.list hx
 have hlen:=r.length
 refine ⟨"list", _,slot_list_getitem.lookup,ht.isList.typeIs,?_⟩
 refine wpAny_getItem_list_slice ht.isList hs pl pu .none (by simp) ?_ (by rw [ax] <;> omega)
 rw [slicePick_cut,← hlen]
 refine ⟨.ref s.heap.objs.size,_,I.laid (t':=s.toks) (o:=.lst (cutV xs lo hi)) (fun b ob q=>ae _ q) (af _) ?_,rfl,q _ (I.hok.fresh (af _))⟩
 exact ⟨bC (cutV_length xs lo hi) hz,_,0,(r.drop (HT.sIx xs.length 0 lo)).take (HT.sIx xs.length xs.length hi-HT.sIx xs.length 0 lo),aQ _ rfl⟩
def flatV:V->Bool
 | .non=>true
 | .bl _=>true
 | .int _=>true
 | .str _=>true
 | _=>false
def eqV:V->V->Bool
 | .non,.non=>true
 | .bl a,.bl b=>a == b
 | .bl a,.int b=>(if a then 1 else 0) == b
 | .int a,.bl b=>a == (if b then 1 else 0)
 | .int a,.int b=>a == b
 | .str a,.str b=>a == b
 | _,_=>false
theorem eqAt_V {A:Around}{s:Shared}{y x:V}{u v:Value}(ry:RelV y u) (rx:RelV x v) (fy:flatV y=true) (fx:flatV x=true):SeqAt.EqAt A s u v (eqV y x):=by
 cases y with
 | non =>
  cases ry
  cases x with
  | non=>cases rx;exact SeqAt.EqAt.same _
  | bl b=>cases rx;exact SeqAt.EqAt.none_bool b
  | int b=>obtain ⟨t,rfl⟩:=rx;exact SeqAt.EqAt.none_int b t
  | str b=>obtain ⟨t,rfl⟩:=rx;exact SeqAt.EqAt.none_str b t
  | _=>exact absurd (show false=true from fx) aw
 | bl a =>
  cases ry
  cases x with
  | non=>cases rx;exact SeqAt.EqAt.bool_none a
  | bl b=>cases rx;exact SeqAt.EqAt.bool_bool a b
  | int b=>obtain ⟨t,rfl⟩:=rx;exact SeqAt.EqAt.bool_int a b t
  | str b=>obtain ⟨t,rfl⟩:=rx;exact SeqAt.EqAt.bool_str a b t
  | _=>exact absurd (show false=true from fx) aw
 | int a =>
  obtain ⟨t',rfl⟩:=ry
  cases x with
  | non=>cases rx;exact SeqAt.EqAt.int_none a t'
  | bl b=>cases rx;exact SeqAt.EqAt.int_bool a t' b
  | int b=>obtain ⟨t,rfl⟩:=rx;exact SeqAt.EqAt.int_int a t' b t
  | str b=>obtain ⟨t,rfl⟩:=rx;exact SeqAt.EqAt.int_str a t' b t
  | _=>exact absurd (show false=true from fx) aw
 | str a =>
  obtain ⟨t',rfl⟩:=ry
  cases x with
  | non=>cases rx;exact SeqAt.EqAt.str_none a t'
  | bl b=>cases rx;exact SeqAt.EqAt.str_bool a t' b
  | int b=>obtain ⟨t,rfl⟩:=rx;exact SeqAt.EqAt.str_int a t' b t
  | str b=>obtain ⟨t,rfl⟩:=rx;exact SeqAt.EqAt.str_str a t' b t
  | _=>exact absurd (show false=true from fx) aw
 | _=>exact absurd (show false=true from fy) aw
def eqU (x:V) (u:Value):Bool:=match u with
 | .none=>eqV .non x
 | .bool b=>eqV (.bl b) x
 | .int i _=>eqV (.int i) x
 | .str z _=>eqV (.str z) x
 | _=>false
theorem eqU_of {x y:V}{u:Value}(r:RelV y u) (f:flatV y=true):eqU x u=eqV y x:=by
 cases y with
 | non=>cases r;rfl
 | bl b=>cases r;rfl
 | int i=>obtain ⟨t,rfl⟩:=r;rfl
 | str z=>obtain ⟨t,rfl⟩:=r;rfl
 | _=>exact absurd (show false=true from f) aw
theorem any_eqU {x:V}:∀ {xs:List V}{us:List Value},Vals xs us->xs.all flatV=true->us.any (eqU x)=xs.any fun y=>eqV y x
 | _,_,.nil,_=>rfl
 | y::xs,u::us,.cons r t,f=>by
  rw [fW,cT] at f
  rw [cF,cF,eqU_of r f.1,any_eqU t f.2]
theorem mem_eqAt {A:Around}{s:Shared}{x:V}{v:Value}(rx:RelV x v) (fx:flatV x=true):∀ {xs:List V}{us:List Value},Vals xs us->xs.all flatV=true->∀ u∈us,SeqAt.EqAt A s u v (eqU x u)
 | _,_,.nil,_=>fun u hu=>by cases hu
 | y::xs,u::us,.cons r t,f=>fun u' hu=>by
  rw [fW,cT] at f
  rcases ai.mp hu with rfl|hu
  .rw [eqU_of r f.1];exact eqAt_V r rx f.1 fx
  .exact mem_eqAt rx fx t f.2 u' hu
def inV (x:V) (xs:List V):Bool:=xs.any fun y=>eqV y x
def rIn (K:W.Frag) (neg:Bool):R2:=fun x y H Q=>∃ p xs,y = .ref p/\(SqL K H p xs∨SqT K H p xs)/\flatV x=true/\xs.all flatV=true/\Q (.bl (if neg then !inV x xs else inV x xs)) H
theorem op_in_seq:OpR X (compareOp .In) (rIn X.K false):=by
 intro pins s σ H x y v u Q I rx ry h
 obtain ⟨p,xs,rfl,hq,fx,fs,q⟩:=h
 cases ry
 rcases hq with hq|hq
 .obtain ⟨its,r,pl,hz⟩:=I.list hq
  refine SeqAt.in_listAt (eqU x) pl.isList (fun w hw=>mem_eqAt rx fx r fs w (by simpa using hw)) ⟨.bl _,H,I,rfl,?_⟩
  rw [show its.toArray.any (eqU x)=its.any (eqU x) by simp,any_eqU r fs]
  exact q
 .obtain ⟨its,r,pl,hz⟩:=I.tuple hq
  refine SeqAt.in_tupleAt (eqU x) pl (fun w hw=>mem_eqAt rx fx r fs w (by simpa using hw)) ⟨.bl _,H,I,rfl,?_⟩
  rw [show its.toArray.any (eqU x)=its.any (eqU x) by simp,any_eqU r fs]
  exact q
theorem op_notIn_seq:OpR X (compareOp .NotIn) (rIn X.K true):=by
 intro pins s σ H x y v u Q I rx ry h
 obtain ⟨p,xs,rfl,hq,fx,fs,q⟩:=h
 cases ry
 rcases hq with hq|hq
 .obtain ⟨its,r,pl,hz⟩:=I.list hq
  refine SeqAt.notIn_listAt (eqU x) pl.isList (fun w hw=>mem_eqAt rx fx r fs w (by simpa using hw)) ⟨.bl _,H,I,rfl,?_⟩
  rw [show its.toArray.any (eqU x)=its.any (eqU x) by simp,any_eqU r fs]
  exact q
 .obtain ⟨its,r,pl,hz⟩:=I.tuple hq
  refine SeqAt.notIn_tupleAt (eqU x) pl (fun w hw=>mem_eqAt rx fx r fs w (by simpa using hw)) ⟨.bl _,H,I,rfl,?_⟩
  rw [show its.toArray.any (eqU x)=its.any (eqU x) by simp,any_eqU r fs]
  exact q
theorem call_list_of:CallR X (.type "list") (fun xs H Q=>∃ p ys,xs=[.ref p]/\(SqL X.K H p ys∨SqT X.K H p ys)/\∀ l,H l=none->Q (.ref l) (upd H l (.lst ys))):=by
 intro pins s σ H xs us Q I r h
 obtain ⟨p,ys,rfl,hq,q⟩:=h
 obtain ⟨u,rfl,rx⟩:=vals1 r
 cases rx
 have fin:∀ (its:List Value),Vals ys its->ys.length<=sizeLine->∀ (h':Heap) (c':Nat),(∀ b o',s.heap.get? b=some o'->h'.get? b=some o') ->
   h'.get? s.heap.objs.size=some { cls:=.type "list", dict:=none,data:=.seq its.toArray c',slots:=#[] }->EP X pins σ Q (.ref s.heap.objs.size) { s with heap:=h' }:=fun its r' hz h' c' kp e =>
  ⟨.ref s.heap.objs.size,_,I.laid (t':=s.toks) kp (af _) (show ObjOk X.prog X.w _ h' _ (.lst ys) from ⟨hz,its,c',r',e⟩),rfl,q _ (I.hok.fresh (af _))⟩
 rcases hq with hq|hq
 .obtain ⟨its,r',pl,hz⟩:=I.list hq
  have hlen:=r'.length
  obtain ⟨o,ho,hc,n,hd⟩:=pl.isList
  exact call_list_seq p (.inl rfl) ho hc hd (fun h' c' kp e=>fin its r' hz h' c' kp e) (by simp only [ax] <;> omega)
 .obtain ⟨its,r',pl,hz⟩:=I.tuple hq
  have hlen:=r'.length
  obtain ⟨o,ho,hc,n,hd⟩:=pl
  exact call_list_seq p (.inr rfl) ho hc hd (fun h' c' kp e=>fin its r' hz h' c' kp e) (by simp only [ax] <;> omega)
def tyV (K:W.Frag) (T:String) (x:V) (H:Hp):Prop:=match x with
 | .str _=>T = "str"
 | .int _=>T = "int"
 | .ref p=>(T = "list" /\ ∃ xs,SqL K H p xs)∨(T = "tuple" /\ ∃ o,K.lookup p=some o/\o.cls = .type "tuple" /\ o.dict=none) ∨
   (T = "dict" /\ ((∃ kvs,H p=some (.dK kvs))∨∃ kvs,H p=some (.dT kvs)))∨(T = "set" /\ ∃ S n,H p=some (.set S n))
 | _=>False
theorem tyV_is {pins:List (Addr×Obj)}{σ:St}{H:Hp}{s:Shared}{T:String}{x:V}{v:Value}(I:Inv X pins σ H s) (r:RelV x v) (ty:tyV X.K T x H) :
  s.TypeIs v T/\∀ a,v = .ref a->∃ ob,s.heap.get? a=some ob/\ob.dict=none:=by
 cases x with
 | str z =>
  obtain ⟨t,rfl⟩:=r
  cases (show T = "str" from ty)
  exact ⟨typeIs_str s z t,fun _ e=>nomatch e⟩
 | int i =>
  obtain ⟨t,rfl⟩:=r
  cases (show T = "int" from ty)
  exact ⟨typeIs_int s i t,fun _ e=>nomatch e⟩
 | ref p =>
  cases r
  rcases ty with ⟨rfl,xs,hq⟩|⟨rfl,o,hk,hc,hd⟩|⟨rfl,hk⟩|⟨rfl,S,n,hk⟩
  .obtain ⟨its,_,pl,_⟩:=I.list hq
   refine ⟨pl.isList.typeIs,fun a e=>?_⟩
   cases e
   obtain ⟨o,n,e,c,hd,_⟩:=pl
   exact ⟨o,e,hd⟩
  .refine ⟨⟨o,I.kIn p o hk,hc⟩,fun a e=>?_⟩
   cases e
   exact ⟨o,I.kIn _ o hk,hd⟩
  .have z:∃ o,s.heap.get? p=some o/\o.ExactDict:=by
    rcases hk with ⟨kvs,hk⟩|⟨kvs,hk⟩
    .obtain ⟨_,_,_,_,o,_,_,e,ex,_⟩:=I.hok p _ hk
     exact ⟨o,e,ex⟩
    .obtain ⟨_,_,_,_,o,_,_,e,ex,_⟩:=I.hok p _ hk
     exact ⟨o,e,ex⟩
   obtain ⟨o,e,ex⟩:=z
   refine ⟨⟨o,e,ex.1⟩,fun a e2=>?_⟩
   cases e2
   exact ⟨o,e,ex.2.1⟩
  .obtain ⟨o,_,_,_,e,ex,_⟩:=I.hok p _ hk
   refine ⟨⟨o,e,ex.1⟩,fun a e2=>?_⟩
   cases e2
   exact ⟨o,e,ex.2.1⟩
 | _=>exact False.elim ty
def tBM0 (K:W.Frag) (T:String) (r:V->List V->Hp->VK->Prop) (to:TE):TE:=fun σ H Q=>to σ H fun x H1=>tyV K T x H1/\r x [] H1 Q
def tBM (K:W.Frag) (T:String) (r:V->List V->Hp->VK->Prop) (to:TE) (t:TA):TE:=fun σ H Q=>to σ H fun x H1=>tyV K T x H1/\t σ H1 fun xs H2=>r x xs H2 Q
variable {o e:Expr}{es:List Expr}{to:TE}{t:TA}{name:Str}{apos cpos:Pos}{T id:String}{r:V->List V->Hp->VK->Prop}
theorem pe_bm0 (pa:PlainAttrs T) (slot:Slot T name id) (hty:typeOf (.builtin id)=pure (.type "method_descriptor")) (hm:MtR X id r) (ho:PE X o to)
  (hbase:attributeBase o name X.env (eval o X.env)=eval o X.env:=by rfl) (hline:(apos.endLine == cpos.line)=true:=by rfl):PE X (.Call (.Attribute o name apos) [] [] cpos) (tBM0 X.K T r to):=by
 intro pins s σ H Q I h
 refine wpAny_Call_method0_late hbase hline (thn (ho pins s σ H _ I h) fun v s1 ⟨x,H1,I1,r1,ty,q1⟩=>?_)
 obtain ⟨h1,h2⟩:=tyV_is I1 r1 ty
 exact ⟨T,id,pa,slot,hty,h1,h2,Calls.callWith_builtin rfl (PySem.evalArgs_none (hm pins s1 σ H1 x [] v [] Q I1 r1 .nil q1))⟩
theorem pe_bm (pa:PlainAttrs T) (slot:Slot T name id) (hty:typeOf (.builtin id)=pure (.type "method_descriptor")) (hm:MtR X id r) (ho:PE X o to) (ha:PA X (e::es) t)
  (hbase:attributeBase o name X.env (eval o X.env)=eval o X.env:=by rfl)
  (hfew:((backTo cpos (starEach (e::es) X.env)).all (fun x=>!x.1) && (backToKw cpos (keywordEach [] X.env)).all (fun x=>x.1.isSome)
   && decide ((e::es).length+([]:List Keyword).length+(if ([]:List Keyword).isEmpty then 0 else 1)<30))=true:=by rfl)
  (hline:(apos.endLine == cpos.line)=true:=by rfl) (hs:starEach (e::es) X.env=(false,eval e X.env)::starEach es X.env:=by rfl) (hplain:(backTo cpos (starEach es X.env)).any (·.1)=false:=by rfl) :
  PE X (.Call (.Attribute o name apos) (e::es) [] cpos) (tBM X.K T r to t):=by
 intro pins s σ H Q I h
 refine wpAny_Call_method_late hbase hfew hline rfl (thn (ho pins s σ H _ I h) fun v s1 ⟨x,H1,I1,r1,ty,q1⟩=>?_)
 obtain ⟨h1,h2⟩:=tyV_is I1 r1 ty
 refine ⟨T,id,pa,slot,hty,h1,h2,?_⟩
 have hA:=ha cpos pins s1 σ H1 _ I1 q1
 rw [hs] at hA ⊢
 refine Calls.callWith_builtin (by show (false || (backTo cpos (starEach es X.env)).any (·.1))=false;rw [hplain] <;> rfl) (Calls.evalArgs_plain ?_)
 exact thn hA fun us s2 ⟨vs,H2,I2,r2,q2⟩=>hm pins s2 σ H2 x vs v us Q I2 r1 r2 q2
/- xs.append(e),list.index on a module's tuple .. are MtR facts of 06m -/
end
def MtM (X:Cx) (id:String) (r:V->List V->Hp->VK->Prop):Prop :=
 ∀ (pins:List (Addr×Obj)) (s:Shared) (σ:St) (H:Hp) (x:V) (xs:List V) (v:Value) (us:List Value) (Q:VK),Inv X pins σ H s->RelV x v->Vals xs us->r x xs H Q ->
  wpAny (model X.prog X.w) X.A (call (.builtin id) (v::us)) (EP X pins σ Q) X.xe s
theorem Vals.one:∀ {x:V}{us:List Value},Vals [x] us->∃ u,us=[u]/\RelV x u
 | _,_,.cons r .nil=>⟨_,rfl,r⟩
theorem Vals.zero:∀ {us:List Value},Vals [] us->us=[]
 | _,.nil=>rfl
theorem Vals.dropLast {xs:List V}{us:List Value}(h:Vals xs us):Vals xs.dropLast us.dropLast:=by
 induction h with
 | nil=>exact .nil
 | cons r t ih =>
  cases t with
  | nil=>exact .nil
  | cons q t'=>exact .cons r ih
theorem Vals.eraseIdx:∀ {xs:List V}{us:List Value}(i:Nat),Vals xs us->Vals (xs.eraseIdx i) (us.eraseIdx i)
 | _,_,_,.nil=>.nil
 | _,_,0,.cons _ t=>t
 | _,_,i+1,.cons r t=>.cons r (Vals.eraseIdx i t)
theorem erase_last {α:Type}(l:List α):l.eraseIdx (l.length-1)=l.dropLast:=by
 induction l with
 | nil=>rfl
 | cons a r ih =>
  cases r with
  | nil=>rfl
  | cons b r =>
   have e:(a::b::r).length-1=((b::r).length-1)+1:=by
    have h1:(a::b::r).length=r.length+2:=rfl
    have h2:(b::r).length=r.length+1:=rfl
    omega
   rw [e,cc,ih]
   all_goals rfl
theorem len_erase {α:Type}:∀ (l:List α) (i:Nat),(l.eraseIdx i).length<=l.length
 | [],_=>af _
 | _::_,0=>bA _
 | _::r,i+1=>Nat.succ_le_succ (len_erase r i)
section
variable {X:Cx}{pins:List (Addr×Obj)}{σ:St}{H:Hp}{s:Shared}{l b:Addr}{xs ys zs:List V}
theorem Inv.lset {its its':List Value}{n:Nat}{f:Array Value->Array Value}{t':Nat}(I:Inv X pins σ H s) (hH:H l=some (.lst xs))
  (e:s.heap.get? l=some { cls:=.type "list", data:=.seq its.toArray n }) (hf:f its.toArray=its'.toArray) (hv:Vals ys its') (hz:ys.length<=sizeLine) :
  Inv X pins σ (upd H l (.lst ys)) { s with heap:=s.heap.update l (Obj.mapSeq f),toks:=t' }:=by
 have q:=PySem.IsL.update e f
 rw [hf] at q
 refine I.write (x:=l) (e:=l) (by rw [hH];exact trivial) (.inl rfl) (fun b' u hb hu=>(bz s.heap (Obj.mapSeq f) (Ne.symm hb)).trans hu) ⟨_,q⟩ ?_
 exact ⟨hz,its',_,hv,q⟩
theorem Inv.lnew {its:List Value}{t':Nat}(I:Inv X pins σ H s) (hv:Vals ys its) (hz:ys.length<=sizeLine) :
  Inv X pins σ (upd H s.heap.objs.size (.lst ys)) { s with heap:=s.heap.push { cls:=.type "list", data:=.seq its.toArray },toks:=t' } :=
 I.laid (fun _ _ q=>ae _ q) (af _) ⟨hz,its,0,hv,aQ _ rfl⟩
theorem Inv.fresh (I:Inv X pins σ H s):H s.heap.objs.size=none:=I.hok.fresh (af _)
theorem Inv.lstM (I:Inv X pins σ H s) (hH:H l=some (.lst xs)):xs.length<=sizeLine/\∃ (its:List Value) (n:Nat),Vals xs its/\xs.length=its.length/\s.heap.get? l=some { cls:=.type "list", data:=.seq its.toArray n }:=by
 obtain ⟨z,its,n,r,e⟩:=I.hok l _ hH
 exact ⟨z,its,n,r,r.length,e⟩
theorem notLongL {n:Nat}(h:n<=sizeLine):Builtin.List.listTooLong n=false:=by
 unfold Builtin.List.listTooLong
 exact decide_eq_false (by omega)
end
section
variable {X:Cx}
def rAppend:V->List V->Hp->VK->Prop:=fun x vs H Q=>∃ l xs y,x = .ref l/\vs=[y]/\H l=some (.lst xs)/\xs.length<sizeLine/\Q .non (upd H l (.lst (xs++[y])))
theorem mt_append:MtM X "list.append" rAppend:=by
 intro pins s σ H x vs v us Q I rx rv h
 obtain ⟨l,xs,y,rfl,rfl,hH,hz,q⟩:=h
 cases rx
 obtain ⟨u,rfl,ru⟩:=rv.one
 obtain ⟨z,its,n,r,hl,e⟩:=I.lstM hH
 refine call_meets F.slot_list_append ⟨_,e,rfl⟩ F.entry_list_append (F.args_list_append_2 _ _) (PySem.list_append l its.toArray n u (by rw [ax];omega)) ⟨e,?_⟩
 refine ⟨.non,_,I.lset (its':=its++[u]) hH e (by simp) (r.append (.cons ru .nil)) ?_,rfl,q⟩
 rw [lAq,lSq]
 omega
def rExtend:V->List V->Hp->VK->Prop:=fun x vs H Q=>∃ l b xs zs,x = .ref l/\vs=[.ref b]/\H l=some (.lst xs)/\H b=some (.lst zs)/\xs.length+zs.length<=sizeLine/\Q .non (upd H l (.lst (xs++zs)))
theorem mt_extend:MtM X "list.extend" rExtend:=by
 intro pins s σ H x vs v us Q I rx rv h
 obtain ⟨l,b,xs,zs,rfl,rfl,hH,hB,hz,q⟩:=h
 cases rx
 obtain ⟨u,rfl,ru⟩:=rv.one
 cases ru
 obtain ⟨z,its,n,r,hl,e⟩:=I.lstM hH
 obtain ⟨z2,its2,n2,r2,hl2,e2⟩:=I.lstM hB
 have hsz:its.toArray.size+its2.toArray.size<=sizeLine:=by rw [ax,ax];omega
 have hlong:¬ (!its.toArray.isEmpty && Builtin.List.listTooLong (its.toArray.size+its2.toArray.size))=true:=by
  rw [notLongL hsz,Bool.and_false]
  exact aw
 refine call_meets F.slot_list_extend ⟨_,e,rfl⟩ F.entry_list_extend (F.args_list_extend_2 _ _)
  (AutoSeq1.list_extend_list_list_0 l its.toArray n b its2.toArray n2 hlong (by rw [ax];omega) (by omega)) ⟨e,e2,?_⟩
 refine ⟨.non,_,I.lset (its':=its++its2) hH e (by simp) (r.append r2) ?_,rfl,q⟩
 rw [lAq]
 omega
def rPop:V->List V->Hp->VK->Prop:=fun x vs H Q=>∃ l xs y,x = .ref l/\vs=[]/\H l=some (.lst xs)/\xs[xs.length-1]?=some y/\Q y (upd H l (.lst xs.dropLast))
theorem mt_pop:MtM X "list.pop" rPop:=by
 intro pins s σ H x vs v us Q I rx rv h
 obtain ⟨l,xs,y,rfl,rfl,hH,hy,q⟩:=h
 cases rx
 have hus:=rv.zero
 subst hus
 obtain ⟨z,its,n,r,hl,e⟩:=I.lstM hH
 obtain ⟨u,hu,ru⟩:=r.get hy
 have hy':its.toArray[its.toArray.size-1]?=some u:=by
  show its.toArray[its.length-1]?=some u
  rw [← aA,← hl]
  exact hu
 refine call_meets F.slot_list_pop ⟨_,e,rfl⟩ F.entry_list_pop (F.args_list_pop_1 _) (MeetsSeq.list_pop_last l its.toArray n u hy' (by rw [ax];omega)) ⟨e,?_⟩
 refine ⟨y,_,I.lset (its':=its.dropLast) hH e ?_ r.dropLast ?_,ru,q⟩
 .show its.toArray.eraseIdxIfInBounds (its.toArray.size-1)=its.dropLast.toArray
  rw [ax,eA,erase_last]
 .rw [List.length_dropLast]
  omega
def rPopAt:V->List V->Hp->VK->Prop:=fun x vs H Q=>∃ l xs i k y,x = .ref l/\vs=[.int i]/\H l=some (.lst xs)/\-(2 ^ 63)<=i/\i<2 ^ 63/\seqIndex? i xs.length=some k/\xs[k]?=some y/\Q y (upd H l (.lst (xs.eraseIdx k)))
theorem mt_popAt:MtM X "list.pop" rPopAt:=by
 intro pins s σ H x vs v us Q I rx rv h
 obtain ⟨l,xs,i,k,y,rfl,rfl,hH,h1,h2,hk,hy,q⟩:=h
 cases rx
 obtain ⟨u,rfl,ru⟩:=rv.one
 obtain ⟨t,rfl⟩:=ru
 obtain ⟨z,its,n,r,hl,e⟩:=I.lstM hH
 obtain ⟨w,hw,rw'⟩:=r.get hy
 refine call_meets F.slot_list_pop ⟨_,e,rfl⟩ F.entry_list_pop (F.args_list_pop_2 _ _)
  (MeetsSeq.list_pop_at l its.toArray n i t k w (fitsIndex_both h1 h2) (by rw [ax,← hl];exact hk) (by rw [← aA];exact hw) (by rw [ax];omega)) ⟨e,?_⟩
 refine ⟨y,_,I.lset (its':=its.eraseIdx k) hH e ?_ (r.eraseIdx k) ?_,rw',q⟩
 .show its.toArray.eraseIdxIfInBounds k=(its.eraseIdx k).toArray
  rw [eA]
 .have:=len_erase xs k
  omega
def rCat:R2:=fun x y H Q=>∃ l b xs zs,x = .ref l/\y = .ref b/\H l=some (.lst xs)/\H b=some (.lst zs)/\xs.length+zs.length<=sizeLine/\∀ p,H p=none->Q (.ref p) (upd H p (.lst (xs++zs)))
theorem op_cat:OpR X (binaryOp .Add) rCat:=by
 intro pins s σ H x y v u Q I rx ry h
 obtain ⟨l,b,xs,zs,rfl,rfl,hH,hB,hz,q⟩:=h
 cases rx
 cases ry
 obtain ⟨z,its,n,r,hl,e⟩:=I.lstM hH
 obtain ⟨z2,its2,n2,r2,hl2,e2⟩:=I.lstM hB
 refine PySem.P.add_list e e2 ?_ (by rw [ax,ax];omega)
 have ea:its.toArray++its2.toArray=(its++its2).toArray:=by simp
 rw [ea]
 exact ⟨.ref _,_,I.lnew (t':=s.toks) (r.append r2) (by rw [lAq];omega),rfl,q _ I.fresh⟩
end
section
variable {κ:Type} [DecidableEq κ]
def valV (kvs:List (κ×V)) (k:κ):Option V:=(kvs.find? fun kv=>decide (kv.1=k)).map (·.2)
def putK (kvs:List (κ×V)) (k:κ) (v:V):List (κ×V) :=
 if (kvs.any fun kv=>decide (kv.1=k))=true then kvs.map (fun kv=>if kv.1=k then (kv.1,v) else kv) else kvs++[(k,v)]
theorem valV_pos {p:κ×V}{r:List (κ×V)}{k:κ}(e:p.1=k):valV (p::r) k=some p.2:=by simp [valV,de,e]
theorem valV_neg {p:κ×V}{r:List (κ×V)}{k:κ}(e:¬ p.1=k):valV (p::r) k=valV r k:=by simp [valV,de,e]
theorem valV_any (k:κ):∀ kvs:List (κ×V),(kvs.any fun kv=>decide (kv.1=k))=(valV kvs k).isSome
 | []=>rfl
 | p::r=>by
  rw [cF]
  by_cases e:p.1=k
  .simp only [valV_pos e,decide_eq_true e,Bool.true_or,Option.isSome_some]
  .rw [valV_neg e,decide_eq_false e,Bool.false_or];exact valV_any k r
theorem length_putK (kvs:List (κ×V)) (k:κ) (v:V):(putK kvs k v).length<=kvs.length+1:=by
 unfold putK
 split
 .rw [lMq];omega
 .rw [lAq,lCq,df];omega
theorem RelO.isSome_eq {o:Option V}{u:Option Value}(r:RelO o u):o.isSome=u.isSome:=by
 cases o with
 | none=>cases u with
  | none=>rfl
  | some _=>exact (show False from r).elim
 | some _=>cases u with
  | none=>exact (show False from r).elim
  | some _=>rfl
theorem KV.val {kvs:List (κ×V)}{vs:List (κ×Value)}(r:KV kvs vs) (k:κ):RelO (valV kvs k) (valueAt vs k):=by
 unfold KV at r
 induction r with
 | nil=>exact True.intro
 | @cons p q ps qs h t ih =>
  obtain ⟨h1,h2⟩:=h
  by_cases e:p.1=k
  .have e':q.1=k:=h1.symm.trans e
   have b:valueAt (q::qs) k=some q.2:=by simp [valueAt,de,e']
   rw [valV_pos e,b];exact h2
  .have e':¬ q.1=k:=fun z=>e (h1.trans z)
   have b:valueAt (q::qs) k=valueAt qs k:=by simp [valueAt,de,e']
   rw [valV_neg e,b];exact ih
theorem KV.any {kvs:List (κ×V)}{vs:List (κ×Value)}(r:KV kvs vs) (k:κ):(kvs.any fun kv=>decide (kv.1=k))=vs.any fun kv=>decide (kv.1=k):=by
 unfold KV at r
 induction r with
 | nil=>rfl
 | cons h t ih=>rw [cF,cF,ih,h.1]
theorem KV.repl {kvs:List (κ×V)}{vs:List (κ×Value)}(r:KV kvs vs) (k:κ) {y:V}{u:Value}(ry:RelV y u) :
  KV (kvs.map fun kv=>if kv.1=k then (kv.1,y) else kv) (vs.map fun kv=>if kv.1=k then (kv.1,u) else kv):=by
 unfold KV at r ⊢
 induction r with
 | nil=>exact .nil
 | @cons p q ps qs h t ih =>
  rw [aq,aq]
  refine .cons ?_ ih
  obtain ⟨h1,h2⟩:=h
  by_cases e:p.1=k
  .rw [if_pos e,if_pos (h1.symm.trans e)];exact ⟨h1,ry⟩
  .rw [if_neg e,if_neg (fun z=>e (h1.trans z))];exact ⟨h1,h2⟩
theorem KV.put {kvs:List (κ×V)}{vs:List (κ×Value)}(r:KV kvs vs) (k:κ) {y:V}{u:Value}(ry:RelV y u):KV (putK kvs k y) (stored vs k u):=by
 unfold putK stored
 rw [r.any k]
 by_cases e:(vs.any fun kv=>decide (kv.1=k))=true
 .rw [if_pos e,if_pos e];exact r.repl k ry
 .rw [if_neg e,if_neg e];exact Paired.snoc r ⟨rfl,ry⟩
theorem KV.length {kvs:List (κ×V)}{vs:List (κ×Value)}(r:KV kvs vs):kvs.length=vs.length:=Paired.length r
end
theorem kV_is {P:Program}{w:World}{k:Key}{u:Value}(r:RelV (kV k) u):(mixKind P w).is k u=true:=by
 cases k with
 | inl i=>obtain ⟨t,e⟩:=(show ∃ t,u=eY i t from r);subst e;exact mixKind_int P w i t
 | inr x=>obtain ⟨t,e⟩:=(show ∃ t,u=gm x t from r);subst e;exact mixKind_str P w x t
theorem items_are {P:Program}{w:World}:∀ {ks:List Key}{us:List Value},Vals (ks.map kV) us->ItemsAre (mixKind P w) ks us
 | [],_,r=>by rw [eN] at r;cases r;exact .nil
 | k::ks,_,r=>by
  rw [aq] at r
  cases r with
  | cons h t=>exact .cons (kV_is h) (items_are t)
abbrev KT (H:Hp):List (List Key×V)->List (List Key×Addr×Value)->Prop:=Paired fun p q=>p.1=q.1/\H q.2.1=some (.tup (p.1.map kV))/\RelV p.2 q.2.2
theorem KT.val {H:Hp}{kvs:List (List Key×V)}{xs:List (List Key×Addr×Value)}(r:KT H kvs xs) (k:List Key):RelO (valV kvs k) ((atKey xs k).map (·.2)):=by
 induction r with
 | nil=>exact True.intro
 | @cons p q ps qs h t ih =>
  obtain ⟨h1,_,h2⟩:=h
  by_cases e:p.1=k
  .have e':q.1=k:=h1.symm.trans e
   have b:atKey (q::qs) k=some q.2:=by simp [atKey,de,e']
   rw [valV_pos e,b];exact h2
  .have e':¬ q.1=k:=fun z=>e (h1.trans z)
   have b:atKey (q::qs) k=atKey qs k:=by simp [atKey,de,e']
   rw [valV_neg e,b];exact ih
theorem KT.repl {H:Hp}{kvs:List (List Key×V)}{xs:List (List Key×Addr×Value)}(r:KT H kvs xs) (k:List Key) {y:V}{u:Value}(ry:RelV y u) :
  KT H (kvs.map fun kv=>if kv.1=k then (kv.1,y) else kv) (xs.map (putAt k u)):=by
 induction r with
 | nil=>exact .nil
 | @cons p q ps qs h t ih =>
  rw [aq,aq]
  refine .cons ?_ ih
  obtain ⟨h1,h2,h3⟩:=h
  unfold putAt
  by_cases e:p.1=k
  .rw [if_pos e,if_pos (h1.symm.trans e)];exact ⟨h1,h2,ry⟩
  .rw [if_neg e,if_neg (fun z=>e (h1.trans z))];exact ⟨h1,h2,h3⟩
theorem KT.put {H:Hp}{kvs:List (List Key×V)}{xs:List (List Key×Addr×Value)}(r:KT H kvs xs) (k:List Key) {b:Addr}{y:V}{u:Value}(hb:H b=some (.tup (k.map kV))) (ry:RelV y u) :
  KT H (putK kvs k y) (storedH xs k b u):=by
 have e:(kvs.any fun kv=>decide (kv.1=k))=(atKey xs k).isSome:=by
  rw [valV_any,(r.val k).isSome_eq,dX]
 unfold putK storedH
 rw [e]
 by_cases q:(atKey xs k).isSome=true
 .rw [if_pos q,if_pos q];exact r.repl k ry
 .rw [if_neg q,if_neg q];exact Paired.snoc r ⟨rfl,hb,ry⟩
theorem KT.keeps {H H':Hp}{kvs:List (List Key×V)}{xs:List (List Key×Addr×Value)}(r:KT H kvs xs) (ht:∀ b ys,H b=some (.tup ys)->H' b=some (.tup ys)):KT H' kvs xs :=
 Paired.mapP r fun _ _ z=>⟨z.1,ht _ _ z.2.1,z.2.2⟩
section
variable {P:Program}{w:World}{H:Hp}{h:Heap}{a:Addr}
theorem rd_of {u:HO}(ok:HOk P w H h) (e:Rd H a u):ObjOk P w H h a u:=e.ok ok
theorem dk_rd {kvs:List (Key×V)}(ok:HOk P w H h) (e:Rd H a (.dK kvs)):kvs.length<=sizeLine/\(a == sysModules)=false/\∃ vs,KV kvs vs/\h.DictOf (mixKind P w) a vs :=
 show ObjOk P w H h a (.dK kvs) from rd_of ok e
theorem dk_of {kvs:List (Key×V)}(ok:HOk P w H h) (e:H a=some (.dK kvs)):kvs.length<=sizeLine/\(a == sysModules)=false/\∃ vs,KV kvs vs/\h.DictOf (mixKind P w) a vs:=dk_rd ok (.inl e)
theorem key_of {ks:List Key}(ok:HOk P w H h) (e:H a=some (.tup (ks.map kV))):(tupleKind (mixKind P w)).is h ks a:=by
 obtain ⟨_,its,r,o,h1,h2,n,h3⟩:=(show ObjOk P w H h a (.tup (ks.map kV)) from ok a _ e)
 exact ⟨o,its.toArray,n,h1,h2,h3,by simpa using items_are r⟩
theorem dt_rd {kvs:List (List Key×V)}(ok:HOk P w H h) (e:Rd H a (.dT kvs)):kvs.length<=sizeLine/\(a == sysModules)=false /\
  ∃ xs,KT H kvs xs/\h.DictOfH (tupleKind (mixKind P w)) a xs:=by
 obtain ⟨z,y,xs,r,o,es,ep,h1,h2,h3,h4,h5⟩:=(show ObjOk P w H h a (.dT kvs) from rd_of ok e)
 refine ⟨z,y,xs,r,o,es,ep,h1,h2,h3,h4,fun x hx=>?_,h5⟩
 have all:∀ {l:List (List Key×V)}{m:List (List Key×Addr×Value)},KT H l m->∀ x∈m,(tupleKind (mixKind P w)).is h x.1 x.2.1:=by
  intro l m q
  induction q with
  | nil=>intro x hx;exact nomatch hx
  | @cons p q ps qs hq t ih =>
   intro x hx
   rcases ai.mp hx with e|hx
   .subst e
    exact key_of ok (by rw [← hq.1];exact hq.2.1)
   .exact ih x hx
 exact all r x hx
theorem dt_of {kvs:List (List Key×V)}(ok:HOk P w H h) (e:H a=some (.dT kvs)):kvs.length<=sizeLine/\(a == sysModules)=false /\
  ∃ xs,KT H kvs xs/\h.DictOfH (tupleKind (mixKind P w)) a xs:=dt_rd ok (.inl e)
end
def DGet (H:Hp) (a:Addr) (y:V) (r:Option V):Prop :=
 (∃ kvs k,Rd H a (.dK kvs)/\y=kV k/\r=valV kvs k)∨∃ kvs k b,Rd H a (.dT kvs)/\y = .ref b/\H b=some (.tup (k.map kV))/\r=valV kvs k
def DPut (H:Hp) (a:Addr) (y v:V) (H':Hp):Prop :=
 (∃ kvs k,H a=some (.dK kvs)/\y=kV k/\kvs.length<sizeLine/\H'=upd H a (.dK (putK kvs k v))) ∨
 ∃ kvs k b,H a=some (.dT kvs)/\y = .ref b/\H b=some (.tup (k.map kV))/\kvs.length<sizeLine/\H'=upd H a (.dT (putK kvs k v))
theorem DGet.k {H:Hp}{a:Addr}{kvs:List (Key×V)}{k:Key}(e:H a=some (.dK kvs)):DGet H a (kV k) (valV kvs k):=.inl ⟨kvs,k,.inl e,rfl,rfl⟩
theorem DPut.k {H:Hp}{a:Addr}{kvs:List (Key×V)}{k:Key}{v:V}(e:H a=some (.dK kvs)) (hl:kvs.length<sizeLine):DPut H a (kV k) v (upd H a (.dK (putK kvs k v))):=.inl ⟨kvs,k,e,rfl,hl,rfl⟩
section
variable {X:Cx}{pins:List (Addr×Obj)}{σ:St}{H:Hp}{s:Shared}{a:Addr}{y v:V}{u r:Value}{o:Option V}{A:Around}{E:Value->Shared->Prop}
theorem Inv.big (I:Inv X pins σ H s):sysModules<s.heap.objs.size:=by
 have h:mainGlobals<s.heap.objs.size:=(I.mod.glob.keeps I.bk).lt
 exact Nat.lt_trans (by decide) h
theorem d_getItem {Q:Value->Shared->Prop}(hu:A.units+1<cLine) (I:Inv X pins σ H s) (g:DGet H a y (some v)) (ry:RelV y u) (h:∀ w' s',Inv X pins σ H s'->RelV v w'->Q w' s') :
  wpAny (model X.prog X.w) A (getItem (.ref a) u) Q E s:=by
 rcases g with ⟨kvs,k,e,ey,l⟩|⟨kvs,k,b,e,ey,eb,l⟩
 .subst ey
  obtain ⟨z,hd,vs,rel,dd⟩:=dk_rd I.hok e
  obtain ⟨w',hw,rw'⟩:=RelO.some_of (v:=v) (o:=valueAt vs k) (by rw [l];exact rel.val k)
  exact wpAny_getItem_of (kV_is ry) dd.mapOf hw (h w' _ (I.tok _) rw')
 .subst ey
  cases (show u=az b from ry)
  obtain ⟨z,hd,xs,rel,dd⟩:=dt_rd I.hok e
  obtain ⟨w',hw,rw'⟩:=RelO.some_of (v:=v) (o:=(atKey xs k).map (·.2)) (by rw [l];exact rel.val k)
  obtain ⟨p,hp,hp2⟩:=oMq.mp hw
  refine wpAny_getItem_heap (tupleKind_room_in1 hu) (key_of I.hok eb) dd hp ?_
  rw [hp2]
  exact h w' _ (I.tok _) rw'
theorem d_notIn {Q:Value->Shared->Prop}(hu:A.units+1<cLine) (I:Inv X pins σ H s) (g:DGet H a y o) (ry:RelV y u) (h:∀ s',Inv X pins σ H s'->Q (.bool (!o.isSome)) s') :
  wpAny (model X.prog X.w) A (compareOp .NotIn u (.ref a)) Q E s:=by
 rcases g with ⟨kvs,k,e,ey,l⟩|⟨kvs,k,b,e,ey,eb,l⟩
 .subst ey
  obtain ⟨z,hd,vs,rel,dd⟩:=dk_rd I.hok e
  refine wpAny_notIn_of (kV_is ry) hd dd.mapOf ?_
  rw [← (rel.val k).isSome_eq,← l]
  exact h _ (I.tok _)
 .subst ey
  cases (show u=az b from ry)
  obtain ⟨z,hd,xs,rel,dd⟩:=dt_rd I.hok e
  refine wpAny_notIn_heap (tupleKind_room_in1 hu) (key_of I.hok eb) hd dd ?_
  have q:=(rel.val k).isSome_eq
  rw [dX] at q
  rw [← q,← l]
  exact h _ (I.tok _)
theorem d_write {h':Heap}{t':Nat}{ob:HO}(I:Inv X pins σ H s) (mu:Mut (H a)) (hs:dQ a s.heap h') (he:∃ q,h'.get? a=some q) (new:ObjOk X.prog X.w (upd H a ob) h' a ob) :
  Inv X pins σ (upd H a ob) { s with heap:=h',toks:=t' } :=
 I.write (x:=a) (e:=a) mu (.inl rfl) (fun b q hb z=>(hs.2 b hb).trans z) he new
theorem dk_new {P:Program}{w:World}{H':Hp}{h':Heap}{kvs:List (Key×V)}{vs:List (Key×Value)}(z:kvs.length<=sizeLine) (hd:(a == sysModules)=false) (rel:KV kvs vs) (dd:h'.DictOf (mixKind P w) a vs) :
  ObjOk P w H' h' a (.dK kvs):=⟨z,hd,vs,rel,dd⟩
theorem d_setItem {H':Hp}{Q:Unit->Shared->Prop}(hu:A.units+1<cLine) (I:Inv X pins σ H s) (g:DPut H a y v H') (ry:RelV y u) (rv:RelV v r) (h:∀ s',Inv X pins σ H' s'->Q () s') :
  wpAny (model X.prog X.w) A (setItem (.ref a) u r) Q E s:=by
 rcases g with ⟨kvs,k,e,ey,l,eH⟩|⟨kvs,k,b,e,ey,eb,l,eH⟩
 .subst ey eH
  obtain ⟨z,hd,vs,rel,dd⟩:=dk_of I.hok e
  have hz:vs.length<=sizeLine:=by rw [← rel.length];exact z
  have hl:(putK kvs k v).length<=sizeLine:=by have:=length_putK kvs k v;omega
  refine wpAny_setItem_pairs (hsz:=hz) (kV_is ry) dd fun h' dd' hs=>h _ ?_
  have he:∃ q,h'.get? a=some q:=let ⟨q,_,_,hq,_⟩:=dd';⟨q,hq⟩
  exact d_write I (by rw [e];exact True.intro) hs he (dk_new hl hd (rel.put k rv) dd')
 .subst ey eH
  cases (show u=az b from ry)
  obtain ⟨z,hd,xs,rel,dd⟩:=dt_of I.hok e
  have hz:xs.length<=sizeLine:=by rw [← Paired.length rel];exact z
  have hl:(putK kvs k v).length<=sizeLine:=by have:=length_putK kvs k v;omega
  refine wpAny_setItem_heap (hsz:=hz) (tupleKind_room_in1 hu) (key_of I.hok eb) dd fun h' dd' hs=>h _ ?_
  obtain ⟨q,es,ep,hq,h2,h3,h4,_,h5⟩:=dd'
  refine d_write I (by rw [e];exact True.intro) hs ⟨q,hq⟩ ⟨hl,hd,_,(rel.put k eb rv).keeps fun c ys ec=>?_,q,es,ep,hq,h2,h3,h4,h5⟩
  rw [upd_ne (ne_of ec e (fun z=>nomatch z))]
  exact ec
end
def NoSl (i:Expr):Prop:=∀ ov iv,subscripted i false ov iv=operate [ov,iv] (getItem ov iv)
theorem subD_of {prog:Program}{w:World}{A:Around}{E:Value->Shared->Prop}{s:Shared}{env:Env}{value slice:Expr}{pos:Pos}{T id:String}{Q:Value->Shared->Prop}
  (hl:typeLookup (.type T) "__getitem__" = pure (some (.builtin id))) (hs:NoSl slice)
  (h:wpAny (model prog w) A (eval value env) (fun o s₁=>wpAny (model prog w) A (eval slice env) (fun i s₂=>s₂.TypeIs o T/\wpAny (model prog w) A (getItem o i) Q E s₂) E s₁) E s) :
  wpAny (model prog w) A (eval (.Subscript value slice pos) env) Q E s:=by
 refine Subscript_ (wpAny_mono h (fun o s₁ h₁=>wpAny_mono h₁ (fun i s₂ h₂=>?_) fun _ _ x=>x) fun _ _ x=>x)
 obtain ⟨hT,h₂⟩:=h₂
 unfold subscriptTail
 refine wpAny_bind ?_
 rw [getitemInPython_of_ne hT.not_modules]
 refine wpAny_bind (wpAny_specialOf hT hl ?_)
 have fin:wpAny (model prog w) A (subscripted slice false o i) (fun r s₃=>wpAny (model prog w) A (letTemporaryGo value o r >>= fun _=>pure r) Q E s₃) E s₂:=by
  rw [hs o i]
  exact wpAny_operating (wpAny_mono h₂ (fun r s₃ h₃=>wpAny_bind (wpAny_letTemporaryGo (wpAny_pure h₃))) fun _ _ x=>x)
 first
  | exact wpAny_pure (wpAny_bind fin)
  | exact wpAny_bind (wpAny_pure (wpAny_bind fin))
  | exact wpAny_bind fin
theorem dict_typeIs {X:Cx}{pins:List (Addr×Obj)}{σ:St}{H:Hp}{s:Shared}{a:Addr}{y:V}{o:Option V}(I:Inv X pins σ H s) (g:DGet H a y o):s.TypeIs (.ref a) "dict" := by
 rcases g with ⟨kvs,k,e,_,_⟩|⟨kvs,k,b,e,_,_,_⟩
 .obtain ⟨_,_,vs,_,dd⟩:=dk_rd I.hok e
  exact dd.typeIs
 .obtain ⟨_,_,xs,_,dd⟩:=dt_rd I.hok e
  exact dd.typeIs
def tDGet (td ty:TE):TE:=fun σ H Q=>td σ H fun x H1=>ty σ H1 fun y H2=>∃ a v,x = .ref a/\DGet H2 a y (some v)/\Q v H2
def tDNotIn (ty td:TE):TE:=fun σ H Q=>ty σ H fun y H1=>td σ H1 fun x H2=>∃ a o,x = .ref a/\DGet H2 a y o/\Q (.bl (!o.isSome)) H2
def sDPut (td ty tv:TE):TS:=fun D σ H=>tv σ H fun v H1=>td σ H1 fun x H2=>ty σ H2 fun y H3=>∃ a H4,x = .ref a/\DPut H3 a y v H4/\D.nx σ H4
section
variable {X:Cx}{o i e value:Expr}{pos pos' tpos:Pos}{td ty tv:TE}
theorem pe_dget (hu:X.A.units+1<cLine) (ho:PE X o td) (hi:PE X i ty) (hs:NoSl i):PE X (.Subscript o i pos) (tDGet td ty):=by
 intro pins s σ H Q I h
 refine subD_of PySem.F.slot_dict_getitem.lookup hs (thn (ho pins s σ H _ I h) fun u s1 ⟨x,H1,I1,rx,q1⟩=>thn (hi pins s1 σ H1 _ I1 q1) fun iv s2 ⟨y,H2,I2,ry,a,v,ex,g,q2⟩=>?_)
 subst ex
 obtain rfl:u=az a:=rx
 exact ⟨dict_typeIs I2 g,d_getItem hu I2 g ry fun w' s3 I3 rw'=>⟨v,H2,I3,rw',q2⟩⟩
theorem pc_dnotin (hu:X.A.units+1<cLine) (hi:PE X i ty) (ho:PE X o td):PC X .NotIn i o (tDNotIn ty td):=by
 intro pins s σ H Q I h
 refine thn (hi pins s σ H _ I h) fun iv s1 ⟨y,H1,I1,ry,q1⟩=>thn (ho pins s1 σ H1 _ I1 q1) fun u s2 ⟨x,H2,I2,rx,a,ov,ex,g,q2⟩=>?_
 subst ex
 obtain rfl:u=az a:=rx
 exact d_notIn hu I2 g ry fun s3 I3=>⟨.bl (!ov.isSome),H2,I3,rfl,q2⟩
theorem ps_dput (hu:X.A.units+1<cLine) (ho:PE X o td) (hi:PE X i ty) (hv:PE X value tv) (hs:swapsWith value (some (.Subscript o i pos')) pos.line X.env=pure false) :
  PS X (.Assign [.Subscript o i pos'] value pos) (sDPut td ty tv):=by
 intro pins s σ H D I h
 refine wpAny_Assign_Subscript (thn (hv pins s σ H _ I h) fun r s1 ⟨v,H1,I1,rv,q1⟩=>thn (ho pins s1 σ H1 _ I1 q1) fun u s2 ⟨x,H2,I2,rx,q2⟩=>thn (hi pins s2 σ H2 _ I2 q2) fun iv s3 ⟨y,H3,I3,ry,a,H4,ex,g,q3⟩=>?_) hs
 subst ex
 obtain rfl:u=az a:=rx
 exact d_setItem hu I3 g ry rv fun s4 I4=>⟨σ,H4,I4,q3⟩
end
theorem dk_empty {P:Program}{w:World}{H:Hp}(h:Heap) (hb:sysModules<h.objs.size):ObjOk P w H (h.push { cls:=.type "dict", data:=.dict #[] }) h.objs.size (.dK []) :=
 ⟨ba _,beq_eq_false_iff_ne.mpr (Ne.symm (ay hb)),[],.nil,Heap.DictOf.new h⟩
def tDNewK:TE:=fun _ H Q=>∀ p,H p=none->Q (.ref p) (upd H p (.dK []))
section
variable {X:Cx}{pos:Pos}
theorem pe_dnewK:PE X (.Dict [] [] pos) tDNewK:=fun pins s σ H Q I h =>
 wpAny_Dict_empty ⟨.ref s.heap.objs.size,_,I.laid (a:=s.heap.objs.size) (o:=.dK []) (t':=s.toks) (fun _ _ q=>ae _ q) (af _) (dk_empty s.heap I.big),rfl,h _ (I.hok.fresh (af _))⟩
end
def tPairs:List (TE×TE)->St->Hp->(List (V×V)->Hp->Prop)->Prop
 | [],_,H,Q=>Q [] H
 | (tk,tv)::r,σ,H,Q=>tk σ H fun x H1=>tv σ H1 fun y H2=>tPairs r σ H2 fun ps H3=>Q ((x,y)::ps) H3
abbrev VV:List (V×V)->List (Value×Value)->Prop:=Paired fun p q=>RelV p.1 q.1/\RelV p.2 q.2
def PPs (X:Cx) (pos:Pos) (keys:List (Option Expr)) (values:List Expr) (trs:List (TE×TE)):Prop :=
 ∀ (pins:List (Addr×Obj)) (s:Shared) (σ:St) (H:Hp) (Q:List (V×V)->Hp->Prop),Inv X pins σ H s->tPairs trs σ H Q ->
  wpAny (model X.prog X.w) X.A (evalPairs (pairTrees keys values X.env pos)) (fun vs s'=>∃ ps H',Inv X pins σ H' s'/\VV ps vs/\Q ps H') X.xe s
theorem pps_nil {X:Cx}{pos:Pos}:PPs X pos [] [] []:=fun pins s σ H Q I h=>pairTrees_nil_walk ⟨[],H,I,.nil,h⟩
theorem pps_cons {X:Cx}{pos:Pos}{k v:Expr}{ks:List (Option Expr)}{vs:List Expr}{tk tv:TE}{trs:List (TE×TE)}(hk:PE X k tk) (hv:PE X v tv) (hr:PPs X pos ks vs trs) :
  PPs X pos (some k::ks) (v::vs) ((tk,tv)::trs):=fun pins s σ H Q I h =>
 pairTrees_cons_walk (thn (hk pins s σ H _ I h) fun u s1 ⟨x,H1,I1,rx,q1⟩=>thn (hv pins s1 σ H1 _ I1 q1) fun w2 s2 ⟨y,H2,I2,ry,q2⟩ =>
  thn (hr pins s2 σ H2 _ I2 q2) fun ws s3 ⟨ps,H3,I3,rel,q3⟩=>⟨(x,y)::ps,H3,I3,.cons ⟨rx,ry⟩ rel,q3⟩)
def mergeK (kvs more:List (Key×V)):List (Key×V):=more.foldl (fun acc kv=>putK acc kv.1 kv.2) kvs
theorem KV.merge:∀ {more:List (Key×V)}{rs:List (Key×Value)}{kvs:List (Key×V)}{vs:List (Key×Value)},KV more rs->KV kvs vs->KV (mergeK kvs more) (merged vs rs):=by
 intro more rs kvs vs r
 unfold KV at r
 induction r generalizing kvs vs with
 | nil=>intro q;exact q
 | @cons p q ps qs h t ih =>
  intro r0
  have e:KV (putK kvs p.1 p.2) (stored vs q.1 q.2):=by
   have:=r0.put p.1 h.2
   rw [← h.1];exact this
  exact ih e
theorem length_mergeK:∀ (more kvs:List (Key×V)),(mergeK kvs more).length<=kvs.length+more.length
 | [],kvs=>by show kvs.length<=kvs.length+0;omega
 | p::r,kvs=>by
  have h1:=length_mergeK r (putK kvs p.1 p.2)
  have h2:=length_putK kvs p.1 p.2
  show (mergeK (putK kvs p.1 p.2) r).length<=_
  rw [lCq];omega
theorem carries_of {P:Program}{w:World}:∀ {kvs:List (Key×V)}{ws:List (Value×Value)},VV (kvs.map fun kv=>(kV kv.1,kv.2)) ws->∃ rs,Carries (mixKind P w) ws rs/\KV kvs rs
 | [],_,r=>by rw [eN] at r;cases r;exact ⟨[],True.intro,.nil⟩
 | p::kvs,_,r=>by
  rw [aq] at r
  cases r with
  | @cons a b as bs h t =>
   obtain ⟨rs,c,q⟩:=carries_of (P:=P) (w:=w) t
   obtain ⟨b1,b2⟩:=b
   exact ⟨(p.1,b2)::rs,⟨kV_is h.1,rfl,c⟩,.cons ⟨rfl,h.2⟩ q⟩
def tDisp (trs:List (TE×TE)):TE:=fun σ H Q=>∀ p,H p=none->tPairs trs σ (upd H p (.dK [])) fun ps H2=>H2 p=some (.dK [])/\∃ kvs:List (Key×V),ps=kvs.map (fun kv=>(kV kv.1,kv.2))/\kvs.length<=15/\Q (.ref p) (upd H2 p (.dK (mergeK [] kvs)))
theorem pe_disp {X:Cx}{pos:Pos}{keys:List (Option Expr)}{values:List Expr}{trs:List (TE×TE)}(h:PPs X pos keys values trs) (hall:keys.all (·.isSome)=true) (hl:keys.length=values.length) (h0:keys≠[])
  (h15:keys.length<=15):PE X (.Dict keys values pos) (tDisp trs):=by
 intro pins s σ H Q I q
 have hn:=I.hok.fresh (af s.heap.objs.size)
 have I1:=I.laid (a:=s.heap.objs.size) (o:=.dK []) (h':=s.heap.push { cls:=.type "dict", data:=.dict #[] }) (t':=s.toks) (fun _ _ q=>ae _ q) (af _) (dk_empty s.heap I.big)
 refine wpAny_Dict_walk (knd:=mixKind X.prog X.w) hall hl h0 h15 (thn (h pins _ σ _ _ I1 (q _ hn)) fun ws s2 ⟨ps,H2,I2,rel,e,kvs,ep,lk,q2⟩=>?_)
 subst ep
 obtain ⟨rs,c,rk⟩:=carries_of (P:=X.prog) (w:=X.w) rel
 obtain ⟨z,hd,vs0,r0,dd⟩:=dk_of I2.hok e
 cases r0
 refine ⟨rs,c,dd,fun h' dd' hs=>⟨.ref s.heap.objs.size,_,?_,rfl,q2⟩⟩
 have hz:(mergeK [] kvs).length<=sizeLine:=by
  have h1:=length_mergeK kvs []
  rw [df] at h1
  rw [sizeLine_eq];omega
 have he:∃ q,h'.get? s.heap.objs.size=some q:=let ⟨q,_,_,hq,_⟩:=dd';⟨q,hq⟩
 exact d_write I2 (by rw [e];exact True.intro) hs he (dk_new hz hd (rk.merge .nil) dd')
def IsD (H:Hp) (a:Addr):Prop:=(∃ kvs,Rd H a (.dK kvs))∨∃ kvs,Rd H a (.dT kvs)
theorem isD_at {X:Cx}{pins:List (Addr×Obj)}{σ:St}{H:Hp}{s:Shared}{a:Addr}(I:Inv X pins σ H s) (d:IsD H a) :
  s.TypeIs (.ref a) "dict" /\ (∀ b,az a = .ref b->∃ ob,s.heap.get? b=some ob/\ob.dict=none)/\(a == sysModules)=false:=by
 rcases d with ⟨kvs,e⟩|⟨kvs,e⟩
 .obtain ⟨_,hd,vs,_,dd⟩:=dk_rd I.hok e
  refine ⟨dd.typeIs,fun b q=>?_,hd⟩
  cases q
  obtain ⟨ob,_,_,h1,h2,_⟩:=dd
  exact ⟨ob,h1,h2.2.1⟩
 .obtain ⟨_,hd,xs,_,dd⟩:=dt_rd I.hok e
  refine ⟨dd.typeIs,fun b q=>?_,hd⟩
  cases q
  obtain ⟨ob,_,_,h1,h2,_⟩:=dd
  exact ⟨ob,h1,h2.2.1⟩
end L2
namespace Att
open PySem PySem.W PySem.Calls PyProof.Rows
theorem ints_of_wellAll {P:Params}{h:Heap}:∀ (ns:List Int) (vs:List Value),WellAll P h vs (ns.map WData.int)->IntsAre vs ns:=by
 intro ns
 induction ns with
 | nil =>
  intro vs w
  rw [eN] at w
  cases w
  exact .nil
 | cons n ns ih =>
  intro vs w
  rw [aq] at w
  cases w with
  | cons a b =>
   cases a
   exact .cons _ _ (ih _ b)
theorem script_of {l:OpenLaw}{n:Nat}(hn:l.most=some n) {P:Params}{h:Heap}{args:List WData}{vals:List Value}
  (hpre:l.row.toRowW.claim.pre args=true) (hwl:WellAll P h vals args) :
  ∃ a vs ns,vals=[az a]/\args=[WData.list (ns.map WData.int)]/\h.get? a=some { cls:=.type "list", data:=.seq vs.toArray }/\IntsAre vs ns/\ns.length<=n:=by
 have hsh:WShape.hasAll [] args [.list .int]=true:=(pre_splitW hpre).1
 have hc:l.pre.holds [] { args:=args }=true:=(pre_splitW hpre).2
 obtain ⟨d,r,rfl,h1,h2⟩:=hasAllW_cons hsh
 obtain rfl:=hasAllW_nil h2
 obtain ⟨xs,rfl,h3⟩:=hasW_list h1
 obtain ⟨ns,rfl⟩:=items_int h3
 have hlen:ns.length<=n:=by
  unfold OpenLaw.pre at hc
  have h4:(WTm.not (.lt (.lit (.int (n:Int))) (.len (.arg 0)))).holds [] { args:=[.list (ns.map .int)] }=true:=by
   have h4:=(holds_andW hc).1
   rw [hn] at h4
   exact h4
  have h5:=condW_of h4 (w_not (w_lt w_lit (w_len_list (w_arg rfl))))
  rw [lMq] at h5
  refine Nat.le_of_not_lt fun q=>?_
  have q':(n:Int)<((ns.length:Nat):Int):=by omega
  first
   | (rw [decide_eq_true q'] at h5;exact absurd h5 (by decide))
   | (simp at h5;omega)
 cases hwl with
 | cons w1 w2 =>
  cases w2
  cases w1 with
  | list ho hall=>exact ⟨_,_,ns,rfl,rfl,ho,ints_of_wellAll ns _ hall,hlen⟩
theorem post_true (l:OpenLaw) (args:List WData):l.row.toRowW.claim.post args (.bool true) args=true :=
 postW_of (r:=l.row.toRowW) (X:=(true == true))
  (show WShape.has [] (.bool true) .bool=true by first|rfl|decide|simp [WShape.has,WShape.arms,WShape.armsAll])
  (show (WTm.eq .res (.lit (.bool true))).value [] { args:=args,res:=some (.bool true),after:=args }=some (.bool (true == true)) from w_eq_bool (w_res rfl) w_lit) rfl
theorem attach_call {l:OpenLaw}{n:Nat}{q:Program}{loose:List Str}{XP:(Str->Option Value)->Heap->Prop}{YP:World->Heap->Prop}{d:DefRec}
  (hn:l.most=some n) (hdf:d.params.defaults=[])
  (call:∀ (w:World) (s₀ s₁:Shared) (mg mb:Str->Option Value) (fa:Addr) (o:Obj) (pm cd doc:Value) (a:Addr) (vs:List Value) (ns:List Int),
   Ground q loose [] XP w s₀ mg mb s₁.heap->YP w s₁.heap ->
   s₁.heap.get? fa=some o->o.data = .func (docDef d.name d.params d.body d.scope pm cd doc)->s₁.heap.CodeRec cd d.name->mg d.name=some (.ref fa) ->
   s₁.heap.get? a=some { cls:=.type "list", data:=.seq vs.toArray }->IntsAre vs ns->ns.length<=n->s₁.gens=#[] ->
   codeAny (model l.prog w) callerA (.call (.ref fa) ⟨[.ref a],[]⟩) (fun r s'=>r = .ok (.ret (.bool true))/\OldK s₁.heap s'.heap/\s'.os=s₁.os/\AllBare s'.gens) s₁) :
  WalkO q loose XP YP l.row.toRowW d [] (fun f vs=>PySem.call f vs):=by
 intro w s₀ s₁ mg mb G Y fa o pm cd doc dV kV ho hd hcd hD hmg hg args vals as hpre hlay hrd hwl hlo
 obtain rfl:dV = .none:=Dflts.none hD hdf
 obtain rfl:kV = .none:=Dflts.noKw hD
 obtain ⟨a,vs,ns,rfl,rfl,hobj,hints,hlen⟩:=script_of hn hpre hwl
 refine enter_call (codeAny_mono (call w s₀ s₁ mg mb fa o pm cd doc a vs ns G Y ho (fd_plain hd) hcd hmg hobj hints hlen hg) fun r s' hq=>?_)
 obtain ⟨rfl,h2,h3,h4⟩:=hq
 exact ⟨.inl ⟨.bool true,.bool true,[],rfl,fun _=>rfl,.bool true,post_true l _,fun _=>⟨aR.nil,fun _ hm=>(nomatch hm)⟩⟩,h2,h3,h4⟩
end Att
namespace L2
open PySem PySem.Spec PyProof.Rows
theorem vals_ints:∀ {vs:List Value}{ns:List Int},IntsAre vs ns->Vals (ns.map V.int) vs
 | _,_,.nil=>.nil
 | _,_,.cons n t h=>.cons ⟨t,rfl⟩ (vals_ints h)
def Only (H:Hp):Prop:=∀ b,H b=none∨∃ o xs,H b=some (.frz o (.lst xs))
theorem law_call {P:Program}{w:World}{K:W.Frag}{mg mb:Str->Option Value}{CX:CXT}{k:Nat}{fa a:Addr}{fd:FuncData}{x:Str}{sp:Sp}{s₁:Shared}{vs:List Value}{ns:List Int}
  (KX:K.In s₁.heap) (hns:s₁.heap.Ns mainGlobals mg) (hb:s₁.heap.Ns builtinsNs mb) (hbb:∀ x:Str,x ≠ "__name__" -> mb x=bootBuiltins x) (hlim:s₁.heap.NoLimit) (hg:s₁.gens=#[])
  (ha:s₁.heap.get? a=some { cls:=.type "list", data:=.seq vs.toArray }) (hi:IntsAre vs ns) (hl:ns.length<=sizeLine) (hr:Room k callerA)
  (F:∀ base:Heap,K.In base->base.Ns mainGlobals mg->FnOk P w K mg base CX k fa fd [x] sp) (hbind:∀ (s:Shared) (u:Value),BindsTo s fd ⟨[u],[]⟩ [(x,u)])
  (hsp:∀ H:Hp,Only H->SqL K H a (ns.map V.int)->sp [.ref a] H (fun v _=>v = .bl true) fun _ _ _=>False)
  (hCX:∀ H e s',CX [] H s₁ (fun _ _ _=>False) e s'->False) :
  codeAny (model P w) callerA (.call (.ref fa) ⟨[.ref a],[]⟩) (fun r s'=>r = .ok (.ret (.bool true))/\OldK s₁.heap s'.heap/\s'.os=s₁.os/\AllBare s'.gens) s₁:=by
 have rv:=vals_ints hi
 have lenV:=hi.length
 have core:∀ H:Hp,Only H->SqL K H a (ns.map V.int)->HOk P w H s₁.heap->(∀ b,H b≠none->b=a)->(H a≠none->K.lookup a=none) ->
   codeAny (model P w) callerA (.call (.ref fa) ⟨[.ref a],[]⟩) (fun r s'=>r = .ok (.ret (.bool true))/\OldK s₁.heap s'.heap/\s'.os=s₁.os/\AllBare s'.gens) s₁:=by
  intro H hO hS hok hA hK
  have base_of:∀ {b:Addr}{o:Obj},s₁.heap.get? b=some o->H b=none->(hidT s₁.heap H).get? b=some o:=fun e n=>hidT_get e n
  have noA:∀ {b:Addr}{o:Obj}{es:Array DictEntry}{ep:Nat},s₁.heap.get? b=some o->o.data = .dict es ep->H b=none:=fun {b o es ep} e d=>by
   cases q:H b with
   | none=>rfl
   | some u =>
    have e':b=a:=hA b (by rw [q];simp)
    subst e'
    rw [ha] at e;cases e
    have d':Data.seq vs.toArray _=Data.dict es ep:=d
    cases d'
  have nsK:∀ {b:Addr}{m:Str->Option Value},s₁.heap.Ns b m->(hidT s₁.heap H).Ns b m:=fun {b m} ⟨o,es,ep,e,d,r⟩=>⟨o,es,ep,base_of e (noA e d),d,r⟩
  have hKb:K.In (hidT s₁.heap H):=fun b o e=>base_of (KX b o e) (by
   cases q:H b with
   | none=>rfl
   | some u =>
    have e':b=a:=hA b (by rw [q];simp)
    subst e'
    rw [hK (by rw [q];simp)] at e;cases e)
  have hM:Mod K mg (hidT s₁.heap H):=⟨hKb,nsK hns,⟨mb,nsK hb,hbb⟩,let ⟨mc,h1,h2⟩:=hlim;⟨mc,nsK h1,h2⟩⟩
  have e0:Env0 P w K mg (hidT s₁.heap H) callerA [] s₁ H:=⟨rfl,hM,fun b o e=>of_hidT e,eM (hidT_size _ _),trivial,fun b hb=>absurd (show b∈([]:List Addr) from hb) (by simp),hok,.of_eq hg⟩
  refine codeAny_mono ((F _ hKb (nsK hns)).run callerA [] s₁ H ⟨[.ref a],[]⟩ [.ref a] [.ref a] _ _ hr e0 (hbind s₁ (.ref a)) (.cons rfl .nil) (hsp H hO hS)) fun r s' h=>?_
  cases r with
  | error e=>exact (hCX H e s' h).elim
  | ok fl =>
   cases fl with
   | next=>exact False.elim h
   | brk=>exact False.elim h
   | cont=>exact False.elim h
   | ret u =>
    obtain ⟨v,H',os,bare,un,hok',r',q⟩:=h
    have q':v = .bl true:=q
    subst q'
    obtain rfl:u=ed true:=r'
    refine ⟨rfl,OldK.of_keep fun b o e=>?_,os,bare⟩
    cases q:H b with
    | none=>exact un.keep b o e q (by intro z;exact absurd (show b∈([]:List Addr) from z) (by simp)) (by simp)
    | some u =>
     rcases hO b with z|⟨ob,xs,z⟩
     .rw [q] at z;cases z
     .have z2:=un.frzs b ob _ z
      obtain ⟨e1,_⟩:=hok b _ z
      obtain ⟨e2,_⟩:=hok' b _ z2
      rw [e] at e1;cases e1
      exact e2
 cases hk:K.lookup a with
 | some o =>
  have e:=KX a o hk
  rw [ha] at e
  cases e
  refine core (fun _=>none) (fun _=>.inl rfl) (.inr ⟨_,vs.toArray,_,hk,rfl,rfl,rfl,by rw [ax,lenV];exact hl,by simpa using rv⟩) (fun b u z=>by have z':(none:Option HO)=some u:=z;cases z') (fun b z=>absurd rfl z) fun z=>absurd rfl z
 | none =>
  refine core (fun b=>if b=a then some (.frz { cls:=.type "list", data:=.seq vs.toArray } (.lst (ns.map V.int))) else none) (fun b=>?_) (.inl (.inr ⟨{ cls:=.type "list", data:=.seq vs.toArray },if_pos rfl⟩)) (fun b u z=>?_) (fun b z=>?_) fun _=>hk
  .by_cases hb:b=a
   .exact .inr ⟨_,_,if_pos hb⟩
   .exact .inl (if_neg hb)
  .by_cases hb:b=a
   .have z':=(if_pos hb).symm.trans z
    cases z'
    subst hb
    exact ⟨ha,by rw [lMq];exact hl,vs,_,rv,ha⟩
   .have z':=(if_neg hb).symm.trans z
    cases z'
  .by_cases hb:b=a
   .exact hb
   .exact absurd (if_neg hb) z
theorem walk_of {l:W.OpenLaw}{n k:Nat}{q:Program}{loose:List Str}{XP:(Str->Option Value)->Heap->Prop}{YP:World->Heap->Prop}{d:DefRec}{K:Params->W.Frag}{CX:World->CXT}{sp:World->Sp}{x:Str}
  (hn:l.most=some n) (hn2:n<=sizeLine) (hdf:d.params.defaults=[]) (hr:Room k callerA)
  (hY:∀ (w:World) (h:Heap),YP w h->(K w.params).In h)
  (F:∀ (w:World) (mg:Str->Option Value) (fa:Addr) (h:Heap),(K w.params).In h->h.Ns mainGlobals mg->mg d.name=some (.ref fa) ->
   ∃ fd:FuncData,(∀ (s:Shared) (u:Value),BindsTo s fd ⟨[u],[]⟩ [(x,u)]) /\
    ∀ base:Heap,(K w.params).In base->base.Ns mainGlobals mg->FnOk l.prog w (K w.params) mg base (CX w) k fa fd [x] (sp w))
  (hsp:∀ (w:World) (H:Hp) (a:Addr) (ns:List Int),ns.length<=n->Only H->SqL (K w.params) H a (ns.map V.int)->sp w [.ref a] H (fun v _=>v = .bl true) fun _ _ _=>False)
  (hCX:∀ (w:World) (H:Hp) (s:Shared) (e:Value) (s':Shared),CX w [] H s (fun _ _ _=>False) e s'->False) :
  W.WalkO q loose XP YP l.row.toRowW d [] (fun f vs=>PySem.call f vs):=by
 refine Att.attach_call hn hdf fun w s₀ s₁ mg mb fa o pm cd doc a vs ns G Y ho hd hcd hmg hobj hints hlen hg=>?_
 have KX:=hY w _ Y
 obtain ⟨fd,hb,hF⟩:=F w mg fa _ KX G.T.g hmg
 exact law_call KX G.T.g G.T.b G.T.builtins G.T.nolimit hg hobj hints (bC hlen hn2) hr hF hb (fun H hO hS=>hsp w H a ns hlen hO hS) fun H e s'=>hCX w H s₁ e s'
def defArgs (s:Stmt):Arguments:=match s with
 | .FunctionDef _ a _ _ _ _ _ _ _ _=>a
 | _=>{ posonlyargs:=[],args:=[],vararg:=none,kwonlyargs:=[],kw_defaults:=[],kwarg:=none,defaults:=[] }
def defBody (s:Stmt):List Stmt:=match s with
 | .FunctionDef _ _ b _ _ _ _ _ _ _=>b
 | _=>[]
def defScope (s:Stmt):Scope:=match s with
 | .FunctionDef _ _ _ _ _ _ sc _ _ _=>sc
 | _=>{ kind:=.function,names:=[],isGenerator:=false,isCoroutine:=false }
abbrev CX0:CXT:=fun _ _ _ _ _ _=>False
abbrev E0:XK:=fun _ _ _=>False
theorem pass0 {X:Cx}:Passes CX0 X E0:=fun _ _ _ _ _ _ _ h=>h.elim
structure Fun (K:W.Frag) (x qual:Str) (st:Stmt) (f:Addr) (fd:FuncData):Prop where
 ex:∃ (oc:Value) (od:Option Addr) (kV doc pm:Value) (an:Option Addr) (cdv ct:Value) (osl:Array (Option Value)),
  fd=W.fnOf x qual (defArgs st) (defBody st) (defScope st) .none kV doc pm an cdv ct/\K.lookup f=some ⟨oc,od,.func fd,osl⟩/\W.codeIn K cdv qual=true
 kp:W.keepIn K (.ref f)=true
section
variable {P:Program}{w:World}{K:W.Frag}{mg:Str->Option Value}{base:Heap}
theorem Fun.ok {x qual:Str}{st:Stmt}{f:Addr}{fd:FuncData}{N ps:List Str}{k:Nat}{sp:Sp}(F:Fun K x qual st f fd) (S:FnScope N ps (defScope st)) (len:∀ vs H Q E,sp vs H Q E->vs.length=ps.length)
  (hbody:∀ (cdv:Value) (A:Around) (outer:List Env) (s:Shared) (H:Hp) (vs:List V) (Q:VK) (E:XK),Room k (A.deeper (envOfC qual (defScope st) s.heap.objs.size f cdv))->sp vs H Q E ->
   ∃ t,PSs (cxOf CX0 P w K mg base N qual (defScope st) f cdv A outer s H E).nox (defBody st) t/\t { nx:=fun _ H'=>Q .non H',rt:=Q } (start N vs) H):FnOk P w K mg base CX0 (k+1) f fd ps sp:=by
 obtain ⟨oc,od,kV,doc,pm,an,cdv,ct,osl,rfl,lk,hcd⟩:=F.ex
 refine fn_of lk hcd S len fun A outer s H vs Q E hr hsp=>?_
 obtain ⟨t,h,q⟩:=hbody cdv A outer s H vs Q E hr hsp
 exact ⟨t,h.nox,q⟩
theorem Fun.binds {x qual:Str}{st:Stmt}{f:Addr}{fd:FuncData}{ps:List Str}(F:Fun K x qual st f fd)
  (h:∀ (kV doc pm:Value) (an:Option Addr) (cdv ct:Value) (us:List Value),us.length=ps.length->bindArgs (W.fnOf x qual (defArgs st) (defBody st) (defScope st) .none kV doc pm an cdv ct) ⟨us,[]⟩=pure (ps.zip us)):Binds K fd ps []:=by
 obtain ⟨oc,od,kV,doc,pm,an,cdv,ct,osl,rfl,lk,hcd⟩:=F.ex
 exact .all (h kV doc pm an cdv ct)
theorem fun_mk {x qual:Str}{st:Stmt}{f:Addr}{oc:Value}{od an:Option Addr}{osl:Array (Option Value)}{kV doc pm cdv ct:Value}(l:K.lookup f=some ⟨oc,od,.func (W.fnOf x qual (defArgs st) (defBody st) (defScope st) .none kV doc pm an cdv ct),osl⟩)
  (c:W.codeIn K cdv qual=true) (k:W.keepIn K (.ref f)=true):Fun K x qual st f (W.fnOf x qual (defArgs st) (defBody st) (defScope st) .none kV doc pm an cdv ct):=⟨⟨oc,od,kV,doc,pm,an,cdv,ct,osl,rfl,l,c⟩,k⟩
end
theorem hu_of {A:Around}{k:Nat}(hr:Room k A):A.units+1<cLine:=Nat.lt_of_le_of_lt (Nat.add_le_add_left (by decide:1<=64) _) hr.units
section
variable {X:Cx}
theorem pv (i:Nat) {x:Str}{pos:Pos}(hN:X.N[i]?=some x:=by rfl) (hv:Vis X.env.scope x:=by first|exact aG rfl|exact aE (aG rfl)|exact aE (aE rfl)) (hd:(x == ("__debug__" : Str))=false:=by decide)
  (hcd:(x == ("__classdict__" : Str))=false:=by decide):PE X (.Name x pos) (tVar i):=pe_var hN hv hd hcd
end
theorem iteF {A B:Prop}(h:B):if false=true then A else B:=by
 rw [if_neg aw]
 exact h
theorem iteT {A B:Prop}(h:A):if true=true then A else B:=by
 rw [if_pos rfl]
 exact h
def Same (H H':Hp):Prop:=∀ b o,H b=some o->H' b=some o
theorem Same.refl (H:Hp):Same H H:=fun _ _ h=>h
theorem Same.trans {H H1 H2:Hp}(a:Same H H1) (b:Same H1 H2):Same H H2:=fun c o h=>b c o (a c o h)
theorem Same.free {H H':Hp}(e:Same H H') {l:Addr}(h:H' l=gZ):H l=gZ:=by
 cases q:H l with
 | none=>rfl
 | some o =>
  rw [e l o q] at h
  cases h
theorem Same.seq {K:W.Frag}{H H':Hp}{a:Addr}{xs:List V}(e:Same H H') (h:SqL K H a xs):SqL K H' a xs:=by
 rcases h with (h|⟨o,h⟩)|h
 .exact .inl (.inl (e _ _ h))
 .exact .inl (.inr ⟨o,e _ _ h⟩)
 .exact .inr h
end L2
namespace Mr
def cell (ns:List Int) (k:Nat):Int:=ns.getD k 0
def leastAt (ns:List Int):Nat->Nat
 | 0=>0
 | k+1=>if ns.getD k 0<ns.getD (leastAt ns k) 0 then k else leastAt ns k
def rot (ns:List Int) (i:Nat):List Int:=ns.drop i++ns.take i
def good (ns:List Int):List Int:=rot ns (leastAt ns ns.length)
theorem leastAt_spec (ns:List Int):∀ n,(0<n->leastAt ns n<n)/\(∀ j,j<n->ns.getD (leastAt ns n) 0<=ns.getD j 0)/\(∀ j,j<leastAt ns n->ns.getD (leastAt ns n) 0<ns.getD j 0)
 | 0=>⟨fun h=>absurd h (bR _),fun j h=>absurd h (cD _),fun j h=>absurd h (cD _)⟩
 | n+1=>by
  obtain ⟨h1,h2,h3⟩:=leastAt_spec ns n
  simp only [leastAt]
  by_cases c:ns.getD n 0<ns.getD (leastAt ns n) 0
  .rw [if_pos c]
   refine ⟨fun _=>cS n,fun j hj=>?_,fun j hj=>?_⟩
   .rcases dN (gn hj) with q|q
    .have:=h2 j q;omega
    .subst q;exact fN _
   .have:=h2 j hj;omega
  .rw [if_neg c]
   refine ⟨fun _=>?_,fun j hj=>?_,h3⟩
   .by_cases hn:0<n
    .exact bW (h1 hn)
    .have:n=0:=by omega
     subst this;exact cS 0
   .rcases dN (gn hj) with q|q
    .exact h2 j q
    .subst q;omega
theorem leastAt_le (ns:List Int):leastAt ns ns.length<=ns.length:=by
 by_cases h:0<ns.length
 .exact bX ((leastAt_spec ns ns.length).1 h)
 .have:ns.length=0:=by omega
  rw [this];exact af 0
theorem getD_eq {ns:List Int}{j:Nat}(h:j<ns.length):ns.getD j 0=ns[j]:=by
 rw [gDq,gEg h];rfl
theorem idxOf_least {ns:List Int}{M:Int}(hm:M∈ns) (hl:∀ a,a∈ns->M<=a):ns.idxOf M=leastAt ns ns.length:=by
 have h0:0<ns.length:=ee hm
 obtain ⟨h1,h2,h3⟩:=leastAt_spec ns ns.length
 have h1:=h1 h0
 have hi:ns.idxOf M<ns.length:=fj.mpr hm
 have e:ns.getD (ns.idxOf M) 0=M:=by rw [getD_eq hi];exact gi hi
 have eL:ns.getD (leastAt ns ns.length) 0=M:=by
  have q1:=h2 _ hi
  rw [e] at q1
  have q2:=hl _ (by rw [getD_eq h1];exact gRq h1:ns.getD (leastAt ns ns.length) 0∈ns)
  omega
 rcases gp (ns.idxOf M) (leastAt ns ns.length) with q|q|q
 .have:=h3 _ q;omega
 .exact q
 .exfalso
  have:=List.not_of_lt_findIdx (p:=(· == M)) (xs:=ns) (i:=leastAt ns ns.length) (by simpa [List.idxOf] using q)
  rw [getD_eq h1] at eL
  simp [eL] at this
theorem rot_length (ns:List Int) (i:Nat):(rot ns i).length=ns.length:=by
 unfold rot;rw [lAq,aU,lTq];omega
theorem good_length (ns:List Int):(good ns).length=ns.length:=rot_length _ _
def step (ns:List Int):Int:=if 0<cell ns 0 % 3 then cell ns 0 % 10 ^ 40+1 else 1
def shift (ns:List Int):Int:=if 0<cell ns 1 % 3 then cell ns 1 % 10 ^ 40 else 0
def road0 (ns:List Int) (k:Int):Int:=step ns*(((1+cell ns 1 / 3 % 66)*k+cell ns 0 / 3 % 67) % 67+1)+shift ns
def road (ns:List Int) (k:Int):Int:=if cell ns 1 % 5=4 then 10 ^ 60-road0 ns k else road0 ns k
theorem rot_perm (t:List Int) (i:Nat):(rot t i).Perm t:=by
 unfold rot
 exact bS.trans (by rw [bt])
theorem good_perm (t:List Int):(good t).Perm t:=rot_perm t _
theorem flatten_perm {rs ts:List (List Int)}(h:rs.Perm ts):rs.flatten.Perm ts.flatten:=by
 induction h with
 | nil=>exact .refl _
 | cons x _ ih=>rw [fCq,fCq];exact bO.append (.refl x) ih
 | swap x y l =>
  rw [fCq,fCq,fCq,fCq,← ak,← ak]
  exact bO.append bS (.refl _)
 | trans _ _ a b=>exact a.trans b
theorem flatten_map_perm {f:List Int->List Int}(hf:∀ r,(f r).Perm r):∀ rs:List (List Int),(rs.map f).flatten.Perm rs.flatten
 | []=>.refl _
 | r::rs=>by
  rw [aq,fCq,fCq]
  exact bO.append (hf r) (flatten_map_perm hf rs)
theorem row_le {rs:List (List Int)}{r:List Int}(hr:r∈rs):r.length<=rs.flatten.length:=(bB hr).length_le
theorem prime67:∀ t:Fin 66,∀ d:Fin 67,0<d.val->(t.val+1)*d.val % 67≠0:=by decide +kernel
end Mr
namespace MrS
open PySem PyProof.Rows
def gallop':Bool->Keyed->Array Keyed->Nat->Nat->Nat->StateT SortSt Sem (Option Nat):=sortPriv% PySem.Builtin.gallop
structure Cmp (prog:Program) (w:World) (A:Around) (s:Shared) (κ:SortKind) (P:Keyed->Prop) (lt:Keyed->Keyed->Bool):Prop where
 ask:∀ x y,P x->P y->∀ (E:Value->Shared->Prop) (Q:Bool->Shared->Prop),Q (lt x y) s->wpAny (model prog w) A (keyLt' κ x.1 y.1) Q E s
 asym:∀ x y,P x->P y->lt x y=true->lt y x=false
 trans:∀ x y z,P x->P y->P z->lt y x=false->lt z y=false->lt z x=false
section
variable {prog:Program}{w:World}{A:Around}{E:Value->Shared->Prop}{s:Shared}{κ:SortKind}{P:Keyed->Prop}{lt:Keyed->Keyed->Bool}
theorem Cmp.refl (C:Cmp prog w A s κ P lt) {x:Keyed}(hx:P x):lt x x=false:=by
 cases e:lt x x with
 | false=>rfl
 | true=>rw [← C.asym x x hx hx e,e]
theorem Cmp.cmp (C:Cmp prog w A s κ P lt) {x y:Keyed}{st:SortSt}{Q:Option Bool->SortSt->Prop}(hx:P x) (hy:P y) (hk:kindOf st=κ) (h:Q (some (lt x y)) st) :
  wpS (model prog w) A E s (lt' x y) Q st:=by
 rw [lt'_eq]
 refine wpS_bind (wpS_get ?_)
 rw [hk]
 refine wpS_bind (wpS_lift (wpAny_attempt (C.ask x y hx hy _ _ ⟨rfl,?_⟩)))
 exact wpS_pure h
theorem wpS_elem {arr:Array Keyed}{i:Nat}{x:Keyed}{st:SortSt}{Q:Keyed->SortSt->Prop}(hx:arr[i]?=some x) (h:Q x st):wpS (model prog w) A E s (elem' arr i) Q st:=by
 rw [elem'_eq,hx]
 exact wpS_pure h
theorem Cmp.at (C:Cmp prog w A s κ P lt) {i j:Nat}{x y:Keyed}{st:SortSt}{Q:Option Bool->SortSt->Prop}(hi:(arrOf st)[i]?=some x) (hj:(arrOf st)[j]?=some y) (hx:P x) (hy:P y) (hk:kindOf st=κ) (h:Q (some (lt x y)) st) :
  wpS (model prog w) A E s (ltAt' i j) Q st:=by
 rw [ltAt'_eq]
 refine wpS_bind (wpS_get ?_)
 exact wpS_bind (wpS_elem hi (wpS_bind (wpS_elem hj (C.cmp hx hy hk h))))
def byd (lt:Keyed->Keyed->Bool) (left:Bool) (key:Keyed) (arr:Array Keyed) (base i:Nat):Bool :=
 if left then lt (arr.getD (base+i) key) key else !lt key (arr.getD (base+i) key)
theorem gallop'_eq (left:Bool) (key:Keyed) (arr:Array Keyed) (base n hint:Nat):gallop' left key arr base n hint=(do
 let beyond (i:Nat):StateT SortSt Sem (Option Bool):=do
  let x ← elem' arr (base+i)
  if left then lt' x key else return (← lt' key x).map (!·)
 let mut lastofs:=0
 let mut ofs:=1
 let mut lo:=0
 let mut hi:=0
 let some right ← beyond hint|return none
 if right then
  let maxofs:=n-hint
  for _ in [0:n] do
   if ofs ≥ maxofs then break
   let some more ← beyond (hint+ofs)|return none
   if !more then break
   lastofs:=ofs
   ofs:=2*ofs+1
  lo:=hint+lastofs+1
  hi:=hint+min ofs maxofs
 else
  let maxofs:=hint+1
  for _ in [0:n] do
   if ofs ≥ maxofs then break
   let some found ← beyond (hint-ofs)|return none
   if found then break
   lastofs:=ofs
   ofs:=2*ofs+1
  lo:=hint+1-min ofs maxofs
  hi:=hint-lastofs
 for _ in [0:n] do
  if lo ≥ hi then break
  let m:=lo+(hi-lo) / 2
  let some more ← beyond m|return none
  if more then lo:=m+1 else hi:=m
 return some hi):=rfl
theorem wpS_beyond (C:Cmp prog w A s κ P lt) {left:Bool}{key:Keyed}{arr:Array Keyed}{base i:Nat}{st:SortSt}{Q:Option Bool->SortSt->Prop}(hi:base+i<arr.size) (ha:∀ x,x∈arr->P x) (hkey:P key) (hk:kindOf st=κ)
  (h:Q (some (byd lt left key arr base i)) st):wpS (model prog w) A E s (do
   let x ← elem' arr (base+i)
   if left=true then lt' x key else do
    let __x ← lt' key x
    pure (__x.map (!·))) Q st:=by
 have e:arr[base+i]?=some arr[base+i]:=ag hi
 have e2:arr.getD (base+i) key=arr[base+i]:=by simp [fX,hi]
 refine wpS_bind (wpS_elem e ?_)
 have hp:P arr[base+i]:=ha _ (aV hi)
 unfold byd at h
 rw [e2] at h
 cases left with
 | true =>
  rw [if_pos rfl] at h ⊢
  exact C.cmp hp hkey hk h
 | false =>
  rw [if_neg (by decide)] at h ⊢
  exact wpS_bind (C.cmp hkey hp hk (wpS_pure h))
theorem search_loop {left:Bool}{key:Keyed}{arr:Array Keyed}{base n lo hi:Nat}{st:SortSt}{f:Nat->Option (Option Nat)×Nat×Nat->StateT SortSt Sem (ForInStep (Option (Option Nat)×Nat×Nat))}
  (mono:∀ i j,i<=j->j<n->byd lt left key arr base j=true->byd lt left key arr base i=true)
  (down:∀ i j,i<=j->j<n->byd lt left key arr base i=false->byd lt left key arr base j=false)
  (hf:∀ (i l u:Nat) (Q':ForInStep (Option (Option Nat)×Nat×Nat)->SortSt->Prop),u<=n->(u<=l->Q' (.done (none,l,u)) st)->(l<u->byd lt left key arr base (l+(u-l) / 2)=true->Q' (.yield (none,l+(u-l) / 2+1,u)) st) ->
   (l<u->byd lt left key arr base (l+(u-l) / 2)=false->Q' (.yield (none,l,l+(u-l) / 2)) st)->wpS (model prog w) A E s (f i (none,l,u)) Q' st)
  (h1:lo<=hi) (h2:hi<=n) (h3:∀ j,j<lo->byd lt left key arr base j=true) (h4:∀ j,hi<=j->j<n->byd lt left key arr base j=false) :
  wpS (model prog w) A E s (forIn [:n] ((none,lo,hi):Option (Option Nat)×Nat×Nat) f)
   (fun c st'=>∃ k,c=(none,k,k)/\st'=st/\k<=n/\(∀ j,j<k->byd lt left key arr base j=true)/\(∀ j,k<=j->j<n->byd lt left key arr base j=false)) st:=by
 refine wpS_forRange
  (I:=fun i c st'=>∃ l u,c=(none,l,u)/\st'=st/\l<=u/\u<=n/\(∀ j,j<l->byd lt left key arr base j=true)/\(∀ j,u<=j->j<n->byd lt left key arr base j=false)/\(u-l)+i<=n)
  ?step ?fin ⟨lo,hi,rfl,rfl,h1,h2,h3,h4,by omega⟩
 case step =>
  rintro i c st' _ hi' ⟨l,u,rfl,rfl,a1,a2,a3,a4,a5⟩
  refine hf i l u _ a2 (fun c1=>?_) (fun c1 e=>?_) (fun c1 e=>?_)
  .have e:l=u:=by omega
   subst e
   exact ⟨l,rfl,rfl,a2,a3,a4⟩
  .exact ⟨_,u,rfl,rfl,by omega,a2,fun j hj=>mono j _ (by omega) (by omega) e,a4,by omega⟩
  .exact ⟨l,_,rfl,rfl,by omega,by omega,a3,fun j hj hn=>down _ j hj hn e,by omega⟩
 case fin =>
  rintro c st' ⟨l,u,rfl,rfl,a1,a2,a3,a4,a5⟩
  have e:l=u:=by omega
  subst e
  exact ⟨l,rfl,rfl,a2,a3,a4⟩
theorem wpS_gallop (C:Cmp prog w A s κ P lt) {left:Bool}{key:Keyed}{arr:Array Keyed}{base n hint:Nat}{st:SortSt}{Q:Option Nat->SortSt->Prop}(hh:hint<n) (hb:base+n<=arr.size) (ha:∀ x,x∈arr->P x) (hkey:P key) (hk:kindOf st=κ)
  (mono:∀ i j,i<=j->j<n->byd lt left key arr base j=true->byd lt left key arr base i=true)
  (h:∀ k,k<=n->(∀ j,j<k->byd lt left key arr base j=true)->(∀ j,k<=j->j<n->byd lt left key arr base j=false)->Q (some k) st) :
  wpS (model prog w) A E s (gallop' left key arr base n hint) Q st:=by
 have down:∀ i j,i<=j->j<n->byd lt left key arr base i=false->byd lt left key arr base j=false:=fun i j hij hj e=>by
  cases q:byd lt left key arr base j with
  | false=>rfl
  | true=>rw [mono i j hij hj q] at e;cases e
 rw [gallop'_eq]
 dsimp only
 refine wpS_bind (wpS_beyond C (base:=base) (i:=hint) (by omega) ha hkey hk ?_)
 cases er:byd lt left key arr base hint with
 | true =>
  dsimp only
  rw [if_pos rfl]
  refine wpS_bind (wpS_mono (wpS_forRange
   (I:=fun i c st'=>∃ l o,c=(none,l,o)/\st'=st/\l<o/\i+1<=o/\hint+l<n/\byd lt left key arr base (hint+l)=true)
   (Q:=fun c st'=>∃ l o,c=(none,l,o)/\st'=st/\l<o/\hint+l<n/\byd lt left key arr base (hint+l)=true/\(n-hint<=o∨(hint+o<n/\byd lt left key arr base (hint+o)=false)))
   ?step ?fin ⟨0,1,rfl,rfl,by omega,by omega,by omega,er⟩) ?post)
  case step =>
   rintro i c st' _ hi' ⟨l,o,rfl,rfl,a1,a2,a3,a4⟩
   dsimp only
   by_cases c1:o ≥ n-hint
   .rw [if_pos c1]
    exact wpS_pure ⟨l,o,rfl,rfl,a1,a3,a4,.inl c1⟩
   .rw [if_neg c1]
    refine wpS_bind (wpS_beyond C (base:=base) (i:=hint+o) (by omega) ha hkey hk ?_)
    cases e:byd lt left key arr base (hint+o) with
    | true =>
     dsimp only
     rw [if_neg (by decide)]
     exact wpS_pure ⟨o,_,rfl,rfl,by omega,by omega,by omega,e⟩
    | false =>
     dsimp only
     rw [if_pos (by decide)]
     exact wpS_pure ⟨l,o,rfl,rfl,a1,a3,a4,.inr ⟨by omega,e⟩⟩
  case fin =>
   rintro c st' ⟨l,o,rfl,rfl,a1,a2,a3,a4⟩
   exact ⟨l,o,rfl,rfl,a1,a3,a4,.inl (by omega)⟩
  case post =>
   rintro c st' ⟨l,o,rfl,rfl,a1,a3,a4,a5⟩
   dsimp only
   refine wpS_bind (wpS_mono (search_loop (lt:=lt) (left:=left) (key:=key) (arr:=arr) (base:=base) mono down (fun i l' u' Q' hu q1 q2 q3=>?_) (by omega) (by omega) (fun j hj=>mono j _ (by omega) a3 a4) ?_) ?_)
   .dsimp only
    by_cases c1:l' ≥ u'
    .rw [if_pos c1]
     exact wpS_pure (q1 c1)
    .rw [if_neg c1]
     refine wpS_bind (wpS_beyond C (base:=base) (i:=l'+(u'-l') / 2) (by omega) ha hkey hk ?_)
     cases e:byd lt left key arr base (l'+(u'-l') / 2) with
     | true =>
      dsimp only
      rw [if_pos rfl]
      exact wpS_pure (q2 (by omega) e)
     | false =>
      dsimp only
      rw [if_neg (by decide)]
      exact wpS_pure (q3 (by omega) e)
   .intro j hj hn
    rcases a5 with a5|⟨a5,a6⟩
    .omega
    .exact down (hint+o) j (by omega) hn a6
   .rintro c st' ⟨k,rfl,rfl,k1,k2,k3⟩
    exact wpS_pure (h k k1 k2 k3)
 | false =>
  dsimp only
  rw [if_neg (by decide)]
  refine wpS_bind (wpS_mono (wpS_forRange
   (I:=fun i c st'=>∃ l o,c=(none,l,o)/\st'=st/\l<o/\i+1<=o/\l<=hint/\byd lt left key arr base (hint-l)=false)
   (Q:=fun c st'=>∃ l o,c=(none,l,o)/\st'=st/\l<o/\l<=hint/\byd lt left key arr base (hint-l)=false/\(hint+1<=o∨(o<=hint/\byd lt left key arr base (hint-o)=true)))
   ?step ?fin ⟨0,1,rfl,rfl,by omega,by omega,by omega,er⟩) ?post)
  case step =>
   rintro i c st' _ hi' ⟨l,o,rfl,rfl,a1,a2,a3,a4⟩
   dsimp only
   by_cases c1:o ≥ hint+1
   .rw [if_pos c1]
    exact wpS_pure ⟨l,o,rfl,rfl,a1,a3,a4,.inl c1⟩
   .rw [if_neg c1]
    refine wpS_bind (wpS_beyond C (base:=base) (i:=hint-o) (by omega) ha hkey hk ?_)
    cases e:byd lt left key arr base (hint-o) with
    | true =>
     dsimp only
     rw [if_pos rfl]
     exact wpS_pure ⟨l,o,rfl,rfl,a1,a3,a4,.inr ⟨by omega,e⟩⟩
    | false =>
     dsimp only
     rw [if_neg (by decide)]
     exact wpS_pure ⟨o,_,rfl,rfl,by omega,by omega,by omega,e⟩
  case fin =>
   rintro c st' ⟨l,o,rfl,rfl,a1,a2,a3,a4⟩
   exact ⟨l,o,rfl,rfl,a1,a3,a4,.inl (by omega)⟩
  case post =>
   rintro c st' ⟨l,o,rfl,rfl,a1,a3,a4,a5⟩
   dsimp only
   refine wpS_bind (wpS_mono (search_loop (lt:=lt) (left:=left) (key:=key) (arr:=arr) (base:=base) mono down (fun i l' u' Q' hu q1 q2 q3=>?_) (by omega) (by omega) ?_ (fun j hj hn=>down _ j hj hn a4)) ?_)
   .dsimp only
    by_cases c1:l' ≥ u'
    .rw [if_pos c1]
     exact wpS_pure (q1 c1)
    .rw [if_neg c1]
     refine wpS_bind (wpS_beyond C (base:=base) (i:=l'+(u'-l') / 2) (by omega) ha hkey hk ?_)
     cases e:byd lt left key arr base (l'+(u'-l') / 2) with
     | true =>
      dsimp only
      rw [if_pos rfl]
      exact wpS_pure (q2 (by omega) e)
     | false =>
      dsimp only
      rw [if_neg (by decide)]
      exact wpS_pure (q3 (by omega) e)
   .intro j hj
    rcases a5 with a5|⟨a5,a6⟩
    .omega
    .exact mono j (hint-o) (by omega) (by omega) a6
   .rintro c st' ⟨k,rfl,rfl,k1,k2,k3⟩
    exact wpS_pure (h k k1 k2 k3)
end
abbrev Srt (lt:Keyed->Keyed->Bool) (l:List Keyed):Prop:=l.Pairwise fun x y=>lt y x=false
structure MI (lt:Keyed->Keyed->Bool) (a b out:Array Keyed) (ia ib:Nat):Prop where
 la:ia<=a.size
 lb:ib<=b.size
 pm:(out.toList++(a.toList.drop ia++b.toList.drop ib)).Perm (a.toList++b.toList)
 so:Srt lt out.toList
 ua:∀ x∈out.toList,∀ y∈a.toList.drop ia,lt y x=false
 ub:∀ x∈out.toList,∀ y∈b.toList.drop ib,lt y x=false
section
variable {lt:Keyed->Keyed->Bool}{a b out out':Array Keyed}{ia ib k:Nat}
theorem MI.congr (m:MI lt a b out ia ib) (e:out'.toList=out.toList):MI lt a b out' ia ib:=⟨m.la,m.lb,by rw [e];exact m.pm,by rw [e];exact m.so,by rw [e];exact m.ua,by rw [e];exact m.ub⟩
theorem cut_drop (l:List Keyed) (i k:Nat):l.drop i=(l.drop i).take k++l.drop (i+k):=by
 rw [← List.drop_drop,bt]
theorem ext_toList (a:Array Keyed) (i k:Nat):(a.extract i (i+k)).toList=(a.toList.drop i).take k:=by
 rw [eG,dF,fD]
theorem MI.moreA (m:MI lt a b out ia ib) (sa:Srt lt a.toList) (hk:ia+k<=a.size) (h:∀ x∈(a.toList.drop ia).take k,∀ y∈b.toList.drop ib,lt y x=false):MI lt a b (out++a.extract ia (ia+k)) (ia+k) ib:=by
 have e:(out++a.extract ia (ia+k)).toList=out.toList++(a.toList.drop ia).take k:=by rw [aJ,ext_toList]
 have sd:Srt lt (a.toList.drop ia):=sa.sublist (bG _ _)
 have c:=cut_drop a.toList ia k
 have sd2:=sd
 rw [c] at sd2
 obtain ⟨q1,q2,q3⟩:=aD.mp sd2
 refine ⟨hk,m.lb,?_,?_,?_,?_⟩
 .rw [e,ak]
  refine (bO.append_left _ ?_).trans m.pm
  rw [← ak,← c]
 .rw [e]
  exact aD.mpr ⟨m.so,q1,fun x hx y hy=>m.ua x hx y (bN hy)⟩
 .rw [e]
  intro x hx y hy
  rcases mAq.mp hx with hx|hx
  .exact m.ua x hx y (by rw [c];exact ar _ hy)
  .exact q3 x hx y hy
 .rw [e]
  intro x hx y hy
  rcases mAq.mp hx with hx|hx
  .exact m.ub x hx y hy
  .exact h x hx y hy
theorem MI.moreB (m:MI lt a b out ia ib) (sb:Srt lt b.toList) (hk:ib+k<=b.size) (h:∀ x∈(b.toList.drop ib).take k,∀ y∈a.toList.drop ia,lt y x=false):MI lt a b (out++b.extract ib (ib+k)) ia (ib+k):=by
 have e:(out++b.extract ib (ib+k)).toList=out.toList++(b.toList.drop ib).take k:=by rw [aJ,ext_toList]
 have sd:Srt lt (b.toList.drop ib):=sb.sublist (bG _ _)
 have c:=cut_drop b.toList ib k
 have sd2:=sd
 rw [c] at sd2
 obtain ⟨q1,q2,q3⟩:=aD.mp sd2
 refine ⟨m.la,hk,?_,?_,?_,?_⟩
 .rw [e,ak]
  refine (bO.append_left _ ?_).trans m.pm
  refine ((List.perm_append_comm_assoc _ _ _).trans ?_)
  rw [← c]
 .rw [e]
  exact aD.mpr ⟨m.so,q1,fun x hx y hy=>m.ub x hx y (bN hy)⟩
 .rw [e]
  intro x hx y hy
  rcases mAq.mp hx with hx|hx
  .exact m.ua x hx y hy
  .exact h x hx y hy
 .rw [e]
  intro x hx y hy
  rcases mAq.mp hx with hx|hx
  .exact m.ub x hx y (by rw [c];exact ar _ hy)
  .exact q3 x hx y hy
theorem drop_take1 {l:List Keyed}{i:Nat}{x:Keyed}(h:l[i]?=some x):(l.drop i).take 1=[x]:=by
 obtain ⟨hi,e⟩:=gSq.mp h
 rw [aK hi,e]
 rfl
theorem MI.pushA {x:Keyed}(m:MI lt a b out ia ib) (sa:Srt lt a.toList) (hx:a[ia]?=some x) (h:∀ y∈b.toList.drop ib,lt y x=false):MI lt a b (out.push x) (ia+1) ib:=by
 have hi:ia<a.size:=(aC.mp hx).1
 have hx':a.toList[ia]?=some x:=by rw [aA];exact hx
 refine (m.moreA sa (k:=1) hi fun z hz y hy=>?_).congr ?_
 .rw [drop_take1 hx',mSq] at hz
  rw [hz];exact h y hy
 .rw [dq,aJ,ext_toList,drop_take1 hx']
theorem MI.pushB {x:Keyed}(m:MI lt a b out ia ib) (sb:Srt lt b.toList) (hx:b[ib]?=some x) (h:∀ y∈a.toList.drop ia,lt y x=false):MI lt a b (out.push x) ia (ib+1):=by
 have hi:ib<b.size:=(aC.mp hx).1
 have hx':b.toList[ib]?=some x:=by rw [aA];exact hx
 refine (m.moreB sb (k:=1) hi fun z hz y hy=>?_).congr ?_
 .rw [drop_take1 hx',mSq] at hz
  rw [hz];exact h y hy
 .rw [dq,aJ,ext_toList,drop_take1 hx']
structure Mrg (lt:Keyed->Keyed->Bool) (a b r:Array Keyed):Prop where
 pm:r.toList.Perm (a.toList++b.toList)
 so:Srt lt r.toList
theorem ext_drop (a:Array Keyed) (i:Nat):(a.extract i a.size).toList=a.toList.drop i:=by
 rw [eG,dF]
 exact dg (by rw [aU,ao];exact af _)
theorem MI.endB (m:MI lt a b out ia ib) (sa:Srt lt a.toList) (e:ib=b.size):Mrg lt a b (out++a.extract ia a.size++b.extract ib b.size):=by
 have eb:b.toList.drop ib=[]:=by rw [e,← ao,cf]
 have et:(out++a.extract ia a.size++b.extract ib b.size).toList=out.toList++a.toList.drop ia:=by
  rw [aJ,aJ,ext_drop,ext_drop,eb,aNq]
 have pm:=m.pm
 rw [eb,aNq] at pm
 exact ⟨by rw [et];exact pm,by rw [et];exact aD.mpr ⟨m.so,sa.sublist (bG _ _),m.ua⟩⟩
theorem MI.endA (m:MI lt a b out ia ib) (sb:Srt lt b.toList) (e:ia=a.size):Mrg lt a b (out++a.extract ia a.size++b.extract ib b.size):=by
 have ea:a.toList.drop ia=[]:=by rw [e,← ao,cf]
 have et:(out++a.extract ia a.size++b.extract ib b.size).toList=out.toList++b.toList.drop ib:=by
  rw [aJ,aJ,ext_drop,ext_drop,ea,aNq]
 have pm:=m.pm
 rw [ea,eK] at pm
 exact ⟨by rw [et];exact pm,by rw [et];exact aD.mpr ⟨m.so,sb.sublist (bG _ _),m.ub⟩⟩
theorem MI.lastA (m:MI lt a b out ia ib) (sa:Srt lt a.toList) (sb:Srt lt b.toList) (h:∀ x∈b.toList.drop ib,∀ y∈a.toList.drop ia,lt y x=false):Mrg lt a b (out++b.extract ib b.size++a.extract ia a.size):=by
 have et:(out++b.extract ib b.size++a.extract ia a.size).toList=out.toList++(b.toList.drop ib++a.toList.drop ia):=by
  rw [aJ,aJ,ext_drop,ext_drop,ak]
 refine ⟨?_,?_⟩
 .rw [et]
  exact (bO.append_left _ bS).trans m.pm
 .rw [et]
  refine aD.mpr ⟨m.so,aD.mpr ⟨sb.sublist (bG _ _),sa.sublist (bG _ _),h⟩,fun x hx y hy=>?_⟩
  rcases mAq.mp hy with hy|hy
  .exact m.ub x hx y hy
  .exact m.ua x hx y hy
end
def mergeLo':Array Keyed->Array Keyed->StateT SortSt Sem (Array Keyed):=sortPriv% PySem.Builtin.mergeLo
def setMinGallop':Nat->StateT SortSt Sem Unit:=sortPriv% PySem.Builtin.setMinGallop
abbrev sg (st:SortSt) (g:Nat):SortSt:=SortSt.mk' (kindOf st) (arrOf st) (pendingOf st) g (failedOf st)
theorem setMinGallop'_eq (g:Nat):setMinGallop' g=modify fun st=>sg st g:=rfl
theorem mergeLo'_eq (a b:Array Keyed):mergeLo' a b=(do
 rule "list.sort.merge-lo"
 let total:=a.size+b.size
 let done (out:Array Keyed) (ia ib:Nat):=out++a.extract ia a.size++b.extract ib b.size
 let lastOfA (out:Array Keyed) (ia ib:Nat):=out++b.extract ib b.size++a.extract ia a.size
 let mut out:Array Keyed:=#[← elem' b 0]
 let mut ia:=0
 let mut ib:=1
 if ib == b.size then return done out ia ib
 if ia+1 == a.size then return lastOfA out ia ib
 let mut minGallop:=gallopOf (← get)
 for _ in [0:total] do
  let mut acount:=0
  let mut bcount:=0
  for _ in [0:total] do
   let some bWins ← lt' (← elem' b ib) (← elem' a ia)|return done out ia ib
   if bWins then
    out:=out.push (← elem' b ib);ib:=ib+1;bcount:=bcount+1;acount:=0
    if ib == b.size then return done out ia ib
    if bcount ≥ minGallop then break
   else
    out:=out.push (← elem' a ia);ia:=ia+1;acount:=acount+1;bcount:=0
    if ia+1 == a.size then return lastOfA out ia ib
    if acount ≥ minGallop then break
  rule "list.sort.gallop"
  minGallop:=minGallop+1
  for _ in [0:total] do
   if minGallop>1 then minGallop:=minGallop-1
   setMinGallop' minGallop
   let some k ← gallop' false (← elem' b ib) a ia (a.size-ia) 0|return done out ia ib
   acount:=k
   if k>0 then
    out:=out++a.extract ia (ia+k);ia:=ia+k
    if ia+1 == a.size then return lastOfA out ia ib
    if ia == a.size then return done out ia ib
   out:=out.push (← elem' b ib);ib:=ib+1
   if ib == b.size then return done out ia ib
   let some k ← gallop' true (← elem' a ia) b ib (b.size-ib) 0|return done out ia ib
   bcount:=k
   if k>0 then
    out:=out++b.extract ib (ib+k);ib:=ib+k
    if ib == b.size then return done out ia ib
   out:=out.push (← elem' a ia);ia:=ia+1
   if ia+1 == a.size then return lastOfA out ia ib
   if acount<7 && bcount<7 then break
  minGallop:=minGallop+1
  setMinGallop' minGallop
 unsupported "internal:list.sort.merge-bound"):=rfl
section
variable {prog:Program}{w:World}{A:Around}{E:Value->Shared->Prop}{s:Shared}{κ:SortKind}{P:Keyed->Prop}{lt:Keyed->Keyed->Bool}
theorem wpS_setMin {g:Nat}{st:SortSt}{Q:Unit->SortSt->Prop}(h:Q () (sg st g)):wpS (model prog w) A E s (setMinGallop' g) Q st:=by
 rw [setMinGallop'_eq]
 exact wpS_modify h
theorem wpS_rule {x:String}{st:SortSt}{Q:Unit->SortSt->Prop}(h:Q () st):wpS (model prog w) A E s (liftM (rule x):StateT SortSt Sem Unit) Q st:=wpS_lift (wpAny_rule ⟨rfl,h⟩)
theorem head_le (C:Cmp prog w A s κ P lt) {a:Array Keyed}{i:Nat}{x:Keyed}(ha:∀ x,x∈a->P x) (sa:Srt lt a.toList) (hx:a[i]?=some x):∀ y∈a.toList.drop i,lt y x=false:=by
 obtain ⟨hi,e⟩:=aC.mp hx
 have hi':i<a.toList.length:=by simpa using hi
 have e':a.toList[i]=x:=by simpa using e
 have sd:Srt lt (a.toList.drop i):=sa.sublist (bG _ _)
 rw [aK hi',e'] at sd ⊢
 intro y hy
 rcases ai.mp hy with rfl|hy
 .exact C.refl (ha _ (by rw [← e];exact aV hi))
 .exact (cX.mp sd).1 y hy
theorem mem_drop {a:Array Keyed}{i:Nat}{y:Keyed}(h:y∈a.toList.drop i):y∈a:=by simpa using bw h
theorem byd_mono (C:Cmp prog w A s κ P lt) {left:Bool}{key:Keyed}{arr:Array Keyed}{base n:Nat}(hb:base+n<=arr.size) (ha:∀ x,x∈arr->P x) (hkey:P key) (so:Srt lt (arr.toList.drop base)) :
  ∀ i j,i<=j->j<n->byd lt left key arr base j=true->byd lt left key arr base i=true:=by
 intro i j hij hj h
 have hi':base+i<arr.size:=by lia
 have hj':base+j<arr.size:=by lia
 have ei:arr.getD (base+i) key=arr[base+i]:=by simp [fX,hi']
 have ej:arr.getD (base+j) key=arr[base+j]:=by simp [fX,hj']
 have pi:=ha _ (aV hi')
 have pj:=ha _ (aV hj')
 have le:lt arr[base+j] arr[base+i]=false:=by
  rcases dN hij with q|q
  .have:=cG.mp so i j (by simp;lia) (by simp;lia) q
   simpa using this
  .subst q
   exact C.refl pi
 unfold byd at h ⊢
 rw [ei]
 rw [ej] at h
 cases left with
 | true =>
  rw [if_pos rfl] at h ⊢
  cases q:lt arr[base+i] key with
  | true=>rfl
  | false =>
   have:=C.trans key arr[base+i] arr[base+j] hkey pi pj q le
   rw [h] at this;cases this
 | false =>
  rw [if_neg (by decide)] at h ⊢
  have h':lt key arr[base+j]=false:=by simpa using h
  have:=C.trans arr[base+i] arr[base+j] key pi pj hkey le h'
  simp [this]
theorem byd_at {left:Bool}{key x:Keyed}{arr:Array Keyed}{base i:Nat}(hx:arr[base+i]?=some x):byd lt left key arr base i=if left then lt x key else !lt key x:=by
 obtain ⟨hi,e⟩:=aC.mp hx
 unfold byd
 have ei:arr.getD (base+i) key=x:=by simp [fX,hi,e]
 rw [ei]
theorem mem_take_drop {a:Array Keyed}{i k:Nat}{x:Keyed}(h:x∈(a.toList.drop i).take k):∃ j,j<k/\a[i+j]?=some x:=by
 obtain ⟨j,hj,e⟩:=bU.mp h
 rw [lTq] at hj
 refine ⟨j,by lia,?_⟩
 rw [fb,dY] at e
 rw [aC]
 have hs:i+j<a.size:=by
  rw [aU,ao] at hj
  lia
 exact ⟨hs,by simpa using e⟩
theorem mem_drop_at {a:Array Keyed}{i:Nat}{x:Keyed}(h:x∈a.toList.drop i):∃ j,i+j<a.size/\a[i+j]?=some x:=by
 obtain ⟨j,hj,e⟩:=bU.mp h
 rw [aU,ao] at hj
 have hs:i+j<a.size:=by lia
 refine ⟨j,hs,?_⟩
 rw [dY] at e
 rw [aC]
 exact ⟨hs,by simpa using e⟩
theorem wpS_mergeLo (C:Cmp prog w A s κ P lt) {a b:Array Keyed}{st:SortSt}{Q:Array Keyed->SortSt->Prop}(ha:∀ x,x∈a->P x) (hb:∀ x,x∈b->P x) (hk:kindOf st=κ) (sa:Srt lt a.toList) (sb:Srt lt b.toList)
    (na:0<a.size) (nb:0<b.size) (h0:∀ x,b[0]?=some x->∀ y∈a.toList,lt y x=false) (hl:∀ i,i+1=a.size->∀ x∈b.toList,∀ y∈a.toList.drop i,lt y x=false)
    (h:∀ r g,Mrg lt a b r->Q r (sg st g)):wpS (model prog w) A E s (mergeLo' a b) Q st:=by
  rw [mergeLo'_eq]
  dsimp only
  refine wpS_bind (wpS_rule ?_)
  have eb0:b[0]?=some b[0]:=ag nb
  refine wpS_bind (wpS_elem eb0 ?_)
  have m0:MI lt a b #[] 0 0:=⟨ba _,ba _,by simp,by simp [Srt],by simp,by simp⟩
  have m1:MI lt a b #[b[0]] 0 1:=m0.pushB sb eb0 fun y hy=>h0 _ eb0 y (by simpa using hy)
  by_cases c1:1=b.size
  . rw [if_pos (by simp [← c1])]
    exact wpS_pure (h _ (gallopOf st) (m1.endB sa c1))
  rw [if_neg (by simpa using c1)]
  by_cases c2:0+1=a.size
  . rw [if_pos (by simp [← c2])]
    exact wpS_pure (h _ (gallopOf st) (m1.lastA sa sb fun x hx=>hl 0 c2 x (bw hx)))
  rw [if_neg (by simpa using c2)]
  refine wpS_bind (wpS_get ?_)
  refine wpS_bind (wpS_mono (wpS_forRange
    (I:=fun i c st'=>∃ out ia ib mg g,c=(none,out,ia,ib,mg)/\st'=sg st g/\MI lt a b out ia ib/\ia+1<a.size/\ib<b.size/\(a.size-ia)+(b.size-ib)+i<a.size+b.size)
    (Q:=fun c st'=>∃ r x g,c=(some r,x)/\st'=sg st g/\Mrg lt a b r) ?step ?fin ⟨_,0,1,_,gallopOf st,rfl,rfl,m1,by lia,by lia,by lia⟩) ?post)
  case fin =>
    rintro c st' ⟨out,ia,ib,mg,g,rfl,rfl,m,q1,q2,q3⟩
    lia
  case post =>
    rintro c st' ⟨r,x,g,rfl,rfl,m⟩
    exact wpS_pure (h r g m)
  case step =>
    rintro i c st' _ hi ⟨out,ia,ib,mg,g,rfl,rfl,m,q1,q2,q3⟩
    dsimp only
    refine wpS_bind (wpS_mono (wpS_forRange
      (I:=fun j c st'=>∃ out' ia' ib' ac bc,c=(none,out',ia',ib',ac,bc)/\st'=sg st g/\MI lt a b out' ia' ib'/\ia'+1<a.size/\ib'<b.size/\(a.size-ia')+(b.size-ib')+min j 1<=(a.size-ia)+(b.size-ib))
      (Q:=fun c st'=>st'=sg st g/\((∃ r x,c=(some r,x)/\Mrg lt a b r)∨∃ out' ia' ib' ac bc,c=(none,out',ia',ib',ac,bc)/\MI lt a b out' ia' ib'/\ia'+1<a.size/\ib'<b.size/\(a.size-ia')+(b.size-ib')+1<=(a.size-ia)+(b.size-ib)))
      ?step1 ?fin1 ⟨out,ia,ib,0,0,rfl,rfl,m,q1,q2,by lia⟩) ?post1)
    case fin1 =>
      rintro c st' ⟨out',ia',ib',ac,bc,rfl,rfl,m',p1,p2,p3⟩
      exact ⟨rfl,.inr ⟨out',ia',ib',ac,bc,rfl,m',p1,p2,by lia⟩⟩
    case step1 =>
      rintro j c st' _ hj ⟨out',ia',ib',ac,bc,rfl,rfl,m',p1,p2,p3⟩
      dsimp only
      have ea:a[ia']?=some a[ia']:=ag (by lia)
      have eb:b[ib']?=some b[ib']:=ag p2
      have pa:=ha _ (aV (show ia'<a.size by lia))
      have pb:=hb _ (aV p2)
      refine wpS_bind (wpS_elem eb (wpS_bind (wpS_elem ea (wpS_bind (C.cmp pb pa hk ?_)))))
      cases e:lt b[ib'] a[ia'] with
      | true =>
        dsimp only
        rw [if_pos rfl]
        refine wpS_bind (wpS_elem eb ?_)
        have m2:=m'.pushB sb eb fun y hy=>C.trans _ _ _ pb pa (ha _ (mem_drop hy)) (C.asym _ _ pb pa e) (head_le C ha sa ea y hy)
        by_cases d1:ib'+1=b.size
        . rw [if_pos (by simp [d1])]
          exact wpS_pure ⟨rfl,.inl ⟨_,_,rfl,m2.endB sa d1⟩⟩
        rw [if_neg (by simpa using d1)]
        by_cases d2:bc+1 ≥ mg
        . rw [if_pos d2]
          exact wpS_pure ⟨rfl,.inr ⟨_,_,_,_,_,rfl,m2,p1,by lia,by lia⟩⟩
        . rw [if_neg d2]
          exact wpS_pure ⟨_,_,_,_,_,rfl,rfl,m2,p1,by lia,by lia⟩
      | false =>
        dsimp only
        rw [if_neg (by decide)]
        refine wpS_bind (wpS_elem ea ?_)
        have m2:=m'.pushA sa ea fun y hy=>C.trans _ _ _ pa pb (hb _ (mem_drop hy)) e (head_le C hb sb eb y hy)
        by_cases d1:ia'+1+1=a.size
        . rw [if_pos (by simp [d1])]
          exact wpS_pure ⟨rfl,.inl ⟨_,_,rfl,m2.lastA sa sb fun x hx=>hl _ d1 x (bw hx)⟩⟩
        rw [if_neg (by simpa using d1)]
        by_cases d2:ac+1 ≥ mg
        . rw [if_pos d2]
          exact wpS_pure ⟨rfl,.inr ⟨_,_,_,_,_,rfl,m2,by lia,p2,by lia⟩⟩
        . rw [if_neg d2]
          exact wpS_pure ⟨_,_,_,_,_,rfl,rfl,m2,by lia,p2,by lia⟩
    case post1 =>
      rintro c st' ⟨rfl,⟨r,x,rfl,mr⟩|⟨out',ia',ib',ac,bc,rfl,m',p1,p2,p3⟩⟩
      . obtain ⟨x1,x2,x3,x4,x5⟩:=x
        exact wpS_pure ⟨r,_,g,rfl,rfl,mr⟩
      dsimp only
      refine wpS_bind (wpS_rule ?_)
      refine wpS_bind (wpS_mono (wpS_forRange
        (I:=fun j c st'=>∃ o2 i2 j2 mg2 ac2 bc2 g2,c=(none,o2,i2,j2,mg2,ac2,bc2)/\st'=sg st g2/\MI lt a b o2 i2 j2/\i2+1<a.size/\j2<b.size/\(a.size-i2)+(b.size-j2)+1<=(a.size-ia)+(b.size-ib))
        (Q:=fun c st'=>∃ g2,st'=sg st g2/\((∃ r x,c=(some r,x)/\Mrg lt a b r)∨∃ o2 i2 j2 mg2 ac2 bc2,c=(none,o2,i2,j2,mg2,ac2,bc2)/\MI lt a b o2 i2 j2/\i2+1<a.size/\j2<b.size/\(a.size-i2)+(b.size-j2)+1<=(a.size-ia)+(b.size-ib)))
        ?step2 ?fin2 ⟨out',ia',ib',_,ac,bc,g,rfl,rfl,m',p1,p2,p3⟩) ?post2)
      case fin2 =>
        rintro c st' ⟨o2,i2,j2,mg2,ac2,bc2,g2,rfl,rfl,m2,r1,r2,r3⟩
        exact ⟨g2,rfl,.inr ⟨_,_,_,_,_,_,rfl,m2,r1,r2,r3⟩⟩
      case post2 =>
        rintro c st' ⟨g2,rfl,⟨r,x,rfl,mr⟩|⟨o2,i2,j2,mg2,ac2,bc2,rfl,m2,r1,r2,r3⟩⟩
        . obtain ⟨x1,x2,x3,x4,x5,x6⟩:=x
          exact wpS_pure ⟨r,_,g2,rfl,rfl,mr⟩
        dsimp only
        refine wpS_bind (wpS_setMin (wpS_pure ?_))
        exact ⟨o2,i2,j2,_,_,rfl,rfl,m2,r1,r2,by lia⟩
      case step2 =>
        rintro j c st' _ hj ⟨o2,i2,j2,mg2,ac2,bc2,g2,rfl,rfl,m2,r1,r2,r3⟩
        dsimp only
        have eb:b[j2]?=some b[j2]:=ag r2
        have pb:=hb _ (aV r2)
        by_cases cm:mg2>1
        all_goals
          first
            | rw [if_pos cm]
            | rw [if_neg cm]
          refine wpS_bind (wpS_setMin ?_)
          refine wpS_bind (wpS_elem eb ?_)
          refine wpS_bind (wpS_gallop C (base:=i2) (n:=a.size-i2) (by lia) (by lia) ha pb hk (byd_mono C (by lia) ha pb (sa.sublist (bG _ _))) fun k k1 k2 k3=>?_)
          dsimp only
          have low:∀ x∈(a.toList.drop i2).take k,∀ y∈b.toList.drop j2,lt y x=false:=fun x hx y hy=>by
            obtain ⟨j',hj',ex⟩:=mem_take_drop hx
            have q:=k2 j' hj'
            rw [byd_at ex,if_neg (by decide)] at q
            have q':lt b[j2] x=false:=by simpa using q
            have px:=ha x (bN hx |> mem_drop)
            exact C.trans _ _ _ px pb (hb _ (mem_drop hy)) q' (head_le C hb sb eb y hy)
          have high:∀ y∈a.toList.drop (i2+k),lt y b[j2]=false:=fun y hy=>by
            obtain ⟨j',hj',ey⟩:=mem_drop_at hy
            have q:=k3 (k+j') (by lia) (by lia)
            rw [byd_at (by rw [← eB];exact ey),if_neg (by decide)] at q
            have q':lt b[j2] y=true:=by simpa using q
            exact C.asym _ _ pb (ha _ (mem_drop hy)) q'
          have m3:=m2.moreA sa (k:=k) (by lia) low
          by_cases ck:k>0
          all_goals
            first
              | (rw [if_pos ck]
                 by_cases d1:i2+k+1=a.size
                 . rw [if_pos (by simp [d1])]
                   exact wpS_pure ⟨_,rfl,.inl ⟨_,_,rfl,m3.lastA sa sb fun x hx=>hl _ d1 x (bw hx)⟩⟩
                 rw [if_neg (by simpa using d1)]
                 by_cases d2:i2+k=a.size
                 . rw [if_pos (by simp [d2])]
                   exact wpS_pure ⟨_,rfl,.inl ⟨_,_,rfl,m3.endA sb d2⟩⟩
                 rw [if_neg (by simpa using d2)]
                 have hN1:i2+k+1<a.size:=by lia
                 have hN2:(a.size-(i2+k))+(b.size-j2)+1<=(a.size-ia)+(b.size-ib):=by lia
                 clear low k2 k3 k1 d1 d2
                 generalize i2+k=iN at m3 high hN1 hN2 ⊢
                 generalize o2++a.extract i2 iN=oN at m3 ⊢)
              | (rw [if_neg ck]
                 have k0:k=0:=by lia
                 subst k0
                 replace m3:=m2
                 replace high:∀ y∈a.toList.drop i2,lt y b[j2]=false:=high
                 have hN1:i2+1<a.size:=by lia
                 have hN2:(a.size-i2)+(b.size-j2)+1<=(a.size-ia)+(b.size-ib):=by lia
                 clear low k2 k3 k1
                 generalize hiN:i2=iN at m3 high hN1 hN2 ⊢
                 generalize hoN:o2=oN at m3 ⊢)
            refine wpS_bind (wpS_elem eb ?_)
            have m4:=m3.pushB sb eb high
            by_cases d3:j2+1=b.size
            . rw [if_pos (by simp [d3])]
              exact wpS_pure ⟨_,rfl,.inl ⟨_,_,rfl,m4.endB sa d3⟩⟩
            rw [if_neg (by simpa using d3)]
            have ea:a[iN]?=some (a[iN]'(by lia)):=ag (by lia)
            have pa:=ha _ (aV (show iN<a.size by lia))
            refine wpS_bind (wpS_elem ea ?_)
            have hea:=head_le C ha sa ea
            refine wpS_bind (wpS_gallop C (base:=j2+1) (n:=b.size-(j2+1)) (by lia) (by lia) hb pa hk (byd_mono C (by lia) hb pa (sb.sublist (bG _ _))) fun l l1 l2 l3=>?_)
            dsimp only
            have lowB:∀ x∈(b.toList.drop (j2+1)).take l,∀ y∈a.toList.drop iN,lt y x=false:=fun x hx y hy=>by
              obtain ⟨j',hj',ex⟩:=mem_take_drop hx
              have q:=l2 j' hj'
              rw [byd_at ex,if_pos rfl] at q
              have px:=hb x (bN hx |> mem_drop)
              exact C.trans _ _ _ px pa (ha _ (mem_drop hy)) (C.asym _ _ px pa q) (hea y hy)
            have highB:∀ y∈b.toList.drop (j2+1+l),lt y a[iN]=false:=fun y hy=>by
              obtain ⟨j',hj',ey⟩:=mem_drop_at hy
              have q:=l3 (l+j') (by lia) (by lia)
              rw [byd_at (by rw [← eB];exact ey),if_pos rfl] at q
              exact q
            have m5:=m4.moreB sb (k:=l) (by lia) lowB
            by_cases cl:l>0
            all_goals
              first
                | (rw [if_pos cl]
                   by_cases d5:j2+1+l=b.size
                   . rw [if_pos (by simp [d5])]
                     exact wpS_pure ⟨_,rfl,.inl ⟨_,_,rfl,m5.endB sa d5⟩⟩
                   rw [if_neg (by simpa using d5)]
                   have hM1:j2+1+l<b.size:=by lia
                   have hM2:(a.size-iN)+(b.size-(j2+1+l))+1<=(a.size-ia)+(b.size-ib):=by lia
                   clear lowB l2 l3 l1 d5
                   generalize j2+1+l=jN at m5 highB hM1 hM2 ⊢
                   generalize oN.push b[j2]++b.extract (j2+1) jN=o5 at m5 ⊢)
                | (rw [if_neg cl]
                   have l0:l=0:=by lia
                   subst l0
                   replace m5:=m4
                   replace highB:∀ y∈b.toList.drop (j2+1),lt y a[iN]=false:=highB
                   have hM1:j2+1<b.size:=by lia
                   have hM2:(a.size-iN)+(b.size-(j2+1))+1<=(a.size-ia)+(b.size-ib):=by lia
                   clear lowB l2 l3 l1
                   generalize hjN:j2+1=jN at m5 highB hM1 hM2 ⊢
                   generalize hoM:oN.push b[j2]=o5 at m5 ⊢)
              refine wpS_bind (wpS_elem ea ?_)
              have m6:=m5.pushA sa ea highB
              by_cases d6:iN+1+1=a.size
              . rw [if_pos (by simp [d6])]
                exact wpS_pure ⟨_,rfl,.inl ⟨_,_,rfl,m6.lastA sa sb fun x hx=>hl _ d6 x (bw hx)⟩⟩
              rw [if_neg (by simpa using d6)]
              split
              . exact wpS_pure ⟨_,rfl,.inr ⟨_,_,_,_,_,_,rfl,m6,by lia,hM1,by lia⟩⟩
              . exact wpS_pure ⟨_,_,_,_,_,_,_,rfl,rfl,m6,by lia,hM1,by lia⟩
end
structure MH (lt:Keyed->Keyed->Bool) (a b out:Array Keyed) (na nb:Nat):Prop where
 la:na<=a.size
 lb:nb<=b.size
 pm:((a.toList.take na++b.toList.take nb)++out.toList.reverse).Perm (a.toList++b.toList)
 so:Srt lt out.toList.reverse
 ua:∀ x∈a.toList.take na,∀ y∈out.toList,lt y x=false
 ub:∀ x∈b.toList.take nb,∀ y∈out.toList,lt y x=false
section
variable {lt:Keyed->Keyed->Bool}{a b out out':Array Keyed}{na nb k:Nat}
theorem MH.congr (m:MH lt a b out na nb) (e:out'.toList=out.toList):MH lt a b out' na nb:=⟨m.la,m.lb,by rw [e];exact m.pm,by rw [e];exact m.so,by rw [e];exact m.ua,by rw [e];exact m.ub⟩
theorem cut_take (l:List Keyed) (k n:Nat) (h:k<=n):l.take n=l.take k++(l.take n).drop k:=by
 have e:(l.take n).take k=l.take k:=by rw [List.take_take,dh h]
 rw [← e,bt]
theorem ext_toList2 (a:Array Keyed) (k n:Nat):(a.extract k n).toList=(a.toList.take n).drop k:=by
 rw [eG,dF,List.drop_take]
theorem ext_take (a:Array Keyed) (n:Nat):(a.extract 0 n).toList=a.toList.take n:=by
 rw [ext_toList2,dW]
theorem MH.moreA (m:MH lt a b out na nb) (sa:Srt lt a.toList) (hk:k<=na) (h:∀ x∈b.toList.take nb,∀ y∈(a.toList.take na).drop k,lt y x=false):MH lt a b (out++(a.extract k na).reverse) k nb:=by
 have e:(out++(a.extract k na).reverse).toList=out.toList++((a.toList.take na).drop k).reverse:=by rw [aJ,bV,ext_toList2]
 have er:(out++(a.extract k na).reverse).toList.reverse=(a.toList.take na).drop k++out.toList.reverse:=by rw [e,fY,eI]
 have c:=cut_take a.toList k na hk
 have sd:Srt lt (a.toList.take na):=sa.sublist (bj _ _)
 have sd2:=sd
 rw [c] at sd2
 obtain ⟨q1,q2,q3⟩:=aD.mp sd2
 have sub:∀ y,y∈(a.toList.take na).drop k->y∈a.toList.take na:=fun y hy=>bw hy
 refine ⟨bC hk m.la,m.lb,?_,?_,?_,?_⟩
 .rw [er]
  refine bO.trans ?_ m.pm
  rw [← ak]
  refine bO.append_right _ ?_
  conv=>rhs;rw [c]
  rw [ak,ak]
  exact bO.append_left _ bS
 .rw [er]
  exact aD.mpr ⟨q2,m.so,fun x hx y hy=>m.ua x (sub x hx) y (bE.mp hy)⟩
 .rw [e]
  intro x hx y hy
  rcases mAq.mp hy with hy|hy
  .exact m.ua x (by rw [c];exact bM _ hx) y hy
  .exact q3 x hx y (bE.mp hy)
 .rw [e]
  intro x hx y hy
  rcases mAq.mp hy with hy|hy
  .exact m.ub x hx y hy
  .exact h x hx y (bE.mp hy)
theorem MH.moreB (m:MH lt a b out na nb) (sb:Srt lt b.toList) (hk:k<=nb) (h:∀ x∈a.toList.take na,∀ y∈(b.toList.take nb).drop k,lt y x=false):MH lt a b (out++(b.extract k nb).reverse) na k:=by
 have e:(out++(b.extract k nb).reverse).toList=out.toList++((b.toList.take nb).drop k).reverse:=by rw [aJ,bV,ext_toList2]
 have er:(out++(b.extract k nb).reverse).toList.reverse=(b.toList.take nb).drop k++out.toList.reverse:=by rw [e,fY,eI]
 have c:=cut_take b.toList k nb hk
 have sd:Srt lt (b.toList.take nb):=sb.sublist (bj _ _)
 have sd2:=sd
 rw [c] at sd2
 obtain ⟨q1,q2,q3⟩:=aD.mp sd2
 have sub:∀ y,y∈(b.toList.take nb).drop k->y∈b.toList.take nb:=fun y hy=>bw hy
 refine ⟨m.la,bC hk m.lb,?_,?_,?_,?_⟩
 .rw [er]
  refine bO.trans ?_ m.pm
  rw [← ak]
  refine bO.append_right _ ?_
  conv=>rhs;rw [c]
  rw [ak]
 .rw [er]
  exact aD.mpr ⟨q2,m.so,fun x hx y hy=>m.ub x (sub x hx) y (bE.mp hy)⟩
 .rw [e]
  intro x hx y hy
  rcases mAq.mp hy with hy|hy
  .exact m.ua x hx y hy
  .exact h x hx y (bE.mp hy)
 .rw [e]
  intro x hx y hy
  rcases mAq.mp hy with hy|hy
  .exact m.ub x (by rw [c];exact bM _ hx) y hy
  .exact q3 x hx y (bE.mp hy)
theorem take_drop1 {l:List Keyed}{i:Nat}{x:Keyed}(h:l[i]?=some x):(l.take (i+1)).drop i=[x]:=by
 rw [dr,h,List.drop_append]
 have hl:(l.take i).length=i:=by
  have:=(gSq.mp h).1
  rw [lTq];lia
 rw [ef (by lia),hl,cV]
 rfl
theorem MH.pushA {x:Keyed}(m:MH lt a b out (na+1) nb) (sa:Srt lt a.toList) (hx:a[na]?=some x) (h:∀ y∈b.toList.take nb,lt x y=false):MH lt a b (out.push x) na nb:=by
 have hx':a.toList[na]?=some x:=by rw [aA];exact hx
 refine (m.moreA sa (k:=na) (bA _) fun z hz y hy=>?_).congr ?_
 .rw [take_drop1 hx',mSq] at hy
  rw [hy];exact h z hz
 .rw [dq,aJ,bV,ext_toList2,take_drop1 hx']
  rfl
theorem MH.pushB {x:Keyed}(m:MH lt a b out na (nb+1)) (sb:Srt lt b.toList) (hx:b[nb]?=some x) (h:∀ y∈a.toList.take na,lt x y=false):MH lt a b (out.push x) na nb:=by
 have hx':b.toList[nb]?=some x:=by rw [aA];exact hx
 refine (m.moreB sb (k:=nb) (bA _) fun z hz y hy=>?_).congr ?_
 .rw [take_drop1 hx',mSq] at hy
  rw [hy];exact h z hz
 .rw [dq,aJ,bV,ext_toList2,take_drop1 hx']
  rfl
theorem MH.end (m:MH lt a b out na nb) (sa:Srt lt a.toList) (sb:Srt lt b.toList) (e:na=0∨nb=0):Mrg lt a b (a.extract 0 na++b.extract 0 nb++out.reverse):=by
 have et:(a.extract 0 na++b.extract 0 nb++out.reverse).toList=(a.toList.take na++b.toList.take nb)++out.toList.reverse:=by
  rw [aJ,aJ,ext_take,ext_take,bV]
 refine ⟨by rw [et];exact m.pm,?_⟩
 rw [et]
 refine aD.mpr ⟨?_,m.so,fun x hx y hy=>?_⟩
 .rcases e with rfl|rfl
  .rw [gO,eK];exact sb.sublist (bj _ _)
  .rw [gO,aNq];exact sa.sublist (bj _ _)
 .rcases mAq.mp hx with hx|hx
  .exact m.ua x hx y (bE.mp hy)
  .exact m.ub x hx y (bE.mp hy)
theorem MH.firstB (m:MH lt a b out na nb) (sa:Srt lt a.toList) (sb:Srt lt b.toList) (h:∀ x∈b.toList.take nb,∀ y∈a.toList.take na,lt y x=false):Mrg lt a b (b.extract 0 nb++a.extract 0 na++out.reverse):=by
 have et:(b.extract 0 nb++a.extract 0 na++out.reverse).toList=(b.toList.take nb++a.toList.take na)++out.toList.reverse:=by
  rw [aJ,aJ,ext_take,ext_take,bV]
 refine ⟨?_,?_⟩
 .rw [et]
  exact (bO.append_right _ bS).trans m.pm
 .rw [et]
  refine aD.mpr ⟨aD.mpr ⟨sb.sublist (bj _ _),sa.sublist (bj _ _),h⟩,m.so,fun x hx y hy=>?_⟩
  rcases mAq.mp hx with hx|hx
  .exact m.ub x hx y (bE.mp hy)
  .exact m.ua x hx y (bE.mp hy)
end
def mergeHi':Array Keyed->Array Keyed->StateT SortSt Sem (Array Keyed):=sortPriv% PySem.Builtin.mergeHi
theorem mergeHi'_eq (a b:Array Keyed):mergeHi' a b=(do
 rule "list.sort.merge-hi"
 let total:=a.size+b.size
 let done (out:Array Keyed) (na nb:Nat):=a.extract 0 na++b.extract 0 nb++out.reverse
 let firstOfB (out:Array Keyed) (na nb:Nat):=b.extract 0 nb++a.extract 0 na++out.reverse
 let mut na:=a.size-1
 let mut nb:=b.size
 let mut out:Array Keyed:=#[← elem' a na]
 if na == 0 then return done out na nb
 if nb == 1 then return firstOfB out na nb
 let mut minGallop:=gallopOf (← get)
 for _ in [0:total] do
  let mut acount:=0
  let mut bcount:=0
  for _ in [0:total] do
   let some aWins ← lt' (← elem' b (nb-1)) (← elem' a (na-1))|return done out na nb
   if aWins then
    na:=na-1;out:=out.push (← elem' a na);acount:=acount+1;bcount:=0
    if na == 0 then return done out na nb
    if acount ≥ minGallop then break
   else
    nb:=nb-1;out:=out.push (← elem' b nb);bcount:=bcount+1;acount:=0
    if nb == 1 then return firstOfB out na nb
    if bcount ≥ minGallop then break
  rule "list.sort.gallop"
  minGallop:=minGallop+1
  for _ in [0:total] do
   if minGallop>1 then minGallop:=minGallop-1
   setMinGallop' minGallop
   let some at_ ← gallop' false (← elem' b (nb-1)) a 0 na (na-1)|return done out na nb
   let k:=na-at_
   acount:=k
   if k>0 then
    out:=out++(a.extract at_ na).reverse;na:=at_
    if na == 0 then return done out na nb
   nb:=nb-1;out:=out.push (← elem' b nb)
   if nb == 1 then return firstOfB out na nb
   let some at_ ← gallop' true (← elem' a (na-1)) b 0 nb (nb-1)|return done out na nb
   let k:=nb-at_
   bcount:=k
   if k>0 then
    out:=out++(b.extract at_ nb).reverse;nb:=at_
    if nb == 1 then return firstOfB out na nb
    if nb == 0 then return done out na nb
   na:=na-1;out:=out.push (← elem' a na)
   if na == 0 then return done out na nb
   if acount<7 && bcount<7 then break
  minGallop:=minGallop+1
  setMinGallop' minGallop
 unsupported "internal:list.sort.merge-bound"):=rfl
section
variable {prog:Program}{w:World}{A:Around}{E:Value->Shared->Prop}{s:Shared}{κ:SortKind}{P:Keyed->Prop}{lt:Keyed->Keyed->Bool}
theorem last_ge (C:Cmp prog w A s κ P lt) {a:Array Keyed}{i:Nat}{x:Keyed}(ha:∀ x,x∈a->P x) (sa:Srt lt a.toList) (hx:a[i]?=some x):∀ y∈a.toList.take (i+1),lt x y=false:=by
 obtain ⟨hi,e⟩:=aC.mp hx
 have hx':a.toList[i]?=some x:=by rw [aA];exact hx
 have sd:Srt lt (a.toList.take (i+1)):=sa.sublist (bj _ _)
 rw [dr,hx'] at sd ⊢
 intro y hy
 rcases mAq.mp hy with hy|hy
 .exact (aD.mp sd).2.2 y hy x (by simp)
 .have:y=x:=by simpa using hy
  rw [this]
  exact C.refl (ha _ (by rw [← e];exact aV hi))
theorem mem_take {a:Array Keyed}{i:Nat}{y:Keyed}(h:y∈a.toList.take i):y∈a:=by simpa using bN h
theorem mem_take_at {a:Array Keyed}{n:Nat}{x:Keyed}(h:x∈a.toList.take n):∃ j,j<n/\a[0+j]?=some x:=by
 have h':x∈(a.toList.drop 0).take n:=by rw [dW];exact h
 exact mem_take_drop h'
theorem mem_take_drop2 {a:Array Keyed}{k n:Nat}{x:Keyed}(h:x∈(a.toList.take n).drop k):∃ j,k<=j/\j<n/\a[0+j]?=some x:=by
 obtain ⟨j,hj,e⟩:=bU.mp h
 rw [aU,lTq,ao] at hj
 refine ⟨k+j,by lia,by lia,?_⟩
 rw [dY,fb] at e
 rw [aC]
 exact ⟨by lia,by simpa using e⟩
theorem wpS_mergeHi (C:Cmp prog w A s κ P lt) {a b:Array Keyed}{st:SortSt}{Q:Array Keyed->SortSt->Prop}(ha:∀ x,x∈a->P x) (hb:∀ x,x∈b->P x) (hk:kindOf st=κ) (sa:Srt lt a.toList) (sb:Srt lt b.toList)
    (na0:0<a.size) (nb0:0<b.size) (h0:∀ x∈b.toList.take 1,∀ y∈a.toList,lt y x=false) (hl:∀ x,a[a.size-1]?=some x->∀ y∈b.toList,lt x y=false)
    (h:∀ r g,Mrg lt a b r->Q r (sg st g)):wpS (model prog w) A E s (mergeHi' a b) Q st:=by
  rw [mergeHi'_eq]
  dsimp only
  refine wpS_bind (wpS_rule ?_)
  have ea0:a[a.size-1]?=some (a[a.size-1]'(by lia)):=ag (by lia)
  refine wpS_bind (wpS_elem ea0 ?_)
  have m0:MH lt a b #[] (a.size-1+1) b.size:=⟨by lia,af _,by
    rw [show a.size-1+1=a.toList.length by simp;lia,bu,← ao,bu];simp,by simp [Srt],by simp,by simp⟩
  have m1:MH lt a b #[a[a.size-1]'(by lia)] (a.size-1) b.size:=m0.pushA sa ea0 fun y hy=>hl _ ea0 y (bN hy)
  have first:∀ {out n},MH lt a b out n 1->Mrg lt a b (b.extract 0 1++a.extract 0 n++out.reverse):=fun m=>m.firstB sa sb fun x hx y hy=>h0 x hx y (bN hy)
  by_cases c1:a.size-1=0
  . rw [if_pos (by simp [c1])]
    exact wpS_pure (h _ (gallopOf st) (m1.end sa sb (.inl c1)))
  rw [if_neg (by simpa using c1)]
  by_cases c2:b.size=1
  . rw [if_pos (by simp [c2])]
    have m1':=m1
    rw [c2] at m1' ⊢
    exact wpS_pure (h _ (gallopOf st) (first m1'))
  rw [if_neg (by simpa using c2)]
  refine wpS_bind (wpS_get ?_)
  refine wpS_bind (wpS_mono (wpS_forRange
    (I:=fun i c st'=>∃ out na nb mg g,c=(none,na,nb,out,mg)/\st'=sg st g/\MH lt a b out na nb/\0<na/\1<nb/\na+nb+i<a.size+b.size)
    (Q:=fun c st'=>∃ r x g,c=(some r,x)/\st'=sg st g/\Mrg lt a b r) ?step ?fin ⟨_,_,_,_,gallopOf st,rfl,rfl,m1,by lia,by lia,by lia⟩) ?post)
  case fin =>
    rintro c st' ⟨out,na,nb,mg,g,rfl,rfl,m,q1,q2,q3⟩
    lia
  case post =>
    rintro c st' ⟨r,x,g,rfl,rfl,m⟩
    exact wpS_pure (h r g m)
  case step =>
    rintro i c st' _ hi ⟨out,na,nb,mg,g,rfl,rfl,m,q1,q2,q3⟩
    dsimp only
    refine wpS_bind (wpS_mono (wpS_forRange
      (I:=fun j c st'=>∃ out' n1 n2 ac bc,c=(none,n1,n2,out',ac,bc)/\st'=sg st g/\MH lt a b out' n1 n2/\0<n1/\1<n2/\n1+n2+min j 1<=na+nb)
      (Q:=fun c st'=>st'=sg st g/\((∃ r x,c=(some r,x)/\Mrg lt a b r)∨∃ out' n1 n2 ac bc,c=(none,n1,n2,out',ac,bc)/\MH lt a b out' n1 n2/\0<n1/\1<n2/\n1+n2+1<=na+nb))
      ?step1 ?fin1 ⟨out,na,nb,0,0,rfl,rfl,m,q1,q2,by lia⟩) ?post1)
    case fin1 =>
      rintro c st' ⟨out',n1,n2,ac,bc,rfl,rfl,m',p1,p2,p3⟩
      exact ⟨rfl,.inr ⟨out',n1,n2,ac,bc,rfl,m',p1,p2,by lia⟩⟩
    case step1 =>
      rintro j c st' _ hj ⟨out',n1,n2,ac,bc,rfl,rfl,m',p1,p2,p3⟩
      dsimp only
      have la:=m'.la
      have lb:=m'.lb
      obtain ⟨u,rfl⟩:∃ u,n1=u+1:=⟨n1-1,by lia⟩
      obtain ⟨v,rfl⟩:∃ v,n2=v+1:=⟨n2-1,by lia⟩
      simp only [eU]
      have ea:a[u]?=some a[u]:=ag (by lia)
      have eb:b[v]?=some b[v]:=ag (by lia)
      have pa:=ha _ (aV (show u<a.size by lia))
      have pb:=hb _ (aV (show v<b.size by lia))
      refine wpS_bind (wpS_elem eb (wpS_bind (wpS_elem ea (wpS_bind (C.cmp pb pa hk ?_)))))
      cases e:lt b[v] a[u] with
      | true =>
        dsimp only
        rw [if_pos rfl]
        refine wpS_bind (wpS_elem ea ?_)
        have m2:=m'.pushA sa ea fun y hy=>C.trans _ _ _ (hb _ (mem_take hy)) pb pa (last_ge C hb sb eb y hy) (C.asym _ _ pb pa e)
        by_cases d1:u=0
        . rw [if_pos (by simp [d1])]
          exact wpS_pure ⟨rfl,.inl ⟨_,_,rfl,m2.end sa sb (.inl d1)⟩⟩
        rw [if_neg (by simpa using d1)]
        by_cases d2:ac+1 ≥ mg
        . rw [if_pos d2]
          exact wpS_pure ⟨rfl,.inr ⟨_,_,_,_,_,rfl,m2,by lia,p2,by lia⟩⟩
        . rw [if_neg d2]
          exact wpS_pure ⟨_,_,_,_,_,rfl,rfl,m2,by lia,p2,by lia⟩
      | false =>
        dsimp only
        rw [if_neg (by decide)]
        refine wpS_bind (wpS_elem eb ?_)
        have m2:=m'.pushB sb eb fun y hy=>C.trans _ _ _ (ha _ (mem_take hy)) pa pb (last_ge C ha sa ea y hy) e
        by_cases d1:v=1
        . rw [if_pos (by simp [d1])]
          subst d1
          exact wpS_pure ⟨rfl,.inl ⟨_,_,rfl,first m2⟩⟩
        rw [if_neg (by simpa using d1)]
        by_cases d2:bc+1 ≥ mg
        . rw [if_pos d2]
          exact wpS_pure ⟨rfl,.inr ⟨_,_,_,_,_,rfl,m2,p1,by lia,by lia⟩⟩
        . rw [if_neg d2]
          exact wpS_pure ⟨_,_,_,_,_,rfl,rfl,m2,p1,by lia,by lia⟩
    case post1 =>
      rintro c st' ⟨rfl,⟨r,x,rfl,mr⟩|⟨out',n1,n2,ac,bc,rfl,m',p1,p2,p3⟩⟩
      . obtain ⟨x1,x2,x3,x4,x5⟩:=x
        exact wpS_pure ⟨r,_,g,rfl,rfl,mr⟩
      dsimp only
      refine wpS_bind (wpS_rule ?_)
      refine wpS_bind (wpS_mono (wpS_forRange
        (I:=fun j c st'=>∃ o2 i2 j2 mg2 ac2 bc2 g2,c=(none,i2,j2,o2,mg2,ac2,bc2)/\st'=sg st g2/\MH lt a b o2 i2 j2/\0<i2/\1<j2/\i2+j2+1<=na+nb)
        (Q:=fun c st'=>∃ g2,st'=sg st g2/\((∃ r x,c=(some r,x)/\Mrg lt a b r)∨∃ o2 i2 j2 mg2 ac2 bc2,c=(none,i2,j2,o2,mg2,ac2,bc2)/\MH lt a b o2 i2 j2/\0<i2/\1<j2/\i2+j2+1<=na+nb))
        ?step2 ?fin2 ⟨out',n1,n2,_,ac,bc,g,rfl,rfl,m',p1,p2,p3⟩) ?post2)
      case fin2 =>
        rintro c st' ⟨o2,i2,j2,mg2,ac2,bc2,g2,rfl,rfl,m2,r1,r2,r3⟩
        exact ⟨g2,rfl,.inr ⟨_,_,_,_,_,_,rfl,m2,r1,r2,r3⟩⟩
      case post2 =>
        rintro c st' ⟨g2,rfl,⟨r,x,rfl,mr⟩|⟨o2,i2,j2,mg2,ac2,bc2,rfl,m2,r1,r2,r3⟩⟩
        . obtain ⟨x1,x2,x3,x4,x5,x6⟩:=x
          exact wpS_pure ⟨r,_,g2,rfl,rfl,mr⟩
        dsimp only
        refine wpS_bind (wpS_setMin (wpS_pure ?_))
        exact ⟨o2,i2,j2,_,_,rfl,rfl,m2,r1,r2,by lia⟩
      case step2 =>
        rintro j c st' _ hj ⟨o2,i2,j2,mg2,ac2,bc2,g2,rfl,rfl,m2,r1,r2,r3⟩
        dsimp only
        have la:=m2.la
        have lb:=m2.lb
        obtain ⟨v,rfl⟩:∃ v,j2=v+1:=⟨j2-1,by lia⟩
        simp only [eU]
        have eb:b[v]?=some b[v]:=ag (by lia)
        have pb:=hb _ (aV (show v<b.size by lia))
        by_cases cm:mg2>1
        all_goals
          first
            | rw [if_pos cm]
            | rw [if_neg cm]
          refine wpS_bind (wpS_setMin ?_)
          refine wpS_bind (wpS_elem eb ?_)
          refine wpS_bind (wpS_gallop C (base:=0) (n:=i2) (by lia) (by lia) ha pb hk (byd_mono C (by lia) ha pb (by rw [dW];exact sa)) fun k k1 k2 k3=>?_)
          dsimp only
          have low:∀ x∈b.toList.take (v+1),∀ y∈(a.toList.take i2).drop k,lt y x=false:=fun x hx y hy=>by
            obtain ⟨j',hj1,hj',ey⟩:=mem_take_drop2 hy
            have q:=k3 j' hj1 hj'
            rw [byd_at ey,if_neg (by decide)] at q
            have q':lt b[v] y=true:=by simpa using q
            have py:=ha y (bw hy |> mem_take)
            exact C.trans _ _ _ (hb _ (mem_take hx)) pb py (last_ge C hb sb eb x hx) (C.asym _ _ pb py q')
          have high:∀ y∈a.toList.take k,lt b[v] y=false:=fun y hy=>by
            obtain ⟨j',hj',ey⟩:=mem_take_at hy
            have q:=k2 j' hj'
            rw [byd_at ey,if_neg (by decide)] at q
            simpa using q
          have m3:=m2.moreA sa (k:=k) k1 low
          by_cases ck:i2-k>0
          all_goals
            first
              | (rw [if_pos ck]
                 by_cases d2:k=0
                 . rw [if_pos (by simp [d2])]
                   exact wpS_pure ⟨_,rfl,.inl ⟨_,_,rfl,m3.end sa sb (.inl d2)⟩⟩
                 rw [if_neg (by simpa using d2)]
                 have hN1:0<k:=by lia
                 have hN2:k+(v+1)+1<=na+nb:=by lia
                 clear low k2 k3
                 generalize hoN:o2++(a.extract k i2).reverse=oN at m3 ⊢
                 generalize hiN:k=iN at m3 high hN1 hN2 ⊢)
              | (rw [if_neg ck]
                 have k0:k=i2:=by lia
                 subst k0
                 replace m3:=m2
                 have hN1:0<k:=r1
                 have hN2:k+(v+1)+1<=na+nb:=r3
                 clear low k2 k3
                 generalize hoN:o2=oN at m3 ⊢
                 generalize hiN:k=iN at m3 high hN1 hN2 ⊢)
            refine wpS_bind (wpS_elem eb ?_)
            have m4:=m3.pushB sb eb high
            by_cases d3:v=1
            . rw [if_pos (by simp [d3])]
              subst d3
              exact wpS_pure ⟨_,rfl,.inl ⟨_,_,rfl,first m4⟩⟩
            rw [if_neg (by simpa using d3)]
            have la3:=m3.la
            obtain ⟨u,rfl⟩:∃ u,iN=u+1:=⟨iN-1,by lia⟩
            simp only [eU]
            have ea:a[u]?=some (a[u]'(by lia)):=ag (by lia)
            have pa:=ha _ (aV (show u<a.size by lia))
            refine wpS_bind (wpS_elem ea ?_)
            have hea:=last_ge C ha sa ea
            refine wpS_bind (wpS_gallop C (base:=0) (n:=v) (by lia) (by lia) hb pa hk (byd_mono C (by lia) hb pa (by rw [dW];exact sb)) fun l l1 l2 l3=>?_)
            dsimp only
            have lowB:∀ x∈a.toList.take (u+1),∀ y∈(b.toList.take v).drop l,lt y x=false:=fun x hx y hy=>by
              obtain ⟨j',hj1,hj',ey⟩:=mem_take_drop2 hy
              have q:=l3 j' hj1 hj'
              rw [byd_at ey,if_pos rfl] at q
              have py:=hb y (bw hy |> mem_take)
              exact C.trans _ _ _ (ha _ (mem_take hx)) pa py (hea x hx) q
            have highB:∀ y∈b.toList.take l,lt a[u] y=false:=fun y hy=>by
              obtain ⟨j',hj',ey⟩:=mem_take_at hy
              have q:=l2 j' hj'
              rw [byd_at ey,if_pos rfl] at q
              exact C.asym _ _ (hb _ (mem_take hy)) pa q
            have m5:=m4.moreB sb (k:=l) l1 lowB
            by_cases cl:v-l>0
            all_goals
              first
                | (rw [if_pos cl]
                   by_cases d5:l=1
                   . rw [if_pos (by simp [d5])]
                     subst d5
                     exact wpS_pure ⟨_,rfl,.inl ⟨_,_,rfl,first m5⟩⟩
                   rw [if_neg (by simpa using d5)]
                   by_cases d6:l=0
                   . rw [if_pos (by simp [d6])]
                     exact wpS_pure ⟨_,rfl,.inl ⟨_,_,rfl,m5.end sa sb (.inr d6)⟩⟩
                   rw [if_neg (by simpa using d6)]
                   have hM1:1<l:=by lia
                   have hM2:u+1+l+1<=na+nb:=by lia
                   clear lowB l2 l3
                   generalize hoM:oN.push b[v]++(b.extract l v).reverse=o5 at m5 ⊢
                   generalize hjN:l=jN at m5 highB hM1 hM2 ⊢)
                | (rw [if_neg cl]
                   have l0:l=v:=by lia
                   subst l0
                   replace m5:=m4
                   have hM1:1<l:=by lia
                   have hM2:u+1+l+1<=na+nb:=by lia
                   clear lowB l2 l3
                   generalize hoM:oN.push b[l]=o5 at m5 ⊢
                   generalize hjN:l=jN at m5 highB hM1 hM2 ⊢)
              refine wpS_bind (wpS_elem ea ?_)
              have m6:=m5.pushA sa ea highB
              by_cases d7:u=0
              . rw [if_pos (by simp [d7])]
                exact wpS_pure ⟨_,rfl,.inl ⟨_,_,rfl,m6.end sa sb (.inl d7)⟩⟩
              rw [if_neg (by simpa using d7)]
              split
              . exact wpS_pure ⟨_,rfl,.inr ⟨_,_,_,_,_,_,rfl,m6,by lia,hM1,by lia⟩⟩
              . exact wpS_pure ⟨_,_,_,_,_,_,_,rfl,rfl,m6,by lia,hM1,by lia⟩
end
def Seg (lt:Keyed->Keyed->Bool) (xs:Array Keyed) (i j:Nat):Prop:=∀ p q x y,i<=p->p<=q->q<j->xs[p]?=some x->xs[q]?=some y->lt y x=false
def Des (lt:Keyed->Keyed->Bool) (xs:Array Keyed) (i j:Nat):Prop:=∀ p q x y,i<=p->p<=q->q<j->xs[p]?=some x->xs[q]?=some y->lt x y=false
def Eqv (lt:Keyed->Keyed->Bool) (xs:Array Keyed) (i j:Nat):Prop:=∀ p q x y,i<=p->p<j->i<=q->q<j->xs[p]?=some x->xs[q]?=some y->lt x y=false
section
variable {lt:Keyed->Keyed->Bool}{xs:Array Keyed}{i j lo n:Nat}
theorem mirror_seg (hj:j<=xs.size) (h:Des lt xs i j):Seg lt (mirror xs i j ((j-i) / 2)) i j:=by
 intro p q x y h1 h2 h3 ex ey
 rw [getElem?_mirror_all hj,if_pos ⟨h1,by lia⟩] at ex
 rw [getElem?_mirror_all hj,if_pos ⟨by lia,h3⟩] at ey
 exact h _ _ _ _ (by lia) (by lia) (by lia) ey ex
theorem mirror_des (hj:j<=xs.size) (hi:lo<=i) (hn:j<=n) (e:Eqv lt xs i j) (h:Des lt xs lo n):Des lt (mirror xs i j ((j-i) / 2)) lo n:=by
 intro p q x y h1 h2 h3 ex ey
 rw [getElem?_mirror_all hj] at ex ey
 by_cases cp:i<=p/\p<j
 .rw [if_pos cp] at ex
  by_cases cq:i<=q/\q<j
  .rw [if_pos cq] at ey
   exact e _ _ _ _ (by lia) (by lia) (by lia) (by lia) ex ey
  .rw [if_neg cq] at ey
   exact h _ _ _ _ (by lia) (by lia) h3 ex ey
 .rw [if_neg cp] at ex
  by_cases cq:i<=q/\q<j
  .rw [if_pos cq] at ey
   exact h _ _ _ _ h1 (by lia) (by lia) ex ey
  .rw [if_neg cq] at ey
   exact h _ _ _ _ h1 h2 h3 ex ey
end
section
variable {prog:Program}{w:World}{A:Around}{E:Value->Shared->Prop}{s:Shared}{κ:SortKind}{P:Keyed->Prop}{lt:Keyed->Keyed->Bool}
theorem seg_one (C:Cmp prog w A s κ P lt) {xs:Array Keyed}(hp:∀ x,x∈xs->P x) (lo:Nat):Seg lt xs lo (lo+1):=by
 intro p q x y h1 h2 h3 ex ey
 have e:p=q:=by lia
 subst e
 rw [ex] at ey
 cases ey
 exact C.refl (hp _ (aQq ex))
theorem seg_snoc (C:Cmp prog w A s κ P lt) {xs:Array Keyed}(hp:∀ x,x∈xs->P x) {lo n:Nat}(h:Seg lt xs lo (lo+(n+1))) (hx:∀ x y,xs[lo+(n+1)]?=some x->xs[lo+n]?=some y->lt x y=false) (hz:lo+(n+1)<xs.size):Seg lt xs lo (lo+(n+2)):=by
 intro p q x y h1 h2 h3 ex ey
 by_cases c:q<lo+(n+1)
 .exact h p q x y h1 h2 c ex ey
 .have eq:q=lo+(n+1):=by lia
  subst eq
  by_cases c2:p=lo+(n+1)
  .subst c2
   rw [ex] at ey
   cases ey
   exact C.refl (hp _ (aQq ex))
  .have em:xs[lo+n]?=some (xs[lo+n]'(by lia)):=ag (by lia)
   exact C.trans _ _ _ (hp _ (aQq ex)) (hp _ (aQq em)) (hp _ (aQq ey)) (h p (lo+n) _ _ h1 (by lia) (by lia) ex em) (hx _ _ ey em)
theorem des_snoc (C:Cmp prog w A s κ P lt) {xs:Array Keyed}(hp:∀ x,x∈xs->P x) {lo n:Nat}(h:Des lt xs lo (lo+(n+1))) (hx:∀ x y,xs[lo+(n+1)]?=some x->xs[lo+n]?=some y->lt y x=false) (hz:lo+(n+1)<xs.size):Des lt xs lo (lo+(n+2)):=by
 intro p q x y h1 h2 h3 ex ey
 by_cases c:q<lo+(n+1)
 .exact h p q x y h1 h2 c ex ey
 .have eq:q=lo+(n+1):=by lia
  subst eq
  by_cases c2:p=lo+(n+1)
  .subst c2
   rw [ex] at ey
   cases ey
   exact C.refl (hp _ (aQq ex))
  .have em:xs[lo+n]?=some (xs[lo+n]'(by lia)):=ag (by lia)
   exact C.trans _ _ _ (hp _ (aQq ey)) (hp _ (aQq em)) (hp _ (aQq ex)) (hx _ _ ey em) (h p (lo+n) _ _ h1 (by lia) (by lia) ex em)
theorem asc_loop (C:Cmp prog w A s κ P lt) {f:Nat->Option (Option Nat)×Nat->StateT SortSt Sem (ForInStep (Option (Option Nat)×Nat))}{lo nrem a:Nat}{st:SortSt}(hp:∀ x,x∈arrOf st->P x) (ha:1<=a) (han:a<=nrem) (hz:lo+nrem<=(arrOf st).size)
  (hs:Seg lt (arrOf st) lo (lo+a))
  (hf:∀ (i n:Nat) (Q':ForInStep (Option (Option Nat)×Nat)->SortSt->Prop),1<=n->n<nrem->(∀ x y,(arrOf st)[lo+n]?=some x->(arrOf st)[lo+n-1]?=some y->lt x y=true->Q' (.done (none,n)) st) ->
   ((∀ x y,(arrOf st)[lo+n]?=some x->(arrOf st)[lo+n-1]?=some y->lt x y=false)->Q' (.yield (none,n+1)) st)->wpS (model prog w) A E s (f i (none,n)) Q' st) :
  wpS (model prog w) A E s (forIn [a:nrem] ((none,a):Option (Option Nat)×Nat) f)
   (fun c st'=>∃ n,c=(none,n)/\st'=st/\a<=n/\n<=nrem/\Seg lt (arrOf st) lo (lo+n)/\(n=nrem∨∃ x y,(arrOf st)[lo+n]?=some x/\(arrOf st)[lo+n-1]?=some y/\lt x y=true)) st:=by
 refine wpS_forRange (I:=fun i c st'=>c=(none,i)/\st'=st/\a<=i/\i<=nrem/\Seg lt (arrOf st) lo (lo+i)) ?step ?fin ⟨rfl,rfl,af _,han,hs⟩
 case step =>
  rintro i c st' h1 h2 ⟨rfl,rfl,h3,h4,h5⟩
  refine hf i i _ (by lia) h2 (fun x y ex ey e=>?_) (fun e=>?_)
  .exact ⟨i,rfl,rfl,h3,h4,h5,.inr ⟨x,y,ex,ey,e⟩⟩
  .obtain ⟨k,rfl⟩:∃ k,i=k+1:=⟨i-1,by lia⟩
   exact ⟨rfl,rfl,by lia,by lia,seg_snoc C hp h5 (fun x y ex ey=>e x y ex ey) (by lia)⟩
 case fin =>
  rintro c st' ⟨rfl,rfl,h3,h4,h5⟩
  have e:max a nrem=nrem:=Nat.max_eq_right han
  rw [e] at h3 h4 h5 ⊢
  exact ⟨nrem,rfl,rfl,h3,af _,h5,.inl rfl⟩
theorem wpS_rev {i j:Nat}{st:SortSt}{Q:Unit->SortSt->Prop}(h:Q () (setArr st (mirror (arrOf st) i j ((j-i) / 2)))):wpS (model prog w) A E s (reverseSlice' i j) Q st:=by
 rw [reverseSlice'_eq]
 exact wpS_modify h
structure Btw (xs ys:Array Keyed) (lo hi:Nat):Prop where
 pm:ys.Perm xs
 out:∀ k,(k<lo∨hi<=k)->ys[k]?=xs[k]?
theorem Btw.refl (xs:Array Keyed) (lo hi:Nat):Btw xs xs lo hi:=⟨gL.refl _,fun _ _=>rfl⟩
theorem Btw.trans {xs ys zs:Array Keyed}{lo hi:Nat}(a:Btw xs ys lo hi) (b:Btw ys zs lo hi):Btw xs zs lo hi:=⟨b.pm.trans a.pm,fun k h=>(b.out k h).trans (a.out k h)⟩
theorem Btw.mono {xs ys:Array Keyed}{lo hi hi':Nat}(a:Btw xs ys lo hi) (h:hi<=hi'):Btw xs ys lo hi':=⟨a.pm,fun k q=>a.out k (by lia)⟩
theorem Btw.size {xs ys:Array Keyed}{lo hi:Nat}(a:Btw xs ys lo hi):ys.size=xs.size:=a.pm.size_eq
theorem Btw.mem {xs ys:Array Keyed}{lo hi:Nat}(a:Btw xs ys lo hi) {P:Keyed->Prop}(h:∀ x,x∈xs->P x):∀ x,x∈ys->P x:=fun x hx=>h x (a.pm.mem_iff.mp hx)
theorem btw_mirror {xs:Array Keyed}{lo hi i j:Nat}(hj:j<=xs.size) (h1:lo<=i) (h2:j<=hi):Btw xs (mirror xs i j ((j-i) / 2)) lo hi :=
 ⟨mirror_perm _ _ _ _,fun k hk=>by rw [getElem?_mirror_all hj,if_neg (by lia)]⟩
theorem wpS_countRun (C:Cmp prog w A s κ P lt) {lo nrem:Nat}{st:SortSt}{Q:Option Nat->SortSt->Prop}(hp:∀ x,x∈arrOf st->P x) (hk:kindOf st=κ) (h1:1<=nrem) (hz:lo+nrem<=(arrOf st).size)
    (h:∀ n xs,1<=n->n<=nrem->Btw (arrOf st) xs lo (lo+n)->Seg lt xs lo (lo+n)->Q (some n) (setArr st xs)):wpS (model prog w) A E s (countRun' lo nrem) Q st:=by
  rw [countRun'_eq]
  dsimp only
  refine wpS_bind (wpS_mono (asc_loop C hp (af 1) h1 hz (seg_one C hp lo) ?_) ?_)
  . intro i n Q' n1 n2 q1 q2
    have ex:(arrOf st)[lo+n]?=some ((arrOf st)[lo+n]'(by lia)):=ag (by lia)
    have ey:(arrOf st)[lo+n-1]?=some ((arrOf st)[lo+n-1]'(by lia)):=ag (by lia)
    dsimp only
    refine wpS_bind (C.at ex ey (hp _ (aQq ex)) (hp _ (aQq ey)) hk ?_)
    cases e:lt ((arrOf st)[lo+n]'(by lia)) ((arrOf st)[lo+n-1]'(by lia)) with
    | true=>exact wpS_pure (q1 _ _ ex ey e)
    | false=>exact wpS_pure (q2 fun x y hx hy=>by rw [ex] at hx;rw [ey] at hy;cases hx;cases hy;exact e)
  rintro c st' ⟨n,rfl,rfl,n1,n2,sg1,brk⟩
  dsimp only
  have triv:Q (some n) st':=h n (arrOf st') n1 n2 (Btw.refl _ _ _) sg1
  by_cases c1:n=nrem
  . rw [if_pos (by simp [c1])]
    exact wpS_pure triv
  rw [if_neg (by simpa using c1)]
  obtain ⟨xb,yb,exb,eyb,eb⟩:=brk.resolve_left c1
  have go:∀ xs:Array Keyed,Btw (arrOf st') xs lo (lo+n)->Eqv lt xs lo (lo+n)->(∀ x y,xs[lo+n]?=some x->xs[lo+(n-1)]?=some y->lt x y=true)->Des lt xs lo (lo+(n+1)):=by
    intro xs b1 e1 e2
    have hpx:=b1.mem hp
    obtain ⟨m,rfl⟩:∃ m,n=m+1:=⟨n-1,by lia⟩
    have hsz:=b1.size
    refine des_snoc C hpx (fun p q x y g1 g2 g3 ex ey=>e1 p q x y g1 (by lia) (by lia) g3 ex ey) (fun x y ex ey=>?_) (by lia)
    exact C.asym _ _ (hpx _ (aQq ex)) (hpx _ (aQq ey)) (e2 x y ex ey)
  have hlt:lo+n<(arrOf st').size:=(aC.mp exb).1
  have pxb:=hp _ (aQq exb)
  have pyb:=hp _ (aQq eyb)
  have e2:∀ x y,(arrOf st')[lo+n]?=some x->(arrOf st')[lo+(n-1)]?=some y->lt x y=true:=fun x y hx hy=>by
    rw [exb] at hx
    rw [← Nat.add_sub_assoc n1,eyb] at hy
    cases hx
    cases hy
    exact eb
  by_cases c2:n>1
  case pos =>
    rw [if_pos c2]
    have ex:(arrOf st')[lo]?=some ((arrOf st')[lo]'(by lia)):=ag (by lia)
    have pex:=hp _ (aQq ex)
    refine wpS_bind (C.at ex eyb pex pyb hk ?_)
    cases e:lt ((arrOf st')[lo]'(by lia)) yb with
    | true =>
      dsimp only
      rw [if_pos rfl]
      exact wpS_pure triv
    | false =>
      dsimp only
      rw [if_neg (by decide)]
      refine wpS_bind (wpS_rev ?_)
      have eqv:Eqv lt (arrOf st') lo (lo+n):=by
        intro p q x y g1 g2 g3 g4 gx gy
        have px:=hp _ (aQq gx)
        have py:=hp _ (aQq gy)
        have q1:=sg1 q (lo+n-1) _ _ g3 (by lia) (by lia) gy eyb
        have q2:=sg1 lo p _ _ (af _) g1 g2 ex gx
        exact C.trans _ _ _ py pex px (C.trans _ _ _ py pyb pex q1 e) q2
      have d1:=mirror_des (lo:=lo) (i:=lo) (j:=lo+n) (by lia) (af _) (by lia) eqv (go _ (Btw.refl _ _ _) eqv e2)
      have b1:Btw (arrOf st') (mirror (arrOf st') lo (lo+n) ((lo+n-lo) / 2)) lo (lo+n):=btw_mirror (by lia) (af _) (af _)
      generalize mirror (arrOf st') lo (lo+n) ((lo+n-lo) / 2)=xs at d1 b1 ⊢
      refine wpS_bind (wpS_rule ?_)
      refine wpS_bind (wpS_mono (wpS_forRange
        (I:=fun i c st2=>∃ neq ys,c=(none,i,neq)/\st2=setArr st' ys/\Btw (arrOf st') ys lo (lo+i)/\Des lt ys lo (lo+i)/\Eqv lt ys (lo+i-(neq+1)) (lo+i)/\neq+1<=i/\i<=nrem)
        (Q:=fun c st2=>∃ m neq ys,c=(none,m,neq)/\st2=setArr st' ys/\Btw (arrOf st') ys lo (lo+m)/\Des lt ys lo (lo+m)/\Eqv lt ys (lo+m-(neq+1)) (lo+m)/\neq+1<=m/\m<=nrem)
        ?step ?fin ⟨0,xs,rfl,rfl,b1.mono (by lia),d1,?start,by lia,by lia⟩) ?post)
      case start =>
        intro p q x y g1 g2 g3 g4 gx gy
        have e:p=q:=by lia
        subst e
        rw [gx] at gy
        cases gy
        exact C.refl (b1.mem hp _ (aQq gx))
      case fin =>
        rintro c st2 ⟨neq,ys,rfl,rfl,g1,g2,g3,g4,g5⟩
        exact ⟨_,neq,ys,rfl,rfl,g1,g2,g3,g4,g5⟩
      case step =>
        rintro i c st2 hi1 hi2 ⟨neq,ys,rfl,rfl,g1,g2,g3,g4,g5⟩
        dsimp only
        have hpy:=g1.mem hp
        have hsz:=g1.size
        obtain ⟨k,rfl⟩:∃ k,i=k+1:=⟨i-1,by lia⟩
        have ex:ys[lo+(k+1)]?=some (ys[lo+(k+1)]'(by lia)):=ag (by lia)
        have ey:ys[lo+(k+1)-1]?=some (ys[lo+(k+1)-1]'(by lia)):=ag (by lia)
        have px:=hpy _ (aQq ex)
        have py:=hpy _ (aQq ey)
        refine wpS_bind (C.at (st:=setArr st' ys) ex ey px py hk ?_)
        cases e:lt (ys[lo+(k+1)]'(by lia)) (ys[lo+(k+1)-1]'(by lia)) with
        | true =>
          dsimp only
          rw [if_pos rfl]
          have g2':Des lt ys lo (lo+(k+1+1)):=des_snoc C hpy g2 (fun x y hx hy=>by
            rw [ex] at hx
            have hy':ys[lo+(k+1)-1]?=some y:=hy
            rw [ey] at hy'
            cases hx
            cases hy'
            exact C.asym _ _ px py e) (by lia)
          by_cases cn:neq>0
          . rw [if_pos cn]
            refine wpS_bind (wpS_rev (wpS_pure ?_))
            refine ⟨0,_,rfl,rfl,(g1.mono (by lia)).trans (btw_mirror (by show lo+(k+1)<=ys.size;lia) (by lia) (by lia)),mirror_des (by show lo+(k+1)<=ys.size;lia) (by lia) (by lia) g3 g2',?_,by lia,by lia⟩
            intro p q x y h1 h2 h3 h4 gx gy
            have e:p=q:=by lia
            subst e
            rw [gx] at gy
            cases gy
            exact C.refl (((g1.mono (af _)).trans (btw_mirror (by show lo+(k+1)<=ys.size;lia) (by lia) (af _))).mem hp _ (aQq gx))
          . rw [if_neg cn]
            refine wpS_pure ⟨0,ys,rfl,rfl,g1.mono (by lia),g2',?_,by lia,by lia⟩
            intro p q x y h1 h2 h3 h4 gx gy
            have e:p=q:=by lia
            subst e
            rw [gx] at gy
            cases gy
            exact C.refl (hpy _ (aQq gx))
        | false =>
          dsimp only
          rw [if_neg (by decide)]
          refine wpS_bind (C.at (st:=setArr st' ys) ey ex py px hk ?_)
          cases e':lt (ys[lo+(k+1)-1]'(by lia)) (ys[lo+(k+1)]'(by lia)) with
          | true =>
            dsimp only
            rw [if_pos rfl]
            exact wpS_pure ⟨_,neq,ys,rfl,rfl,g1,g2,g3,g4,g5⟩
          | false =>
            dsimp only
            rw [if_neg (by decide)]
            have g2':Des lt ys lo (lo+(k+1+1)):=des_snoc C hpy g2 (fun x y hx hy=>by
              rw [ex] at hx
              have hy':ys[lo+(k+1)-1]?=some y:=hy
              rw [ey] at hy'
              cases hx
              cases hy'
              exact e') (by lia)
            refine wpS_pure ⟨neq+1,ys,rfl,rfl,g1.mono (by lia),g2',?_,by lia,by lia⟩
            intro p q x y h1 h2 h3 h4 gx gy
            have qx:=hpy _ (aQq gx)
            have qy:=hpy _ (aQq gy)
            by_cases cp:p=lo+(k+1)
            . subst cp
              rw [ex] at gx
              cases gx
              by_cases cq:q=lo+(k+1)
              . subst cq
                rw [ex] at gy
                cases gy
                exact C.refl px
              . exact C.trans _ _ _ qy py px (g3 (lo+(k+1)-1) q _ _ (by lia) (by lia) (by lia) (by lia) ey gy) e
            . by_cases cq:q=lo+(k+1)
              . subst cq
                rw [ex] at gy
                cases gy
                exact C.trans _ _ _ px py qx e' (g3 p (lo+(k+1)-1) _ _ (by lia) (by lia) (by lia) (by lia) gx ey)
              . exact g3 p q x y (by lia) (by lia) (by lia) (by lia) gx gy
      case post =>
        rintro c st2 ⟨m,neq,ys,rfl,rfl,g1,g2,g3,g4,g5⟩
        dsimp only
        have hsz:=g1.size
        have fin:∀ zs:Array Keyed,Btw (arrOf st') zs lo (lo+m)->Des lt zs lo (lo+m)->Seg lt (mirror zs lo (lo+m) ((lo+m-lo) / 2)) lo (lo+m)/\Btw (arrOf st') (mirror zs lo (lo+m) ((lo+m-lo) / 2)) lo (lo+m):=fun zs b d =>
          ⟨mirror_seg (by have:=b.size;lia) d,b.trans (btw_mirror (by have:=b.size;lia) (af _) (af _))⟩
        by_cases cn:neq>0
        all_goals
          first
            | (rw [if_pos cn]
               refine wpS_bind (wpS_rev ?_)
               obtain ⟨f1,f2⟩:=fin (mirror ys (lo+m-(neq+1)) (lo+m) ((lo+m-(lo+m-(neq+1))) / 2)) (g1.trans (btw_mirror (by lia) (by lia) (af _))) (mirror_des (by lia) (by lia) (af _) g3 g2))
            | (rw [if_neg cn]
               obtain ⟨f1,f2⟩:=fin ys g1 g2)
          refine wpS_bind (wpS_rev ?_)
          have f3:=f2.mem hp
          have f4:=f2.size
          generalize hzs:mirror _ lo (lo+m) ((lo+m-lo) / 2)=zs at f1 f2 f3 f4
          show wpS _ _ _ _ _ Q (setArr st' zs)
          refine wpS_bind (wpS_mono (asc_loop (st:=setArr st' zs) C f3 (by lia) g5 (by show lo+nrem<=zs.size;lia) f1 ?_) ?_)
          . intro i n' Q' n1' n2' q1 q2
            have ex:zs[lo+n']?=some (zs[lo+n']'(by lia)):=ag (by lia)
            have ey:zs[lo+n'-1]?=some (zs[lo+n'-1]'(by lia)):=ag (by lia)
            dsimp only
            refine wpS_bind (C.at (st:=setArr st' zs) ex ey (f3 _ (aQq ex)) (f3 _ (aQq ey)) hk ?_)
            cases e:lt (zs[lo+n']'(by lia)) (zs[lo+n'-1]'(by lia)) with
            | true=>exact wpS_pure (q1 _ _ ex ey e)
            | false =>
              refine wpS_pure (q2 fun x y hx hy=>?_)
              have hx':zs[lo+n']?=some x:=hx
              have hy':zs[lo+n'-1]?=some y:=hy
              rw [ex] at hx'
              rw [ey] at hy'
              cases hx'
              cases hy'
              exact e
          . rintro c st2 ⟨n',rfl,rfl,n1',n2',s1',_⟩
            exact wpS_pure (h n' zs (by lia) n2' (f2.mono (by lia)) s1')
  case neg =>
    rw [if_neg c2]
    have n1':n=1:=by lia
    have eqv:Eqv lt (arrOf st') lo (lo+n):=by
      intro p q x y g1 g2 g3 g4 gx gy
      have e:p=q:=by lia
      subst e
      rw [gx] at gy
      cases gy
      exact C.refl (hp _ (aQq gx))
    have d1:=go _ (Btw.refl _ _ _) eqv e2
    have b1:Btw (arrOf st') (arrOf st') lo (lo+n):=Btw.refl _ _ _
    obtain ⟨xs,hxs,d1,b1⟩:∃ xs,setArr st' xs=st'/\Des lt xs lo (lo+(n+1))/\Btw (arrOf st') xs lo (lo+n):=⟨_,rfl,d1,b1⟩
    rw [← hxs]
    refine wpS_bind (wpS_rule ?_)
    refine wpS_bind (wpS_mono (wpS_forRange
      (I:=fun i c st2=>∃ neq ys,c=(none,i,neq)/\st2=setArr st' ys/\Btw (arrOf st') ys lo (lo+i)/\Des lt ys lo (lo+i)/\Eqv lt ys (lo+i-(neq+1)) (lo+i)/\neq+1<=i/\i<=nrem)
      (Q:=fun c st2=>∃ m neq ys,c=(none,m,neq)/\st2=setArr st' ys/\Btw (arrOf st') ys lo (lo+m)/\Des lt ys lo (lo+m)/\Eqv lt ys (lo+m-(neq+1)) (lo+m)/\neq+1<=m/\m<=nrem)
      ?step ?fin ⟨0,xs,rfl,rfl,b1.mono (by lia),d1,?start,by lia,by lia⟩) ?post)
    case start =>
      intro p q x y g1 g2 g3 g4 gx gy
      have e:p=q:=by lia
      subst e
      rw [gx] at gy
      cases gy
      exact C.refl (b1.mem hp _ (aQq gx))
    case fin =>
      rintro c st2 ⟨neq,ys,rfl,rfl,g1,g2,g3,g4,g5⟩
      exact ⟨_,neq,ys,rfl,rfl,g1,g2,g3,g4,g5⟩
    case step =>
      rintro i c st2 hi1 hi2 ⟨neq,ys,rfl,rfl,g1,g2,g3,g4,g5⟩
      dsimp only
      have hpy:=g1.mem hp
      have hsz:=g1.size
      obtain ⟨k,rfl⟩:∃ k,i=k+1:=⟨i-1,by lia⟩
      have ex:ys[lo+(k+1)]?=some (ys[lo+(k+1)]'(by lia)):=ag (by lia)
      have ey:ys[lo+(k+1)-1]?=some (ys[lo+(k+1)-1]'(by lia)):=ag (by lia)
      have px:=hpy _ (aQq ex)
      have py:=hpy _ (aQq ey)
      refine wpS_bind (C.at (st:=setArr st' ys) ex ey px py hk ?_)
      cases e:lt (ys[lo+(k+1)]'(by lia)) (ys[lo+(k+1)-1]'(by lia)) with
      | true =>
        dsimp only
        rw [if_pos rfl]
        have g2':Des lt ys lo (lo+(k+1+1)):=des_snoc C hpy g2 (fun x y hx hy=>by
          rw [ex] at hx
          have hy':ys[lo+(k+1)-1]?=some y:=hy
          rw [ey] at hy'
          cases hx
          cases hy'
          exact C.asym _ _ px py e) (by lia)
        by_cases cn:neq>0
        . rw [if_pos cn]
          refine wpS_bind (wpS_rev (wpS_pure ?_))
          refine ⟨0,_,rfl,rfl,(g1.mono (by lia)).trans (btw_mirror (by show lo+(k+1)<=ys.size;lia) (by lia) (by lia)),mirror_des (by show lo+(k+1)<=ys.size;lia) (by lia) (by lia) g3 g2',?_,by lia,by lia⟩
          intro p q x y h1 h2 h3 h4 gx gy
          have e:p=q:=by lia
          subst e
          rw [gx] at gy
          cases gy
          exact C.refl (((g1.mono (af _)).trans (btw_mirror (by show lo+(k+1)<=ys.size;lia) (by lia) (af _))).mem hp _ (aQq gx))
        . rw [if_neg cn]
          refine wpS_pure ⟨0,ys,rfl,rfl,g1.mono (by lia),g2',?_,by lia,by lia⟩
          intro p q x y h1 h2 h3 h4 gx gy
          have e:p=q:=by lia
          subst e
          rw [gx] at gy
          cases gy
          exact C.refl (hpy _ (aQq gx))
      | false =>
        dsimp only
        rw [if_neg (by decide)]
        refine wpS_bind (C.at (st:=setArr st' ys) ey ex py px hk ?_)
        cases e':lt (ys[lo+(k+1)-1]'(by lia)) (ys[lo+(k+1)]'(by lia)) with
        | true =>
          dsimp only
          rw [if_pos rfl]
          exact wpS_pure ⟨_,neq,ys,rfl,rfl,g1,g2,g3,g4,g5⟩
        | false =>
          dsimp only
          rw [if_neg (by decide)]
          have g2':Des lt ys lo (lo+(k+1+1)):=des_snoc C hpy g2 (fun x y hx hy=>by
            rw [ex] at hx
            have hy':ys[lo+(k+1)-1]?=some y:=hy
            rw [ey] at hy'
            cases hx
            cases hy'
            exact e') (by lia)
          refine wpS_pure ⟨neq+1,ys,rfl,rfl,g1.mono (by lia),g2',?_,by lia,by lia⟩
          intro p q x y h1 h2 h3 h4 gx gy
          have qx:=hpy _ (aQq gx)
          have qy:=hpy _ (aQq gy)
          by_cases cp:p=lo+(k+1)
          . subst cp
            rw [ex] at gx
            cases gx
            by_cases cq:q=lo+(k+1)
            . subst cq
              rw [ex] at gy
              cases gy
              exact C.refl px
            . exact C.trans _ _ _ qy py px (g3 (lo+(k+1)-1) q _ _ (by lia) (by lia) (by lia) (by lia) ey gy) e
          . by_cases cq:q=lo+(k+1)
            . subst cq
              rw [ex] at gy
              cases gy
              exact C.trans _ _ _ px py qx e' (g3 p (lo+(k+1)-1) _ _ (by lia) (by lia) (by lia) (by lia) gx ey)
            . exact g3 p q x y (by lia) (by lia) (by lia) (by lia) gx gy
    case post =>
      rintro c st2 ⟨m,neq,ys,rfl,rfl,g1,g2,g3,g4,g5⟩
      dsimp only
      have hsz:=g1.size
      have fin:∀ zs:Array Keyed,Btw (arrOf st') zs lo (lo+m)->Des lt zs lo (lo+m)->Seg lt (mirror zs lo (lo+m) ((lo+m-lo) / 2)) lo (lo+m)/\Btw (arrOf st') (mirror zs lo (lo+m) ((lo+m-lo) / 2)) lo (lo+m):=fun zs b d =>
        ⟨mirror_seg (by have:=b.size;lia) d,b.trans (btw_mirror (by have:=b.size;lia) (af _) (af _))⟩
      by_cases cn:neq>0
      all_goals
        first
          | (rw [if_pos cn]
             refine wpS_bind (wpS_rev ?_)
             obtain ⟨f1,f2⟩:=fin (mirror ys (lo+m-(neq+1)) (lo+m) ((lo+m-(lo+m-(neq+1))) / 2)) (g1.trans (btw_mirror (by lia) (by lia) (af _))) (mirror_des (by lia) (by lia) (af _) g3 g2))
          | (rw [if_neg cn]
             obtain ⟨f1,f2⟩:=fin ys g1 g2)
        refine wpS_bind (wpS_rev ?_)
        have f3:=f2.mem hp
        have f4:=f2.size
        generalize hzs:mirror _ lo (lo+m) ((lo+m-lo) / 2)=zs at f1 f2 f3 f4
        show wpS _ _ _ _ _ Q (setArr st' zs)
        refine wpS_bind (wpS_mono (asc_loop (st:=setArr st' zs) C f3 (by lia) g5 (by show lo+nrem<=zs.size;lia) f1 ?_) ?_)
        . intro i n' Q' n1' n2' q1 q2
          have ex:zs[lo+n']?=some (zs[lo+n']'(by lia)):=ag (by lia)
          have ey:zs[lo+n'-1]?=some (zs[lo+n'-1]'(by lia)):=ag (by lia)
          dsimp only
          refine wpS_bind (C.at (st:=setArr st' zs) ex ey (f3 _ (aQq ex)) (f3 _ (aQq ey)) hk ?_)
          cases e:lt (zs[lo+n']'(by lia)) (zs[lo+n'-1]'(by lia)) with
          | true=>exact wpS_pure (q1 _ _ ex ey e)
          | false =>
            refine wpS_pure (q2 fun x y hx hy=>?_)
            have hx':zs[lo+n']?=some x:=hx
            have hy':zs[lo+n'-1]?=some y:=hy
            rw [ex] at hx'
            rw [ey] at hy'
            cases hx'
            cases hy'
            exact e
        . rintro c st2 ⟨n',rfl,rfl,n1',n2',s1',_⟩
          exact wpS_pure (h n' zs (by lia) n2' (f2.mono (by lia)) s1')
end
section
variable {prog:Program}{w:World}{A:Around}{E:Value->Shared->Prop}{s:Shared}{κ:SortKind}{P:Keyed->Prop}{lt:Keyed->Keyed->Bool}
theorem seg_put (C:Cmp prog w A s κ P lt) {xs:Array Keyed}(hp:∀ x,x∈xs->P x) {lo k l:Nat}(hz:lo+k<xs.size) (hl:l<=k) (hs:Seg lt xs lo (lo+k)) {x:Keyed}(hx:xs[lo+k]?=some x)
  (h1:∀ j y,j<l->xs[lo+j]?=some y->lt x y=false) (h2:∀ j y,l<=j->j<k->xs[lo+j]?=some y->lt x y=true):Seg lt (bubble xs (lo+k) (k-l)) lo (lo+(k+1)):=by
 have px:=hp _ (aQq hx)
 have g:∀ p,(bubble xs (lo+k) (k-l))[p]?=if p=lo+l then some x else if lo+l<p/\p<=lo+k then xs[p-1]? else xs[p]?:=fun p=>by
  rw [getElem?_bubble hz (k-l) (by lia) p,show lo+k-(k-l)=lo+l by lia,hx]
 intro p q u v a1 a2 a3 eu ev
 rw [g] at eu ev
 by_cases cp:p=lo+l
 .rw [if_pos cp] at eu
  cases eu
  by_cases cq:q=lo+l
  .rw [if_pos cq] at ev
   cases ev
   exact C.refl px
  .rw [if_neg cq,if_pos ⟨by lia,by lia⟩] at ev
   have pv:=hp _ (aQq ev)
   exact C.asym _ _ px pv (h2 (q-1-lo) v (by lia) (by lia) (by rw [show lo+(q-1-lo)=q-1 by lia];exact ev))
 .rw [if_neg cp] at eu
  by_cases cp2:lo+l<p/\p<=lo+k
  .rw [if_pos cp2] at eu
   rw [if_neg (by lia),if_pos ⟨by lia,by lia⟩] at ev
   exact hs (p-1) (q-1) _ _ (by lia) (by lia) (by lia) eu ev
  .rw [if_neg cp2] at eu
   by_cases cq:q=lo+l
   .rw [if_pos cq] at ev
    cases ev
    exact h1 (p-lo) u (by lia) (by rw [show lo+(p-lo)=p by lia];exact eu)
   .rw [if_neg cq] at ev
    by_cases cq2:lo+l<q/\q<=lo+k
    .rw [if_pos cq2] at ev
     exact hs p (q-1) _ _ a1 (by lia) (by lia) eu ev
    .rw [if_neg cq2] at ev
     exact hs p q _ _ a1 a2 (by lia) eu ev
theorem btw_bubble {xs:Array Keyed}{lo k l n:Nat}(hz:lo+k<xs.size) (hl:l<=k) (hn:k<n):Btw xs (bubble xs (lo+k) (k-l)) lo (lo+n) :=
 ⟨bubble_perm _ _ _,fun p hp=>by rw [getElem?_bubble hz (k-l) (by lia) p,if_neg (by lia),if_neg (by lia)]⟩
theorem wpS_move {src dst:Nat}{st:SortSt}{Q:Unit->SortSt->Prop}(h:Q () (setArr st (bubble (arrOf st) src (src-dst)))):wpS (model prog w) A E s (moveDown' src dst) Q st:=by
 rw [moveDown'_eq]
 exact wpS_modify h
theorem wpS_binary (C:Cmp prog w A s κ P lt) {lo n ok:Nat}{st:SortSt}{Q:Bool->SortSt->Prop}(hp:∀ x,x∈arrOf st->P x) (hk:kindOf st=κ) (h1:1<=ok) (h2:ok<=n) (hz:lo+n<=(arrOf st).size) (hs:Seg lt (arrOf st) lo (lo+ok))
  (h:∀ xs,Btw (arrOf st) xs lo (lo+n)->Seg lt xs lo (lo+n)->Q true (setArr st xs)):wpS (model prog w) A E s (binarySort' lo n ok) Q st:=by
 rw [binarySort'_eq]
 dsimp only
 rw [Nat.max_eq_left h1]
 refine wpS_bind (wpS_mono (wpS_forRange (I:=fun k c st'=>∃ ys,c=(none,())/\st'=setArr st ys/\Btw (arrOf st) ys lo (lo+n)/\Seg lt ys lo (lo+k)/\k<=n)
  (Q:=fun c st'=>∃ ys,c=(none,())/\st'=setArr st ys/\Btw (arrOf st) ys lo (lo+n)/\Seg lt ys lo (lo+n)) ?step ?fin ⟨arrOf st,rfl,rfl,Btw.refl _ _ _,hs,h2⟩) ?post)
 case fin =>
  rintro c st' ⟨ys,rfl,rfl,b1,s1,q⟩
  have e:max ok n=n:=by lia
  rw [e] at s1
  exact ⟨ys,rfl,rfl,b1,s1⟩
 case post =>
  rintro c st' ⟨ys,rfl,rfl,b1,s1⟩
  exact wpS_pure (h ys b1 s1)
 case step =>
  rintro k c st' hk1 hk2 ⟨ys,rfl,rfl,b1,s1,q⟩
  have hpy:=b1.mem hp
  have hsz:=b1.size
  have ex:ys[lo+k]?=some (ys[lo+k]'(by lia)):=ag (by lia)
  have px:=hpy _ (aQq ex)
  refine wpS_bind (wpS_mono (wpS_forRange (I:=fun i c st'=>∃ l r,c=(none,l,r)/\st'=setArr st ys/\l<=r/\r<=k/\(∀ j y,j<l->ys[lo+j]?=some y->lt (ys[lo+k]'(by lia)) y=false)/\(∀ j y,r<=j->j<k->ys[lo+j]?=some y->lt (ys[lo+k]'(by lia)) y=true)/\(r-l)+i<=k)
   (Q:=fun c st'=>∃ l r,c=(none,l,r)/\st'=setArr st ys/\l=r/\r<=k/\(∀ j y,j<l->ys[lo+j]?=some y->lt (ys[lo+k]'(by lia)) y=false)/\(∀ j y,r<=j->j<k->ys[lo+j]?=some y->lt (ys[lo+k]'(by lia)) y=true))
   ?step1 ?fin1 ⟨0,k,rfl,rfl,ba _,af _,fun j y hj=>absurd hj (cD _),fun j y g1 g2=>absurd g2 (by lia),by lia⟩) ?post1)
  case fin1 =>
   rintro c st' ⟨l,r,rfl,rfl,a1,a2,a3,a4,a5⟩
   exact ⟨l,r,rfl,rfl,by lia,a2,a3,a4⟩
  case step1 =>
   rintro i c st' _ hi ⟨l,r,rfl,rfl,a1,a2,a3,a4,a5⟩
   dsimp only
   by_cases c1:l ≥ r
   .rw [if_pos c1]
    exact wpS_pure ⟨l,r,rfl,rfl,by lia,a2,a3,a4⟩
   rw [if_neg c1]
   have em:ys[lo+(l+r) / 2]?=some (ys[lo+(l+r) / 2]'(by lia)):=ag (by lia)
   have pm:=hpy _ (aQq em)
   refine wpS_bind (C.at (st:=setArr st ys) ex em px pm hk ?_)
   cases e:lt (ys[lo+k]'(by lia)) (ys[lo+(l+r) / 2]'(by lia)) with
   | true =>
    dsimp only
    rw [if_pos rfl]
    refine wpS_pure ⟨l,_,rfl,rfl,by lia,by lia,a3,fun j y g1 g2 ey=>?_,by lia⟩
    have py:=hpy _ (aQq ey)
    cases e':lt (ys[lo+k]'(by lia)) y with
    | true=>rfl
    | false =>
     have q1:=s1 (lo+(l+r) / 2) (lo+j) _ _ (by lia) (by lia) (by lia) em ey
     have q2:=C.trans _ _ _ pm py px q1 e'
     rw [e] at q2
     cases q2
   | false =>
    dsimp only
    rw [if_neg (by decide)]
    refine wpS_pure ⟨_,r,rfl,rfl,by lia,a2,fun j y g1 ey=>?_,a4,by lia⟩
    have py:=hpy _ (aQq ey)
    exact C.trans _ _ _ py pm px (s1 (lo+j) (lo+(l+r) / 2) _ _ (by lia) (by lia) (by lia) ey em) e
  case post1 =>
   rintro c st' ⟨l,r,rfl,rfl,rfl,a2,a3,a4⟩
   dsimp only
   refine wpS_bind (wpS_move (wpS_pure ?_))
   have e:lo+k-(lo+l)=k-l:=by lia
   show ∃ ys',_/\setArr st (bubble ys (lo+k) (lo+k-(lo+l)))=setArr st ys'/\_
   rw [e]
   exact ⟨_,rfl,rfl,b1.trans (btw_bubble (by lia) a2 hk2),seg_put C hpy (by lia) a2 s1 ex a3 a4,hk2⟩
end
def Chain (lt:Keyed->Keyed->Bool) (xs:Array Keyed):Nat->List (Nat×Nat×Nat)->Nat->Prop
 | s,[],e=>s=e
 | s,p::r,e=>p.1=s/\0<p.2.1/\Seg lt xs s (s+p.2.1)/\Chain lt xs (s+p.2.1) r e
theorem chain_append {lt:Keyed->Keyed->Bool}{xs:Array Keyed}:∀ {q r:List (Nat×Nat×Nat)}{s e:Nat},Chain lt xs s (q++r) e↔∃ m,Chain lt xs s q m/\Chain lt xs m r e
 | [],r,s,e=>by
  constructor
  .intro h;exact ⟨s,rfl,h⟩
  .rintro ⟨m,rfl,h⟩;exact h
 | p::q,r,s,e=>by
  constructor
  .rintro ⟨h1,h2,h3,h4⟩
   obtain ⟨m,a,b⟩:=chain_append.mp h4
   exact ⟨m,⟨h1,h2,h3,a⟩,b⟩
  .rintro ⟨m,⟨h1,h2,h3,a⟩,b⟩
   exact ⟨h1,h2,h3,chain_append.mpr ⟨m,a,b⟩⟩
theorem chain_le {lt:Keyed->Keyed->Bool}{xs:Array Keyed}:∀ {q:List (Nat×Nat×Nat)}{s e:Nat},Chain lt xs s q e->s+q.length<=e
 | [],s,e,h=>by have:s=e:=h;simp [this]
 | p::q,s,e,⟨_,h2,_,h4⟩=>by
  have:=chain_le h4
  rw [lCq]
  lia
theorem chain_congr {lt:Keyed->Keyed->Bool}{xs ys:Array Keyed}:∀ {q:List (Nat×Nat×Nat)}{s e:Nat},(∀ k,s<=k->k<e->ys[k]?=xs[k]?)->Chain lt xs s q e->Chain lt ys s q e
 | [],s,e,_,h=>h
 | p::q,s,e,g,⟨h1,h2,h3,h4⟩=>by
  have l:=chain_le h4
  refine ⟨h1,h2,fun a b x y a1 a2 a3 ex ey=>h3 a b x y a1 a2 a3 ?_ ?_,chain_congr (fun k k1 k2=>g k (by lia) k2) h4⟩
  .rw [← g a a1 (by lia)];exact ex
  .rw [← g b (by lia) (by lia)];exact ey
theorem chain_powers {lt:Keyed->Keyed->Bool}{xs:Array Keyed}:∀ {q q':List (Nat×Nat×Nat)}{s e:Nat},q'.map (fun p=>(p.1,p.2.1))=q.map (fun p=>(p.1,p.2.1))->Chain lt xs s q e->Chain lt xs s q' e
 | [],q',s,e,g,h=>by
  have:q'=[]:=by simpa using g
  subst this;exact h
 | p::q,[],s,e,g,h=>by simp at g
 | p::q,p'::q',s,e,g,⟨h1,h2,h3,h4⟩=>by
  simp only [aq,List.cons.injEq,Prod.mk.injEq] at g
  obtain ⟨⟨g1,g2⟩,g3⟩:=g
  rw [← g2] at h2 h3 h4
  exact ⟨g1.trans h1,h2,h3,chain_powers g3 h4⟩
theorem writeBack (o:Nat):∀ (M:List Keyed) (n:Nat) (xs:Array Keyed),o+n+M.length<=xs.size ->
  ((M.zipIdx n).foldl (fun a x=>a.setIfInBounds (o+x.2) x.1) xs).toList=xs.toList.take (o+n)++M++xs.toList.drop (o+n+M.length)
 | [],n,xs,h=>by simp
 | y::r,n,xs,h=>by
  rw [List.zipIdx_cons,bP]
  rw [lCq] at h
  rw [writeBack o r (n+1) _ (by rw [Array.size_setIfInBounds];lia),eW]
  have hl:o+n<xs.toList.length:=by rw [ao];lia
  have e1:(xs.toList.set (o+n) y).take (o+(n+1))=xs.toList.take (o+n)++[y]:=by
   rw [← eB,dr,aF hl,List.take_set_of_le (af _)]
   rfl
  have e2:(xs.toList.set (o+n) y).drop (o+(n+1)+r.length)=xs.toList.drop (o+n+(r.length+1)):=by
   rw [List.drop_set_of_lt (by lia)]
   congr 1
   lia
  rw [e1,e2,lCq,ak,ak,ak]
  rfl
section
variable {prog:Program}{w:World}{A:Around}{E:Value->Shared->Prop}{s:Shared}{κ:SortKind}{P:Keyed->Prop}{lt:Keyed->Keyed->Bool}
theorem byd_seg (C:Cmp prog w A s κ P lt) {left:Bool}{key:Keyed}{arr:Array Keyed}{base n:Nat}(hb:base+n<=arr.size) (ha:∀ x,x∈arr->P x) (hkey:P key) (so:Seg lt arr base (base+n)) :
  ∀ i j,i<=j->j<n->byd lt left key arr base j=true->byd lt left key arr base i=true:=by
 intro i j hij hj h
 have ei:arr[base+i]?=some (arr[base+i]'(by lia)):=ag (by lia)
 have ej:arr[base+j]?=some (arr[base+j]'(by lia)):=ag (by lia)
 have pi:=ha _ (aQq ei)
 have pj:=ha _ (aQq ej)
 have le:=so (base+i) (base+j) _ _ (by lia) (by lia) (by lia) ei ej
 rw [byd_at ej] at h
 rw [byd_at ei]
 cases left with
 | true =>
  rw [if_pos rfl] at h ⊢
  cases q:lt (arr[base+i]'(by lia)) key with
  | true=>rfl
  | false =>
   have:=C.trans _ _ _ hkey pi pj q le
   rw [h] at this;cases this
 | false =>
  rw [if_neg (by decide)] at h ⊢
  have h':lt key (arr[base+j]'(by lia))=false:=by simpa using h
  have:=C.trans _ _ _ pi pj hkey le h'
  simp [this]
theorem mem_extract {a:Array Keyed}{i j:Nat}{x:Keyed}(h:x∈(a.extract i j).toList):∃ k,i<=k/\k<j/\a[k]?=some x:=by
 rw [ext_toList2] at h
 obtain ⟨k,k1,k2,e⟩:=mem_take_drop2 h
 rw [bI] at e
 exact ⟨k,k1,k2,e⟩
theorem srt_extract {a:Array Keyed}{i j:Nat}(h:Seg lt a i j):Srt lt (a.extract i j).toList:=by
 rw [ext_toList2]
 refine cG.mpr fun p q hp hq hpq=>?_
 rw [aU,lTq,ao] at hp hq
 have e:∀ k (hk:k<((a.toList.take j).drop i).length),a[i+k]?=some ((a.toList.take j).drop i)[k]:=fun k hk=>by
  rw [aU,lTq,ao] at hk
  rw [dY,fb,aC]
  exact ⟨by lia,by simp⟩
 exact h (i+p) (i+q) _ _ (by lia) (by lia) (by lia) (e p _) (e q _)
theorem mergeAt'_eq (i:Nat):mergeAt' i=(do
 let s ← get
 let (some (sa,na,power),some (sb,nb,_)):=((pendingOf s)[i]?,(pendingOf s)[i+1]?)|unsupported "internal:list.sort.pending"
 set (setPending s (((pendingOf s).setIfInBounds i (sa,na+nb,power)).eraseIdxIfInBounds (i+1)))
 let some k ← gallop' false (← elem' (arrOf s) sb) (arrOf s) sa na 0|return false
 let (sa,na):=(sa+k,na-k)
 if na == 0 then return true
 let some nb ← gallop' true (← elem' (arrOf s) (sa+na-1)) (arrOf s) sb nb (nb-1)|return false
 if nb == 0 then return true
 let x:=(arrOf s).extract sa sb
 let y:=(arrOf s).extract sb (sb+nb)
 let merged ← if na<=nb then mergeLo' x y else mergeHi' x y
 modify fun s=>setArr s (merged.toList.zipIdx.foldl (fun a (p,j)=>a.setIfInBounds (sa+j) p) (arrOf s))
 return (failedOf (← get)).isNone):=rfl
theorem wpS_setSt {st st':SortSt}{Q:PUnit->SortSt->Prop}(h:Q ⟨⟩ st'):wpS (model prog w) A E s (set st':StateT SortSt Sem PUnit) Q st:=by
 unfold wpS
 rw [StateT.run_set]
 exact wpAny_pure ⟨rfl,h⟩
theorem seg_join (C:Cmp prog w A s κ P lt) {xs zs M:Array Keyed}{sa na nb k l:Nat}(hp:∀ x,x∈xs->P x) (hz:sa+na+nb<=xs.size) (hk:k<=na) (hl:l<=nb) (h1:Seg lt xs sa (sa+na)) (h2:Seg lt xs (sa+na) (sa+na+nb)) {key last:Keyed}
  (ek:xs[sa+na]?=some key) (el:xs[sa+na-1]?=some last)
  (k2:∀ j y,j<k->xs[sa+j]?=some y->lt key y=false) (l3:∀ j y,l<=j->j<nb->xs[sa+na+j]?=some y->lt y last=false) (hna:0<na) (hnb:0<nb)
  (m:Mrg lt (xs.extract (sa+k) (sa+na)) (xs.extract (sa+na) (sa+na+l)) M)
  (hzs:zs.toList=xs.toList.take (sa+k)++M.toList++xs.toList.drop (sa+k+M.toList.length)):Btw xs zs sa (sa+na+nb)/\Seg lt zs sa (sa+na+nb):=by
 have lM:M.toList.length=(na-k)+l:=by
  have:=m.pm.length_eq
  simp only [lAq,ao,dO] at this ⊢
  lia
 have hlx:xs.toList.length=xs.size:=ao
 have gz:∀ p,zs[p]?=if p<sa+k then xs[p]? else if p<sa+na+l then M[p-(sa+k)]? else xs[p]?:=fun p=>by
  rw [← aA,hzs]
  by_cases c1:p<sa+k
  .rw [if_pos c1,ak,gZq (by rw [lTq];lia),fi c1,aA]
  .rw [if_neg c1,ak,gYq (by rw [lTq];lia),lTq,show min (sa+k) xs.toList.length=sa+k by lia]
   by_cases c2:p<sa+na+l
   .rw [if_pos c2,gZq (by lia),aA]
   .rw [if_neg c2,gYq (by lia),eV,aA]
    congr 1
    lia
 have pk:=hp _ (aQq ek)
 have pl:=hp _ (aQq el)
 have from_:∀ q v,M[q]?=some v->(∃ j,k<=j/\j<na/\xs[sa+j]?=some v)∨∃ j,j<l/\xs[sa+na+j]?=some v:=fun q v e=>by
  have hv:v∈M.toList:=by simpa using aQq e
  rcases mAq.mp (m.pm.mem_iff.mp hv) with hv|hv
  .obtain ⟨j,j1,j2,ej⟩:=mem_extract hv
   exact .inl ⟨j-sa,by lia,by lia,by rw [show sa+(j-sa)=j by lia];exact ej⟩
  .obtain ⟨j,j1,j2,ej⟩:=mem_extract hv
   exact .inr ⟨j-(sa+na),by lia,by rw [show sa+na+(j-(sa+na))=j by lia];exact ej⟩
 refine ⟨⟨?_,fun p hp'=>?_⟩,?_⟩
 .rw [Array.perm_iff_toList_perm,hzs]
  have c:xs.toList=xs.toList.take (sa+k)++((xs.extract (sa+k) (sa+na)).toList++(xs.extract (sa+na) (sa+na+l)).toList)++xs.toList.drop (sa+k+M.toList.length):=by
   rw [ext_toList2,ext_toList2,lM]
   have a1:=cut_take xs.toList (sa+k) (sa+na) (by lia)
   have a2:=cut_take xs.toList (sa+na) (sa+na+l) (by lia)
   have a3:sa+k+(na-k+l)=sa+na+l:=by lia
   rw [a3,← ak,← a1,← a2,bt]
  conv=>rhs;rw [c]
  exact bO.append_right _ (bO.append_left _ m.pm)
 .rw [gz]
  by_cases c1:p<sa+k
  .rw [if_pos c1]
  .rw [if_neg c1,if_neg (by lia)]
 .intro p q x y a1 a2 a3 ex ey
  rw [gz] at ex ey
  by_cases p1:p<sa+k
  .rw [if_pos p1] at ex
   have px:=hp _ (aQq ex)
   have lx:lt key x=false:=k2 (p-sa) x (by lia) (by rw [show sa+(p-sa)=p by lia];exact ex)
   by_cases q1:q<sa+k
   .rw [if_pos q1] at ey
    exact h1 p q _ _ a1 a2 (by lia) ex ey
   .rw [if_neg q1] at ey
    by_cases q2:q<sa+na+l
    .rw [if_pos q2] at ey
     rcases from_ _ _ ey with ⟨j,j1,j2,ej⟩|⟨j,j1,ej⟩
     .exact h1 p (sa+j) _ _ a1 (by lia) (by lia) ex ej
     .exact C.trans _ _ _ px pk (hp _ (aQq ej)) lx (h2 (sa+na) (sa+na+j) _ _ (af _) (by lia) (by lia) ek ej)
    .rw [if_neg q2] at ey
     exact C.trans _ _ _ px pk (hp _ (aQq ey)) lx (h2 (sa+na) q _ _ (af _) (by lia) (by lia) ek ey)
  .rw [if_neg p1] at ex
   rw [if_neg (by lia)] at ey
   by_cases p2:p<sa+na+l
   .rw [if_pos p2] at ex
    by_cases q2:q<sa+na+l
    .rw [if_pos q2] at ey
     rcases dN a2 with c|c
     .have ex':M.toList[p-(sa+k)]?=some x:=by rw [aA];exact ex
      have ey':M.toList[q-(sa+k)]?=some y:=by rw [aA];exact ey
      obtain ⟨hx,e1⟩:=gSq.mp ex'
      obtain ⟨hy,e2⟩:=gSq.mp ey'
      have:=cG.mp m.so (p-(sa+k)) (q-(sa+k)) hx hy (by lia)
      rw [e1,e2] at this
      exact this
     .subst c
      rw [ex] at ey
      cases ey
      rcases from_ _ _ ex with ⟨j,j1,j2,ej⟩|⟨j,j1,ej⟩
      .exact C.refl (hp _ (aQq ej))
      .exact C.refl (hp _ (aQq ej))
    .rw [if_neg q2] at ey
     have py:=hp _ (aQq ey)
     rcases from_ _ _ ex with ⟨j,j1,j2,ej⟩|⟨j,j1,ej⟩
     .exact C.trans _ _ _ (hp _ (aQq ej)) pl py (h1 (sa+j) (sa+na-1) _ _ (by lia) (by lia) (by lia) ej el) (l3 (q-(sa+na)) y (by lia) (by lia) (by rw [show sa+na+(q-(sa+na))=q by lia];exact ey))
     .exact h2 (sa+na+j) q _ _ (by lia) (by lia) (by lia) ej ey
   .rw [if_neg p2] at ex
    rw [if_neg (by lia)] at ey
    exact h2 p q _ _ (by lia) a2 (by lia) ex ey
end
section
variable {prog:Program}{w:World}{A:Around}{E:Value->Shared->Prop}{s:Shared}{κ:SortKind}{P:Keyed->Prop}{lt:Keyed->Keyed->Bool}
theorem list_two {α:Type}{l:List α}{i:Nat}{a b:α}(h1:l[i]?=some a) (h2:l[i+1]?=some b):l=l.take i++a::b::l.drop (i+2):=by
 obtain ⟨h3,e3⟩:=gSq.mp h1
 obtain ⟨h4,e4⟩:=gSq.mp h2
 conv=>lhs;rw [← bt i l]
 rw [aK h3,aK h4,e3,e4]
theorem set_erase {α:Type}{q r:List α}{a b c:α}:((q++a::b::r).set q.length c).eraseIdx (q.length+1)=q++c::r:=by
 rw [List.set_append_right _ _ (af _),cV,cY,List.eraseIdx_append_of_length_le (by lia),fD]
 rfl
theorem wpS_mergeAt (C:Cmp prog w A s κ P lt) {i lo:Nat}{st:SortSt}{Q:Bool->SortSt->Prop}(hp:∀ x,x∈arrOf st->P x) (hk:kindOf st=κ) (hf:failedOf st=none) (hlo:lo<=(arrOf st).size) (hch:Chain lt (arrOf st) 0 (pendingOf st).toList lo)
  (hi:i+1<(pendingOf st).size) (h:∀ xs p g,Btw (arrOf st) xs 0 lo->p.size+1=(pendingOf st).size->Chain lt xs 0 p.toList lo->Q true (SortSt.mk' κ xs p g none)):wpS (model prog w) A E s (mergeAt' i) Q st:=by
 obtain ⟨κ',arr,pend,g0,fl⟩:=st
 have hk:κ'=κ:=hk
 have hf:fl=none:=hf
 subst hk hf
 have hp:∀ x,x∈arr->P x:=hp
 have hlo:lo<=arr.size:=hlo
 have hch:Chain lt arr 0 pend.toList lo:=hch
 have hi:i+1<pend.size:=hi
 have e1:pend[i]?=some (pend[i]'(by lia)):=ag (by lia)
 have e2:pend[i+1]?=some (pend[i+1]'(by lia)):=ag (by lia)
 generalize pend[i]'(by lia)=a at e1
 generalize pend[i+1]'(by lia)=b at e2
 obtain ⟨sa,na,pa⟩:=a
 obtain ⟨sb,nb,pb⟩:=b
 have e1':pend.toList[i]?=some (sa,na,pa):=by rw [aA];exact e1
 have e2':pend.toList[i+1]?=some (sb,nb,pb):=by rw [aA];exact e2
 have ep:=list_two e1' e2'
 have lq:(pend.toList.take i).length=i:=by rw [lTq,ao];lia
 generalize pend.toList.take i=q at ep lq
 generalize pend.toList.drop (i+2)=r at ep
 rw [ep] at hch
 obtain ⟨m0,c1,c2⟩:=chain_append.mp hch
 obtain ⟨x1,x2,x3,x4,x5,x6,x7⟩:=c2
 have d1:sa=m0:=x1
 have d2:0<na:=x2
 have d3:Seg lt arr m0 (m0+na):=x3
 have f1:sb=m0+na:=x4
 have f2:0<nb:=x5
 have f3:Seg lt arr (m0+na) (m0+na+nb):=x6
 have f4:Chain lt arr (m0+na+nb) r lo:=x7
 clear x1 x2 x3 x4 x5 x6 x7
 subst d1 f1
 have hrl:sa+na+nb+r.length<=lo:=chain_le f4
 have hql:0+q.length<=sa:=chain_le c1
 have hz:sa+na+nb<=arr.size:=by lia
 have np:((pend.setIfInBounds i (sa,na+nb,pa)).eraseIdxIfInBounds (i+1)).toList=q++(sa,na+nb,pa)::r:=by
  rw [Array.toList_eraseIdxIfInBounds,eW,ep,← lq]
  exact set_erase
 have ns:((pend.setIfInBounds i (sa,na+nb,pa)).eraseIdxIfInBounds (i+1)).size+1=pend.size:=by
  rw [← ao,np,← ao,ep]
  simp only [lAq,lCq]
  lia
 have fin:∀ zs g,Btw arr zs sa (sa+na+nb)->Seg lt zs sa (sa+na+nb)->Q true (SortSt.mk' κ' zs ((pend.setIfInBounds i (sa,na+nb,pa)).eraseIdxIfInBounds (i+1)) g none):=fun zs g b1 s1=>by
  refine h zs _ g ⟨b1.pm,fun k hk=>b1.out k (by lia)⟩ ns ?_
  rw [np]
  refine chain_append.mpr ⟨sa,chain_congr (fun k _ k2=>b1.out k (.inl k2)) c1,rfl,by show 0<na+nb;lia,?_,?_⟩
  .show Seg lt zs sa (sa+(na+nb))
   rw [← eB]
   exact s1
  .show Chain lt zs (sa+(na+nb)) r lo
   rw [← eB]
   exact chain_congr (fun k k1 _=>b1.out k (.inr k1)) f4
 rw [mergeAt'_eq]
 refine wpS_bind (wpS_get ?_)
 dsimp only
 rw [e1,e2]
 dsimp only
 refine wpS_bind (wpS_setSt ?_)
 have ek:arr[sa+na]?=some (arr[sa+na]'(by lia)):=ag (by lia)
 have el:arr[sa+na-1]?=some (arr[sa+na-1]'(by lia)):=ag (by lia)
 have pk:=hp _ (aQq ek)
 have pl:=hp _ (aQq el)
 refine wpS_bind (wpS_elem ek ?_)
 refine wpS_bind (wpS_gallop C d2 (by lia) hp pk rfl (byd_seg C (by lia) hp pk d3) fun k k1 k2 k3=>?_)
 dsimp only
 have kl:∀ j y,j<k->arr[sa+j]?=some y->lt (arr[sa+na]'(by lia)) y=false:=fun j y hj ey=>by
  have:=k2 j hj
  rw [byd_at ey,if_neg (by decide)] at this
  simpa using this
 have kh:∀ j y,k<=j->j<na->arr[sa+j]?=some y->lt (arr[sa+na]'(by lia)) y=true:=fun j y h1 h2 ey=>by
  have:=k3 j h1 h2
  rw [byd_at ey,if_neg (by decide)] at this
  simpa using this
 by_cases c1':na-k=0
 .rw [if_pos (by simp [c1'])]
  refine wpS_pure (fin arr g0 (Btw.refl _ _ _) fun p q x y a1 a2 a3 ex ey=>?_)
  have px:=hp _ (aQq ex)
  have py:=hp _ (aQq ey)
  by_cases q1:q<sa+na
  .exact d3 p q _ _ a1 a2 q1 ex ey
  .by_cases p1:p<sa+na
   .exact C.trans _ _ _ px pk py (kl (p-sa) x (by lia) (by rw [show sa+(p-sa)=p by lia];exact ex)) (f3 (sa+na) q _ _ (af _) (by lia) a3 ek ey)
   .exact f3 p q _ _ (by lia) a2 a3 ex ey
 rw [if_neg (by simpa using c1')]
 have ea:sa+k+(na-k)-1=sa+na-1:=by lia
 rw [ea]
 refine wpS_bind (wpS_elem el ?_)
 refine wpS_bind (wpS_gallop C (by lia) (by lia) hp pl rfl (byd_seg C (by lia) hp pl f3) fun l l1 l2 l3=>?_)
 dsimp only
 have ll:∀ j y,j<l->arr[sa+na+j]?=some y->lt y (arr[sa+na-1]'(by lia))=true:=fun j y hj ey=>by
  have:=l2 j hj
  rw [byd_at ey,if_pos rfl] at this
  exact this
 have lh:∀ j y,l<=j->j<nb->arr[sa+na+j]?=some y->lt y (arr[sa+na-1]'(by lia))=false:=fun j y h1 h2 ey=>by
  have:=l3 j h1 h2
  rw [byd_at ey,if_pos rfl] at this
  exact this
 by_cases c2':l=0
 .rw [if_pos (by simp [c2'])]
  refine wpS_pure (fin arr g0 (Btw.refl _ _ _) fun p q x y a1 a2 a3 ex ey=>?_)
  have px:=hp _ (aQq ex)
  have py:=hp _ (aQq ey)
  by_cases q1:q<sa+na
  .exact d3 p q _ _ a1 a2 q1 ex ey
  .by_cases p1:p<sa+na
   .exact C.trans _ _ _ px pl py (d3 p (sa+na-1) _ _ a1 (by lia) (by lia) ex el) (lh (q-(sa+na)) y (by lia) (by lia) (by rw [show sa+na+(q-(sa+na))=q by lia];exact ey))
   .exact f3 p q _ _ (by lia) a2 a3 ex ey
 rw [if_neg (by simpa using c2')]
 have sx:Srt lt (arr.extract (sa+k) (sa+na)).toList:=srt_extract fun p q x y a1 a2 a3 ex ey=>d3 p q x y (by lia) a2 a3 ex ey
 have sy:Srt lt (arr.extract (sa+na) (sa+na+l)).toList:=srt_extract fun p q x y a1 a2 a3 ex ey=>f3 p q x y a1 a2 (by lia) ex ey
 have hx:∀ x,x∈arr.extract (sa+k) (sa+na)->P x:=fun x hx=>by
  obtain ⟨j,_,_,e⟩:=mem_extract (eF.mpr hx)
  exact hp _ (aQq e)
 have hy:∀ x,x∈arr.extract (sa+na) (sa+na+l)->P x:=fun x hx=>by
  obtain ⟨j,_,_,e⟩:=mem_extract (eF.mpr hx)
  exact hp _ (aQq e)
 have zx:(arr.extract (sa+k) (sa+na)).size=na-k:=by rw [dO];lia
 have zy:(arr.extract (sa+na) (sa+na+l)).size=l:=by rw [dO];lia
 have g0':(arr.extract (sa+na) (sa+na+l))[0]?=some (arr[sa+na]'(by lia)):=by
  rw [fK,if_pos (by lia),gk]
  exact ek
 have gl':(arr.extract (sa+k) (sa+na))[na-k-1]?=some (arr[sa+na-1]'(by lia)):=by
  rw [fK,if_pos (by lia),show sa+k+(na-k-1)=sa+na-1 by lia]
  exact el
 have low:∀ y∈(arr.extract (sa+k) (sa+na)).toList,lt y (arr[sa+na]'(by lia))=false:=fun y hy=>by
  obtain ⟨j,j1,j2,ej⟩:=mem_extract hy
  exact C.asym _ _ pk (hp _ (aQq ej)) (kh (j-sa) y (by lia) (by lia) (by rw [show sa+(j-sa)=j by lia];exact ej))
 have high:∀ x∈(arr.extract (sa+na) (sa+na+l)).toList,lt (arr[sa+na-1]'(by lia)) x=false:=fun x hx=>by
  obtain ⟨j,j1,j2,ej⟩:=mem_extract hx
  exact C.asym _ _ (hp _ (aQq ej)) pl (ll (j-(sa+na)) x (by lia) (by rw [show sa+na+(j-(sa+na))=j by lia];exact ej))
 have done:∀ M g,Mrg lt (arr.extract (sa+k) (sa+na)) (arr.extract (sa+na) (sa+na+l)) M ->
   Q true (SortSt.mk' κ' (M.toList.zipIdx.foldl (fun a x=>a.setIfInBounds (sa+k+x.snd) x.fst) arr) ((pend.setIfInBounds i (sa,na+nb,pa)).eraseIdxIfInBounds (i+1)) g none):=fun M g mg=>by
  have lM:M.toList.length=(na-k)+l:=by
   have:=mg.pm.length_eq
   simp only [lAq,ao,dO] at this ⊢
   lia
  have wb:=writeBack (sa+k) M.toList 0 arr (by lia)
  obtain ⟨b1,s1⟩:=seg_join C hp hz k1 l1 d3 f3 ek el kl lh d2 f2 mg wb
  exact fin _ g b1 s1
 by_cases c3:na-k<=l
 .rw [if_pos c3]
  refine wpS_bind (wpS_mergeLo (κ:=κ') (a:=arr.extract (sa+k) (sa+na)) (b:=arr.extract (sa+na) (sa+na+l)) C hx hy rfl sx sy (by rw [zx];lia) (by rw [zy];lia) (fun x ex y hy=>?_) (fun j hj x hx y hy=>?_) fun M g mg=>?_)
  .rw [g0'] at ex
   cases ex
   exact low y hy
  .have hj':j=na-k-1:=by lia
   subst hj'
   have:y=arr[sa+na-1]'(by lia):=by
    obtain ⟨t,t1,t2⟩:=mem_drop_at hy
    rw [zx] at t1
    have t0:t=0:=by lia
    subst t0
    rw [gk,gl'] at t2
    exact (aT.inj t2).symm
   rw [this]
   exact high x hx
  .refine wpS_bind (wpS_modify ?_)
   refine wpS_bind (wpS_get ?_)
   exact wpS_pure (done M g mg)
 .rw [if_neg c3]
  refine wpS_bind (wpS_mergeHi (κ:=κ') (a:=arr.extract (sa+k) (sa+na)) (b:=arr.extract (sa+na) (sa+na+l)) C hx hy rfl sx sy (by rw [zx];lia) (by rw [zy];lia) (fun x hx y hy=>?_) (fun x ex y hy=>?_) fun M g mg=>?_)
  .have:x=arr[sa+na]'(by lia):=by
    obtain ⟨t,t1,t2⟩:=mem_take_at hx
    have t0:t=0:=by lia
    subst t0
    rw [bI,g0'] at t2
    exact (aT.inj t2).symm
   rw [this]
   exact low y hy
  .rw [zx,gl'] at ex
   cases ex
   exact high y hy
  .refine wpS_bind (wpS_modify ?_)
   refine wpS_bind (wpS_get ?_)
   exact wpS_pure (done M g mg)
end
section
variable {prog:Program}{w:World}{A:Around}{E:Value->Shared->Prop}{s:Shared}{κ:SortKind}{P:Keyed->Prop}{lt:Keyed->Keyed->Bool}
abbrev stOf (κ:SortKind) (xs:Array Keyed) (p:Array (Nat×Nat×Nat)) (g:Nat):SortSt:=SortSt.mk' κ xs p g none
theorem chain_back {xs:Array Keyed}{p:Array (Nat×Nat×Nat)}{lo n:Nat}(h:Chain lt xs 0 p.toList lo) (hn:0<n) (hs:Seg lt xs lo (lo+n)):Chain lt xs 0 (p.push (lo,n,0)).toList (lo+n):=by
 rw [dq]
 exact chain_append.mpr ⟨lo,h,rfl,hn,hs,rfl⟩
theorem modify_powers (p:Array (Nat×Nat×Nat)) (i pw:Nat):(p.modify i fun x=>(x.fst,x.2.fst,pw)).toList.map (fun p=>(p.1,p.2.1))=p.toList.map (fun p=>(p.1,p.2.1)):=by
 apply gq
 intro k
 rw [gMq,gMq,aA,aA,Array.getElem?_modify]
 split
 .cases p[k]? <;> rfl
 .rfl
theorem wpS_sortRuns (C:Cmp prog w A s κ P lt) {arr:Array Keyed}{g:Nat}{Q:Unit->SortSt->Prop}(hp:∀ x,x∈arr->P x) (h2:2<=arr.size)
    (h:∀ xs p g',xs.Perm arr->Seg lt xs 0 arr.size->Q () (stOf κ xs p g')):wpS (model prog w) A E s sortRuns' Q (stOf κ arr #[] g):=by
  rw [sortRuns'_eq]
  refine wpS_bind (wpS_get ?_)
  dsimp only
  have e0:arrOf (stOf κ arr #[] g)=arr:=rfl
  rw [e0]
  generalize minRun' arr.size arr.size 0=mr
  refine wpS_bind (wpS_mono (wpS_forRange
    (I:=fun i c st'=>∃ lo xs p g',c=(none,lo)/\st'=stOf κ xs p g'/\xs.Perm arr/\lo<=arr.size/\Chain lt xs 0 p.toList lo/\i<=lo)
    (Q:=fun c st'=>∃ xs p g',c=(none,arr.size)/\st'=stOf κ xs p g'/\xs.Perm arr/\Chain lt xs 0 p.toList arr.size)
    ?step ?fin ⟨0,arr,#[],g,rfl,rfl,gL.refl _,ba _,rfl,af _⟩) ?post)
  case fin =>
    rintro c st' ⟨lo,xs,p,g',rfl,rfl,q1,q2,q3,q4⟩
    have e:lo=arr.size:=by lia
    subst e
    exact ⟨xs,p,g',rfl,rfl,q1,q3⟩
  case step =>
    rintro i c st' _ hi ⟨lo,xs,p,g',rfl,rfl,q1,q2,q3,q4⟩
    dsimp only
    have hpx:∀ x,x∈xs->P x:=fun x hx=>hp x (q1.mem_iff.mp hx)
    have hzx:xs.size=arr.size:=q1.size_eq
    by_cases c1:lo ≥ arr.size
    . rw [if_pos c1]
      have e:lo=arr.size:=by lia
      subst e
      exact wpS_pure ⟨xs,p,g',rfl,rfl,q1,q3⟩
    rw [if_neg c1]
    refine wpS_bind (wpS_countRun (st:=stOf κ xs p g') C hpx rfl (by lia) (by show lo+(arr.size-lo)<=xs.size;lia) fun n ys n1 n2 b1 s1=>?_)
    dsimp only
    have hb:Btw xs ys lo (lo+n):=b1
    show wpS _ _ _ _ _ _ (stOf κ ys p g')
    by_cases c2:n<mr
    all_goals
      first
        | (rw [if_pos c2]
           refine wpS_bind (wpS_rule ?_)
           refine wpS_bind (wpS_binary (st:=stOf κ ys p g') (n:=min (arr.size-lo) mr) C (hb.mem hpx) rfl n1 (by lia) (by show lo+min (arr.size-lo) mr<=ys.size;have:=hb.size;lia) s1 fun zs b2 s2=>?_)
           rw [if_neg (by decide)]
           have hb2:Btw xs zs lo (lo+min (arr.size-lo) mr):=(hb.mono (by lia)).trans b2
           have nn:1<=min (arr.size-lo) mr:=by lia
           have nl:lo+min (arr.size-lo) mr<=arr.size:=by lia
           show wpS _ _ _ _ _ _ (stOf κ zs p g')
           clear b1 s1 hb b2
           generalize min (arr.size-lo) mr=nN at hb2 nn nl s2 ⊢)
        | (rw [if_neg c2]
           have hb2:=hb
           have s2:=s1
           have nn:=n1
           have nl:lo+n<=arr.size:=by lia
           clear b1 s1 hb
           generalize hnN:n=nN at hb2 nn nl s2 ⊢
           generalize hzs:ys=zs at hb2 s2 ⊢)
      have hpz:=hb2.mem hpx
      have hzz:=hb2.size
      have hcz:Chain lt zs 0 p.toList lo:=chain_congr (fun k _ k2=>hb2.out k (.inl k2)) q3
      have pz:zs.Perm arr:=hb2.pm.trans q1
      refine wpS_bind (wpS_get ?_)
      have ep:pendingOf (stOf κ zs p g')=p:=rfl
      rw [ep]
      cases eb:p.back? with
      | none =>
        dsimp only
        refine wpS_bind (wpS_modify (wpS_pure ?_))
        exact ⟨lo+nN,zs,p.push (lo,nN,0),g',rfl,rfl,pz,nl,chain_back hcz nn s2,by lia⟩
      | some t =>
        obtain ⟨s1',n1',pw0⟩:=t
        dsimp only
        refine wpS_bind (wpS_mono (wpS_forRange
          (I:=fun i c st'=>∃ ys q g2,c=(none,())/\st'=stOf κ ys q g2/\Btw zs ys 0 lo/\Chain lt ys 0 q.toList lo)
          (Q:=fun c st'=>∃ ys q g2,c=(none,())/\st'=stOf κ ys q g2/\Btw zs ys 0 lo/\Chain lt ys 0 q.toList lo)
          ?step1 (fun c st' hh=>hh) ⟨zs,p,g',rfl,rfl,Btw.refl _ _ _,hcz⟩) ?post1)
        case step1 =>
          rintro j c st' _ hj ⟨ys2,q,g2,rfl,rfl,b3,ch3⟩
          refine wpS_bind (wpS_get ?_)
          have eq:pendingOf (stOf κ ys2 q g2)=q:=rfl
          rw [eq]
          by_cases d1:q.size>1
          . rw [if_pos d1]
            have eo:q[q.size-2]?=some (q[q.size-2]'(by lia)):=ag (by lia)
            rw [eo]
            generalize q[q.size-2]'(by lia)=o
            obtain ⟨o1,o2,older⟩:=o
            dsimp only
            split
            . exact wpS_pure ⟨ys2,q,g2,rfl,rfl,b3,ch3⟩
            . refine wpS_bind (wpS_mergeAt (st:=stOf κ ys2 q g2) C (b3.mem hpz) rfl rfl (by show lo<=ys2.size;have:=b3.size;lia) ch3 (by show q.size-2+1<q.size;lia) fun xs3 p3 g3 b4 _ ch4=>?_)
              rw [if_neg (by decide)]
              exact wpS_pure ⟨xs3,p3,g3,rfl,rfl,b3.trans b4,ch4⟩
          . rw [if_neg d1]
            exact wpS_pure ⟨ys2,q,g2,rfl,rfl,b3,ch3⟩
        case post1 =>
          rintro c st' ⟨ys2,q,g2,rfl,rfl,b3,ch3⟩
          dsimp only
          refine wpS_bind (wpS_modify (wpS_bind (wpS_modify (wpS_pure ?_))))
          have s3:Seg lt ys2 lo (lo+nN):=fun a b x y a1 a2 a3 ex ey=>s2 a b x y a1 a2 a3 (by rw [← b3.out a (.inr a1)];exact ex) (by rw [← b3.out b (.inr (by lia))];exact ey)
          exact ⟨lo+nN,ys2,_,g2,rfl,rfl,b3.pm.trans pz,nl,chain_back (chain_powers (modify_powers q _ _) ch3) nn s3,by lia⟩
  case post =>
    rintro c st' ⟨xs,p,g',rfl,rfl,q1,q3⟩
    dsimp only
    refine wpS_bind (wpS_mono (wpS_forRange
      (I:=fun i c st'=>∃ ys q g2,c=(none,())/\st'=stOf κ ys q g2/\ys.Perm arr/\Chain lt ys 0 q.toList arr.size/\q.size+i<=arr.size)
      (Q:=fun c st'=>∃ ys q g2,c=(none,())/\st'=stOf κ ys q g2/\ys.Perm arr/\Chain lt ys 0 q.toList arr.size/\q.size<=1)
      ?step2 ?fin2 ⟨xs,p,g',rfl,rfl,q1,q3,by have:=chain_le q3;rw [ao] at this;lia⟩) ?post2)
    case fin2 =>
      rintro c st' ⟨ys,q,g2,rfl,rfl,r1,r2,r3⟩
      exact ⟨ys,q,g2,rfl,rfl,r1,r2,by lia⟩
    case step2 =>
      rintro j c st' _ hj ⟨ys,q,g2,rfl,rfl,r1,r2,r3⟩
      refine wpS_bind (wpS_get ?_)
      have eq:pendingOf (stOf κ ys q g2)=q:=rfl
      rw [eq]
      by_cases d1:q.size<=1
      . rw [if_pos d1]
        exact wpS_pure ⟨ys,q,g2,rfl,rfl,r1,r2,d1⟩
      rw [if_neg d1]
      have hi':∀ (b:Prop) [Decidable b],(if b then q.size-2-1 else q.size-2)+1<q.size:=fun b _=>by split <;> lia
      refine wpS_bind (wpS_mergeAt (st:=stOf κ ys q g2) C (fun x hx=>hp x (r1.mem_iff.mp hx)) rfl rfl (by show arr.size<=ys.size;have:=r1.size_eq;lia) r2 (hi' _) fun xs3 p3 g3 b4 ns ch4=>?_)
      rw [if_neg (by decide)]
      have ns':p3.size+1=q.size:=ns
      exact wpS_pure ⟨xs3,p3,g3,rfl,rfl,b4.pm.trans r1,ch4,by lia⟩
    case post2 =>
      rintro c st' ⟨ys,q,g2,rfl,rfl,r1,r2,r3⟩
      refine wpS_pure (h ys q g2 r1 ?_)
      rw [← ao] at r3
      cases eq:q.toList with
      | nil =>
        rw [eq] at r2
        have r2':0=arr.size:=r2
        lia
      | cons a r =>
        rw [eq] at r2 r3
        have er:r=[]:=by
          rw [lCq] at r3
          exact bD.mp (by lia)
        subst er
        obtain ⟨_,_,s3,e3⟩:=r2
        have e3':0+a.2.1=arr.size:=e3
        rw [e3'] at s3
        exact s3
end
end MrS
namespace Xe
open PySem
section
variable {M:Model}{A:Around}{E:Value->Shared->Prop}{s:Shared}
structure Noted (fs:List Addr) (e:Addr) (oe:Obj) (T:Addr) (h h':Heap):Prop where
 keep:∀ b o,b≠e->b∉fs->h.get? b=some o->h'.get? b=some o
 slot:∀ b o,b≠e->h.get? b=some o->∃ sl,h'.get? b=some { o with slots:=sl }
 exc:h'.get? e=some (oe.mapFields (·.setIfInBounds 1 (.ref T)))
 fresh:h.get? T=none
 ent:∃ oT ts,h'.get? T=some oT/\oT.data = .fields ts/\ts[3]?=some .none
theorem entry_new {base:Heap}{env:Env}{outer:List Env}{L e:Addr}{oe:Obj}{vs:Array Value}{head:Value}{hadNext:Bool}{Q:Unit->Shared->Prop}
  (hfr:A.frames=some (env::outer)) (hl:s.heap.FunFrames base (env::outer)) (hf:env.frame=some L)
  (he:s.heap.get? e=some oe) (hd:oe.data = .fields vs) (hsz:1<vs.size)
  (h:∀ h' T,Noted ((env::outer).filterMap (·.frame)) e oe T s.heap h'->Q () { s with heap:=h' }) :
  wpAny M A (do let a ← frameOf env;let pl ← entryPlaceOf L hadNext;let b ← EntryCells.newEntry head a .none (rawInt L) .none pl;setField (.ref e) 1 b) (fun _ s'=>wpAny M A (setFlight (.ref e) none) Q E s') E s:=by
 have hene:e∉(env::outer).filterMap (·.frame):=fun hm=>by
  obtain ⟨_,o,ho,hnf⟩:=hl.mem hm
  rw [he] at ho;injection ho with ho;subst ho;exact hnf vs hd
 refine wpAny_bind (wpAny_frameOf_fun hfr hl hf fun h₁ hs₁=>?_)
 refine wpAny_bind (wpAny_entryPlaceOf fun pl hpl=>?_)
 unfold EntryCells.newEntry newFields
 refine wpAny_bind (wpAny_newObj_type ?_ (hpl.sizeOk5 _ _ _ _ _))
 have he₁:h₁.get? e=some oe:=(hs₁.2.1 e hene).trans he
 have he₂:=ae (h:=h₁) { cls:=.type "traceback", dict:=none,data:=.fields ([head,.ref L,.none,rawInt L,.none]++(if pl.isEmpty then aB 6 cQ else pl)).toArray } he₁
 refine wpAny_setField he₂ hd hsz ?_
 have hTe:h₁.objs.size≠e:=cC (ah he₁)
 have hd₃:=Obj.data_mapFields hd (·.setIfInBounds 1 (az h₁.objs.size))
 have he₃:=cv (Obj.mapFields (·.setIfInBounds 1 (az h₁.objs.size))) he₂ (Obj.isFreed_of_fields hd₃)
 have hT₃:=(bz (h₁.push { cls:=.type "traceback", dict:=none,data:=.fields ([head,.ref L,.none,rawInt L,.none]++(if pl.isEmpty then aB 6 cQ else pl)).toArray })
  (Obj.mapFields (·.setIfInBounds 1 (az h₁.objs.size))) (Ne.symm hTe)).trans (aQ h₁ rfl)
 unfold setFlight
 refine wpAny_bind (wpAny_field he₃ hd₃ (x:=.ref h₁.objs.size) (by simp [hsz]) ?_)
 rw [if_pos (show (az h₁.objs.size != cQ)=true from by simp)]
 refine wpAny_setField hT₃ rfl (by simp only [ax,lAq,lCq,df] <;> omega) (h _ h₁.objs.size ?_)
 have keep:∀ b o,b≠e->h₁.get? b=some o ->
   (((h₁.push { cls:=.type "traceback", dict:=none,data:=.fields ([head,.ref L,.none,rawInt L,.none]++(if pl.isEmpty then aB 6 cQ else pl)).toArray }).update e (Obj.mapFields (·.setIfInBounds 1 (az h₁.objs.size)))).update h₁.objs.size
    (Obj.mapFields (·.setIfInBounds 3 ((none:Option Addr).elim cQ fun f=>rawInt f)))).get? b=some o:=fun b o hbe hb=>by
  have hbT:h₁.objs.size≠b:=cC (ah hb)
  rw [bz _ _ hbT,bz _ _ (Ne.symm hbe)]
  exact ae _ hb
 refine ⟨fun b o hb hbf ho=>keep b o hb ((hs₁.2.1 b hbf).trans ho),fun b o hb ho=>?_,?_,?_,?_⟩
 .obtain ⟨sl,e1⟩:=hs₁.2.2 b o ho
  exact ⟨sl,keep b _ hb e1⟩
 .rw [bz _ _ hTe];exact he₃
 .exact bT (by rw [hs₁.1];exact af _)
 .exact ⟨_,_,cv _ hT₃ (Obj.isFreed_of_fields (Obj.data_mapFields rfl _)),Obj.data_mapFields rfl _,by first|(simp;done)|(rcases hpl with rfl|⟨_,_,_,_,_,_,_,rfl⟩ <;> simp)⟩
def Quiet (h:Heap) (vs:Array Value):Prop:=vs[1]?=some .none∨∃ T0 o0 ts,vs[1]?=some (.ref T0)/\h.get? T0=some o0/\o0.data = .fields ts/\ts[3]?=some .none
theorem note {base:Heap}{env:Env}{outer:List Env}{L e:Addr}{oe:Obj}{vs:Array Value}{Q:Unit->Shared->Prop}
  (hfr:A.frames=some (env::outer)) (hl:s.heap.FunFrames base (env::outer)) (hf:env.frame=some L)
  (he:s.heap.get? e=some oe) (hd:oe.data = .fields vs) (hq:Quiet s.heap vs)
  (h:∀ h' T,Noted ((env::outer).filterMap (·.frame)) e oe T s.heap h'->Q () { s with heap:=h' }) :
  wpAny M A (noteFrame (.ref e) env) (fun _ s'=>wpAny M A (setFlight (.ref e) none) Q E s') E s:=by
 unfold noteFrame
 simp only [hf]
 rcases hq with h1|⟨T0,o0,ts,h1,hT,hdT,h3⟩
 .refine wpAny_bind (wpAny_field he hd h1 ?_)
  rw [if_neg (by decide)]
  exact entry_new hfr hl hf he hd (aC.mp h1).1 h
 .refine wpAny_bind (wpAny_field he hd h1 ?_)
  rw [if_pos (show (az T0 != cQ)=true from by simp)]
  refine wpAny_bind (wpAny_field hT hdT h3 ?_)
  rw [if_neg (show ¬ ((cQ == rawInt L)=true) from by simp [rawInt])]
  refine wpAny_bind (wpAny_setField hT hdT (aC.mp h3).1 ?_)
  rw [Heap.update_setField_same s.heap T0 o0 ts 3 .none hT hdT h3]
  exact entry_new hfr hl hf he hd (aC.mp h1).1 h
theorem leave {base:Heap}{env:Env}{outer:List Env}{L e:Addr}{oe:Obj}{vs:Array Value}{Q:Unit->Shared->Prop}
  (hfr:A.frames=some (env::outer)) (hl:s.heap.FunFrames base (env::outer)) (hf:env.frame=some L)
  (he:s.heap.get? e=some oe) (hd:oe.data = .fields vs) (hq:Quiet s.heap vs)
  (h:∀ h' T,Noted ((env::outer).filterMap (·.frame)) e oe T s.heap h'->Q () { s with heap:=h' }) :
  wpAny M A (leaving env (.ref e)) Q E s:=by
 unfold leaving
 exact wpAny_bind (note hfr hl hf he hd hq h)
end
abbrev VEm:List Value:=[.type "ValueError", .type "Exception", .type "BaseException", .type "object"]
abbrev excObj (C t:Addr) (dd:Option Addr):Obj:={ cls:=.ref C,dict:=dd,data:=.fields #[.ref t,.none,.none,.none,.bool false,.none] }
abbrev Lk {α:Type}(M:Model) (h:Heap) (x:Sem α) (r:α):Prop :=
 ∀ (A:Around) (Q:α->Shared->Prop) (E:Value->Shared->Prop) (s:Shared),(∀ b o,h.get? b=some o->s.heap.get? b=some o)->Q r s->wpAny M A x Q E s
section
variable {M:Model}{A:Around}{E:Value->Shared->Prop}{env:Env}
variable {nm q:Str}{C N:Addr}{bs bm:List Value}{hdct:Bool}{sn:List Str}{sub:List Value}{ab:Bool}{col:Option Bool}{dd:Option Addr}{k0 k1 k2 k3 k5:Option Value}{newId:String}
theorem raise_made {s:Shared}{x:Sem Value}{Q:Flow->Shared->Prop}(hbase:bm.contains (.type "BaseException")=true) (hh:A.handled=none)
  (h:wpAny M A x (fun v s₁=>∃ e t dx,v = .ref e/\s₁.heap.get? C=some (excClassObj nm q C N bs bm hdct sn sub ab col dd k0 k1 k2 k3 k5 newId) /\
   s₁.heap.get? e=some (excObj C t dx)/\E (.ref e) s₁) E s) :
  wpAny M A (raiseStmt env (some x) none) Q E s:=by
 have hcB:(az C::bm).contains (.type "BaseException")=true:=by rw [cZ,hbase,eO]
 unfold raiseStmt
 refine wpAny_bind (wpAny_mono h (fun v s₁ h₁=>?_) fun _ _ x=>x)
 obtain ⟨e,t,dx,rfl,hC,he,hE⟩:=h₁
 obtain ⟨hp,g,d,tk,os⟩:=s₁
 repeat (first|with_reducible refine wpAny_loadPart_at he ?_|with_reducible refine wpAny_loadPart_at hC ?_|(with_reducible refine wpAny_isSubtype_exc hC ?_;rw [hcB])|wp_step)
 exact wpAny_raiseNew_none hh hE
end
section
variable {prog:Program}{w:World}{A:Around}{E:Value->Shared->Prop}{h:Heap}{g:Array GenState}{d:Drawn}{t:Nat}{os:OsState}
variable {nm q:Str}{C N:Addr}{bs bm:List Value}{hdct:Bool}{sn:List Str}{sub:List Value}{ab:Bool}{col:Option Bool}{dd:Option Addr}{k0 k1 k2 k3 k5:Option Value}
theorem type_call_init (T:OwnTail h VEm bm) {rest:List Value}{fI:Addr}{Q:Fin->Shared->Prop}
  (hC:h.get? C=some (excClassObj nm q C N bs bm hdct sn sub ab col dd k0 k1 k2 k3 k5 "ValueError.__new__"))
  (hi:Lk (model prog w) h (typeLookup (.ref C) "__init__") (some (.ref fI))) (hb:∀ self,Lk (model prog w) h (bindSpecial (.ref fI) self) (.ref fI,[self]))
  (hq:∀ h' e,eT h h' e (.ref C) rest->h.objs.size<=e ->
   wpAny (model prog w) A (call (.ref fI) (.ref e::rest)) (fun r s'=>r = .none/\Q (.done (.ret (.ref e))) s') E ⟨h',g,d,t,os⟩) (hrest:rest.length<=sizeLine) :
  wpAny (model prog w) A (Builtin.«type.__call__» ⟨.ref C::rest,[]⟩) Q E ⟨h,g,d,t,os⟩:=by
 have F:=dB
 repeat (first|with_reducible refine wpAny_loadPart_at hC ?_|with_reducible refine wpAny_madeBy_exc hC ?_|wp_step)
 refine codeAny_call_builtin_code (Code.quiet_builtin _ F.quiet) (wpAny_check_new_subT F T hC ?_)
 refine codeAny_exc_new_subT F T hC ?_ hrest
 show wpAny _ _ _ _ _ _
 have hC₁:=ae { cls:=.ref C,data:=.fields #[.ref h.objs.size,.none,.none,.none,.bool false,.none] }
  (ae { cls:=.type "tuple", data:=.seq rest.toArray } hC)
 have hget:((h.push { cls:=.type "tuple", data:=.seq rest.toArray }).push
   { cls:=.ref C,data:=.fields #[.ref h.objs.size,.none,.none,.none,.bool false,.none] }).get? (h.objs.size+1)=some
   { cls:=.ref C,data:=.fields #[.ref h.objs.size,.none,.none,.none,.bool false,.none] }:=by heap_get
 have hcC:(az C::bm).contains (.ref C)=true:=by simp
 have kk:∀ b o,h.get? b=some o->((h.push { cls:=.type "tuple", data:=.seq rest.toArray }).push { cls:=.ref C,data:=.fields #[.ref h.objs.size,.none,.none,.none,.bool false,.none] }).get? b=some o:=fun b o e=>ae _ (ae _ e)
 have T₁:=T.keeps (h':=(h.push { cls:=.type "tuple", data:=.seq rest.toArray }).push { cls:=.ref C,data:=.fields #[.ref h.objs.size,.none,.none,.none,.bool false,.none] })
  fun b o e=>ae _ (ae _ e)
 unfold isInstance
 repeat (first|with_reducible refine wpAny_loadPart_at hget ?_|(with_reducible refine wpAny_isSubtype_exc hC₁ ?_;rw [hcC])|wp_step)
 show wpAny _ _ (typeLookup (.ref C) _) _ _ _
 refine hi _ _ _ _ kk ?_
 refine wpAny_holding (wpAny_bind (hb _ _ _ _ _ kk ?_))
 refine (wpAny_bind (wpAny_mono (hq _ (h.objs.size+1) ⟨fun b o hb=>ae _ (ae _ hb),bT (bA _),h.objs.size,hget,bT (af _),?_⟩ (bA _)) (fun r s' hr=>?_) fun _ _ x=>x))
 .exact ae _ (fc rfl rfl)
 .obtain ⟨rfl,hQ⟩:=hr
  wp_walk
  exact hQ
theorem call_init (T:OwnTail h VEm bm) {rest:List Value}{fI:Addr}{Q:Value->Shared->Prop}
  (hC:h.get? C=some (excClassObj nm q C N bs bm hdct sn sub ab col dd k0 k1 k2 k3 k5 "ValueError.__new__"))
  (hi:Lk (model prog w) h (typeLookup (.ref C) "__init__") (some (.ref fI))) (hb:∀ self,Lk (model prog w) h (bindSpecial (.ref fI) self) (.ref fI,[self]))
  (hq:∀ h' e,eT h h' e (.ref C) rest->h.objs.size<=e ->
   wpAny (model prog w) (A.under (.builtin "type.__call__" ⟨.ref C::rest,[]⟩)) (call (.ref fI) (.ref e::rest)) (fun r s'=>r = .none/\Q (.ref e) s') E ⟨h',g,d,t,os⟩) (hrest:rest.length<=sizeLine) :
  wpAny (model prog w) A (call (.ref C) rest) Q E ⟨h,g,d,t,os⟩:=by
 have f1:=tc_lookup
 have f2:=tc_bind (.ref C)
 have hT:(⟨h,g,d,t,os⟩:Shared).TypeIs (.ref C) "type" := ⟨_,hC,rfl⟩
 refine wpAny_call (codeAny_of_tree ?_)
 show wpAny _ _ (callAny (.ref C) _) _ _ _
 repeat (any_goals (first|assumption|with_reducible refine wpAny_loadPart_at hC ?_|wp_step))
 refine ⟨rfl,?_⟩
 refine codeAny_call_builtin_at (Code.quiet_builtin _ (by decide +kernel)) entry_typeCall (wpAny_check_type_call_sub hC (type_call_init (hrest:=hrest) T hC hi hb fun h' e hm hs=>?_))
 exact hq h' e hm hs
theorem base_init (T:OwnTail h VEm bm) {e t0:Addr}{rest:List Value}{Q:Value->Shared->Prop}
  (hC:h.get? C=some (excClassObj nm q C N bs bm hdct sn sub ab col dd k0 k1 k2 k3 k5 "ValueError.__new__")) (he:h.get? e=some (excObj C t0 none))
  (hq:∀ h' t1,(∀ b o,b≠e->h.get? b=some o->h'.get? b=some o)->h'.get? e=some (excObj C t1 none)->Q .none ⟨h',g,d,t,os⟩) (hrest:rest.length<=sizeLine) :
  wpAny (model prog w) A (call (.builtin "ValueError.__init__") (.ref e::rest)) Q E ⟨h,g,d,t,os⟩:=by
 have F:=dB
 refine wpAny_call (codeAny_call_builtin F.init.plain F.initEntry (wpAny_check_init_subT F T hC he rfl ?_))
 wp_walk
 refine hq _ h.objs.size (fun b o hb ho=>?_) ?_
 .rw [bz _ _ (Ne.symm hb)]
  exact ae _ ho
 .rw [cv _ (ae _ he) rfl]
  rfl
theorem refuse_tail (T:OwnTail h VEm bm) (self:Value):refuseLoop self "__setattr__" bm=pure ():=by
 induction T with
 | base=>exact PySem.F.store_ValueError.passes self
 | own _ _ _ _ ih=>rw [refuseLoop_ref];exact ih
end
end Xe
namespace Xe
open PySem
open Builtin Builtin.ObjectAttr
section
variable {prog:Program}{w:World}{A:Around}{E:Value->Shared->Prop}{h:Heap}{g:Array GenState}{d:Drawn}{t:Nat}{os:OsState}
variable {nm q:Str}{C N:Addr}{bs bm:List Value}{sn:List Str}{sub:List Value}{ab:Bool}{col:Option Bool}{dd:Option Addr}{k0 k1 k2 k3 k5:Option Value}
theorem store_run (T:OwnTail h VEm bm) {x:Addr}{o:Obj}{name:Str}{v:Value}{tk:Tok}{Q:Fin->Shared->Prop}
  (hC:h.get? C=some (excClassObj nm q C N bs bm true sn sub ab col dd k0 k1 k2 k3 k5 "ValueError.__new__")) (hx:h.get? x=some o) (hc:o.cls = .ref C) (hnc:∀ c,o.data ≠ .cls c) (hdn:o.dict=none)
  (hTL:Lk (model prog w) h (typeLookup (.ref C) name) none)
  (hq:∀ h' dx tk',h.objs.size<=dx->dx≠x->h'.get? x=some { cls:=o.cls,dict:=some dx,data:=o.data,slots:=o.slots }->h'.Ns1 dx (fun y=>if y=name then some v else none)->(∀ b ob,b≠x->h.get? b=some ob->h'.get? b=some ob) ->
   Q (.done (.ret .none)) ⟨h',g,d,tk',os⟩) :
  wpAny (model prog w) A (Builtin.«object.__setattr__» ⟨[.ref x,.str name tk,v],[]⟩) Q E ⟨h,g,d,t,os⟩:=by
 have hpass:=refuse_tail T (.ref x)
 unfold Builtin.«object.__setattr__»
 repeat (first|rw [refuse_eq]|(rw [refuseLoop_ref,hpass])|(with_reducible refine wpAny_loadPart_at hx ?_;rw [hc])|with_reducible refine wpAny_mroOf_exc hC ?_|with_reducible refine hTL _ _ _ _ (fun _ _ z=>z) ?_|wp_step)
 rw [hdn,if_neg (by simp [typeHasDict])]
 split
 .rename_i hcd
  cases hcd
 split
 .rename_i c hcd
  exact absurd hcd (hnc c)
 .have hx₁:(h.push { cls:=.type "dict", data:=.dict #[] }).get? x=some o:=ae _ hx
  have hxs:x≠h.objs.size:=ay (ah hx)
  refine wpAny_bind (wpAny_alloc' ?_)
  refine wpAny_bind (wpAny_update' hx₁ ?_)
  refine wpAny_pure ?_
  have hgd:((h.push { cls:=.type "dict", data:=.dict #[] }).update x fun o=>{ cls:=o.cls,dict:=some h.objs.size,data:=o.data,slots:=o.slots }).get? h.objs.size
    = some { cls:=.type "dict", data:=.dict #[] } :=
   (bQ _ _ _ _ hxs.symm).trans (fc rfl rfl)
  have hnd:((h.push { cls:=.type "dict", data:=.dict #[] }).update x fun o=>{ cls:=o.cls,dict:=some h.objs.size,data:=o.data,slots:=o.slots }).Ns h.objs.size (fun _=>none) :=
   ⟨_,#[],_,hgd,rfl,fun e he=>absurd he (by simp),fun _=>rfl⟩
  show wpAny _ _ (storeInDict h.objs.size (.str name tk) name v) _ _ _
  unfold storeInDict newKeyGuard
  refine wpAny_bind (wpAny_pure (wpAny_bind (wpAny_nsSet1 (Heap.Ns1.of_empty hnd) fun h' hn' hs=>?_)))
  obtain ⟨oD,esD,epD,hoD,hdD,hcD⟩:=hn'.count (Within.cons name v Within.nil)
  refine wpAny_bind (wpAny_lookBehind hoD (by rw [hdD];exact pastItsLine_dict (bC hcD (by rw [lCq,df,sizeLine_eq];omega))) ?_)
  wp_walk
  refine hq h' h.objs.size _ (af _) hxs.symm ?_ hn' (fun b ob hbx hb=>?_)
  .refine (hs.2 x hxs).trans (cv _ hx₁ ?_)
   have hfr:=(Heap.get?_some_iff.mp hx).2
   obtain ⟨oc,od,odt,osl⟩:=o
   cases odt <;> first|rfl|exact hfr
  .exact (hs.2 b (ay (ah hb))).trans ((bQ _ _ _ _ hbx).trans (ae _ hb))
theorem check_st {M:Model}(T:OwnTail h VEm bm) {x:Addr}{o:Obj}{nameV v:Value}{Q:Unit->Shared->Prop}
  (hC:h.get? C=some (excClassObj nm q C N bs bm true sn sub ab col dd k0 k1 k2 k3 k5 "ValueError.__new__")) (hx:h.get? x=some o) (hc:o.cls = .ref C) (hq:Q () ⟨h,g,d,t,os⟩) :
  wpAny M A (checkBuiltinCall "object.__setattr__" ⟨[.ref x,nameV,v],[]⟩) Q E ⟨h,g,d,t,os⟩:=by
 have SF:=fS
 have hob:(az C::bm).contains (.type "object")=true:=by rw [cZ,T.hasType (show VEm.contains (.type "object")=true by decide),eO]
 have ha:=SF.args (.ref x) nameV v
 simp only [checkBuiltinCall,SF.kind,SF.split]
 refine wpAny_bind ?_
 .unfold isInstance
  repeat (first|(with_reducible refine wpAny_loadPart_at hx ?_;rw [hc])|(with_reducible refine wpAny_isSubtype_exc hC ?_;rw [hob])|wp_step)
  exact hq
theorem store_new (T:OwnTail h VEm bm) {x t0:Addr}{name:Str}{v:Value}{Q:Unit->Shared->Prop}
  (hC:h.get? C=some (excClassObj nm q C N bs bm true sn sub ab col dd k0 k1 k2 k3 k5 "ValueError.__new__")) (hx:h.get? x=some (excObj C t0 none))
  (hSA:Lk (model prog w) h (typeLookup (.ref C) "__setattr__") (some (.builtin "object.__setattr__"))) (hTL:Lk (model prog w) h (typeLookup (.ref C) name) none)
  (hq:∀ h' dx tk',h.objs.size<=dx->dx≠x->h'.get? x=some (excObj C t0 (some dx))->h'.Ns1 dx (fun y=>if y=name then some v else none)->(∀ b ob,b≠x->h.get? b=some ob->h'.get? b=some ob) ->
   Q () ⟨h',g,d,tk',os⟩) :
  wpAny (model prog w) A (setAttr (.ref x) name v) Q E ⟨h,g,d,t,os⟩:=by
 have SF:=fS
 have f3:=SF.slot.bind (.ref x)
 have hob:(az C::bm).contains (.type "object")=true:=by rw [cZ,T.hasType (show VEm.contains (.type "object")=true by decide),eO]
 unfold setAttr callSpecial? specialOf
 repeat (any_goals (first|assumption|with_reducible refine wpAny_loadPart_at hx ?_|with_reducible refine hSA _ _ _ _ (fun _ _ z=>z) ?_|wp_step))
 refine codeAny_call_builtin SF.slot.plain SF.entry (check_st T hC hx rfl (store_run T hC hx rfl (fun c z=>nomatch z) rfl hTL fun h' dx tk' a1 a2 a3 a4 a5=>?_))
 repeat (any_goals (first|assumption|wp_step))
 exact hq h' dx tk' a1 a2 a3 a4 a5
end
end Xe
namespace Mr
abbrev St:=L2.St
open PySem PySem.Spec PyProof.Rows L2
section
variable {X:Cx}{pins:List (Addr×Obj)}{σ:List (Option V)}{H H':Hp}{s:Shared}{h':Heap}
theorem turnLaid {t':Nat}{fp:List Addr}{T:Addr}{o:HO}(I:Inv X pins σ H s) (k:∀ b u,b∉fp->s.heap.get? b=some u->h'.get? b=some u)
  (hf:∀ b∈fp,FpOk X pins H b) (hT:s.heap.objs.size<=T) (new:ObjOk X.prog X.w (upd H T o) h' T o):Inv X pins σ (upd H T o) { s with heap:=h',toks:=t' }:=by
 have hn:H T=none:=I.hok.fresh hT
 have nf:∀ b u,H b=some u->b∉fp:=fun b u e z=>by rw [(hf b z).1] at e;cases e
 refine I.step (g':=s.gens) (d':=s.drawn) (ch:=fp) (fun b hb=>?_) (fun b u _ _ hc e _=>k b u hc e) (fun b u _ _ hc e _=>⟨u.slots,k b u hc e⟩)
  (fun b u _ e n=>by rw [upd_ne (ay (aN (ah e) hT))];exact n) (fun b u hc e=>⟨u,k b u hc e⟩)
  (fun b xs e=>by rw [upd_ne (ne_of_none e hn)];exact e) (fun b u xs e=>by rw [upd_ne (ne_of_none e hn)];exact e) (fun b ps e=>⟨#[],by rw [upd_ne (ne_of_none e hn),e];simp⟩) (fun m hm=>?_) (fun b u e=>?_) I.bare
 .obtain ⟨_,f1,_,f3,f4,f5⟩:=hf b hb
  exact ⟨f3,f1,f4,f5⟩
 .obtain ⟨u,es,ep,ho,r⟩:=hm
  exact ⟨u,es,ep,k _ u (fun z=>(hf _ z).2.1 rfl) ho,r⟩
 .by_cases hb:b=T
  .subst hb
   rw [upd_same] at e
   cases e
   exact new
  .rw [upd_ne hb] at e
   refine (I.hok b u e).stay (fun c v hc q=>k c v ?_ q) (fun c q=>by rw [upd_ne (ne_of_none q hn)];exact q) fun c xs q=>by rw [upd_ne (ne_of_none q hn)];exact q
   rcases hc with rfl|hc
   .exact nf _ u e
   .exact nf c _ hc
theorem turnedL {t':Nat}{fp:List Addr}(I:Inv X pins σ H s) (k:∀ b u,b∉fp->s.heap.get? b=some u->h'.get? b=some u)
  (hf:∀ b∈fp,FpOk X pins H b):Inv X pins σ H { s with heap:=h',toks:=t' }:=by
 have nf:∀ b u,H b=some u->b∉fp:=fun b u e z=>by rw [(hf b z).1] at e;cases e
 refine I.step (g':=s.gens) (d':=s.drawn) (ch:=fp) (fun b hb=>?_) (fun b u _ _ hc e _=>k b u hc e) (fun b u _ _ hc e _=>⟨u.slots,k b u hc e⟩)
  (fun _ _ _ _ n=>n) (fun b u hc e=>⟨u,k b u hc e⟩) (fun _ _ e=>e) (fun _ _ _ e=>e) (fun b ps e=>⟨#[],by rw [e];simp⟩) (fun m hm=>?_) (fun b u e=>?_) I.bare
 .obtain ⟨_,f1,_,f3,f4,f5⟩:=hf b hb
  exact ⟨f3,f1,f4,f5⟩
 .obtain ⟨u,es,ep,ho,r⟩:=hm
  exact ⟨u,es,ep,k _ u (fun z=>(hf _ z).2.1 rfl) ho,r⟩
 .refine (I.hok b u e).stay (fun c v hc q=>k c v ?_ q) (fun _ q=>q) fun _ _ q=>q
  rcases hc with rfl|hc
  .exact nf _ u e
  .exact nf c _ hc
theorem seq_ne {a b:Addr}{xs:List V}(I:Inv X pins σ H s) (h:SqL X.K H a xs) (f:FpOk X pins H b):a≠b:=by
 intro e
 subst e
 obtain ⟨f0,_,_,f3,_⟩:=f
 rcases h with (h|⟨o,h⟩)|⟨o,its,n,hk,_⟩
 .rw [f0] at h;cases h
 .rw [f0] at h;cases h
 .have hb:=I.mod.kin a o hk
  rcases f3 with z|z
  .exact I.ok.noex a o hb z
  .exact absurd (aN (ah (I.ok.bs a o hb).1) z) (bR _)
end
def Ite (K:W.Frag) (a:Addr):It :=
  ⟨fun i H=>∃ xs x,SqL K H a xs/\xs[i]?=some x,
   fun i H v H'=>∃ T x,H T=none/\v = .ref T/\H'=upd H T (.tup [.int i,x])/\∀ xs,SqL K H a xs->xs[i]?=some x,
   fun i H=>∃ xs,SqL K H a xs/\xs.length<=i⟩
theorem turn_enum {P:Program}{w:World}{K:W.Frag}{elts:List Expr}{k:Nat}{pos:Pos}(a e it:Addr) (hne:e≠it) :
  Turn P w K (.Tuple elts k pos) (Ite K a) [e,it] e (fun i h=>(∃ old,IsEnum h e it i old)/\h.IsListIter it a i) where
 mem:=by simp
 obj:=fun i h st b hb=>by
  obtain ⟨⟨old,he⟩,o,ho,_,d⟩:=st
  rcases ai.mp hb with rfl|hb
  .exact ⟨_,he,fun v z=>by
    have z':Data.fields _=Data.cell v:=z
    cases z'⟩
  .have e:b=it:=by simpa using hb
   subst e
   exact ⟨o,ho,fun v z=>by rw [d] at z;cases z⟩
 keep:=fun i h h' st kp=>by
  obtain ⟨⟨old,he⟩,hit⟩:=st
  exact ⟨⟨old,kp e (by simp) _ he⟩,hit.at fun o q=>kp it (by simp) o q⟩
 item:=by
  intro X hP hw hK hc i pins s σ H E I hf st hg
  subst hP hw hK
  obtain ⟨xs,x,hq,hx⟩:=hg
  obtain ⟨its,rv,p,hz⟩:=I.list hq
  obtain ⟨u,hu,ru⟩:=rv.get hx
  obtain ⟨⟨old,he⟩,hit⟩:=st
  have hil:it<s.heap.objs.size:=by obtain ⟨_,q,_⟩:=hit;exact ah q
  have hel:e<s.heap.objs.size:=ah he
  refine wpAny_pyNext_enum_item he hit p.isList (x:=u) (by simpa using hu) hne fun h1 he1 hit1 ht1 hz1 hk1=>⟨_,rfl,?_⟩
  refine wpAny_letOwnedTupleGo_enum he1 fun h2 he2 hs2=>?_
  replace hs2:dQ e h1 h2:=hs2
  have hn:H s.heap.objs.size=none:=I.hok.fresh (af _)
  refine ⟨.ref s.heap.objs.size,upd H s.heap.objs.size (.tup [.int i,x]),?_,rfl,⟨_,x,hn,rfl,rfl,fun ys hy=>by rw [I.list_inj hy hq];exact hx⟩,⟨⟨_,by simpa using he2⟩,hit1.extBut hs2.extBut (Ne.symm hne)⟩,fun b hb=>?_⟩
  .show L2.Inv X pins σ _ { s with heap:=h2,toks:=s.toks+1 }
   refine turnLaid (s:=s) (fp:=[e,it]) I (fun b o hb q=>?_) hf (af _) ⟨by simp only [lCq,df];rw [sizeLine_eq];decide,[.int i s.toks,u],.cons ⟨_,rfl⟩ (.cons ru .nil),_,hs2.extBut _ _ (cC hel) ht1,rfl,_,rfl⟩
   have b1:b≠e:=fun z=>hb (by simp [z])
   exact hs2.extBut b o b1 (hk1 b o b1 (fun z=>hb (by simp [z])) q)
  .have hb2:b<s.heap.objs.size:=by
    rcases ai.mp hb with rfl|hb
    .exact hel
    .have e:b=it:=by simpa using hb
     subst e
     exact hil
   rw [upd_ne (ay hb2)]
   exact (hf b hb).1
 done:=by
  intro X hP hw hK hc i pins s σ H E I hf st hg
  subst hP hw hK
  obtain ⟨xs,hq,hx⟩:=hg
  obtain ⟨its,rv,p,hz⟩:=I.list hq
  obtain ⟨⟨old,he⟩,hit⟩:=st
  have hl:=rv.length
  exact wpAny_pyNext_enum_end (I.ok.hd hc) he hit p.isList (by simp;lia) fun h1 eb=>⟨rfl,turnedL (t':=s.toks) (fp:=[e,it]) I (fun b o hb q=>eb b o (fun z=>hb (by simp [z])) q) hf⟩
 self:=fun _ _ _ _ _ st h=>by
  obtain ⟨⟨old,he⟩,_⟩:=st
  exact wpAny_pyIter_enum he h
def Itz (K:W.Frag) (a b:Addr):It :=
  ⟨fun i H=>∃ xs ys x y,SqL K H a xs/\SqL K H b ys/\xs[i]?=some x/\ys[i]?=some y,
   fun i H v H'=>∃ T x y,H T=none/\v = .ref T/\H'=upd H T (.tup [x,y])/\(∀ xs,SqL K H a xs->xs[i]?=some x)/\∀ ys,SqL K H b ys->ys[i]?=some y,
   fun i H=>∃ xs ys,SqL K H a xs/\SqL K H b ys/\(xs.length<=i∨ys.length<=i)⟩
structure Z5 (z TI TO i1 i2:Addr):Prop where
 a:TI≠z
 b:TO≠z
 c:i1≠z
 d:i2≠z
 e:TI≠TO
 f:TI≠i1
 g:TI≠i2
 h:TO≠i1
 i:TO≠i2
 j:i1≠i2
theorem z5_mk (n:Nat):Z5 (n+4) (n+2) (n+3) n (n+1) where
 a:=fun (q:n+2=n+4)=>by lia
 b:=fun (q:n+3=n+4)=>by lia
 c:=fun (q:n=n+4)=>by lia
 d:=fun (q:n+1=n+4)=>by lia
 e:=fun (q:n+2=n+3)=>by lia
 f:=fun (q:n+2=n)=>by lia
 g:=fun (q:n+2=n+1)=>by lia
 h:=fun (q:n+3=n)=>by lia
 i:=fun (q:n+3=n+1)=>by lia
 j:=fun (q:n=n+1)=>by lia
theorem turn_zip {P:Program}{w:World}{K:W.Frag}{elts:List Expr}{k:Nat}{pos:Pos}(l1 l2 z TI TO i1 i2:Addr) (d:Z5 z TI TO i1 i2) :
  Turn P w K (.Tuple elts k pos) (Itz K l1 l2) [z,TI,TO,i1,i2] z
   (fun i h=>IsZip h z TI TO .none/\IsPair h TI (.ref i1) (.ref i2)/\(∃ a b,IsPair h TO a b)/\h.IsListIter i1 l1 i/\h.IsListIter i2 l2 i) where
 mem:=by simp
 obj:=fun i h st b hb=>by
  obtain ⟨hz,hTI,⟨a,c,hTO⟩,⟨o1,q1,_,d1⟩,⟨o2,q2,_,d2⟩⟩:=st
  simp only [ai,dC,or_false] at hb
  rcases hb with rfl|rfl|rfl|rfl|rfl
  .exact ⟨_,hz,fun v x=>by
    have x':Data.fields _=Data.cell v:=x
    cases x'⟩
  .exact ⟨_,hTI,fun v x=>by
    have x':Data.seq _ _=Data.cell v:=x
    cases x'⟩
  .exact ⟨_,hTO,fun v x=>by
    have x':Data.seq _ _=Data.cell v:=x
    cases x'⟩
  .exact ⟨o1,q1,fun v x=>by rw [d1] at x;cases x⟩
  .exact ⟨o2,q2,fun v x=>by rw [d2] at x;cases x⟩
 keep:=fun i h h' st kp=>by
  obtain ⟨hz,hTI,⟨a,c,hTO⟩,h1,h2⟩:=st
  exact ⟨kp z (by simp) _ hz,kp TI (by simp) _ hTI,⟨a,c,kp TO (by simp) _ hTO⟩,h1.at fun o q=>kp i1 (by simp) o q,h2.at fun o q=>kp i2 (by simp) o q⟩
 item:=by
  intro X hP hw hK hc i pins s σ H E I hf st hg
  subst hP hw hK
  obtain ⟨xs,ys,x,y,hq1,hq2,hx,hy⟩:=hg
  obtain ⟨its1,rv1,p1,_⟩:=I.list hq1
  obtain ⟨its2,rv2,p2,_⟩:=I.list hq2
  obtain ⟨u1,hu1,ru1⟩:=rv1.get hx
  obtain ⟨u2,hu2,ru2⟩:=rv2.get hy
  obtain ⟨hz,hTI,⟨a,c,hTO⟩,h1,h2⟩:=st
  have n1:∀ b∈[z,TI,TO,i1,i2],l1≠b:=fun b hb=>seq_ne I hq1 (hf b hb)
  have n2:∀ b∈[z,TI,TO,i1,i2],l2≠b:=fun b hb=>seq_ne I hq2 (hf b hb)
  have D:ZipApart z TI TO i1 i2 l1 l2:=⟨d.a,d.b,d.c,d.d,d.e,d.f,d.g,d.h,d.i,d.j,n1 z (by simp),n1 TO (by simp),n1 i1 (by simp),n1 i2 (by simp),n2 z (by simp),n2 TO (by simp),n2 i1 (by simp),n2 i2 (by simp)⟩
  have hzl:z<s.heap.objs.size:=ah hz
  refine wpAny_pyNext_zip_item D hz hTI hTO h1 h2 p1.isList p2.isList (x:=u1) (y:=u2) (by simpa using hu1) (by simpa using hu2) fun g1 hz1 hTO1 g11 g12 hT1 hsz1 hk1=>⟨_,rfl,?_⟩
  refine wpAny_letOwnedTupleGo_zip hz1 fun g2 hz2 hs2=>?_
  replace hs2:dQ z g1 g2:=hs2
  have hn:H s.heap.objs.size=none:=I.hok.fresh (af _)
  refine ⟨.ref s.heap.objs.size,upd H s.heap.objs.size (.tup [x,y]),?_,rfl,⟨_,x,y,hn,rfl,rfl,fun ws hw=>by rw [I.list_inj hw hq1];exact hx,fun ws hw=>by rw [I.list_inj hw hq2];exact hy⟩,
   ⟨hz2,hs2.extBut _ _ d.a (hk1 _ _ d.a d.e d.f d.g hTI),⟨_,_,hs2.extBut _ _ d.b hTO1⟩,g11.extBut hs2.extBut d.c,g12.extBut hs2.extBut d.d⟩,fun b hb=>?_⟩
  .show L2.Inv X pins σ _ { s with heap:=g2,toks:=s.toks }
   refine turnLaid (s:=s) (fp:=[z,TI,TO,i1,i2]) I (fun b o hb q=>?_) hf (af _) ⟨by simp only [lCq,df];rw [sizeLine_eq];decide,[u1,u2],.cons ru1 (.cons ru2 .nil),_,hs2.extBut _ _ (cC hzl) hT1,rfl,_,rfl⟩
   have b1:b≠z:=fun e=>hb (by simp [e])
   exact hs2.extBut b o b1 (hk1 b o b1 (fun e=>hb (by simp [e])) (fun e=>hb (by simp [e])) (fun e=>hb (by simp [e])) q)
  .have hb2:b<s.heap.objs.size:=by
    have hb':=hb
    simp only [ai,dC,or_false] at hb'
    rcases hb' with rfl|rfl|rfl|rfl|rfl
    .exact hzl
    .exact ah hTI
    .exact ah hTO
    .obtain ⟨_,q,_⟩:=h1
     exact ah q
    .obtain ⟨_,q,_⟩:=h2
     exact ah q
   rw [upd_ne (ay hb2)]
   exact (hf b hb).1
 done:=by
  intro X hP hw hK hc i pins s σ H E I hf st hg
  subst hP hw hK
  obtain ⟨xs,ys,hq1,hq2,hx⟩:=hg
  obtain ⟨its1,rv1,p1,_⟩:=I.list hq1
  obtain ⟨its2,rv2,p2,_⟩:=I.list hq2
  obtain ⟨hz,hTI,⟨a,c,hTO⟩,h1,h2⟩:=st
  have n1:∀ b∈[z,TI,TO,i1,i2],l1≠b:=fun b hb=>seq_ne I hq1 (hf b hb)
  have n2:∀ b∈[z,TI,TO,i1,i2],l2≠b:=fun b hb=>seq_ne I hq2 (hf b hb)
  have D:ZipApart z TI TO i1 i2 l1 l2:=⟨d.a,d.b,d.c,d.d,d.e,d.f,d.g,d.h,d.i,d.j,n1 z (by simp),n1 TO (by simp),n1 i1 (by simp),n1 i2 (by simp),n2 z (by simp),n2 TO (by simp),n2 i1 (by simp),n2 i2 (by simp)⟩
  have e1:=rv1.length
  have e2:=rv2.length
  refine wpAny_pyNext_zip_end (I.ok.hd hc) D hz hTI hTO h1 h2 p1.isList p2.isList ?_ fun g1 eb=>⟨rfl,turnedL (t':=s.toks) (fp:=[z,TI,TO,i1,i2]) I (fun b o hb q=>eb b o (fun e=>hb (by simp [e])) (fun e=>hb (by simp [e])) (fun e=>hb (by simp [e])) (fun e=>hb (by simp [e])) q) hf⟩
  rcases hx with hx|hx
  .exact .inl (by simp;lia)
  .exact .inr (by simp;lia)
 self:=fun _ _ _ _ _ st h=>wpAny_pyIter_zip st.1 h
section
variable {X:Cx}{elts:List Expr}{kk:Nat}{tpos:Pos}
def iEnum (K:W.Frag) (ta:TA):TI:=fun σ H R=>ta σ H fun vs H1=>∃ a,vs=[.ref a]/\(∃ xs,SqL K H1 a xs)/\R (Ite K a) H1
theorem pi_enum {e:Expr}{ta:TA}{p pos:Pos}(hg:Gl X "enumerate") (hm:X.mg "enumerate" = none) (ha:PA X [e] ta) (hs:starEach [e] X.env=[(false,eval e X.env)]:=by rfl) :
  PI X (.Tuple elts kk tpos) (.Call (.Name "enumerate" p) [e] [] pos) (iEnum X.K ta):=by
 intro pins s σ H R I h
 refine Call_ (ld_blt I hg hm boot_enumerate (cu (thn (ha pos pins s σ H _ I h) fun us s1 ⟨vs,H1,I1,r1,q1⟩=>?_) hs rfl))
 obtain ⟨a,e1,⟨xs,hq⟩,q⟩:=q1
 subst e1
 obtain ⟨u,rfl,ru⟩:=vals1 r1
 cases ru
 obtain ⟨its,rv,p1,hz⟩:=I1.list hq
 refine call_enumerate_list p1.isList fun g he hit hsz hk=>wpAny_pyIter_enum he ?_
 refine ⟨s1.heap.objs.size+1,[s1.heap.objs.size+1,s1.heap.objs.size],_,_,H1,rfl,I1.kept (t':=s1.toks) hk,turn_enum a _ _ (Nat.succ_ne_self _),⟨⟨_,he⟩,hit⟩,fun b hb=>?_,q⟩
 have hb2:s1.heap.objs.size<=b:=by
  simp only [ai,dC,or_false] at hb
  rcases hb with rfl|rfl
  .exact bA _
  .exact af _
 exact I1.fpOk hb2 (I1.hok.fresh hb2)
def iZip (K:W.Frag) (ta:TA):TI:=fun σ H R=>ta σ H fun vs H1=>∃ a b,vs=[.ref a,.ref b]/\(∃ xs,SqL K H1 a xs)/\(∃ ys,SqL K H1 b ys)/\R (Itz K a b) H1
theorem pi_zip {e f:Expr}{ta:TA}{p pos:Pos}(hg:Gl X "zip") (hm:X.mg "zip" = none) (ha:PA X [e,f] ta) (hs:starEach [e,f] X.env=[(false,eval e X.env),(false,eval f X.env)]:=by rfl) (hs2:starEach [f] X.env=[(false,eval f X.env)]:=by rfl) :
  PI X (.Tuple elts kk tpos) (.Call (.Name "zip" p) [e,f] [] pos) (iZip X.K ta):=by
 intro pins s σ H R I h
 refine Call_ (ld_blt I hg hm boot_zip (cu (thn (ha pos pins s σ H _ I h) fun us s1 ⟨vs,H1,I1,r1,q1⟩=>?_) (by rw [hs,hs2]) (by rw [hs2];rfl)))
 obtain ⟨a,b,e1,⟨xs,hq1⟩,⟨ys,hq2⟩,q⟩:=q1
 subst e1
 obtain ⟨u,v,rfl,ru,rv⟩:=vals2 r1
 cases ru
 cases rv
 obtain ⟨its1,_,p1,_⟩:=I1.list hq1
 obtain ⟨its2,_,p2,_⟩:=I1.list hq2
 refine call_zip_2 p1.isList p2.isList fun g hz hTI hTO h1 h2 hsz hk=>wpAny_pyIter_zip hz ?_
 refine ⟨s1.heap.objs.size+4,[s1.heap.objs.size+4,s1.heap.objs.size+2,s1.heap.objs.size+3,s1.heap.objs.size,s1.heap.objs.size+1],_,_,H1,rfl,I1.kept (t':=s1.toks) hk,
  turn_zip a b _ _ _ _ _ (z5_mk s1.heap.objs.size),⟨hz,hTI,⟨_,_,hTO⟩,h1,h2⟩,fun c hc=>?_,q⟩
 have hb2:s1.heap.objs.size<=c:=by
  simp only [ai,dC,or_false] at hc
  rcases hc with rfl|rfl|rfl|rfl|rfl
  .exact eC _ _
  .exact eC _ _
  .exact eC _ _
  .exact af _
  .exact eC _ _
 exact I1.fpOk hb2 (I1.hok.fresh hb2)
end
theorem for_enum {K:W.Frag}{a:Addr}{xs:List V}{i1 i2:Nat}{tb:TS}{D:Ends}{σ:St}{H:Hp}(Pv:Nat->St->Hp->Prop) (h0:Pv 0 σ H) (hl:∀ i σ H,i<=xs.length->Pv i σ H->SqL K H a xs)
  (hs:∀ i x σ H T,xs[i]?=some x->Pv i σ H->H T=none->tb { D with nx:=Pv (i+1),ct:=Pv (i+1),bk:=D.nx } ((σ.set i1 (some (.int i))).set i2 (some x)) (upd H T (.tup [.int i,x]))) (hd:∀ σ H,Pv xs.length σ H->D.nx σ H) :
  ∃ W:Nat->Nat->St->Hp->Prop,(∃ m,W 0 m σ H)/\∀ i m σ H,W i m σ H ->
   ((Ite K a).stop i H/\D.nx σ H)∨((Ite K a).go i H/\∃ N:St->Hp->Prop,(∀ σ' H',N σ' H'->∃ m',m'<m/\W (i+1) m' σ' H')/\∀ x H',(Ite K a).yld i H x H'->gTup K 2 (gCons (gName i1) (gCons (gName i2) gNil)) x σ H' fun σ2 H2=>tb { D with nx:=N,ct:=N,bk:=D.nx } σ2 H2):=by
 refine ⟨fun i m σ H=>m=xs.length-i/\i<=xs.length/\Pv i σ H,⟨xs.length,by simp,ba _,h0⟩,?_⟩
 rintro i m σ H ⟨rfl,hi,p⟩
 have q:=hl i σ H hi p
 by_cases hlt:i<xs.length
 .refine .inr ⟨⟨xs,xs[i],q,by simp [hlt]⟩,Pv (i+1),fun σ' H' p'=>⟨xs.length-(i+1),by lia,rfl,hlt,p'⟩,fun v H' y=>?_⟩
  obtain ⟨T,x,hT,rfl,rfl,hx⟩:=y
  exact ⟨T,_,rfl,SqT.of upd_same,rfl,_,_,rfl,_,_,rfl,rfl,hs i x σ H T (hx xs q) p hT⟩
 .have e:i=xs.length:=by lia
  subst e
  exact .inl ⟨⟨xs,q,af _⟩,hd σ H p⟩
theorem for_zip {K:W.Frag}{a b:Addr}{xs ys:List V}{i1 i2:Nat}{tb:TS}{D:Ends}{σ:St}{H:Hp}(Pv:Nat->St->Hp->Prop) (h0:Pv 0 σ H) (hlen:xs.length=ys.length)
  (hl:∀ i σ H,i<=xs.length->Pv i σ H->SqL K H a xs/\SqL K H b ys)
  (hs:∀ i x y σ H T,xs[i]?=some x->ys[i]?=some y->Pv i σ H->H T=none->tb { D with nx:=Pv (i+1),ct:=Pv (i+1),bk:=D.nx } ((σ.set i1 (some x)).set i2 (some y)) (upd H T (.tup [x,y]))) (hd:∀ σ H,Pv xs.length σ H->D.nx σ H) :
  ∃ W:Nat->Nat->St->Hp->Prop,(∃ m,W 0 m σ H)/\∀ i m σ H,W i m σ H ->
   ((Itz K a b).stop i H/\D.nx σ H)∨((Itz K a b).go i H/\∃ N:St->Hp->Prop,(∀ σ' H',N σ' H'->∃ m',m'<m/\W (i+1) m' σ' H')/\∀ x H',(Itz K a b).yld i H x H'->gTup K 2 (gCons (gName i1) (gCons (gName i2) gNil)) x σ H' fun σ2 H2=>tb { D with nx:=N,ct:=N,bk:=D.nx } σ2 H2):=by
 refine ⟨fun i m σ H=>m=xs.length-i/\i<=xs.length/\Pv i σ H,⟨xs.length,by simp,ba _,h0⟩,?_⟩
 rintro i m σ H ⟨rfl,hi,p⟩
 obtain ⟨q1,q2⟩:=hl i σ H hi p
 by_cases hlt:i<xs.length
 .refine .inr ⟨⟨xs,ys,xs[i],ys[i],q1,q2,by simp [hlt],by simp [hlen ▸ hlt]⟩,Pv (i+1),fun σ' H' p'=>⟨xs.length-(i+1),by lia,rfl,hlt,p'⟩,fun v H' y=>?_⟩
  obtain ⟨T,x,y,hT,rfl,rfl,hx,hy⟩:=y
  exact ⟨T,_,rfl,SqT.of upd_same,rfl,_,_,rfl,_,_,rfl,rfl,hs i x y σ H T (hx xs q1) (hy ys q2) p hT⟩
 .have e:i=xs.length:=by lia
  subst e
  exact .inl ⟨⟨xs,ys,q1,q2,.inl (af _)⟩,hd σ H p⟩
section
variable {X:Cx}
theorem inv_ints {pins:List (Addr×Obj)}{σ:St}{H:Hp}{s:Shared}{a:Addr}{ns:List Int}(I:Inv X pins σ H s) (h:SqL X.K H a (ns.map V.int)) :
  ∃ vs:List Value,s.heap.IsList a vs.toArray/\IntsAre vs ns/\ns.length<=sizeLine:=by
 obtain ⟨its,r,p,z⟩:=I.list h
 rw [lMq] at z
 exact ⟨its,p.isList,intsAre_of r,z⟩
theorem call_minL (hc:X.calm=true):CallR X (.builtin "min") (fun xs H Q=>∃ (a:Addr) (ns:List Int),xs=[.ref a]/\SqL X.K H a (ns.map V.int)/\0<ns.length/\∀ M,M∈ns->(∀ x,x∈ns->M<=x)->Q (.int M) H):=by
 intro pins s σ H xs us Q I r h
 obtain ⟨a,ns,rfl,hS,hne,q⟩:=h
 obtain ⟨u,rfl,ru⟩:=vals1 r
 cases ru
 obtain ⟨vs,hl,hi,_⟩:=inv_ints I hS
 obtain ⟨xs,e⟩:=hi.allInts.items
 have hns:ns=xs.toList.map (·.1):=by
  rw [← hi.numsOf,← nums_intItems,← e]
 have hsz:0<xs.size:=by
  have h3:=hne;rw [hns,lMq,ao] at h3;exact h3
 rw [e] at hl
 refine min_intList (I.ok.hd hc) hl hsz fun v h' tk hv hk=>?_
 obtain ⟨t,rfl⟩:=intItems_at hv
 obtain ⟨h1,h2⟩:=argBest_lt (numAt xs) (xs.size-1)
 refine ⟨.int _,H,I.kept hk,⟨t,rfl⟩,q _ ?_ fun x hx=>?_⟩
 .rw [hns,numAt_eq];exact PySem.getD_mem (by rw [lMq,ao];lia)
 .rw [hns] at hx
  obtain ⟨j,hj,rfl⟩:=PySem.mem_getD hx
  rw [lMq,ao] at hj
  rw [← numAt_eq];exact h2 j (by lia)
def rIndex (K:W.Frag):V->List V->Hp->VK->Prop:=fun x vs H Q=>∃ (a:Addr) (ns:List Int) (k:Int),x = .ref a/\vs=[.int k]/\SqL K H a (ns.map V.int)/\k∈ns/\Q (.int (ns.idxOf k:Nat)) H
theorem mt_index:MtR X "list.index" (rIndex X.K):=by
 intro pins s σ H x xs v us Q I rx r h
 obtain ⟨a,ns,k,rfl,rfl,hS,hk,q⟩:=h
 cases rx
 obtain ⟨u,rfl,t,rfl⟩:=vals1 r
 obtain ⟨its,rv,⟨o,n,ho,hc,hd0,hd⟩,hz⟩:=I.list hS
 have hi:=intsAre_of rv
 obtain ⟨cls,dd,data,sl⟩:=o
 simp only at hc hd0 hd
 subst hc hd0 hd
 have hlen:=hi.length
 have hj:ns.idxOf k<ns.length:=fj.mpr hk
 have hs:sizeLine=16777216:=sizeLine_eq
 rw [lMq] at hz
 refine call_meets dR ⟨_,ho,rfl⟩ PySem.F.entry_list_index (PySem.F.args_list_index_2 _ _)
  (SeqAt.list_indexAt a its.toArray n none sl (.int k t) (isInt k) (ns.idxOf k) (by simpa [hlen] using hj) (by lia) ?_ ?_) ⟨ho,fun y hy=>(eq_isInt k t hi y (by simpa using hy)).at _ _,?_⟩
 .show isInt k its[ns.idxOf k]=true
  rw [isInt_at k hi _ (by lia) hj]
  simpa using gi hj
 .intro j hjs hlt
  show isInt k its[j]=false
  rw [isInt_at k hi j (by simpa using hjs) (by lia)]
  exact ne_of_lt_idxOf hlt _
 .exact ⟨.int _,H,I.tok _,⟨_,rfl⟩,q⟩
def IsiV (K:W.Frag) (x:V) (H:Hp) (T:String) (b:Bool):Prop :=
 match x with
 | .int _=>(T = "int" /\ b=true)∨(T = "bool" /\ b=false)
 | .bl _=>(T = "bool" /\ b=true)∨(T = "int" /\ b=true)
 | .str _=>T = "str" /\ b=true
 | .ref p=>(T = "list" /\ b=true/\∃ xs,SqL K H p xs)∨(T = "dict" /\ b=true/\∃ kvs,H p=some (.dK kvs))∨(T = "tuple" /\ b=true/\∃ xs,SqT K H p xs)
 | _=>False
theorem call_isi:CallR X (.builtin "isinstance") (fun xs H Q=>∃ x T b,xs=[x,.ty T]/\IsiV X.K x H T b/\Q (.bl b) H):=by
 intro pins s σ H xs us Q I r h
 obtain ⟨x,T,b,rfl,e,q⟩:=h
 obtain ⟨u,v,rfl,rx,rT⟩:=vals2 r
 cases rT
 cases x with
 | int i =>
  obtain ⟨t,rfl⟩:=rx
  rcases e with ⟨rfl,rfl⟩|⟨rfl,rfl⟩
  .exact call_isinstance (isinstance_true (Tx := "int") F.isi_meta_int F.sub_int_int) ⟨(show s.TypeIs (.int i t) "int" from rfl),⟨.bl true,H,I,rfl,q⟩⟩
  .exact call_isinstance (isinstance_false_int (by decide +kernel) F.isi_meta_bool F.sub_int_bool) (show EP X pins σ Q (.bool false) { s with toks:=s.toks+1 } from ⟨.bl false,H,I.tok _,rfl,q⟩)
 | bl i =>
  cases rx
  rcases e with ⟨rfl,rfl⟩|⟨rfl,rfl⟩
  .exact call_isinstance (isinstance_true (Tx := "bool") F.isi_meta_bool F.sub_bool_bool) ⟨(show s.TypeIs (.bool i) "bool" from rfl),⟨.bl true,H,I,rfl,q⟩⟩
  .exact call_isinstance (isinstance_true (Tx := "bool") F.isi_meta_int F.sub_bool_int) ⟨(show s.TypeIs (.bool i) "bool" from rfl),⟨.bl true,H,I,rfl,q⟩⟩
 | str i =>
  obtain ⟨t,rfl⟩:=rx
  obtain ⟨rfl,rfl⟩:=e
  exact call_isinstance (isinstance_true (Tx := "str") F.isi_meta_str F.sub_str_str) ⟨(show s.TypeIs (.str i t) "str" from rfl),⟨.bl true,H,I,rfl,q⟩⟩
 | ref p =>
  cases rx
  rcases e with ⟨rfl,rfl,xs,hS⟩|⟨rfl,rfl,kvs,hp⟩|⟨rfl,rfl,xs,hS⟩
  .obtain ⟨its,rv,pl,hz⟩:=I.list hS
   exact call_isinstance (isinstance_true (Tx := "list") F.isi_meta_list (by rw [isSubtype_type];kernel_rfl)) ⟨pl.isList.typeIs,⟨.bl true,H,I,rfl,q⟩⟩
  .have ty:s.TypeIs (.ref p) "dict" := (isD_at I (.inl ⟨kvs,.inl hp⟩)).1
   exact call_isinstance (isinstance_true (Tx := "dict") F.isi_meta_dict (by rw [isSubtype_type];kernel_rfl)) ⟨ty,⟨.bl true,H,I,rfl,q⟩⟩
  .obtain ⟨its,rv,⟨o,ho,hc,_⟩,hz⟩:=I.tuple hS
   exact call_isinstance (isinstance_true (Tx := "tuple") F.isi_meta_tuple (by rw [isSubtype_type];kernel_rfl)) ⟨⟨o,ho,hc⟩,⟨.bl true,H,I,rfl,q⟩⟩
 | _=>exact (show False from e).elim
end
end Mr
namespace Mr
open PySem L2
structure Def (K:W.Frag) (mg:Str->Option Value) (x:Str) (st:Stmt) (ps:List Str) (f:Addr) (fd:FuncData):Prop where
 F:Fun K x x st f fd
 m:mg x=some (.ref f)
 b:Binds K fd ps []
theorem same_upd {H:Hp}{p:Addr}{o:HO}(h:H p=none):Same H (upd H p o):=fun b u e=>by
 rw [upd_ne (ne_of_none e h)]
 exact e
end Mr
namespace Mr
open PySem PySem.Spec PyProof.Rows L2
theorem compLoop_go {prog:Program}{w:World}{A:Around}{R:Result->Shared->Prop}{s:Shared}{elt target iter:Expr}{ifs:List Expr}{scope:Scope}{pos:Pos}{it acc:Value}{env:Env}(I:Nat->Shared->Prop)
  (turn:∀ n s,I n s->wpAny (model prog w) A (pyNext it) (fun r s₁=>match r with
   | none=>R (.ok .next) s₁
   | some v=>wpAny (model prog w) A (letOwnedTupleGo target it v) (fun _ s₂=>wpAny (model prog w) A (assign target env v) (fun _ s₃ =>
     wpAny (model prog w) A (forIn ifs true fun c r=>if r=true then do let ok ← isTrue c env (eval c env);pure (ForInStep.yield ok) else pure (ForInStep.yield r)) (fun ok s₄ =>
      if ok=true then wpAny (model prog w) A (eval elt env) (fun x s₅ =>
       wpAny (model prog w) A (call (.builtin "list.append") [acc,x]) (fun _ s₆=>∃ m,m<n/\I m s₆) (fun _ _=>False) s₅) (fun _ _=>False) s₄
      else ∃ m,m<n/\I m s₄) (fun _ _=>False) s₃) (fun _ _=>False) s₂) (fun _ _=>False) s₁) (fun _ _=>False) s)
  (n:Nat) (h:I n s):codeAny (model prog w) A (.compLoop (.ListComp elt [⟨target,iter,ifs,0⟩] scope pos) 0 it acc env) R s:=by
 refine codeAny_loop rfl I (fun n s hI=>?_) n h
 show wpAny _ A ((compTurn (.ListComp elt [⟨target,iter,ifs,0⟩] scope pos) 0 it acc env).onRaise (fun x=>do noteFrame x env;theTreesLotGoes x)) _ _ s
 refine wpAny_noted ?_
 rw [compTurn_list]
 refine wpAny_bind (wpAny_standAt (wpAny_bind (wpAny_mono (turn n s hI) (fun r s₁ h₁=>?_) fun _ _ z=>z.elim)))
 cases r with
 | none=>exact wpAny_pure h₁
 | some v =>
  refine wpAny_bind (wpAny_mono h₁ (fun _ s₂ h₂=>?_) fun _ _ z=>z.elim)
  refine wpAny_bind (wpAny_mono h₂ (fun _ s₃ h₃=>?_) fun _ _ z=>z.elim)
  refine wpAny_bind (wpAny_mono h₃ (fun ok s₄ h₄=>?_) fun _ _ z=>z.elim)
  cases ok with
  | false=>exact wpAny_pure ⟨rfl,h₄⟩
  | true=>exact wpAny_bind (wpAny_bind (wpAny_mono h₄ (fun x s₅ h₅=>wpAny_bind (wpAny_mono h₅ (fun _ s₆ h₆=>wpAny_pure (wpAny_pure ⟨rfl,h₆⟩)) fun _ _ z=>z.elim)) fun _ _ z=>z.elim))
abbrev compCx (X:Cx) (scope:Scope) (cl:List (Str×Addr)) (N:List Str) (C:Addr) (s:Shared) (H:Hp) (fp:List Addr):Cx where
 prog:=X.prog
 w:=X.w
 K:=X.K
 mg:=X.mg
 base:=X.base
 A:=X.A
 N:=N
 s₀:=s
 H₀:=H
 env:=compEnvC scope cl C X.env
 outer:=X.stack
 stack:=X.stack
 ex:=fp
 fn:=fun _=>false
 calm:=X.calm
 pn:=[]
 xe:=fun _ _=>False
def PF (X:Cx) (ifs:List Expr) (t:TT):Prop :=
 ∀ (pins:List (Addr×Obj)) (s:Shared) (σ:St) (H:Hp) (Q:Bool->Hp->Prop),Inv X pins σ H s->t σ H Q ->
  wpAny (model X.prog X.w) X.A (forIn ifs true fun c r=>if r=true then do let ok ← isTrue c X.env (eval c X.env);pure (ForInStep.yield ok) else pure (ForInStep.yield r)) (TP X pins σ Q) X.xe s
def tAll:TT:=fun _ H Q=>Q true H
theorem pf_nil {X:Cx}:PF X [] tAll:=fun _ _ _ H _ I h=>wpAny_tests_nil ⟨H,I,h⟩
theorem pf_one {X:Cx}{c:Expr}{t:TT}(h:PT X c t):PF X [c] t:=fun pins s σ H Q I q=>wpAny_tests_one (h pins s σ H Q I q)
structure Frees (X:Cx) (scope:Scope) (cl:List (Str×Addr)) (x:Str) (N:List Str) (fr:List Nat):Prop where
 names:N.Nodup
 own:N[0]?=some x
 len:N.length=fr.length+1
 sub:∀ y c,cl.lookup y=some c->X.env.cells.lookup y=some c
 has:∀ y,((relabel scope X.env).names.lookup y=some .cell∨(relabel scope X.env).names.lookup y=some .free)->∃ c,cl.lookup y=some c
 get:∀ (k j:Nat) (y:Str),fr[k]?=some j->N[k+1]?=some y->X.N[j]?=some y/\X.env.scope.names.lookup y=some .cell/\(relabel scope X.env).names.lookup y=some .cell
theorem Frees.none {X:Cx}{scope:Scope}{x:Str}(h:∀ p∈scope.names,p.2 ≠ .cell/\p.2 ≠ .free):Frees X scope [] x [x] [] where
 names:=by simp
 own:=rfl
 len:=rfl
 sub:=fun y c e=>by cases e
 has:=fun y e=>by
  exfalso
  have key:∀ p∈(relabel scope X.env).names,p.2 ≠ .cell/\p.2 ≠ .free:=by
   intro p hp
   obtain ⟨q,hq,rfl⟩:=mMq.mp hp
   obtain ⟨n,k⟩:=q
   obtain ⟨h1,h2⟩:=h _ hq
   have hk:(k == NameKind.free)=false:=by simpa using h2
   simp only [hk,gN]
   exact ⟨h1,h2⟩
  rcases e with e|e
  .exact (key _ (PySem.mem_of_lookup e)).1 rfl
  .exact (key _ (PySem.mem_of_lookup e)).2 rfl
 get:=fun k j y e _=>by cases e
def slots (σ:St) (fr:List Nat):St:=fr.map fun j=>(σ[j]?).join
def tComp (wi:TI) (fr:List Nat) (tf:TT) (te:TE):TE:=fun σ H Q=>wi σ H fun J H1=>∀ acc,H1 acc=none->∃ W:Nat->Nat->Hp->Prop,(∃ m,W 0 m (upd H1 acc (.lst [])))/\∀ i m H,W i m H ->
 (J.stop i H/\Q (.ref acc) H) ∨
 (J.go i H/\∃ N:Hp->Prop,(∀ H',N H'->∃ m',m'<m/\W (i+1) m' H')/\∀ x H',J.yld i H x H'->tf (some x::slots σ fr) H' fun b H2 =>
  if b=true then te (some x::slots σ fr) H2 fun y H3=>∃ ys,H3 acc=some (.lst ys)/\ys.length<sizeLine/\N (upd H3 acc (.lst (ys++[y]))) else N H2)
section
variable {X:Cx}{scope:Scope}{cl:List (Str×Addr)}{N:List Str}{fr:List Nat}{x:Str}{px pos:Pos}{elt iter:Expr}{ifs:List Expr}{tf:TT}{te:TE}
theorem comp_block {pins:List (Addr×Obj)}{σ:St}{H:Hp}{s:Shared}{E:Value->Shared->Prop}{J:It}{fp:List Addr}{it:Addr}{tn:Nat->Heap->Prop}{RR:Value->Addr->Result->Shared->Prop}{Q:VK}
  (hc:X.calm=true) (hcell:∀ y∈scope.names,y.2 ≠ .cell) (hkind:scope.kind = .function) (hx:scope.names.lookup x=some .local) (hF:Frees X scope cl x N fr)
  (hf:∀ C s H fp,PF (compCx X scope cl N C s H fp) ifs tf) (he:∀ C s H fp,PE (compCx X scope cl N C s H fp) elt te)
  (I:Inv X pins σ H s) (T:Turn X.prog X.w X.K (.Name x px) J fp it tn) (st:tn 0 s.heap) (fpo:∀ b∈fp,FpOk X pins H b)
  (h:∀ acc,H acc=none->∃ W:Nat->Nat->Hp->Prop,(∃ m,W 0 m (upd H acc (.lst [])))/\∀ i m H,W i m H ->
   (J.stop i H/\Q (.ref acc) H) ∨
   (J.go i H/\∃ N:Hp->Prop,(∀ H',N H'->∃ m',m'<m/\W (i+1) m' H')/\∀ x H',J.yld i H x H'->tf (some x::slots σ fr) H' fun b H2 =>
    if b=true then te (some x::slots σ fr) H2 fun y H3=>∃ ys,H3 acc=some (.lst ys)/\ys.length<sizeLine/\N (upd H3 acc (.lst (ys++[y]))) else N H2))
  (fin:∀ acc C s' Hf m,Inv X pins σ Hf s'->s'.heap.Ns C m->FpOk X pins Hf C->Q (.ref acc) Hf->RR (.ref acc) C (.ok .next) s') :
  wpAny (model X.prog X.w) X.A (newList []) (fun acc s₃=>wpAny (model X.prog X.w) X.A (newFunctionEnv scope X.env.globals cl [] X.env.qual none .none (some X.env)) (fun cenv s₄ =>
   codeAny (model X.prog X.w) X.A (.compStart (.ListComp elt [⟨.Name x px,iter,ifs,0⟩] scope pos) 0 (.ref it) acc { cenv with scope:=relabel scope X.env }) (RR acc cenv.locals) s₄) E s₃) E s:=by
 refine wpAny_newObj_type (wpAny_newFunctionEnv hcell (by intro y hy;simp at hy) (fun h₁ hns₁ hsb₁=>?_) hkind)
 dsimp only at hns₁ hsb₁ ⊢
 generalize hG:s.heap.push { cls:=.type "list", dict:=none,data:=.seq ([]:List Value).toArray }=G at hns₁ hsb₁ ⊢
 have hC:G.objs.size=s.heap.objs.size+1:=by rw [← hG,dU]
 have hCle:s.heap.objs.size<=G.objs.size:=by rw [hC];exact bA _
 have hDC:s.heap.objs.size≠G.objs.size:=by rw [hC];exact ay (cS _)
 have below:∀ b,b<s.heap.objs.size->b≠G.objs.size:=fun b hb=>by rw [hC];exact ay (bW hb)
 have old:∀ b o,s.heap.get? b=some o->h₁.get? b=some o:=fun b o e=>hsb₁.extBut b o (below b (ah e)) (ae _ (hG ▸ ae _ e))
 have hacc:h₁.get? s.heap.objs.size=some { cls:=.type "list", data:=.seq ([]:List Value).toArray }:=hsb₁.extBut _ _ hDC (ae _ (hG ▸ aQ _ rfl))
 have hn:H s.heap.objs.size=none:=I.hok.fresh (af _)
 have hnC:H G.objs.size=none:=I.hok.fresh hCle
 have fpl:∀ b∈fp,b<s.heap.objs.size:=fun b hb=>by
  obtain ⟨o,q,_⟩:=T.obj 0 _ st b hb
  exact ah q
 obtain ⟨W,⟨m0,w0⟩,turn⟩:=h _ hn
 have ok':(compCx X scope cl N G.objs.size s H fp).Ok:=by
  refine ⟨I.ok.mod,by show (relabel scope X.env).kind = .function;exact hkind,I.ok.glob,I.ok.blt,hCle,fun y z c h1 h2=>I.ok.inj y z c (hF.sub y c h1) (hF.sub z c h2),hF.has,fun _ _ z _=>(by cases z),I.ok.hd,I.ok.frames,.inl rfl,
   fun b hb=>⟨below b (fpl b hb),fun y c e=>(fpo b hb).2.2.2.2.1 y c (hF.sub y c e)⟩,fun b o e=>⟨(I.bs b o e).1,(I.bs b o e).2⟩,bC I.ok.bsz I.sz,fun b o e hb=>?_,fun b hb z=>?_,I.stack,I.stkFree⟩
  .rcases (fpo b hb).2.2.2.1 with q|q
   .exact I.ok.noex b o e q
   .exact absurd (aN (ah (I.ok.bs b o e).1) q) (bR _)
  .rcases ai.mp (I.stkSub b z) with q|q
   .exact (fpo b hb).2.1 q
   .exact (fpo b hb).2.2.1 q
 have I0:Inv (compCx X scope cl N G.objs.size s H fp) [] (none::slots σ fr) (upd H s.heap.objs.size (.lst [])) { s with heap:=h₁,toks:=s.toks+([]:List (Str×Value)).length }:=by
  have hok1:HOk X.prog X.w (upd H s.heap.objs.size (.lst [])) h₁:=I.hok.laid old (af _) ⟨ba _,[],0,.nil,hacc⟩
  refine ⟨ok',rfl,I.bare,Un.laid old (af _) hn,⟨_,hns₁,fun k y v e1 e2 e3=>?_⟩,fun y c e=>?_,?_,fun y c e=>?_,fun p hp=>absurd (show p∈([]:List (Addr×Obj)) from hp) (by simp),hok1,?_⟩
  .cases k with
   | zero=>cases e2
   | succ k =>
    have e2':(slots σ fr)[k]?=some (some v):=e2
    unfold slots at e2'
    rw [gMq] at e2'
    cases ej:fr[k]? with
    | none=>rw [ej] at e2';cases e2'
    | some j =>
     rw [ej] at e2'
     have e2j:(σ[j]?).join=some v:=aT.inj e2'
     have e2s:σ[j]?=some (some v):=by
      cases q:σ[j]? with
      | none=>rw [q] at e2j;cases e2j
      | some z=>rw [q] at e2j;exact congrArg some e2j
     obtain ⟨g1,g2,g3⟩:=hF.get k j y ej e1
     obtain ⟨m,_,hl⟩:=I.loc
     obtain ⟨u,r,l⟩:=hl j y v g1 e2s (.inr (.inl g2))
     refine ⟨u,r,.inr ⟨.inl g3,?_⟩⟩
     obtain ⟨c,e⟩:=hF.has y (.inl g3)
     have e':=hF.sub y c e
     rcases l with ⟨l1,_⟩|⟨_,c',ec,hcell'⟩
     .have l1':X.env.scope.names.lookup y=some .local:=l1
      rw [g2] at l1'
      cases l1'
     .rw [e'] at ec
      cases ec
      obtain ⟨o,ho,hd⟩:=hcell'
      exact ⟨c,e,o,old c o ho,hd⟩
  .obtain ⟨v,o,ho,hd⟩:=I.cell y c (hF.sub y c e)
   exact ⟨v,o,old c o ho,hd⟩
  .show upd H s.heap.objs.size (.lst []) G.objs.size=none
   rw [upd_ne (Ne.symm hDC)]
   exact hnC
  .obtain ⟨v,o,ho,hd⟩:=I.cell y c (hF.sub y c e)
   rw [upd_ne (ay (ah ho))]
   exact I.freeC y c (hF.sub y c e)
  .show (none::slots σ fr).length=N.length
   rw [hF.len,lCq]
   unfold slots
   rw [lMq]
 have st1:tn 0 h₁:=T.keep 0 _ _ st fun b _ o e=>old b o e
 have nd:N.Nodup:=hF.names
 have nf0:∀ b∈fp,upd H s.heap.objs.size (.lst []) b=none:=fun b hb=>by
  rw [upd_ne (ay (fpl b hb))]
  exact (fpo b hb).1
 have stat:∀ {H':Hp},(∀ b∈fp,H' b=none)->∀ b∈fp,FpOk (compCx X scope cl N G.objs.size s H fp) [] H' b:=fun hn' b hb =>
  ⟨hn' b hb,below b (fpl b hb),ok'.exfs b hb,.inl hb,fun y c e=>(ok'.exf b hb).2 y c e,fun p hp=>absurd (show p∈([]:List (Addr×Obj)) from hp) (by simp)⟩
 have loop:∀ s₃:Shared,s₃={ s with heap:=h₁,toks:=s.toks+([]:List (Str×Value)).length } ->
   codeAny (model X.prog X.w) X.A (.compLoop (.ListComp elt [⟨.Name x px,iter,ifs,0⟩] scope pos) 0 (.ref it) (.ref s.heap.objs.size) (compEnvC scope cl G.objs.size X.env)) (RR (.ref s.heap.objs.size) G.objs.size) s₃:=by
  rintro s₃ rfl
  refine compLoop_go (fun n s'=>∃ i v0 H',Inv (compCx X scope cl N G.objs.size s H fp) [] (v0::slots σ fr) H' s'/\tn i s'.heap/\(∀ b∈fp,H' b=none)/\W i n H') ?_ m0 ⟨0,none,_,I0,st1,nf0,w0⟩
  rintro n s4 ⟨i,v0,H4,I4,st4,nf4,w4⟩
  rcases turn i n H4 w4 with ⟨stop,q⟩|⟨go,Nx,hNx,step⟩
  .refine thn (T.done (compCx X scope cl N G.objs.size s H fp) rfl rfl rfl hc i [] s4 (v0::slots σ fr) H4 (fun _ _=>False) I4 (stat nf4) st4 stop) fun r s5 ⟨hr,I5⟩=>?_
   subst hr
   obtain ⟨m,hm,_⟩:=I5.loc
   have I6:Inv X pins σ H4 s5:=I.call' (ch:=fp) I5.os I5.base I5.hok I5.bare fun b hb=>⟨(fpo b hb).2.2.2.1,(fpo b hb).2.1,(fpo b hb).2.2.2.2.1,(fpo b hb).2.2.2.2.2⟩
   exact fin _ _ s5 H4 m I6 hm (I.fpOk hCle I5.free) q
  .refine thn (T.item (compCx X scope cl N G.objs.size s H fp) rfl rfl rfl hc i [] s4 (v0::slots σ fr) H4 (fun _ _=>False) I4 (stat nf4) st4 go) fun r s5 ⟨u,hr,h5⟩=>?_
   subst hr
   refine thn h5 fun _ s6 ⟨y,H6,I6,r6,y6,st6,nf6⟩=>?_
   have I6':=I6.pinned (stat nf6) (T.obj _ _ st6)
   have pg:PG (compCx X scope cl N G.objs.size s H fp) (.Name x px) (gName 0):=pg_name nd hF.own (.inl (lookup_relabel_local hx)) (.inr (lookup_relabel_local hx))
   refine thn (pg _ s6 (v0::slots σ fr) H6 y u (fun σ2 H2=>σ2=some y::slots σ fr/\H2=H6) I6' r6 ⟨rfl,rfl⟩) fun _ s7 ⟨σ7,H7,I7,e7,e8⟩=>?_
   subst e7 e8
   refine thn (hf _ _ _ _ _ s7 _ _ _ I7 (step y _ y6)) fun b s8 ⟨H8,I8,q8⟩=>?_
   have again:∀ {s9:Shared}{H9:Hp},Inv (compCx X scope cl N G.objs.size s H fp) ([]++pinsAt fp s6.heap) (some y::slots σ fr) H9 s9->Nx H9->∃ m,m<n/\∃ i v0 H',Inv (compCx X scope cl N G.objs.size s H fp) [] (v0::slots σ fr) H' s9/\tn i s9.heap/\(∀ b∈fp,H' b=none)/\W i m H':=fun {s9 H9} I9 n9=>by
    obtain ⟨m',hm,w9⟩:=hNx H9 n9
    refine ⟨m',hm,i+1,some y,H9,I9.unpinned,T.keep _ _ _ st6 fun b hb o e=>(I9.pin (b,o) (ar _ (ar _ (mem_pinsAt hb e)))).1,fun b hb=>?_,w9⟩
    obtain ⟨o,e,d⟩:=T.obj _ _ st6 b hb
    exact (I9.pin (b,o) (ar _ (ar _ (mem_pinsAt hb e)))).2.1
   cases b with
   | false=>exact again I8 q8
   | true =>
    refine thn (he _ _ _ _ _ s8 _ _ _ I8 q8) fun z s9 ⟨zv,H9,I9,r9,ys,a9,l9,n9⟩=>?_
    refine thn (mt_append (X:=compCx X scope cl N G.objs.size s H fp) _ s9 _ H9 (.ref s.heap.objs.size) [zv] (.ref s.heap.objs.size) [z] (fun _ H'=>H'=upd H9 s.heap.objs.size (.lst (ys++[zv]))) I9 rfl (.cons r9 .nil) ⟨_,ys,zv,rfl,rfl,a9,l9,rfl⟩) fun _ s10 ⟨_,H10,I10,_,e10⟩=>?_
    subst e10
    exact again I10 n9
 exact codeAny_compStart_list (loop _ rfl) (T.self X.A 0 _ _ _ st1 (loop _ rfl))
theorem pe_comp {wi:TI}(hc:X.calm=true) (hclos:closureFor scope X.env=pure cl) (hcell:∀ y∈scope.names,y.2 ≠ .cell) (hkind:scope.kind = .function) (hnames:∀ y∈scope.names,y.2 = .local->scope.names.lookup y.1=some .local)
  (hx:scope.names.lookup x=some .local) (hF:Frees X scope cl x N fr) (hi:PI X (.Name x px) iter wi) (hf:∀ C s H fp,PF (compCx X scope cl N C s H fp) ifs tf) (he:∀ C s H fp,PE (compCx X scope cl N C s H fp) elt te)
  (hs:∀ x,foldedSetIterable iter X.env x=pure x:=by intro _;rfl):PE X (.ListComp elt [⟨.Name x px,iter,ifs,0⟩] scope pos) (tComp wi fr tf te):=by
 intro pins s σ H Q I h
 rw [eval_ListComp]
 refine wpAny_comprehension_free (use:=none) rfl hs hclos hkind hnames (thn (hi pins s σ H _ I h) fun v s1 h1=>thn h1 fun itv s2 h2=>?_)
 obtain ⟨it,fp,tn,J,H2,e,I2,T,st2,f2,q2⟩:=h2
 subst e
 refine comp_block (RR:=fun acc C=>compPost (model X.prog X.w) X.A X.xe none (EP X pins σ Q) acc C) hc hcell hkind hx hF hf he I2 T st2 f2 q2 ?_
 intro acc C s' Hf m I' hm fC q
 refine ⟨m,hm,fun h' sb=>⟨.ref acc,Hf,?_,rfl,q⟩⟩
 exact I'.turned (t':=s'.toks) (fun b o hb e=>(sb.2 b hb).trans e) fC.1 fC.2.1 fC.2.2.2.1 fC.2.2.2.2.1 fC.2.2.2.2.2
theorem ps_comp {wi:TI}{y:Str}{i:Nat}{py spos:Pos}(hc:X.calm=true) (hN:X.N.Nodup) (hi0:X.N[i]?=some y) (hy:Loc X.env.scope y) (hclos:closureFor scope X.env=pure cl) (hcell:∀ y∈scope.names,y.2 ≠ .cell) (hkind:scope.kind = .function)
  (hnames:∀ y∈scope.names,y.2 = .local->scope.names.lookup y.1=some .local)
  (hx:scope.names.lookup x=some .local) (hF:Frees X scope cl x N fr) (hi:PI X (.Name x px) iter wi) (hf:∀ C s H fp,PF (compCx X scope cl N C s H fp) ifs tf) (he:∀ C s H fp,PE (compCx X scope cl N C s H fp) elt te)
  (hsw:swapsWith (.ListComp elt [⟨.Name x px,iter,ifs,0⟩] scope pos) (some (.Name y py)) spos.line X.env=pure true:=by rfl) (hs:∀ x,foldedSetIterable iter X.env x=pure x:=by intro _;rfl)
  (hfn:X.fn y=true∨X.env.scope.names.lookup y=some .local:=by first|exact .inl rfl|exact .inr rfl|assumption) :
  PS X (.Assign [.Name y py] (.ListComp elt [⟨.Name x px,iter,ifs,0⟩] scope pos) spos) (tAsg (tComp wi fr tf te) (gName i)):=by
 intro pins s σ H D I h
 rw [exec_Assign_Name_used _ _ _ _ hsw]
 refine wpAny_bind (wpAny_standAt (wpAny_bind ?_))
 show wpAny _ X.A (do let _ ← comprehension (.ListComp elt [⟨.Name x px,iter,ifs,0⟩] scope pos) scope X.env _ (newList []) false (eval iter X.env) (some (assign (.Name y py) X.env))) _ _ s
 refine wpAny_bind (wpAny_mono (wpAny_comprehension_free (use:=some (assign (.Name y py) X.env)) (Q:=fun _ s'=>SP X pins D .next s') rfl hs hclos hkind hnames
  (thn (hi pins s σ H _ I h) fun v s1 h1=>thn h1 fun itv s2 h2=>?_)) (fun _ s' hq=>wpAny_pure (wpAny_pure hq)) fun _ _ e=>e)
 obtain ⟨it,fp,tn,J,H2,e,I2,T,st2,f2,q2⟩:=h2
 subst e
 refine comp_block (RR:=fun acc C=>compPost (model X.prog X.w) X.A X.xe (some (assign (.Name y py) X.env)) (fun _ s'=>SP X pins D .next s') acc C) (Q:=fun v H'=>D.nx (σ.set i (some v)) H') hc hcell hkind hx hF hf he I2 T st2 f2 q2 ?_
 intro acc C s' Hf m I' hm fC q
 obtain ⟨o,es,ep,ho,hd,r⟩:=id hm
 have I1:Inv X (pins++[(C,o)]) σ Hf s':=I'.pins_of fun p hp=>(mAq.mp hp).elim (fun z=>I'.pin p (ar _ z)) fun z=>by
  have e:p=(C,o):=by simpa using z
  subst e
  exact ⟨ho,fC.1,fC.2.1,fC.2.2.1,fun v z=>by rw [hd] at z;cases z⟩
 refine thn (pg_name (X:=X) (i:=i) (pos:=py) hN hi0 hy hfn _ s' σ Hf (.ref acc) (.ref acc) _ I1 rfl q) fun _ s2 ⟨σ2,H2,I2,q2⟩=>?_
 have pC:=I2.pin (C,o) (ar _ (ar _ (by simp)))
 refine ⟨m,⟨o,es,ep,pC.1,hd,r⟩,fun h' sb=>⟨σ2,H2,?_,q2⟩⟩
 exact I2.unpinned.turned (t':=s2.toks) (fun b u hb e=>(sb.2 b hb).trans e) pC.2.1 fC.2.1 fC.2.2.2.1 fC.2.2.2.2.1 fC.2.2.2.2.2
end
end Mr
namespace MrS
open PySem PyProof.Rows
section
variable {prog:Program}{w:World}{A:Around}{E:Value->Shared->Prop}{s:Shared}{Pk:Keyed->Prop}{lt:Keyed->Keyed->Bool}
abbrev midHeap (h:Heap) (a:Addr) (vs:List Value):Heap:=((h.update a (Obj.mapSeq fun _=>#[])).push (seqObj "tuple" vs.toArray 0)).push (seqObj "list" #[] 0)
theorem list_sort_gen {a:Addr}{vs:List Value}{n:Nat}{P:PySem.Fin->Shared->Prop}(ho:s.heap.get? a=some (seqObj "list" vs.toArray n)) (hs:vs.length<=sizeLine)
  (hkk:2<=vs.length->∀ Q:SortKind->Shared->Prop,Q oneType' { s with heap:=midHeap s.heap a vs }->wpAny (model prog w) A (keyKind' vs.toArray) Q E { s with heap:=midHeap s.heap a vs })
  (C:Cmp prog w A { s with heap:=midHeap s.heap a vs } oneType' Pk lt) (hp:∀ x,x∈pairsOf vs->Pk x)
  (h:∀ xs:Array Keyed,xs.Perm (pairsOf vs)->Seg lt xs 0 (pairsOf vs).size->P (.done (.ret .none)) { s with heap:=sortedHeap s.heap a vs (xs.map (·.2)) }) :
  wpAny (model prog w) A (Builtin.«list.sort» ⟨[.ref a],[]⟩) P E s:=by
 rw [list_sort_plain]
 have ha:a<s.heap.objs.size:=ah ho
 refine wpAny_bind (listItems_at ho rfl ?_)
 refine wpAny_bind (listUpdate_at ho rfl ?_ (hsz:=by simpa using hs))
 obtain ⟨e1,ho1⟩:∃ e1,(s.heap.update a (Obj.mapSeq fun _=>#[])).get? a=some (seqObj "list" #[] e1):=⟨_,get?_update_seq ho (fun _=>#[])⟩
 refine wpAny_bind (seqEpoch_at ho1 rfl ?_)
 refine wpAny_bind (wpAny_newTuple ?_)
 refine wpAny_bind (wpAny_newList ?_)
 refine wpAny_holding ?_
 have ho6:(midHeap s.heap a vs).get? a=some (seqObj "list" #[] e1):=by
  rw [dZ _ _ _ (by rw [size_push',dD];exact ay (bW ha)),dZ _ _ _ (by rw [dD];exact ay ha)]
  exact ho1
 show wpAny (model prog w) A _ P E { s with heap:=midHeap s.heap a vs }
 dsimp only
 have hsz:vs.toArray.size=vs.length:=by simp
 have hs':sizeLine=16777216:=sizeLine_eq
 by_cases h2:vs.toArray.size<2
 .rw [if_pos h2,if_pos h2]
  refine wpAny_bind (wpAny_pure ?_)
  rw [StateT.run_pure]
  refine wpAny_bind (wpAny_pure ?_)
  dsimp only
  refine wpAny_bind (seqEpoch_at ho6 rfl ?_)
  refine wpAny_bind (listUpdate_at ho6 rfl ?_ (hsz2:=by rw [gP];show (pairsOf vs).size<=_;rw [pairsOf_size,sizeLine_eq];lia))
  simp only [bne_self_eq_false,gj,if_false]
  refine wpAny_pure (h _ (gL.refl _) ?_)
  intro i j x y _ hij hj ex ey
  have:i=j:=by rw [pairsOf_size] at hj;lia
  subst this
  rw [ex] at ey
  cases ey
  exact C.refl (hp x (aQq ex))
 .rw [if_neg h2,if_neg h2]
  refine wpAny_bind (hkk (by lia) _ ?_)
  refine wpAny_bind (wpAny_mono (wpS_sortRuns C (arr:=pairsOf vs) (g:=7) (E:=E)
   (Q:=fun _ st'=>∃ xs p g',st'=stOf oneType' xs p g'/\xs.Perm (pairsOf vs)/\Seg lt xs 0 (pairsOf vs).size) hp (by rw [pairsOf_size];lia) fun xs p g' a1 a2=>⟨xs,p,g',rfl,a1,a2⟩) ?_ fun _ _ e=>e)
  rintro ⟨⟨⟩,st'⟩ s' ⟨rfl,xs,p,g',rfl,hpm,hsg⟩
  dsimp only
  refine wpAny_bind (seqEpoch_at ho6 rfl ?_)
  refine wpAny_bind (listUpdate_at ho6 rfl ?_ (hsz2:=by refine bC (eM ((gP ..).trans (hpm.size_eq.trans (pairsOf_size _)))) ?_;lia))
  simp only [bne_self_eq_false,gj,if_false]
  exact wpAny_pure (h xs hpm hsg)
theorem mid_get {h:Heap}{a:Addr}{xs:Array Value}{n:Nat}(vs:List Value) (ho:h.get? a=some (seqObj "list" xs n)):∃ e1,(midHeap h a vs).get? a=some (seqObj "list" #[] e1):=by
 have ha:a<h.objs.size:=ah ho
 obtain ⟨e1,ho1⟩:∃ e1,(h.update a (Obj.mapSeq fun _=>#[])).get? a=some (seqObj "list" #[] e1):=⟨_,get?_update_seq ho (fun _=>#[])⟩
 refine ⟨e1,?_⟩
 rw [dZ _ _ _ (by rw [size_push',dD];exact ay (bW ha)),dZ _ _ _ (by rw [dD];exact ay ha)]
 exact ho1
theorem end_get {h:Heap}{a:Addr}{xs:Array Value}{n:Nat}(ys:Array Value) (ho:h.get? a=some (seqObj "list" xs n)):∃ n1,(h.update a (Obj.mapSeq fun _=>ys)).get? a=some (seqObj "list" ys n1):=⟨_,get?_update_seq ho (fun _=>ys)⟩
theorem pairsOf_mem {vs:List Value}{x:Keyed}(h:x∈pairsOf vs):x.1∈vs/\x.2=x.1:=by
 obtain ⟨i,hi,e⟩:=Array.mem_iff_getElem.mp h
 have hi':i<vs.length:=by rw [pairsOf_size] at hi;exact hi
 have:x=(vs[i],vs[i]):=by
  rw [← e]
  simp [pairsOf]
 rw [this]
 exact ⟨gRq hi',rfl⟩
theorem sorted_vals {vs:List Value}{xs:Array Keyed}(hp:xs.Perm (pairsOf vs)) (hs:Seg lt xs 0 (pairsOf vs).size) :
  (xs.map (·.2)).toList.Perm vs/\(xs.map (·.2)).toList.Pairwise (fun x y=>lt (y,y) (x,x)=false):=by
 constructor
 .have:=hp.toList.map (·.2)
  have e:(pairsOf vs).toList.map (·.2)=vs:=by
   have:(pairsOf vs).toList=vs.zip vs:=by simp [pairsOf]
   rw [this]
   apply gA
   .simp
   .intro i h1 h2
    simp
  rw [e] at this
  rw [Array.toList_map]
  exact this
 .rw [cG]
  intro i j hi hj hij
  have hi':i<xs.size:=by simpa using hi
  have hj':j<xs.size:=by simpa using hj
  have z:=hs i j xs[i] xs[j] (ba _) (bX hij) (by rw [← hp.size_eq];exact hj') (by simp [hi']) (by simp [hj'])
  have m1:=pairsOf_mem (hp.mem_iff.mp (aV hi'))
  have m2:=pairsOf_mem (hp.mem_iff.mp (aV hj'))
  have e1:xs[i]=(xs[i].2,xs[i].2):=gK m1.2.symm rfl
  have e2:xs[j]=(xs[j].2,xs[j].2):=gK m2.2.symm rfl
  rw [e1,e2] at z
  simpa using z
theorem sorted_gen {l:Addr}{vs:List Value}{Q:Value->Shared->Prop}(hl:s.heap.IsList l vs.toArray) (hs:vs.length<=sizeLine)
  (hC:∀ s':Shared,(∀ b o,s.heap.get? b=some o->s'.heap.get? b=some o)->(2<=vs.length->∀ Q:SortKind->Shared->Prop,Q oneType' s'->wpAny (model prog w) A.in1.in1 (keyKind' vs.toArray) Q E s')/\Cmp prog w A.in1.in1 s' oneType' Pk lt)
  (hp:∀ v∈vs,Pk (v,v))
  (h:∀ (out:List Value) (h':Heap) (n':Nat),out.Perm vs->out.Pairwise (fun x y=>lt (y,y) (x,x)=false)->(∀ b o,s.heap.get? b=some o->h'.get? b=some o) ->
   h'.get? (s.heap.objs.size+1)=some (seqObj "list" out.toArray n')->Q (.ref (s.heap.objs.size+1)) { s with heap:=h' }) :
  wpAny (model prog w) A (call (.builtin "sorted") [.ref l]) Q E s:=by
 refine Calls.call_function_entry kind_sorted plain_sorted entry_sorted (args_sorted1 _) ?_
 unfold Builtin.«sorted»
 refine wpAny_bind (m:=checkCount "sorted" 1 1 _) (wpAny_pure ?_)
 refine wpAny_bind (collect_list hl ?_ hs)
 refine wpAny_bind (wpAny_newList ?_)
 have hsz:((s.heap.push (seqObj "list" #[] 0)).update s.heap.objs.size (Obj.mapSeq (· ++ vs.toArray))).objs.size=s.heap.objs.size+1:=by
  rw [dD,size_push']
 have hoL:(((s.heap.push (seqObj "list" #[] 0)).update s.heap.objs.size (Obj.mapSeq (· ++ vs.toArray))).push (seqObj "list" vs.toArray 0)).get? (s.heap.objs.size+1)=some (seqObj "list" vs.toArray 0):=by
  rw [← hsz];exact aQ _ rfl
 show wpAny _ _ _ _ _ { s with heap:=((s.heap.push (seqObj "list" #[] 0)).update s.heap.objs.size (Obj.mapSeq (· ++ vs.toArray))).push (seqObj "list" vs.toArray 0) }
 rw [hsz]
 generalize hG:((s.heap.push (seqObj "list" #[] 0)).update s.heap.objs.size (Obj.mapSeq (· ++ vs.toArray))).push (seqObj "list" vs.toArray 0)=G at hoL ⊢
 have k1:∀ b o,s.heap.get? b=some o->G.get? b=some o:=fun b o e=>by
  rw [← hG]
  refine ae _ ?_
  rw [bQ _ _ _ _ (ay (ah e))]
  exact ae _ e
 have k2:∀ b o,s.heap.get? b=some o->(midHeap G (s.heap.objs.size+1) vs).get? b=some o:=fun b o e=>by
  refine ae _ (ae _ ?_)
  rw [bQ _ _ _ _ (ay (bW (ah e)))]
  exact k1 b o e
 obtain ⟨q1,q2⟩:=hC { s with heap:=midHeap G (s.heap.objs.size+1) vs } k2
 refine wpAny_bind (wpAny_holding (wpAny_call_entry slot_list_sort ⟨_,hoL,rfl⟩ entry_list_sort (list_sort_gen (Pk:=Pk) (lt:=lt) hoL hs q1 q2 (fun x hx=>?_) fun xs a1 a2=>⟨_,rfl,?_⟩) (args_list_sort _)))
 .obtain ⟨m1,m2⟩:=pairsOf_mem hx
  have:x=(x.1,x.1):=gK rfl m2
  rw [this]
  exact hp _ m1
 .obtain ⟨v1,v2⟩:=sorted_vals a1 a2
  obtain ⟨e1,ho1⟩:=mid_get vs hoL
  obtain ⟨n1,g1⟩:=end_get (xs.map (·.2)) ho1
  refine wpAny_pure ⟨_,rfl,h _ (sortedHeap G (s.heap.objs.size+1) vs (xs.map (·.2))) n1 v1 v2 (fun b o e=>?_) ?_⟩
  .unfold sortedHeap
   rw [bQ _ _ _ _ (ay (bW (ah e)))]
   exact k2 b o e
  .rw [show (xs.map (·.2)).toList.toArray=xs.map (·.2) from fT]
   exact g1
end
end MrS
namespace HT
open PySem PyProof.Rows
section
open PySem.SeqAt
open PySem.AutoSeq1 (wpAny_loadPart')
open PySem.MeetsSeq PySem.MeetsSeq2 PySem.MeetsSeq3 PySem.SeqRoads2
theorem drop_int {vs:List Value}{ns:List Int}(h:IntsAre vs ns):∀ {i:Nat}(hi:i<vs.length),∃ (z:Int) (t:Tok),vs[i] = .int z t/\ns.drop i=z::ns.drop (i+1):=by
 induction h with
 | nil=>intro i hi;exact absurd hi (cD _)
 | cons a t _ ih =>
  intro i hi
  cases i with
  | zero=>exact ⟨a,t,rfl,rfl⟩
  | succ i=>exact ih (i:=i) (by simpa using hi)
theorem list_lt_loop (l b:Addr) (items items2:Array Value) (n n2:Nat) (dd dd2:Option Addr) (sl sl2:Array (Option Value)) (ns ms:List Int) (hi:IntsAre items.toList ns) (hj:IntsAre items2.toList ms) (k:Nat) :
  ∀ i:Nat,min items.size items2.size-i=k->i<=items.size->i<=items2.size->Meets (Builtin.«list.__eq__.loop» ⟨[.ref l,.ref b,rawInt i,rawInt 0],[]⟩)
   (fun _ R s=>s.heap.get? l=some { cls:=.type "list", dict:=dd,data:=.seq items n,slots:=sl }/\s.heap.get? b=some { cls:=.type "list", dict:=dd2,data:=.seq items2 n2,slots:=sl2 } /\
    R (.ok (.ret (.bool (lexLt (ns.drop i) (ms.drop i))))) s):=by
 have z1:ns.length=items.size:=by rw [← hi.length];simp
 have z2:ms.length=items2.size:=by rw [← hj.length];simp
 induction k with
 | zero =>
  intro i hk h1 h2 prog w A R s h
  obtain ⟨hp,g,d,tk,os⟩:=s;obtain ⟨hl,hb,h⟩:=h
  wp_walk using wpAny_loadPart' hl,wpAny_loadPart' hb
  have fin:lexLt (ns.drop i) (ms.drop i)=decide (items.size<items2.size):=by
   by_cases c:i=items.size
   .have e1:ns.drop i=[]:=dk (by lia)
    rw [e1]
    by_cases c2:i<items2.size
    .rw [aK (by lia:i<ms.length),lexLt_nil_cons]
     exact (decide_eq_true (by lia)).symm
    .rw [dk (by lia:ms.length<=i),lexLt_nil_nil]
     exact (decide_eq_false (by lia)).symm
   .have c2:i=items2.size:=by lia
    rw [aK (by lia:i<ns.length),dk (by lia:ms.length<=i),lexLt_cons_nil]
    exact (decide_eq_false (by lia)).symm
  rw [fin] at h
  by_cases c:i=items.size
  .have hi1:items[((i:Nat):Int).toNat]?=none:=by simp;lia
   rw [hi1]
   wp_walk using wpAny_loadPart' hl,wpAny_loadPart' hb
   exact h
  .have c2:i=items2.size:=by lia
   have hi1:items[((i:Nat):Int).toNat]?=some (items[i]'(by lia)):=by simp
   have hi2:items2[((i:Nat):Int).toNat]?=none:=by simp;lia
   rw [hi1,hi2]
   wp_walk using wpAny_loadPart' hl,wpAny_loadPart' hb
   exact h
 | succ k ih =>
  intro i hk h1 h2 prog w A R s h
  obtain ⟨hp,g,d,tk,os⟩:=s;obtain ⟨hl,hb,h⟩:=h
  wp_walk using wpAny_loadPart' hl,wpAny_loadPart' hb
  have hlt:i<items.size:=by lia
  have hlt2:i<items2.size:=by lia
  obtain ⟨x,t,ex,dx⟩:=drop_int hi (i:=i) (by simpa using hlt)
  obtain ⟨y,u,ey,dy⟩:=drop_int hj (i:=i) (by simpa using hlt2)
  have hi1:items[((i:Nat):Int).toNat]?=some (.int x t):=by
   rw [← ex];simp [hlt]
  have hi2:items2[((i:Nat):Int).toNat]?=some (.int y u):=by
   rw [← ey];simp [hlt2]
  have hc:((i:Int)+1)=((i+1:Nat):Int):=by push_cast;rfl
  rw [dx,dy,lexLt_cons] at h
  rw [hi1,hi2]
  obtain ⟨e,he,hiff⟩:=eqAt_int A.in1 ⟨hp,g,d,tk,os⟩ x t y u
  refine wpAny_bind (he prog w _ _ ?_)
  cases e with
  | true =>
   rw [if_pos (hiff.mp rfl)] at h
   wp_walk
   rw [hc]
   exact ⟨plainId_quiet plain_eq_loop _,codeAny_builtin entry_eq_loop (by
    rw [Around.under_plainId plain_eq_loop _]
    exact ih (i+1) (by lia) (by lia) (by lia) prog w A R _ ⟨hl,hb,h⟩)⟩
  | false =>
   rw [if_neg (fun q=>absurd (hiff.mpr q) aw)] at h
   have hri:=rcLt_int A.in1 ⟨hp,g,d,tk,os⟩ x t y u prog w
   wp_walk using wpAny_loadPart' hl,wpAny_loadPart' hb
   rw [hi1,hi2]
   wp_walk using hri
   exact h
theorem list_lt_ints (l b:Addr) (items items2:Array Value) (n n2:Nat) (dd dd2:Option Addr) (sl sl2:Array (Option Value)) (ns ms:List Int) (hi:IntsAre items.toList ns) (hj:IntsAre items2.toList ms) :
  Meets (Builtin.«list.__lt__» ⟨[.ref l,.ref b],[]⟩)
   (fun _ R s=>s.heap.get? l=some { cls:=.type "list", dict:=dd,data:=.seq items n,slots:=sl }/\s.heap.get? b=some { cls:=.type "list", dict:=dd2,data:=.seq items2 n2,slots:=sl2 } /\
    R (.ok (.ret (.bool (lexLt ns ms)))) s):=by
 intro prog w A R s h
 obtain ⟨hp,g,d,tk,os⟩:=s;obtain ⟨hl,hb,h⟩:=h
 have f3:=AutoSeq1.sub_list_list
 wp_walk using wpAny_loadPart' hl,wpAny_loadPart' hb
 exact ⟨plainId_quiet plain_eq_loop _,codeAny_builtin entry_eq_loop (by
  rw [Around.under_plainId plain_eq_loop _]
  exact list_lt_loop l b items items2 n n2 dd dd2 sl sl2 ns ms hi hj _ 0 rfl (ba _) (ba _) prog w A R _ ⟨hl,hb,h⟩)⟩
end
end HT
namespace Mr
open PySem PySem.Spec PyProof.Rows L2
section
open HT
theorem lex_asym:∀ xs ys:List Int,lexLt xs ys=true->lexLt ys xs=false
 | [],[],_=>rfl
 | [],_::_,_=>rfl
 | _::_,[],h=>by cases h
 | x::xs,y::ys,h=>by
  rw [lexLt_cons] at h ⊢
  by_cases e:x=y
  .rw [if_pos e] at h
   rw [if_pos e.symm]
   exact lex_asym xs ys h
  .rw [if_neg e] at h
   rw [if_neg (Ne.symm e)]
   have h':x<y:=of_decide_eq_true h
   exact decide_eq_false (by omega)
theorem lex_trans:∀ xs ys zs:List Int,lexLt ys xs=false->lexLt zs ys=false->lexLt zs xs=false
 | [],[],[],_,_=>rfl
 | [],[],_::_,_,h=>by exact h
 | [],_::_,[],_,h=>by cases h
 | [],_::_,_::_,_,_=>rfl
 | _::_,[],_,h,_=>by cases h
 | _::_,_::_,[],_,h=>by cases h
 | x::xs,y::ys,z::zs,h1,h2=>by
  rw [lexLt_cons] at h1 h2 ⊢
  by_cases e1:y=x
  .rw [if_pos e1] at h1
   subst e1
   by_cases e2:z=y
   .rw [if_pos e2] at h2 ⊢
    exact lex_trans xs ys zs h1 h2
   .rw [if_neg e2] at h2 ⊢
    exact h2
  .rw [if_neg e1] at h1
   have h1':¬ y<x:=of_decide_eq_false h1
   by_cases e2:z=y
   .rw [if_neg (by omega)]
    exact decide_eq_false (by omega)
   .rw [if_neg e2] at h2
    have h2':¬ z<y:=of_decide_eq_false h2
    rw [if_neg (by omega)]
    exact decide_eq_false (by omega)
theorem lex_anti:∀ xs ys:List Int,lexLt xs ys=false->lexLt ys xs=false->xs=ys
 | [],[],_,_=>rfl
 | [],_::_,h,_=>by cases h
 | _::_,[],_,h=>by cases h
 | x::xs,y::ys,h1,h2=>by
  rw [lexLt_cons] at h1 h2
  by_cases e:x=y
  .rw [if_pos e] at h1
   rw [if_pos e.symm] at h2
   rw [e,lex_anti xs ys h1 h2]
  .rw [if_neg e] at h1
   rw [if_neg (Ne.symm e)] at h2
   have h1':¬ x<y:=of_decide_eq_false h1
   have h2':¬ y<x:=of_decide_eq_false h2
   omega
def rLe (x y:List Int):Bool:=!HT.lexLt y x
theorem rLe_trans (x y z:List Int) (h1:rLe x y=true) (h2:rLe y z=true):rLe x z=true:=by
 unfold rLe at *
 simp only [fe] at *
 exact lex_trans x y z h1 h2
theorem rLe_total (x y:List Int):(rLe x y || rLe y x)=true:=by
 unfold rLe
 cases h:HT.lexLt y x with
 | false=>rfl
 | true=>rw [lex_asym y x h];rfl
def srt (rs:List (List Int)):List (List Int):=rs.mergeSort rLe
theorem srt_perm (rs:List (List Int)):(srt rs).Perm rs:=fZ _ _
theorem srt_sorted (rs:List (List Int)):(srt rs).Pairwise (fun x y=>HT.lexLt y x=false):=by
 refine (fE rLe_trans rLe_total rs).imp fun {a b} h=>?_
 unfold rLe at h
 simpa using h
theorem sorted_unique:∀ {xs ys:List (List Int)},xs.Perm ys->xs.Pairwise (fun x y=>HT.lexLt y x=false)->ys.Pairwise (fun x y=>HT.lexLt y x=false)->xs=ys
 | xs,ys,hp,h1,h2=>bO.eq_of_pairwise (fun a b _ _ e1 e2=>(lex_anti b a e1 e2).symm) h1 h2 hp
theorem eq_srt {xs rs:List (List Int)}(hp:xs.Perm rs) (h:xs.Pairwise (fun x y=>HT.lexLt y x=false)):xs=srt rs :=
 sorted_unique (hp.trans (srt_perm rs).symm) h (srt_sorted rs)
theorem srt_length (rs:List (List Int)):(srt rs).length=rs.length:=(srt_perm rs).length_eq
def srtI (ns:List Int):List Int:=ns.mergeSort (fun x y=>decide (x<=y))
theorem srtI_perm (ns:List Int):(srtI ns).Perm ns:=fZ _ _
theorem srtI_sorted (ns:List Int):(srtI ns).Pairwise (·<=·):=by
 refine (fE (le:=fun x y=>decide (x<=y)) (fun a b c h1 h2=>?_) (fun a b=>?_) ns).imp fun {a b} h=>by simpa using h
 .simp only [decide_eq_true_eq] at *
  omega
 .simp only [Bool.or_eq_true,decide_eq_true_eq]
  omega
theorem eq_srtI {xs ns:List Int}(hp:xs.Perm ns) (h:xs.Pairwise (·<=·)):xs=srtI ns :=
 bO.eq_of_pairwise (fun a b _ _ e1 e2=>Int.le_antisymm e1 e2) h (srtI_sorted ns) (hp.trans (srtI_perm ns).symm)
end
def Each (H:Hp) (ps:List Addr) (rs:List (List Int)):Prop:=ps.map H=rs.map (fun r=>some (HO.lst (r.map V.int)))
theorem Each.nil {H:Hp}:Each H [] []:=rfl
theorem Each.length {H:Hp}{ps:List Addr}{rs:List (List Int)}(h:Each H ps rs):ps.length=rs.length:=by
 have:=congrArg bY h
 simpa using this
theorem Each.cons_iff {H:Hp}{ps:List Addr}{rs:List (List Int)}{p:Addr}{r:List Int}:Each H (p::ps) (r::rs)↔H p=some (.lst (r.map V.int))/\Each H ps rs:=by
 unfold Each
 rw [aq,aq,List.cons.injEq]
theorem Each.get {H:Hp}{ps:List Addr}{rs:List (List Int)}(h:Each H ps rs) {i:Nat}{p:Addr}(e:ps[i]?=some p):∃ r,rs[i]?=some r/\H p=some (.lst (r.map V.int)):=by
 have:=congrArg (fun l=>l[i]?) h
 simp only [gMq,e,dG] at this
 cases er:rs[i]? with
 | none=>rw [er] at this;cases this
 | some r=>rw [er] at this;exact ⟨r,rfl,aT.inj this⟩
theorem Each.mem {H:Hp}{ps:List Addr}{rs:List (List Int)}(h:Each H ps rs) {p:Addr}(hp:p∈ps):∃ r,r∈rs/\H p=some (.lst (r.map V.int)):=by
 obtain ⟨i,hi⟩:=List.getElem?_of_mem hp
 obtain ⟨r,er,e⟩:=h.get hi
 exact ⟨r,mGq er,e⟩
theorem Each.keep {H H':Hp}{ps:List Addr}{rs:List (List Int)}(h:Each H ps rs) (k:∀ p∈ps,H' p=H p):Each H' ps rs:=by
 unfold Each at *
 rw [← h]
 exact mCq k
theorem Each.same {H H':Hp}{ps:List Addr}{rs:List (List Int)}(h:Each H ps rs) (s:Same H H'):Each H' ps rs :=
 h.keep fun p hp=>by
  obtain ⟨r,_,e⟩:=h.mem hp
  rw [s _ _ e,e]
def toI:V->Int
 | .int i=>i
 | _=>0
def rowOf (H:Hp) (p:Addr):List Int:=match H p with
 | some (.lst xs)=>xs.map toI
 | _=>[]
theorem rowOf_eq {H:Hp}{p:Addr}{r:List Int}(h:H p=some (.lst (r.map V.int))):rowOf H p=r:=by
 unfold rowOf
 rw [h]
 simp only [mPq]
 exact List.map_id'' (fun _=>rfl) r
theorem Each.fn {H:Hp}{ps:List Addr}{rs:List (List Int)}(h:Each H ps rs):rs=ps.map (rowOf H):=by
 induction rs generalizing ps with
 | nil =>
  have:=h.length
  have:ps=[]:=bD.mp this
  rw [this];rfl
 | cons r rs ih =>
  cases ps with
  | nil=>have:=h.length;simp at this
  | cons p ps =>
   obtain ⟨h1,h2⟩:=Each.cons_iff.mp h
   rw [aq,← ih h2,rowOf_eq h1]
theorem Each.fn_row {H:Hp}{ps:List Addr}{rs:List (List Int)}(h:Each H ps rs) {p:Addr}(hp:p∈ps):H p=some (.lst ((rowOf H p).map V.int)):=by
 obtain ⟨r,_,e⟩:=h.mem hp
 rw [rowOf_eq e]
 exact e
theorem Each.of_fn {H:Hp}{ps:List Addr}(h:∀ p∈ps,H p=some (.lst ((rowOf H p).map V.int))):Each H ps (ps.map (rowOf H)):=by
 unfold Each
 rw [mPq]
 exact mCq h
theorem Each.perm {H:Hp}{ps qs:List Addr}{rs:List (List Int)}(h:Each H ps rs) (hp:qs.Perm ps):∃ ts,Each H qs ts/\ts.Perm rs/\ts=qs.map (rowOf H) :=
 ⟨_,Each.of_fn fun p m=>h.fn_row (hp.mem_iff.mp m),by rw [h.fn];exact hp.map _,rfl⟩
theorem Each.free {H H':Hp}{ps:List Addr}{rs:List (List Int)}(h:Each H' ps rs) {q:Addr}(n:H' q=none):q∉ps:=fun m=>by
 obtain ⟨r,_,e⟩:=h.mem m
 rw [n] at e
 cases e
theorem vals_refs:∀ {ps:List Addr}{vs:List Value},Vals (ps.map V.ref) vs->vs=ps.map az
 | [],vs,r=>by cases r;rfl
 | p::ps,vs,r=>by
  rw [aq] at r
  cases r with
  | cons h1 h2 =>
   have e:_=az p:=h1
   rw [e,vals_refs h2]
   rfl
theorem refs_vals:∀ (ps:List Addr),Vals (ps.map V.ref) (ps.map az)
 | []=>.nil
 | p::ps=>.cons rfl (refs_vals ps)
def addrOf:Value->Addr
 | .ref p=>p
 | _=>0
def intOf:Value->Int
 | .int i _=>i
 | _=>0
theorem ints_of {vs:List Value}{ns:List Int}(h:IntsAre vs ns):ns=vs.map intOf/\∀ v∈vs,∃ a t,v = .int a t:=by
 induction h with
 | nil=>exact ⟨rfl,fun v hv=>by cases hv⟩
 | cons a t _ ih =>
  refine ⟨by rw [aq,← ih.1];rfl,fun v hv=>?_⟩
  rcases ai.mp hv with rfl|hv
  .exact ⟨a,t,rfl⟩
  .exact ih.2 v hv
theorem vals_ints:∀ {vs:List Value},(∀ v∈vs,∃ a t,v = .int a t)->Vals ((vs.map intOf).map V.int) vs
 | [],_=>.nil
 | v::vs,h=>by
  obtain ⟨a,t,rfl⟩:=h _ (bb ..)
  exact .cons ⟨t,rfl⟩ (vals_ints fun v hv=>h v (mCo _ hv))
theorem kind_of {M:Model}{A:Around}{E:Value->Shared->Prop}{s:Shared}{vs:List Value}{T:String}{Q:SortKind->Shared->Prop}(h2:2<=vs.length) (hT:∀ v∈vs,W.Looks M s.heap (typeOf v) (.type T)) (hT1:(dE T != dE "tuple")=true) (hT2:(dE T == dE T)=true) (h:Q oneType' s) :
  wpAny M A (keyKind' vs.toArray) Q E s:=W.kas_kind h2 hT hT1 hT2 h
def ltI (x y:Keyed):Bool:=match x.1,y.1 with
 | .int a _,.int b _=>decide (a<b)
 | _,_=>false
theorem cmpI (prog:Program) (w:World) (A:Around) (s:Shared):MrS.Cmp prog w A s oneType' (fun x=>∃ a t,x.1 = .int a t) ltI where
 ask:=by
  rintro ⟨_,x⟩ ⟨_,y⟩ ⟨a,t,e1⟩ ⟨b,u,e2⟩ E Q q
  dsimp only at e1 e2
  subst e1 e2
  rw [keyLt'_oneType]
  exact oneLt_int q
 asym:=by
  rintro ⟨_,x⟩ ⟨_,y⟩ ⟨a,t,e1⟩ ⟨b,u,e2⟩ h
  dsimp only at e1 e2
  subst e1 e2
  have h':a<b:=of_decide_eq_true h
  exact decide_eq_false (by omega)
 trans:=by
  rintro ⟨_,x⟩ ⟨_,y⟩ ⟨_,z⟩ ⟨a,t,e1⟩ ⟨b,u,e2⟩ ⟨c,v,e3⟩ h1 h2
  dsimp only at e1 e2 e3
  subst e1 e2 e3
  have h1':¬ b<a:=of_decide_eq_false h1
  have h2':¬ c<b:=of_decide_eq_false h2
  exact decide_eq_false (by omega)
def ltR (r:Addr->List Int) (x y:Keyed):Bool:=match x.1,y.1 with
 | .ref p,.ref q=>HT.lexLt (r p) (r q)
 | _,_=>false
theorem cmpR {prog:Program}{w:World}{A:Around}{s:Shared}{ps:List Addr}{r:Addr->List Int}(hu:A.units<cLine)
  (h:∀ p∈ps,∃ vs:List Value,PlainL s.heap p vs.toArray/\IntsAre vs (r p)):MrS.Cmp prog w A s oneType' (fun x=>∃ p,x.1 = .ref p/\p∈ps) (ltR r) where
 ask:=by
  rintro ⟨_,x⟩ ⟨_,y⟩ ⟨p,e1,hp⟩ ⟨q,e2,hq⟩ E Q k
  dsimp only at e1 e2
  subst e1 e2
  obtain ⟨vs,⟨o,n,ho,hc,hd0,hd⟩,hi⟩:=h p hp
  obtain ⟨ws,⟨o2,n2,ho2,hc2,hd02,hd2⟩,hj⟩:=h q hq
  obtain ⟨cls,dd,data,sl⟩:=o
  obtain ⟨cls2,dd2,data2,sl2⟩:=o2
  simp only at hc hd0 hd hc2 hd02 hd2
  subst hc hd0 hd hc2 hd02 hd2
  rw [keyLt'_oneType,oneLt'_eq]
  simp only [if_true]
  refine wpAny_bind (wpAny_cRoomFor hu ?_)
  refine wpAny_bind (wpAny_callSpecialIfBound?_slot ⟨_,ho,rfl⟩ F.slot_list_lt (call_meets F.slot_list_lt ⟨_,ho,rfl⟩ F.entry_list_lt (F.args_list_lt_2 _ _)
   (HT.list_lt_ints p q vs.toArray ws.toArray n n2 none none sl sl2 (r p) (r q) (by simpa using hi) (by simpa using hj)) ⟨ho,ho2,?_⟩))
  exact wpAny_truthy_bool k
 asym:=by
  rintro ⟨_,x⟩ ⟨_,y⟩ ⟨a,e1,_⟩ ⟨b,e2,_⟩ h
  dsimp only at e1 e2
  subst e1 e2
  exact lex_asym _ _ h
 trans:=by
  rintro ⟨_,x⟩ ⟨_,y⟩ ⟨_,z⟩ ⟨a,e1,_⟩ ⟨b,e2,_⟩ ⟨c,e3,_⟩ h1 h2
  dsimp only at e1 e2 e3
  subst e1 e2 e3
  exact lex_trans _ _ _ h1 h2
section
variable {X:Cx}
theorem call_sortedI:CallR X (.builtin "sorted") (fun xs H Q=>∃ (a:Addr) (ns:List Int),xs=[.ref a]/\SqL X.K H a (ns.map V.int)/\∀ p,H p=none->Q (.ref p) (upd H p (.lst ((srtI ns).map V.int)))):=by
 intro pins s σ H xs us Q I r h
 obtain ⟨a,ns,rfl,hS,q⟩:=h
 obtain ⟨u,rfl,ru⟩:=vals1 r
 cases ru
 obtain ⟨vs,hl,hi,hz⟩:=inv_ints I hS
 obtain ⟨en,hv⟩:=ints_of hi
 have hlen:=hi.length
 refine MrS.sorted_gen (Pk:=fun x=>∃ a t,x.1 = .int a t) (lt:=ltI) hl (by omega) (fun s' _=>⟨fun h2 Q q=>?_,cmpI _ _ _ _⟩) (fun v m=>hv v m) fun out h' n' o1 o2 o3 o4=>?_
 .match vs,hi,h2 with
  | [],_,h2=>simp at h2
  | [_],_,h2=>simp at h2
  | v₁::v₂::rest,hi,_ =>
   rw [keyKind_ints hi]
   exact wpAny_pure q
 .have ho:∀ v∈out,∃ a t,v = .int a t:=fun v m=>hv v (o1.mem_iff.mp m)
  have e:out.map intOf=srtI ns:=by
   refine eq_srtI (by rw [en];exact o1.map _) ?_
   rw [aY]
   refine o2.imp_of_mem fun {x y} mx my h=>?_
   obtain ⟨a,t,rfl⟩:=ho x mx
   obtain ⟨b,u,rfl⟩:=ho y my
   have h':¬ b<a:=of_decide_eq_false h
   show a<=b
   omega
  have hp:H (s.heap.objs.size+1)=none:=I.hok.fresh (bA _)
  refine ⟨.ref (s.heap.objs.size+1),_,I.laid (t':=s.toks) o3 (bA _) (show ObjOk X.prog X.w _ h' _ (.lst ((srtI ns).map V.int)) from ⟨?_,out,n',?_,o4⟩),rfl,q _ hp⟩
  .rw [lMq,(srtI_perm ns).length_eq]
   exact hz
  .rw [← e]
   exact vals_ints ho
theorem call_sortedR (hu:X.A.units+64<cLine):CallR X (.builtin "sorted") (fun xs H Q=>∃ (a:Addr) (ps:List Addr) (rs:List (List Int)),xs=[.ref a]/\SqL X.K H a (ps.map V.ref)/\Each H ps rs /\
  ∀ p qs,H p=none->qs.Perm ps->Each (upd H p (.lst (qs.map V.ref))) qs (srt rs)->Q (.ref p) (upd H p (.lst (qs.map V.ref)))):=by
 intro pins s σ H xs us Q I r h
 obtain ⟨a,ps,rs,rfl,hS,hE,q⟩:=h
 obtain ⟨u,rfl,ru⟩:=vals1 r
 cases ru
 obtain ⟨its,rv,hl,hz⟩:=I.list hS
 have ei:=vals_refs rv
 subst ei
 have hrow:∀ p∈ps,∃ vs:List Value,PlainL s.heap p vs.toArray/\IntsAre vs (rowOf H p):=fun p hp=>by
  obtain ⟨its,rv,pl,_⟩:=I.list (SqL.of (hE.fn_row hp))
  exact ⟨its,pl,intsAre_of rv⟩
 have keepL:∀ (s':Shared),(∀ b o,s.heap.get? b=some o->s'.heap.get? b=some o)->∀ p∈ps,∃ vs:List Value,PlainL s'.heap p vs.toArray/\IntsAre vs (rowOf H p):=fun s' k p hp=>by
  obtain ⟨vs,⟨o,n,ho,rest⟩,hi⟩:=hrow p hp
  exact ⟨vs,⟨o,n,k _ _ ho,rest⟩,hi⟩
 refine MrS.sorted_gen (Pk:=fun x=>∃ p,x.1 = .ref p/\p∈ps) (lt:=ltR (rowOf H)) hl.isList (by simpa using hz) (fun s' k=>⟨fun h2 Q q=>?_,cmpR (by show X.A.units+1+1<cLine;omega) (keepL s' k)⟩) (fun v m=>?_) fun out h' n' o1 o2 o3 o4=>?_
 .refine kind_of (T := "list") h2 (fun v hv=>?_) (by rfl) (by rfl) q
  obtain ⟨p,hp,rfl⟩:=mMq.mp hv
  obtain ⟨vs,pl,_⟩:=keepL s' k p hp
  intro A Q E s2 k2 q2
  obtain ⟨o,ho,hc,_⟩:=pl.isList
  exact wpAny_typeOf (T := "list") ⟨o,k2 _ _ ho,hc⟩ q2
 .obtain ⟨p,hp,rfl⟩:=mMq.mp m
  exact ⟨p,rfl,hp⟩
 .have ho:∀ v∈out,∃ p∈ps,v = .ref p:=fun v m=>by
   obtain ⟨p,hp,rfl⟩:=mMq.mp (o1.mem_iff.mp m)
   exact ⟨p,hp,rfl⟩
  have eo:out=(out.map addrOf).map az:=by
   rw [mPq]
   have e:=mCq (l:=out) (f:=id) (g:=az∘addrOf) fun v hv=>by
    obtain ⟨p,_,rfl⟩:=ho v hv
    rfl
   rw [← e,eX]
  have hq:(out.map addrOf).Perm ps:=by
   have:=o1.map addrOf
   rw [mPq,show addrOf∘az=id from rfl,eX] at this
   exact this
  have hp:H (s.heap.objs.size+1)=none:=I.hok.fresh (bA _)
  generalize out.map addrOf=qs at eo hq
  obtain ⟨ts,e1,e2,e3⟩:=hE.perm hq
  have es:ts=srt rs:=by
   refine eq_srt e2 ?_
   rw [e3,aY]
   rw [eo,aY] at o2
   exact o2
  refine ⟨.ref (s.heap.objs.size+1),_,I.laid (t':=s.toks) o3 (bA _) (show ObjOk X.prog X.w _ h' _ (.lst (qs.map V.ref)) from ⟨?_,out,n',?_,o4⟩),rfl,q _ qs hp hq (by rw [← es];exact e1.same (same_upd hp))⟩
  .rw [lMq,hq.length_eq]
   simpa using hz
  .rw [eo]
   exact refs_vals qs
def dRow (r:List Int):PyData:=.list (r.map PyData.int)
def dRows (rs:List (List Int)):PyData:=.list (rs.map dRow)
theorem reads_row {pins:List (Addr×Obj)}{σ:St}{H:Hp}{s:Shared}{p:Addr}{r:List Int}(I:Inv X pins σ H s) (h:H p=some (.lst (r.map V.int))):Reads s.heap (.ref p) (dRow r) [p]:=by
 obtain ⟨vs,hl,hi,_⟩:=inv_ints I (SqL.of h)
 exact W.reads_of_ints hl hi
theorem canLay_rows:∀ rs:List (List Int),PyData.canLayAll0 (rs.map dRow)=true
 | []=>by simp [PyData.canLayAll0]
 | r::rs=>by simp [PyData.canLayAll0,dRow,PyData.canLay0,W.canLayAll0_ints r,canLay_rows rs]
theorem depth_rows:∀ rs:List (List Int),PyData.depthAll (rs.map dRow)<=3
 | []=>by simp [PyData.depthAll]
 | r::rs=>by
  have h1:=depth_rows rs
  have h2:=W.depthAll_ints r
  simp only [aq,PyData.depthAll,dRow,PyData.depth]
  omega
theorem shaped_rows (rs:List (List Int)):SeqAt.shaped (dRows rs)=true:=by
 have h1:=depth_rows rs
 have h2:PyData.depth (dRows rs)<=64:=by simp only [dRows,PyData.depth];omega
 show (PyData.canLay0 (dRows rs) && decide (PyData.depth (dRows rs)<=64))=true
 rw [cT]
 exact ⟨by simp only [dRows,PyData.canLay0];exact canLay_rows rs,decide_eq_true h2⟩
theorem noMix_rows:∀ rs ts:List (List Int),SeqAt.noMixAll (rs.map dRow) (ts.map dRow)=true
 | [],[]=>by simp [SeqAt.noMixAll]
 | [],_::_=>by simp [SeqAt.noMixAll]
 | _::_,[]=>by simp [SeqAt.noMixAll]
 | r::rs,t::ts=>by simp [SeqAt.noMixAll,dRow,SeqAt.noMix,W.noMix_ints r t,noMix_rows rs ts]
theorem same_rows:∀ rs ts:List (List Int),PySem.Spec.sameAll (rs.map dRow) (ts.map dRow)=decide (rs=ts)
 | [],[]=>by simp [PySem.Spec.sameAll]
 | [],_::_=>by simp [PySem.Spec.sameAll]
 | _::_,[]=>by simp [PySem.Spec.sameAll]
 | r::rs,t::ts=>by
  simp only [aq,PySem.Spec.sameAll,dRow,PySem.Spec.same,W.same_ints r t]
  rw [same_rows rs ts]
  by_cases h:r=t <;> simp [h]
def rCount:V->List V->Hp->VK->Prop:=fun x vs H Q=>∃ (a b:Addr) (ps:List Addr) (rs:List (List Int)) (r:List Int),x = .ref a/\vs=[.ref b]/\H a=some (.lst (ps.map V.ref))/\Each H ps rs/\H b=some (.lst (r.map V.int))/\b∉ps/\Q (.int (rs.countP (·=r):Nat)) H
theorem mt_count (hu:X.A.units+65<cLine):MtR X "list.count" rCount:=by
 intro pins s σ H x xs v us Q I rx r h
 obtain ⟨a,b,ps,rs,row,rfl,rfl,h1,e1,h2,nb,q⟩:=h
 cases rx
 obtain ⟨u,rfl,ru⟩:=vals1 r
 cases ru
 obtain ⟨its,rv,⟨o,n,ho,hc,hd0,hd⟩,hz⟩:=I.list (SqL.of h1)
 have ei:=vals_refs rv
 subst ei
 obtain ⟨cls,dd,data,sl⟩:=o
 simp only at hc hd0 hd
 subst hc hd0 hd
 have hr:=reads_row I h2
 refine call_meets cW ⟨_,ho,rfl⟩ fk (ff _ _)
  (SeqAt.list_countAt a (ps.map az).toArray n none sl (.ref b) (fun y=>decide (rowOf H (addrOf y)=row))) ⟨ho,fun y hy=>?_,?_⟩
 .obtain ⟨p,hp,rfl⟩:=mMq.mp (show y∈ps.map az by simpa using hy)
  refine SeqAt.EqAt.of_refs (fun e=>nb (e ▸ hp)) fun prog w E Q hq=>?_
  obtain ⟨vs,hl,hi,_⟩:=inv_ints I (SqL.of (e1.fn_row hp))
  obtain ⟨ws,hl2,hi2,_⟩:=inv_ints I (SqL.of h2)
  exact W.eq_intsK (prog:=prog) (w:=w) (A:=X.A.in1) hl hi hl2 hi2 (by show X.A.units+1+64<cLine;omega) hq
 .refine ⟨.int _,H,I.tok _,⟨_,rfl⟩,?_⟩
  have e:(ps.map az).toArray.toList.countP (fun y=>decide (rowOf H (addrOf y)=row))=rs.countP (·=row):=by
   rw [gb,e1.fn,dH,dH]
   rfl
  rw [e]
  exact q
end
end Mr
namespace Mr
open PySem L2
structure Bt (mg:Str->Option Value):Prop where
 len:mg "len" = none
 min:mg "min" = none
 max:mg "max" = none
 abs:mg "abs" = none
 all:mg "all" = none
 sorted:mg "sorted" = none
 isi:mg "isinstance" = none
 list:mg "list" = none
 int:mg "int" = none
 bool:mg "bool" = none
 str:mg "str" = none
 dict:mg "dict" = none
 zip:mg "zip" = none
 enum:mg "enumerate" = none
 range:mg "range" = none
 reversed:mg "reversed" = none
structure Fn (P:Program) (w:World) (K:W.Frag) (mg:Str->Option Value) (base:Heap) (k:Nat) (x:Str) (st:Stmt) (ps:List Str) (sp:Sp) (f:Addr) (fd:FuncData):Prop where
 D:Def K mg x st ps f fd
 ok:FnOk P w K mg base CX0 k f fd ps sp
theorem Room.units65 {k:Nat}{A:Around}(r:Room k A):A.units+65<cLine:=by have:=r.un;lia
section
variable {X:Cx}{k:Nat}{f:Addr}{fd:FuncData}{ps:List Str}{sp:Sp}{x:Str}{p pos:Pos}{e:Expr}{es:List Expr}{t:TA}{st:Stmt}
theorem pe_fn (G:Fn X.prog X.w X.K X.mg X.base k x st ps sp f fd) (hr:Room k X.A) (ha:PA X (e::es) t) (hg:Gl X x:=by rfl) (hdb:(x == ("__debug__" : Str))=false:=by decide)
  (he:starEach (e::es) X.env=(false,eval e X.env)::starEach es X.env:=by rfl) (hpl:(backTo pos (starEach es X.env)).any (·.1)=false:=by rfl) :
  PE X (.Call (.Name x p) (e::es) [] pos) (tCall sp [] E0 t):=pe_call G.ok hr hg G.D.m G.D.F.kp G.D.b .nil pass0 ha hdb he hpl
end
section
variable (K:W.Frag)
def spLaw:Sp:=fun vs H Q _=>∃ (a:Addr) (ns:List Int),vs=[.ref a]/\SqL K H a (ns.map V.int)/\ns.length<=63/\∀ H',Q (.bl true) H'
end
theorem take_snoc {α:Type}{l:List α}{i:Nat}{x:α}(h:l[i]?=some x):l.take (i+1)=l.take i++[x]:=by
 rw [dr,h]
 rfl
end Mr
namespace Xe
open PySem PySem.Spec PySem.W PyProof.Rows L2 Mr
abbrev St:=L2.St
abbrev lk0 (K:Frag) (C:Addr):Bool:=findIn K (.ref C) "__setattr__" == some (some (.builtin "object.__setattr__")) && findIn K (.ref C) "__getattribute__" == some (some (.builtin "BaseException.__getattribute__")) &&
 findIn K (.ref C) "__getattr__" == some none && findIn K (.ref C) "__class__" == some (some (.builtin "object.__class__"))
def xcIn (K:Frag) (c:Str) (C:Addr) (bm:List Value):Bool:=match K.lookup C with
 | some ⟨.type "type", _,.cls cd,sl⟩=>(match sl.toList with
  | [_,_,_,_,some (.builtin n),_]=>cd.name == c && cd.mro == .ref C::bm && n == "ValueError.__new__" && !cd.hasDel && cd.hasDict && tailIn K VEm bm
  | _=>false)
 | _=>false
structure XC (K:Frag) (c:Str) (C:Addr) (bm:List Value):Prop where
 obj:∃ N q bs sn sub ab col dd k0 k1 k2 k3 k5,K.lookup C=some (excClassObj c q C N bs bm true sn sub ab col dd k0 k1 k2 k3 k5 "ValueError.__new__")
 cls:∃ cd,clsIn K C=some cd/\cd.mro = .ref C::bm/\cd.name=c
 tail:∀ h:Heap,K.In h->OwnTail h VEm bm
theorem xc_of {K:Frag}{c:Str}{C:Addr}{bm:List Value}(e:xcIn K c C bm=true):XC K c C bm:=by
 unfold xcIn at e
 split at e
 .rename_i dd cd sl ho
  split at e
  .rename_i k0 k1 k2 k3 n k5 hs
   simp only [cT,beq_iff_eq,fe] at e
   obtain ⟨⟨⟨⟨⟨e1,e2⟩,e3⟩,hdel⟩,hdc⟩,ht⟩:=e
   have hc:clsIn K C=some cd:=by unfold clsIn;rw [ho]
   obtain ⟨nm,bs,mro,ns,qn,hd,sn,sub,ab,col,del⟩:=cd
   dsimp only at e1 e2 hdel hdc
   subst e1 e2 e3 hdel hdc
   have hsl:sl=#[k0,k1,k2,k3,some (.builtin "ValueError.__new__"),k5]:=by
    obtain ⟨l⟩:=sl
    simp only at hs
    rw [hs]
   subst hsl
   exact ⟨⟨ns,qn,bs,sn,sub,ab,col,dd,k0,k1,k2,k3,k5,ho⟩,⟨_,hc,rfl,rfl⟩,fun h X=>tail_of_in X ht⟩
  .cases e
 .cases e
structure Ref (K:Frag) (c:Str) (C M:Addr):Prop where
 nm:nsIn K mainGlobals c=some (some (.ref C))
 nmM:nsIn K mainGlobals "MapError" = some (some (.ref M))
 xc:xcIn K c C (.ref M::VEm)=true
 xm:xcIn K "MapError" M VEm=true
 lk:lk0 K C=true
def IsC (K:Frag) (c:Str) (C:Addr):Prop:=nsIn K mainGlobals c=some (some (.ref C))/\((∃ M,Ref K c C M)∨(c = "MapError" /\ xcIn K "MapError" C VEm=true))
theorem Ref.one {K:Frag}{c:Str}{C M C' M':Addr}(a:Ref K c C M) (b:Ref K c C' M'):C=C'/\M=M':=by
 have e1:=a.nm.symm.trans b.nm
 have e2:=a.nmM.symm.trans b.nmM
 simp at e1 e2
 exact ⟨e1,e2⟩
structure Ref.Lks (K:Frag) (M:Model) (h:Heap) (C:Addr):Prop where
 sa:Lk M h (typeLookup (.ref C) "__setattr__") (some (.builtin "object.__setattr__"))
 ga:Lk M h (typeLookup (.ref C) "__getattribute__") (some (.builtin "BaseException.__getattribute__"))
 gt:Lk M h (typeLookup (.ref C) "__getattr__") none
 cl:Lk M h (typeLookup (.ref C) "__class__") (some (.builtin "object.__class__"))
theorem Ref.lks {K:Frag}{c:Str}{C M:Addr}{Mo:Model}{h:Heap}(r:Ref K c C M) (X:K.In h):Ref.Lks K Mo h C:=by
 have e:=r.lk
 simp only [lk0,cT,beq_iff_eq] at e
 obtain ⟨⟨⟨e1,e2⟩,e3⟩,e4⟩:=e
 exact ⟨looks_findIn X e1,looks_findIn X e2,looks_findIn X e3,looks_findIn X e4⟩
def ExA (e C:Addr) (od:Option Addr):HO:=.ext fun h=>∃ o vs,h.get? e=some o/\o.cls = .ref C/\o.dict=od/\o.data = .fields vs
def ExN (e C:Addr) (od:Option Addr):HO:=.ext fun h=>∃ t,h.get? e=some (excObj C t od)
section
variable {P:Program}{w:World}{H:Hp}{h:Heap}{e C:Addr}{od:Option Addr}
theorem exA_ok {o:Obj}{vs:Array Value}(h1:h.get? e=some o) (h2:o.cls = .ref C) (h3:o.dict=od) (h4:o.data = .fields vs):ObjOk P w H h e (ExA e C od) :=
 ⟨⟨o,vs,h1,h2,h3,h4⟩,⟨o,h1⟩,fun g1 g2 ⟨o',vs',a,b⟩ k=>⟨o',vs',k _ a,b⟩⟩
theorem exN_ok {t:Addr}(h1:h.get? e=some (excObj C t od)):ObjOk P w H h e (ExN e C od):=⟨⟨t,h1⟩,⟨_,h1⟩,fun g1 g2 ⟨t',a⟩ k=>⟨t',k _ a⟩⟩
theorem exN_get (ok:HOk P w H h) (q:H e=some (ExN e C od)):∃ t,h.get? e=some (excObj C t od):=(show ObjOk P w H h e (ExN e C od) from ok e _ q).1
theorem exA_get (ok:HOk P w H h) (q:H e=some (ExA e C od)):∃ o vs,h.get? e=some o/\o.cls = .ref C/\o.dict=od/\o.data = .fields vs:=(show ObjOk P w H h e (ExA e C od) from ok e _ q).1
theorem upd_self {o:HO}(q:H e=some o):upd H e o=H:=by
 funext b
 by_cases hb:b=e
 .subst hb;rw [upd_same,q]
 .rw [upd_ne hb]
end
section
variable {X:Cx}{pins:List (Addr×Obj)}{σ:St}{H:Hp}{s:Shared}
def tBI (K:Frag) (t:TA):TE:=fun σ H Q=>t σ H fun vs H1=>∃ e v c C M,vs=[.ref e,v]/\H1 e=some (ExN e C none)/\Ref K c C M/\Q .non H1
theorem pe_bi {M:Addr}{x:Str}{p ap pos:Pos}{a1 a2:Expr}{t:TA}{pl:Sem Bool}(hg:Gl X x) (hm:X.mg x=some (.ref M)) (hr:readsIn X.K M (.type "type")=true)
  (hs:specialIn X.K (.ref M) "__getattribute__" = some (some (.builtin "type.__getattribute__"))) (hf:findCls X.K (.ref M) (.type "type") "__init__" = some (.val (.builtin "ValueError.__init__")))
  (ha:PA X [a1,a2] t) (hdb:(x == ("__debug__" : Str))=false:=by decide)
  (he:starEach [a1,a2] X.env=(false,eval a1 X.env)::starEach [a2] X.env:=by rfl) (hpl:(backTo pos (starEach [a2] X.env)).any (·.1)=false:=by rfl)
  (ht:eval (.Call (.Attribute (.Name x p) "__init__" ap) [a1,a2] [] pos) X.env=(do
   let ov ← eval (.Name x p) X.env
   standAt ap.atName
   let (f,first) ← holding [ov] (getMethod ov "__init__" pl)
   callWith pos f first (backTo pos (starEach [a1,a2] X.env)) (backToKw pos (keywordEach [] X.env))):=by rfl):PE X (.Call (.Attribute (.Name x p) "__init__" ap) [a1,a2] [] pos) (tBI X.K t):=by
 intro pins s σ H Q I h
 refine W.methodCall_KW (pl:=pl) (ld_glob I hg hm ?_ hdb) ht
 refine method_cls I.kIn hs (cls_value I.kIn hr hf (by decide +kernel) ?_)
 refine eE (thn (ha pos pins _ σ H _ (I.tok _) h) fun us s1 ⟨vs,H1,I1,r1,e,v,c,C,Mc,ev,he1,rf,q⟩=>?_) he hpl
 subst ev
 cases r1 with
 | cons r2 r3 =>
  cases r3 with
  | cons r4 r5 =>
   cases r5
   cases r2
   obtain ⟨t0,hx⟩:=exN_get I1.hok he1
   obtain ⟨⟨N,q',bs,sn,sub,ab,col,dd,k0,k1,k2,k3,k5,hC⟩,_,T⟩:=xc_of rf.xc
   obtain ⟨hh,g,d,tk,os⟩:=s1
   refine base_init (T _ I1.kIn) (I1.kIn _ _ hC) hx (fun h' t1 hk hx'=>?_) (by rw [sizeLine_eq];simp)
   refine ⟨.non,H1,?_,rfl,q⟩
   have J:=I1.write (x:=e) (e:=e) (o:=ExN e C none) (t':=tk) (by rw [he1];trivial) (.inl rfl) (fun b u hb hu=>hk b u hb hu) ⟨_,hx'⟩ (exN_ok hx')
   rw [upd_self he1] at J
   exact J
def sXF (K:Frag) (ta tv:TE) (f:Str):TS:=fun D σ H=>tv σ H fun y H1=>ta σ H1 fun x H2=>∃ e c C M,x = .ref e/\H2 e=some (ExN e C none)/\Ref K c C M/\findIn K (.ref C) f=some none /\
 ∀ dx,H2 dx=none->dx≠e->D.nx σ (upd (upd H2 dx (.xd [(f,y)])) e (ExN e C (some dx)))
theorem ps_xf {o value:Expr}{f:Str}{pos pos':Pos}{ta tv:TE}(ha:PE X o ta) (hv:PE X value tv) (hs:swapsWith value (some (.Attribute o f pos')) pos.line X.env=pure false):PS X (.Assign [.Attribute o f pos'] value pos) (sXF X.K ta tv f):=by
 intro pins s σ H D I h
 refine plainObj_wpAny_Assign_Attribute (thn (hv pins s σ H _ I h) fun u s1 ⟨y,H1,I1,ry,q⟩=>thn (ha pins s1 σ H1 _ I1 q) fun ov s2 ⟨x,H2,I2,rx,e,c,C,M,ex,he,rf,nf,q2⟩=>?_) hs
 subst ex
 obtain rfl:ov=az e:=rx
 obtain ⟨t0,hx⟩:=exN_get I2.hok he
 obtain ⟨⟨N,q',bs,sn,sub,ab,col,dd,k0,k1,k2,k3,k5,hC⟩,_,T⟩:=xc_of rf.xc
 have L:=rf.lks (Mo:=model X.prog X.w) I2.kIn
 have LN:=looks_findIn (M:=model X.prog X.w) I2.kIn nf
 obtain ⟨hh,g,d,tk,os⟩:=s2
 refine store_new (T _ I2.kIn) (I2.kIn _ _ hC) hx L.sa LN fun h' dx tk' n1 n2 hx' hns hk=>?_
 have nd:H2 dx=none:=I2.hok.fresh n1
 refine ⟨σ,_,?_,q2 dx nd n2⟩
 have ne:∀ b ob,H2 b=none->hh.get? b=some ob->b≠e:=fun b ob z _=>fun q=>by rw [q,he] at z;cases z
 have nx:∀ b ob,hh.get? b=some ob->b≠dx:=fun b ob z=>ay (aN (ah z) n1)
 have nt:∀ b ob,H2 b=some ob->b≠dx:=fun b ob z q=>by rw [q,nd] at z;cases z
 have nE:∀ (b:Addr) (ob:HO),H2 b=some ob->(∀ φ,ob ≠ .ext φ)->b≠e:=fun b ob z k q=>by rw [q,he] at z;cases z;exact k _ rfl
 refine I2.un (t':=tk') ⟨fun b ob z n _ _=>hk b ob (ne b ob n z) z,fun b ob z n _ _=>⟨ob.slots,hk b ob (ne b ob n z) z⟩,fun b ob z n _=>by rw [upd_ne (ne b ob n z),upd_ne (nx b ob z)];exact n,fun b ob z _=>?_,
  fun b xs z=>by rw [upd_ne (nE b _ z fun φ w=>by cases w),upd_ne (nt b _ z)];exact z,fun b o' u' z=>by rw [upd_ne (nE b _ z fun φ w=>by cases w),upd_ne (nt b _ z)];exact z,
  fun b ps z=>⟨#[],by rw [upd_ne (nE b _ z fun φ w=>by cases w),upd_ne (nt b _ z),z];simp⟩⟩ fun b u z=>?_
 .by_cases hb:b=e
  .subst hb;exact ⟨_,hx'⟩
  .exact ⟨ob,hk b ob hb z⟩
 .by_cases hb:b=e
  .subst hb
   rw [upd_same] at z
   cases z
   exact exN_ok hx'
  .rw [upd_ne hb] at z
   by_cases hb2:b=dx
   .subst hb2
    rw [upd_same] at z
    cases z
    refine ⟨_,hns,fun g=>?_⟩
    by_cases hg:g=f
    .subst hg;simpa [cR,RelO] using ry
    .have:(g == f)=false:=by simpa using hg
     simp [cR,this,hg,RelO]
   .rw [upd_ne hb2] at z
    refine (I2.hok b u z).stay (fun c' v' hc r=>hk c' v' ?_ r) (fun c' r=>?_) fun c' xs r=>?_
    .rcases hc with rfl|hc
     .exact hb
     .exact nE c' _ hc fun φ w=>by cases w
    .rw [upd_ne (nE c' _ r fun φ w=>by cases w),upd_ne (nt c' _ r)];exact r
    .rw [upd_ne (nE c' _ r fun φ w=>by cases w),upd_ne (nt c' _ r)];exact r
end
def spIni (K:Frag) (c fld:Str):Sp:=fun vs H Q _=>∃ e v C M,vs=[.ref e,v]/\H e=some (ExN e C none)/\Ref K c C M/\findIn K (.ref C) fld=some none /\
 ∀ dx,H dx=none->dx≠e->Q .non (upd (upd H dx (.xd [(fld,v)])) e (ExN e C (some dx)))
def tMkX (K:Frag) (c fld:Str) (t:TA):TE:=fun σ H Q=>t σ H fun vs H1=>∃ v C M,vs=[v]/\Ref K c C M/\findIn K (.ref C) fld=some none /\
 ∀ e dx,H1 e=none->H1 dx=none->dx≠e->Q (.ref e) (upd (upd H1 dx (.xd [(fld,v)])) e (ExN e C (some dx)))
structure Ini (P:Program) (w:World) (K:Frag) (mg:Str->Option Value) (base:Heap) (k:Nat) (c fld prm:Str) (C M f:Addr) (fd:FuncData):Prop where
 rf:Ref K c C M
 ini:findIn K (.ref C) "__init__" = some (some (.ref f))
 fn:isFn K (.ref f)=true
 kp:keepIn K (.ref C)=true
 nf:findIn K (.ref C) fld=some none
 m:mg c=some (.ref C)
 b:Binds K fd ["self", prm] []
 ok:FnOk P w K mg base CX0 k f fd ["self", prm] (spIni K c fld)
theorem upd_mid {H:Hp}{e dx:Addr}{a b c:HO}:upd (upd (upd H e a) dx b) e c=upd (upd H dx b) e c:=by
 funext x
 unfold upd
 split
 .rfl
 .rename_i h
  split
  .rfl
  .first|rfl|rw [if_neg h]
section
variable {X:Cx}{k:Nat}{c fld prm:Str}{C M f:Addr}{fd:FuncData}{p pos:Pos}{a:Expr}{t:TA}
theorem run_mkx {pins:List (Addr×Obj)}{σ:St}{H1:Hp}{s1:Shared}{Q:VK}{u:Value}{v:V}(G:Ini X.prog X.w X.K X.mg X.base k c fld prm C M f fd) (hr:Room (k+1) X.A) (I1:Inv X pins σ H1 s1) (ru:RelV v u)
  (q:∀ e dx,H1 e=none->H1 dx=none->dx≠e->Q (.ref e) (upd (upd H1 dx (.xd [(fld,v)])) e (ExN e C (some dx)))):wpAny (model X.prog X.w) X.A (call (.ref C) [u]) (EP X pins σ Q) X.xe s1:=by
 obtain ⟨⟨N,q',bs,sn,sub,ab,col,dd,k0,k1,k2,k3,k5,hC⟩,_,T⟩:=xc_of G.rf.xc
 obtain ⟨hh,g,d,tk,os⟩:=s1
 refine call_init (T _ I1.kIn) (I1.kIn _ _ hC) (looks_findIn I1.kIn G.ini) (fun self=>bind_fn I1.kIn self (beq_iff_eq.mp G.fn)) (fun h' e hm hs=>?_) (by rw [sizeLine_eq];simp)
 have nE:H1 e=none:=I1.hok.fresh hs
 obtain ⟨t0,hx,_,_⟩:=hm.there
 have I2:Inv X pins σ (upd H1 e (ExN e C none)) ⟨h',g,d,tk,os⟩:=I1.laid (t':=tk) hm.keeps hs (exN_ok hx)
 have hsp:spIni X.K c fld [.ref e,v] (upd H1 e (ExN e C none)) (fun v' H2=>v' = .non/\Q (.ref e) H2) E0:=by
  refine ⟨e,v,C,M,rfl,upd_same,G.rf,G.nf,fun dx nd ne=>⟨rfl,?_⟩⟩
  rw [upd_mid]
  rw [upd_ne ne] at nd
  exact q e dx nE nd ne
 refine wpAny_call (codeAny_mono (G.ok.run _ X.stack _ _ ⟨[.ref e,u],[]⟩ [.ref e,u] [.ref e,v] _ E0 (hr.make C [u] []) (I2.env0.make C [u] []) (G.b _ [.ref e,u] I2.kIn rfl) (.cons rfl (.cons ru .nil)) hsp) fun r s' hq'=>?_)
 cases r with
 | error e=>exact False.elim hq'
 | ok fl =>
  cases fl with
  | ret u =>
   obtain ⟨v',H',I3,rv,ev,q3⟩:=I2.after hq'
   subst ev
   exact ⟨rv,⟨V.ref e,H',I3,rfl,q3⟩⟩
  | next=>exact False.elim hq'
  | brk=>exact False.elim hq'
  | cont=>exact False.elim hq'
theorem pe_mkx (G:Ini X.prog X.w X.K X.mg X.base k c fld prm C M f fd) (hr:Room (k+1) X.A) (ha:PA X [a] t) (hg:Gl X c:=by rfl) (hdb:(c == ("__debug__" : Str))=false:=by decide)
  (he:starEach [a] X.env=(false,eval a X.env)::starEach [] X.env:=by rfl) (hpl:(backTo pos (starEach [] X.env)).any (·.1)=false:=by rfl) :
  PE X (.Call (.Name c p) [a] [] pos) (tMkX X.K c fld t):=by
 intro pins s σ H Q I h
 refine wpAny_Call_Name_kw (ld_glob I hg G.m ?_ hdb)
 refine W.callWith_K (h₀:=X.base) I.ok.mod.kin G.kp (thn (ha pos pins s σ H _ I h) fun us s1 ⟨vs,H1,I1,r,v,C',M',ev,rf',nf',q⟩=>⟨I1.kIn,?_⟩) he hpl
 obtain ⟨rfl,rfl⟩:=G.rf.one rf'
 subst ev
 cases r with
 | cons ru r2 =>
  cases r2
  exact run_mkx G hr I1 ru q
end
def CXe (P:Program) (w:World):CXT:=fun outer H s E ev s'=>∃ e C od H' o vs,ev = .ref e/\s'.os=s.os/\AllBare s'.gens/\Un (frs outer) [] H H' s.heap s'.heap/\HOk P w H' s'.heap/\H' e=some (ExA e C od) /\
 s'.heap.get? e=some o/\o.data = .fields vs/\Quiet s'.heap vs/\E (.ref e) od H'
theorem passX0 {P:Program}{w:World}{X:Cx}:Passes (CXe P w) X E0:=fun _ _ _ _ _ _ _ h=>by
 obtain ⟨_,_,_,_,_,_,_,_,_,_,_,_,_,_,_,z⟩:=h
 exact z.elim
def Leaves (X:Cx) (E:XK):Prop:=∀ (pins:List (Addr×Obj)) (σ:St) (H:Hp) (s:Shared) (e C:Addr) (od:Option Addr) (o:Obj) (vs:Array Value) (φ:Heap->Prop),Inv X pins σ H s->H e=some (.ext φ)->s.heap.get? e=some o ->
 o.cls = .ref C->o.dict=od->o.data = .fields vs->Quiet s.heap vs->E (.ref e) od (upd H e (ExA e C od))->X.xe (.ref e) s
section
variable {P:Program}{w:World}{H:Hp}{h h':Heap}{e C T:Addr}{od:Option Addr}{o:Obj}{vs:Array Value}{fs:List Addr}{φ:Heap->Prop}
theorem noted_un (N:Noted fs e o T h h') (hE:H e=some (.ext φ)):Un fs [] H (upd H e (ExA e C od)) h h':=by
 have ne:∀ b,H b=none->b≠e:=fun b z q=>by rw [q,hE] at z;cases z
 have nE:∀ (b:Addr) (ob:HO),H b=some ob->(∀ φ,ob ≠ .ext φ)->b≠e:=fun b ob z k q=>by rw [q,hE] at z;cases z;exact k _ rfl
 refine ⟨fun b ob z n hb _=>N.keep b ob (ne b n) hb z,fun b ob z n _ _=>N.slot b ob (ne b n) z,fun b ob z n _=>by rw [upd_ne (ne b n)];exact n,fun b ob z _=>?_,
  fun b xs z=>by rw [upd_ne (nE b _ z fun φ w=>by cases w)];exact z,fun b o' u' z=>by rw [upd_ne (nE b _ z fun φ w=>by cases w)];exact z,
  fun b ps z=>⟨#[],by rw [upd_ne (nE b _ z fun φ w=>by cases w),z];simp⟩⟩
 by_cases hb:b=e
 .subst hb;exact ⟨_,N.exc⟩
 .obtain ⟨sl,q⟩:=N.slot b ob hb z;exact ⟨_,q⟩
theorem noted_ok (N:Noted fs e o T h h') (hE:H e=some (.ext φ)) (ok:HOk P w H h) (hf:∀ b∈fs,H b=none) (hc:o.cls = .ref C) (hd:o.dict=od) (hdat:o.data = .fields vs):HOk P w (upd H e (ExA e C od)) h':=by
 have nE:∀ (b:Addr) (ob:HO),H b=some ob->(∀ φ,ob ≠ .ext φ)->b≠e:=fun b ob z k q=>by rw [q,hE] at z;cases z;exact k _ rfl
 have nf:∀ b ob,H b=some ob->b∉fs:=fun b ob z q=>by rw [hf b q] at z;cases z
 intro b u z
 by_cases hb:b=e
 .subst hb
  rw [upd_same] at z
  cases z
  refine exA_ok N.exc ?_ ?_ (Obj.data_mapFields hdat _)
  .rw [Obj.cls_mapFields];exact hc
  .obtain ⟨_,_,dt,_⟩:=o;cases dt <;> exact hd
 .rw [upd_ne hb] at z
  refine (ok b u z).stay (fun c' v' hc r=>N.keep c' v' ?_ ?_ r) (fun c' r=>?_) fun c' xs r=>?_
  .rcases hc with rfl|hc
   .exact hb
   .exact nE c' _ hc fun φ w=>by cases w
  .rcases hc with rfl|hc
   .exact nf _ _ z
   .exact nf _ _ hc
  .rw [upd_ne (nE c' _ r fun φ w=>by cases w)];exact r
  .rw [upd_ne (nE c' _ r fun φ w=>by cases w)];exact r
theorem noted_quiet (N:Noted fs e o T h h') (hdat:o.data = .fields vs) (hz:1<vs.size):∃ o' vs',h'.get? e=some o'/\o'.data = .fields vs'/\vs'[1]?=some (.ref T)/\Quiet h' vs':=by
 obtain ⟨oT,ts,h1,h2,h3⟩:=N.ent
 have q:(vs.setIfInBounds 1 (az T))[1]?=some (.ref T):=by simp [hz]
 exact ⟨_,_,N.exc,Obj.data_mapFields hdat _,q,.inr ⟨T,oT,ts,q,h1,h2,h3⟩⟩
theorem quiet_size (q:Quiet h vs):1<vs.size:=by
 rcases q with q|⟨_,_,_,q,_⟩ <;> exact (aC.mp q).1
end
section
variable {P:Program}{w:World}{K:Frag}{mg:Str->Option Value}{base:Heap}{N:List Str}{qual:Str}{scope:Scope}{f:Addr}{cd:Value}{A:Around}{outer:List Env}{s:Shared}{H:Hp}{E:XK}
theorem leaves_cx:Leaves (cxOf (CXe P w) P w K mg base N qual scope f cd A outer s H E) E:=by
 intro pins σ H1 s1 e C od o vs φ I hE ho hc hd hdat hq he
 show wpAny (model P w) (A.deeper (envOfC qual scope s.heap.objs.size f cd)) (leaving (envOfC qual scope s.heap.objs.size f cd) (.ref e)) _ _ s1
 have fr:(A.deeper (envOfC qual scope s.heap.objs.size f cd)).frames=some (envOfC qual scope s.heap.objs.size f cd::outer):=I.ok.frames
 have st:s1.heap.FunFrames base (envOfC qual scope s.heap.objs.size f cd::outer):=I.stack
 refine leave fr st rfl ho hdat hq fun h' T Nt=>?_
 have free:∀ b∈(envOfC qual scope s.heap.objs.size f cd::outer).filterMap (·.frame),H1 b=none:=I.stkFree
 have un:=noted_un (C:=C) (od:=od) Nt hE
 have ok:=noted_ok (P:=P) (w:=w) Nt hE I.hok free hc hd hdat
 obtain ⟨o',vs',g1,g2,g3,g4⟩:=noted_quiet Nt hdat (quiet_size hq)
 have B:Un (frs outer) [] H H1 s.heap s1.heap:=I.base
 have nL:∀ b ob,s.heap.get? b=some ob->b∉frs outer->b∉(envOfC qual scope s.heap.objs.size f cd::outer).filterMap (·.frame):=fun b ob z nb m=>by
  rcases ai.mp (show b∈s.heap.objs.size::frs outer from m) with q|q
  .rw [q] at z;exact absurd (ah z) (bR _)
  .exact nb q
 refine ⟨e,C,od,upd H1 e (ExA e C od),o',vs',rfl,I.os,I.bare,⟨fun b ob z n hb hx=>un.keep b ob (B.keep b ob z n hb hx) (B.free b ob z n hx) (nL b ob z hb) hx,fun b ob z n hb hx=>?_,fun b ob z n hx=>?_,fun b ob z hx=>?_,fun b xs z=>un.tups b xs (B.tups b xs z),fun b o1 u1 z=>un.frzs b o1 u1 (B.frzs b o1 u1 z),fun b ps z=>?_⟩,ok,upd_same,g1,g2,g4,he⟩
 .obtain ⟨sl,q⟩:=B.slot b ob z n hb hx
  obtain ⟨sl',q'⟩:=un.any q (B.free b ob z n hx) hx
  exact ⟨sl',q'⟩
 .obtain ⟨o1,q⟩:=B.there b ob z hx
  exact un.free b o1 q (B.free b ob z n hx) hx
 .obtain ⟨o1,q⟩:=B.there b ob z hx
  exact un.there b o1 q hx
 .obtain ⟨m1,e1⟩:=B.tbls b ps z
  obtain ⟨m2,e2⟩:=un.tbls b _ e1
  exact ⟨m1++m2,by rw [e2,gg]⟩
theorem passes_cx:Passes (CXe P w) (cxOf (CXe P w) P w K mg base N qual scope f cd A outer s H E) E:=by
 intro pins σ H1 s1 ev s2 I h
 obtain ⟨e,C,od,H',o,vs,rfl,os,bare,un,hok,hA,ho,hd,hq,hE⟩:=h
 have I':=I.call' os un hok bare (fun b z=>nomatch z)
 obtain ⟨o',vs',a1,a2,a3,a4⟩:=exA_get hok hA
 rw [ho] at a1
 cases a1
 exact leaves_cx pins σ H' s2 e C od o vs _ I' hA ho a2 a3 hd hq (by rw [upd_self hA];exact hE)
theorem okX {x:Str}{st:Stmt}{fd:FuncData}{ps:List Str}{k:Nat}{sp:Sp}(F:Fun K x qual st f fd) (S:FnScope N ps (defScope st)) (len:∀ vs H Q E,sp vs H Q E->vs.length=ps.length)
  (hbody:∀ (cdv:Value) (A:Around) (outer:List Env) (s:Shared) (H:Hp) (vs:List V) (Q:VK) (E:XK),Room k (A.deeper (envOfC qual (defScope st) s.heap.objs.size f cdv))->sp vs H Q E ->
   ∃ t,PSs (cxOf (CXe P w) P w K mg base N qual (defScope st) f cdv A outer s H E) (defBody st) t/\t { nx:=fun _ H'=>Q .non H',rt:=Q } (start N vs) H):FnOk P w K mg base (CXe P w) (k+1) f fd ps sp:=by
 obtain ⟨oc,od,kV,doc,pm,an,cdv,ct,osl,rfl,lk,hcd⟩:=F.ex
 exact fn_of lk hcd S len fun A outer s H vs Q E hr hsp=>hbody cdv A outer s H vs Q E hr hsp
end
section
variable {X:Cx}{E:XK}{c:Str}{C M:Addr}{e:Expr}{te:TE}{pos:Pos}
def tRs (E:XK) (C:Addr) (te:TE):TS:=fun _ σ H=>te σ H fun v H1=>∃ e od,v = .ref e/\H1 e=some (ExN e C od)/\E (.ref e) od (upd H1 e (ExA e C od))
theorem ps_raise (rf:Ref X.K c C M) (hl:Leaves X E) (hc:X.calm=true) (he:PE X e te):PS X (.Raise (some e) none pos) (tRs E C te):=by
 intro pins s σ H D I h
 obtain ⟨⟨N,q',bs,sn,sub,ab,col,dd,k0,k1,k2,k3,k5,hC⟩,_,T⟩:=xc_of rf.xc
 rw [arm_exec_Raise]
 simp only [evalOpt,Option.map]
 refine wpAny_bind (wpAny_standAt (raise_made (C:=C) (nm:=c) (q:=q') (N:=N) (bs:=bs) (bm:=.ref M::VEm) (hdct:=true) (sn:=sn) (sub:=sub) (ab:=ab) (col:=col) (dd:=dd) (k0:=k0) (k1:=k1) (k2:=k2) (k3:=k3) (k5:=k5) (newId := "ValueError.__new__") (by rw [cZ,show VEm.contains (dE "BaseException")=true by decide,eO]) (I.ok.hd hc)
  (wpAny_bind (wpAny_mono (he pins s σ H _ I h) (fun v s3 h3=>wpAny_bind (wpAny_standAt (wpAny_pure ?_))) fun _ _ x=>x))))
 obtain ⟨v',H1,I1,r,ev,od,rfl,hx,hE⟩:=h3
 obtain rfl:v=az ev:=r
 obtain ⟨t0,ho⟩:=exN_get I1.hok hx
 exact ⟨ev,t0,od,rfl,I1.kIn _ _ hC,ho,hl pins σ H1 s3 ev C od _ _ _ I1 hx ho rfl rfl rfl (.inl rfl) hE⟩
end
structure FnX (P:Program) (w:World) (K:Frag) (mg:Str->Option Value) (base:Heap) (k:Nat) (x:Str) (st:Stmt) (ps:List Str) (sp:Sp) (f:Addr) (fd:FuncData):Prop where
 D:Def K mg x st ps f fd
 ok:FnOk P w K mg base (CXe P w) k f fd ps sp
abbrev XH:=Addr->Addr->Option Addr->Ends->St->Hp->Prop
section
variable {X:Cx}
theorem kv_get {kvs:List (Key×V)}{vs:List (Key×Value)}(r:KV kvs vs):∀ {i:Nat}{p:Key×V},kvs[i]?=some p->∃ u,vs[i]?=some (p.1,u)/\RelV p.2 u:=by
 induction r with
 | nil=>intro i p h;simp at h
 | @cons a b _ _ r t ih =>
  intro i p h
  cases i with
  | zero=>simp at h;subst h;exact ⟨b.2,by simp [r.1],r.2⟩
  | succ i=>obtain ⟨u,g1,g2⟩:=ih (by simpa using h);exact ⟨u,by simpa using g1,g2⟩
end
end Xe
namespace Xe
open PySem
section
variable {prog:Program}{w:World}{A:Around}{E:Value->Shared->Prop}{h:Heap}{g:Array GenState}{d:Drawn}{t:Nat}{os:OsState}
variable {nm q:Str}{C N:Addr}{bs bm:List Value}{hdct:Bool}{sn:List Str}{sub:List Value}{ab:Bool}{col:Option Bool}{dd:Option Addr}{k0 k1 k2 k3 k5:Option Value}
theorem type_call_plain (T:OwnTail h VEm bm) {rest:List Value}{Q:Fin->Shared->Prop}
  (hC:h.get? C=some (excClassObj nm q C N bs bm hdct sn sub ab col dd k0 k1 k2 k3 k5 "ValueError.__new__"))
  (hi:Lk (model prog w) h (typeLookup (.ref C) "__init__") (some (.builtin "ValueError.__init__")))
  (hq:∀ h' e,eT h h' e (.ref C) rest->h.objs.size<=e->Q (.done (.ret (.ref e))) ⟨h',g,d,t,os⟩) (hrest:rest.length<=sizeLine) :
  wpAny (model prog w) A (Builtin.«type.__call__» ⟨.ref C::rest,[]⟩) Q E ⟨h,g,d,t,os⟩:=by
 have F:=dB
 repeat (first|with_reducible refine wpAny_loadPart_at hC ?_|with_reducible refine wpAny_madeBy_exc hC ?_|wp_step)
 refine codeAny_call_builtin_code (Code.quiet_builtin _ F.quiet) (wpAny_check_new_subT F T hC ?_)
 refine codeAny_exc_new_subT F T hC ?_ hrest
 show wpAny _ _ _ _ _ _
 have hC₁:=ae { cls:=.ref C,data:=.fields #[.ref h.objs.size,.none,.none,.none,.bool false,.none] }
  (ae { cls:=.type "tuple", data:=.seq rest.toArray } hC)
 have hget:((h.push { cls:=.type "tuple", data:=.seq rest.toArray }).push
   { cls:=.ref C,data:=.fields #[.ref h.objs.size,.none,.none,.none,.bool false,.none] }).get? (h.objs.size+1)=some
   { cls:=.ref C,data:=.fields #[.ref h.objs.size,.none,.none,.none,.bool false,.none] }:=by heap_get
 have hcC:(az C::bm).contains (.ref C)=true:=by simp
 have kk:∀ b o,h.get? b=some o->((h.push { cls:=.type "tuple", data:=.seq rest.toArray }).push { cls:=.ref C,data:=.fields #[.ref h.objs.size,.none,.none,.none,.bool false,.none] }).get? b=some o:=fun b o e=>ae _ (ae _ e)
 have T₁:=T.keeps (h':=(h.push { cls:=.type "tuple", data:=.seq rest.toArray }).push { cls:=.ref C,data:=.fields #[.ref h.objs.size,.none,.none,.none,.bool false,.none] })
  fun b o e=>ae _ (ae _ e)
 unfold isInstance
 repeat (first|with_reducible refine wpAny_loadPart_at hget ?_|(with_reducible refine wpAny_isSubtype_exc hC₁ ?_;rw [hcC])|wp_step)
 show wpAny _ _ (typeLookup (.ref C) _) _ _ _
 refine hi _ _ _ _ kk ?_
 refine wpAny_holding (wpAny_bind (wpAny_of_eq (F.init.bind _) ?_))
 refine wpAny_bind (wpAny_call (codeAny_call_builtin F.init.plain F.initEntry (wpAny_check_init_subT F T₁ hC₁ hget rfl ?_)))
 wp_walk
 refine hq _ _ ⟨fun b o hb=>?_,bT (bA _),h.objs.size+2,?_,bT (by lia),?_⟩ (bA _)
 .rw [bz _ _ (cC (bW (ah hb)))]
  exact ae _ (ae _ (ae _ hb))
 .rw [cv _ (ae _ hget) rfl]
  simp only [dU]
  rfl
 .rw [bz _ _ (show h.objs.size+1≠h.objs.size+2 by lia)]
  exact fc (by simp only [dU]) rfl
theorem call_plain (T:OwnTail h VEm bm) {rest:List Value}{Q:Value->Shared->Prop}
  (hC:h.get? C=some (excClassObj nm q C N bs bm hdct sn sub ab col dd k0 k1 k2 k3 k5 "ValueError.__new__"))
  (hi:Lk (model prog w) h (typeLookup (.ref C) "__init__") (some (.builtin "ValueError.__init__")))
  (hq:∀ h' e,eT h h' e (.ref C) rest->h.objs.size<=e->Q (.ref e) ⟨h',g,d,t,os⟩) (hrest:rest.length<=sizeLine) :
  wpAny (model prog w) A (call (.ref C) rest) Q E ⟨h,g,d,t,os⟩:=by
 have f1:=tc_lookup
 have f2:=tc_bind (.ref C)
 have hT:(⟨h,g,d,t,os⟩:Shared).TypeIs (.ref C) "type" := ⟨_,hC,rfl⟩
 refine wpAny_call (codeAny_of_tree ?_)
 show wpAny _ _ (callAny (.ref C) _) _ _ _
 repeat (any_goals (first|assumption|with_reducible refine wpAny_loadPart_at hC ?_|wp_step))
 refine ⟨rfl,?_⟩
 refine codeAny_call_builtin_at (Code.quiet_builtin _ (by decide +kernel)) entry_typeCall (wpAny_check_type_call_sub hC (type_call_plain (hrest:=hrest) T hC hi fun h' e hm hs=>?_))
 exact hq h' e hm hs
end
end Xe
namespace Xe
open PySem PySem.Spec PySem.W PyProof.Rows L2 Mr
def tMk0 (K:Frag) (c:Str):TE:=fun _ H Q=>∃ C M,Ref K c C M/\∀ e,H e=none->Q (.ref e) (upd H e (ExN e C none))
structure Ini0 (K:Frag) (mg:Str->Option Value) (c:Str) (C M:Addr):Prop where
 rf:Ref K c C M
 ini:findIn K (.ref C) "__init__" = some (some (.builtin "ValueError.__init__"))
 kp:keepIn K (.ref C)=true
 m:mg c=some (.ref C)
section
variable {X:Cx}{c:Str}{C M:Addr}{p pos:Pos}
theorem pe_mk0 (G:Ini0 X.K X.mg c C M) (hg:Gl X c:=by rfl) (hdb:(c == ("__debug__" : Str))=false:=by decide):PE X (.Call (.Name c p) [] [] pos) (tMk0 X.K c):=by
 intro pins s σ H Q I h
 refine wpAny_Call_Name_kw (ld_glob I hg G.m ?_ hdb)
 refine W.callWith_K0 I.kIn G.kp ?_
 obtain ⟨C',M',rf',q⟩:=h
 obtain ⟨rfl,rfl⟩:=G.rf.one rf'
 obtain ⟨⟨N,q',bs,sn,sub,ab,col,dd,k0,k1,k2,k3,k5,hC⟩,_,T⟩:=xc_of G.rf.xc
 obtain ⟨hh,g,d,tk,os⟩:=s
 refine call_plain (rest:=[]) (T _ I.kIn) (I.kIn _ _ hC) (looks_findIn I.kIn G.ini) (fun h' e hm hs=>?_) (by rw [sizeLine_eq];simp)
 obtain ⟨t0,hx,_,_⟩:=hm.there
 exact ⟨.ref e,_,I.laid (t':=tk) hm.keeps hs (exN_ok hx),rfl,q e (I.hok.fresh hs)⟩
end
end Xe
namespace Xe
open PySem
end Xe
namespace Xe
open PySem PySem.Spec PySem.W PyProof.Rows L2 Mr
end Xe
namespace PySem.SCG
open PySem Builtin Builtin.Str
end PySem.SCG
namespace Mr
open PySem PySem.Spec PyProof.Rows L2
section
variable {X:Cx}
theorem bools_at:∀ {bs:List Bool}{us:List Value},Vals (bs.map V.bl) us->us=bs.map ed
 | [],us,r=>by cases r;rfl
 | b::bs,us,r=>by
  cases r with
  | cons r1 r2=>rw [bools_at r2];cases r1;rfl
theorem call_all (hc:X.calm=true):CallR X (.builtin "all") (fun xs H Q=>∃ (a:Addr) (bs:List Bool),xs=[.ref a]/\SqL X.K H a (bs.map V.bl)/\Q (.bl (bs.all id)) H):=by
 intro pins s σ H xs us Q I r h
 obtain ⟨a,bs,rfl,hS,q⟩:=h
 obtain ⟨u,rfl,ru⟩:=vals1 r
 cases ru
 obtain ⟨its,rv,p,hz⟩:=I.list hS
 obtain rfl:=bools_at rv
 have hl:=p.isList
 have hlt:a<s.heap.objs.size:=by obtain ⟨_,e,_⟩:=hl;exact ah e
 refine call_all_walk (wpAny_pyIter_list hl ?_)
 refine ⟨s.heap.objs.size,[s.heap.objs.size,a],[s.heap.objs.size],(bs.map ed).toArray.size,_,_,fun i=>(bs[i]?).getD true,rfl,Walks.list (A:=X.A.in1) (I.ok.hd hc) _ a (ay hlt) _,⟨⟨_,aQ _ rfl,rfl,rfl⟩,hl.push _⟩,fun i v s' Q' E' hP hQ=>?_,fun h' tk hk=>?_⟩
 .have e:(bs.map ed)[i]?=some v:=by simpa using hP
  rw [gMq] at e
  cases hb:bs[i]? with
  | none=>rw [hb] at e;cases e
  | some b =>
   rw [hb] at e
   cases e
   simp only [hb,fu] at hQ
   exact wpAny_truthy_bool hQ
 .have e:((bf (bs.map ed).toArray.size).all fun i=>(bs[i]?).getD true)=bs.all id:=by
   rw [ax,lMq,bx,fv,fv]
   constructor
   .intro z b hb
    obtain ⟨i,hi,rfl⟩:=List.getElem_of_mem hb
    have:=z i (cj.mpr hi)
    simpa [gEg hi] using this
   .intro z i hi
    have hi':=cj.mp hi
    have:=z bs[i] (gRq hi')
    simpa [gEg hi'] using this
  rw [e]
  refine ⟨.bl _,H,I.kept (t':=tk) fun b ob z=>hk b ob (fun m=>?_) (ae _ z),rfl,q⟩
  rw [mSq.mp m] at z
  exact bR _ (ah z)
end
end Mr
namespace Mr
open PySem PyProof.Rows L2
section
variable {X:Cx}
end
end Mr
namespace Mr
open PySem L2
end Mr
namespace Mr
open PySem PySem.Calls PySem.Spec PyProof.Rows L2
end Mr
namespace MrS
open PySem PySem.W PyProof.Rows
section
variable {prog:Program}{w:World}{A:Around}{E:Value->Shared->Prop}{s:Shared}{Pk:Keyed->Prop}{lt:Keyed->Keyed->Bool}{T:String}{r d:Addr}{n:Nat}{P:Nat->Value->Prop}{OK:Heap->Prop}
theorem collect_src {Q:List Value->Shared->Prop}(K:KdlSrc prog w T r d n P OK) (hh:A.handled=none) (hok:OK s.heap) (hn:n<=sizeLine)
  (h:∀ h' tk (acc:Array Value),(∀ b o,s.heap.get? b=some o->h'.get? b=some o)->s.heap.objs.size<h'.objs.size->ItemsOf P acc n->Q acc.toList { s with heap:=h',toks:=tk }) :
  wpAny (model prog w) A (collect (.ref r)) Q E s:=by
 unfold collect
 refine wpAny_bind (wpAny_runValue (codeAny_builtin entry_proto_collect' ?_))
 show wpAny _ _ (do again (.builtin "list.__iadd__" ⟨[← newList [],.ref r],[]⟩)) _ _ s
 refine wpAny_bind (wpAny_newList (wpAny_pure ⟨Code.quiet_builtin _ (by decide +kernel),codeAny_builtin entry_list_iadd' ?_⟩))
 show wpAny _ _ (Builtin.List.listExtendWith (.ref s.heap.objs.size) (.ref r) (.ref s.heap.objs.size)) _ _ { s with heap:=s.heap.push (seqObj "list" #[] 0) }
 have hlt:=K.there _ hok
 have hS0:(s.heap.push (seqObj "list" #[] 0)).get? s.heap.objs.size=some (seqObj "list" #[] 0):=aQ _ rfl
 refine kdl_extend (A:=A) (R:=fun r s'=>match r with
   | .ok (.ret v)=>wpAny (model prog w) A (match v with
    | .ref a=>do
     let o ← load a
     match o.data with
     | .seq xs _=>pure xs.toList
     | _=>unsupported "internal:collect"
    | _=>unsupported "internal:collect") Q E s'
   | .ok _=>False
   | .error e=>E e s') (s:={ s with heap:=s.heap.push (seqObj "list" #[] 0) }) K hh (K.keep _ _ hok fun b _ o e=>ae _ e) s.heap.objs.size (cC hlt.1) (cC hlt.2) (.ref s.heap.objs.size) 0 hS0 (fun h' tk acc c hk hS hi=>?_) hn
 show wpAny (model prog w) A (do
   let o ← load s.heap.objs.size
   match o.data with
   | .seq xs _=>pure xs.toList
   | _=>unsupported "internal:collect") Q E { s with heap:=h',toks:=tk }
 refine wpAny_bind (wpAny_load hS ?_)
 exact wpAny_pure (h h' tk acc (fun b o e=>hk b o (ay (ah e)) (ae _ e)) (ah hS) hi)
theorem sorted_src {Q:Value->Shared->Prop}(K:KdlSrc prog w T r d n P OK) (hh:A.handled=none) (hok:OK s.heap) (hn:n<=sizeLine)
  (hC:∀ (vs:List Value),vs.length=n->(∀ j v,vs[j]?=some v->P j v)->∀ s':Shared,(2<=vs.length->∀ Q:SortKind->Shared->Prop,Q oneType' s'->wpAny (model prog w) A.in1.in1 (keyKind' vs.toArray) Q E s')/\Cmp prog w A.in1.in1 s' oneType' Pk lt/\∀ v∈vs,Pk (v,v))
  (h:∀ (vs out:List Value) (h':Heap) (p:Addr) (tk n':Nat),vs.length=n->(∀ j v,vs[j]?=some v->P j v)->out.Perm vs->out.Pairwise (fun x y=>lt (y,y) (x,x)=false)->(∀ b o,s.heap.get? b=some o->h'.get? b=some o)->s.heap.objs.size<=p ->
   h'.get? p=some (seqObj "list" out.toArray n')->Q (.ref p) { s with heap:=h',toks:=tk }) :
  wpAny (model prog w) A (call (.builtin "sorted") [.ref r]) Q E s:=by
 refine Calls.call_function_entry kind_sorted plain_sorted entry_sorted (args_sorted1 _) ?_
 unfold Builtin.«sorted»
 refine wpAny_bind (m:=checkCount "sorted" 1 1 _) (wpAny_pure ?_)
 refine wpAny_bind (collect_src K hh hok hn fun h0 tk acc hk0 hsz0 hi=>?_)
 have hl:acc.toList.length=n:=by rw [ao];exact hi.1
 have hP:∀ j v,acc.toList[j]?=some v->P j v:=fun j v e=>hi.2 j v (by rw [← aA];exact e)
 have hs:acc.toList.length<=sizeLine:=by rw [hl];exact hn
 generalize acc.toList=vs at hl hP hs
 refine wpAny_bind (wpAny_newList ?_ hs)
 have hoL:(h0.push (seqObj "list" vs.toArray 0)).get? h0.objs.size=some (seqObj "list" vs.toArray 0):=aQ _ rfl
 show wpAny _ _ _ _ _ { s with heap:=h0.push (seqObj "list" vs.toArray 0),toks:=tk }
 have hsz:s.heap.objs.size<=h0.objs.size:=bX hsz0
 have k1:∀ b o,s.heap.get? b=some o->(h0.push (seqObj "list" vs.toArray 0)).get? b=some o:=fun b o e=>ae _ (hk0 b o e)
 have hlt:∀ b o,s.heap.get? b=some o->b≠h0.objs.size:=fun b o e=>ay (ah (hk0 b o e))
 generalize h0.push (seqObj "list" vs.toArray 0)=G at hoL k1 ⊢
 clear hsz0
 generalize h0.objs.size=p at hoL hsz hlt ⊢
 have k2:∀ b o,s.heap.get? b=some o->(midHeap G p vs).get? b=some o:=fun b o e=>by
  refine ae _ (ae _ ?_)
  rw [bQ _ _ _ _ (hlt b o e)]
  exact k1 b o e
 obtain ⟨q1,q2,q3⟩:=hC vs hl hP { s with heap:=midHeap G p vs,toks:=tk }
 refine wpAny_bind (wpAny_holding (wpAny_call_entry slot_list_sort ⟨_,hoL,rfl⟩ entry_list_sort (list_sort_gen (s:={ s with heap:=G,toks:=tk }) (Pk:=Pk) (lt:=lt) hoL hs q1 q2 (fun x hx=>?_) fun xs a1 a2=>⟨_,rfl,?_⟩) (args_list_sort _)))
 .obtain ⟨m1,m2⟩:=pairsOf_mem hx
  have:x=(x.1,x.1):=gK rfl m2
  rw [this]
  exact q3 _ m1
 .obtain ⟨v1,v2⟩:=sorted_vals a1 a2
  obtain ⟨e1,ho1⟩:=mid_get vs hoL
  obtain ⟨n1,g1⟩:=end_get (xs.map (·.2)) ho1
  refine wpAny_pure ⟨_,rfl,h vs _ (sortedHeap G p vs (xs.map (·.2))) p tk n1 hl hP v1 v2 (fun b o e=>?_) hsz ?_⟩
  .unfold sortedHeap
   rw [bQ _ _ _ _ (hlt b o e)]
   exact k2 b o e
  .rw [show (xs.map (·.2)).toList.toArray=xs.map (·.2) from fT]
   exact g1
end
end MrS
namespace Mr
open PySem PySem.W PySem.Spec PyProof.Rows L2
section
variable {X:Cx}
theorem ints_at:∀ {us:List Value}{ns:List Int},us.length=ns.length->(∀ (j:Nat) (v:Value) (n:Int),us[j]?=some v->ns[j]?=some n->∃ t,v=eY n t)->IntsAre us ns
 | [],[],_,_=>.nil
 | [],_::_,h,_=>by simp at h
 | _::_,[],h,_=>by simp at h
 | u::us,n::ns,h,g=>by
  obtain ⟨t,rfl⟩:=g 0 u n rfl rfl
  exact .cons n t (ints_at (by simpa using h) fun j v m e1 e2=>g (j+1) v m (by simpa using e1) (by simpa using e2))
theorem kv_keys:∀ {kvs:List (Key×V)}{ws:List (Key×Value)},KV kvs ws->kvs.map (·.1)=ws.map (·.1):=fun {kvs ws} r=>by
 induction r with
 | nil=>rfl
 | cons a b ih=>rw [aq,aq,ih,a.1]
theorem call_sortedD (hc:X.calm=true):CallR X (.builtin "sorted") (fun xs H Q=>∃ (a:Addr) (kvs:List (Key×V)) (ns:List Int),xs=[.ref a]/\H a=some (.dK kvs)/\kvs.map (·.1)=ns.map aO/\∀ p,H p=none->Q (.ref p) (upd H p (.lst ((srtI ns).map V.int)))):=by
 intro pins s σ H xs us Q I r h
 obtain ⟨a,kvs,ns,rfl,ha,hk,q⟩:=h
 obtain ⟨u,rfl,ru⟩:=vals1 r
 cases ru
 obtain ⟨hz,sa,vs,kv,d⟩:=(show ObjOk X.prog X.w H s.heap a (.dK kvs) from I.hok a _ ha)
 obtain ⟨ep,da⟩:=d.dictAt
 have hl:=Paired.length kv
 have hlen:ns.length=vs.length:=by
  have:=congrArg bY hk
  rw [lMq,lMq] at this
  rw [← this,hl]
 have hkv:vs.map (·.1)=ns.map aO:=by rw [← kv_keys kv,hk]
 have hI:∀ us:List Value,us.length=vs.length->(∀ (j:Nat) (v:Value),us[j]?=some v->∃ k x,vs[j]?=some (k,x)/\(mixKind X.prog X.w).is k v=true)->IntsAre us ns:=fun us h1 h2=>ints_at (by rw [h1,hlen]) fun j v m e1 e2=>by
  obtain ⟨k,x,g1,g2⟩:=h2 j v e1
  have e3:(vs.map (·.1))[j]?=some k:=by rw [gMq,g1];rfl
  rw [hkv,gMq,e2] at e3
  have e4:(aO m:Key)=k:=by simpa using e3
  subst e4
  rcases keyIs_shape (k:=aO m) (v:=v) g2 with ⟨i,t,e5,e6⟩|⟨z,t,e5,_⟩
  .cases e5
   exact ⟨t,e6⟩
  .cases e5
 refine MrS.sorted_src (kdl_dict (knd:=mixKind X.prog X.w) (d:=a) (kvs:=vs) (ep:=ep) sa) (I.ok.hd hc) da (by rw [← hl];exact hz) (Pk:=fun x:Keyed=>∃ a t,x.1=eY a t) (lt:=ltI) (fun us h1 h2 s'=>⟨fun h3 Q q=>?_,cmpI _ _ _ _,fun v m=>(ints_of (hI us h1 h2)).2 v m⟩) fun us out h' p tk n' h1 h2 o1 o2 o3 op o4=>?_
 .have hi:=hI us h1 h2
  match us,hi,h3 with
  | [],_,h3=>simp at h3
  | [_],_,h3=>simp at h3
  | v₁::v₂::rest,hi,_ =>
   rw [keyKind_ints hi]
   exact wpAny_pure q
 .obtain ⟨en,hv⟩:=ints_of (hI us h1 h2)
  have ho:∀ v∈out,∃ a t,v = .int a t:=fun v m=>hv v (o1.mem_iff.mp m)
  have e:out.map intOf=srtI ns:=by
   refine eq_srtI (by rw [en];exact o1.map _) ?_
   rw [aY]
   refine o2.imp_of_mem fun {x y} mx my h=>?_
   obtain ⟨a,t,rfl⟩:=ho x mx
   obtain ⟨b,u,rfl⟩:=ho y my
   have h':¬ b<a:=of_decide_eq_false h
   show a<=b
   omega
  have hp:H p=none:=I.hok.fresh op
  refine ⟨.ref p,_,I.laid (t':=tk) o3 op (show ObjOk X.prog X.w _ h' _ (.lst ((srtI ns).map V.int)) from ⟨?_,out,n',?_,o4⟩),rfl,q _ hp⟩
  .rw [lMq,(srtI_perm ns).length_eq,hlen,← hl]
   exact hz
  .rw [← e]
   exact vals_ints ho
end
end Mr
namespace Z
open PySem L2 Mr
abbrev St:=L2.St
inductive D where
 | non|bl (b:Bool)|int (i:Int)|str (x:Str)|ty (n:String)|list (xs:List D)|tup (xs:List D)|dict (kvs:List (Key×D))|scr (ns:List Int)|exc (c:Str) (fs:List (Str×Int))|cls (c:Str)|fd (kvs:List (Key×D))|ins (c:Str) (fs:List (Str×D))
inductive Rep (K:W.Frag) (H:Hp):D->V->Prop
 | non:Rep K H .non .non
 | bl {b:Bool}:Rep K H (.bl b) (.bl b)
 | int {i:Int}:Rep K H (.int i) (.int i)
 | str {x:Str}:Rep K H (.str x) (.str x)
 | ty {n:String}:Rep K H (.ty n) (.ty n)
 | list {p:Addr}{vs:List V}{ds:List D}(h:H p=some (.lst vs)) (l:ds.length=vs.length) (e:∀ (i:Nat) (d:D) (v:V),ds[i]?=some d->vs[i]?=some v->Rep K H d v):Rep K H (.list ds) (.ref p)
 | tup {p:Addr}{vs:List V}{ds:List D}(h:H p=some (.tup vs)) (l:ds.length=vs.length) (e:∀ (i:Nat) (d:D) (v:V),ds[i]?=some d->vs[i]?=some v->Rep K H d v):Rep K H (.tup ds) (.ref p)
 | dict {p:Addr}{kvs:List (Key×V)}{ds:List (Key×D)}(h:H p=some (.dK kvs)) (l:ds.map (·.1)=kvs.map (·.1)) (e:∀ (i:Nat) (d:Key×D) (v:Key×V),ds[i]?=some d->kvs[i]?=some v->Rep K H d.2 v.2):Rep K H (.dict ds) (.ref p)
 | scr {p:Addr}{ns:List Int}(h:SqL K H p (ns.map V.int)):Rep K H (.scr ns) (.ref p)
 | exc {c:Str}{fs:List (Str×Int)}{e C M dx:Addr}(rf:Xe.Ref K c C M) (nf:∀ p∈fs,W.findIn K (.ref C) p.1=some none) (h:H e=some (Xe.ExA e C (some dx))) (hx:H dx=some (.xd (fs.map fun p=>(p.1,V.int p.2)))):Rep K H (.exc c fs) (.ref e)
 | exc0 {c:Str}{e C M:Addr}(rf:Xe.Ref K c C M) (h:H e=some (Xe.ExA e C none)):Rep K H (.exc c []) (.ref e)
 | cls {c:Str}{C:Addr}(h:Xe.IsC K c C):Rep K H (.cls c) (.ref C)
 | fd {p:Addr}{o:Obj}{kvs:List (Key×V)}{ds:List (Key×D)}(h:H p=some (.frz o (.dK kvs))) (l:ds.map (·.1)=kvs.map (·.1)) (e:∀ (i:Nat) (d:Key×D) (v:Key×V),ds[i]?=some d->kvs[i]?=some v->Rep K H d.2 v.2):Rep K H (.fd ds) (.ref p)
 | ins {c:Str}{a C dx:Addr}{gs:List (Str×V)}{fs:List (Str×D)}(rf:W.nsIn K mainGlobals c=some (some (.ref C))) (h:H a=some (.ins C dx gs)) (l:fs.map (·.1)=gs.map (·.1)) (e:∀ (i:Nat) (d:Str×D) (v:Str×V),fs[i]?=some d->gs[i]?=some v->Rep K H d.2 v.2):Rep K H (.ins c fs) (.ref a)
def Reps (K:W.Frag) (H:Hp) (ds:List D) (vs:List V):Prop:=ds.length=vs.length/\∀ (i:Nat) (d:D) (v:V),ds[i]?=some d->vs[i]?=some v->Rep K H d v
def RepKs (K:W.Frag) (H:Hp) (ds:List (Key×D)) (kvs:List (Key×V)):Prop:=ds.map (·.1)=kvs.map (·.1)/\∀ (i:Nat) (d:Key×D) (v:Key×V),ds[i]?=some d->kvs[i]?=some v->Rep K H d.2 v.2
section
variable {K:W.Frag}{H H':Hp}
theorem Rep.mono {d:D}{v:V}(h:Rep K H d v) (s:Same H H'):Rep K H' d v:=by
 induction h with
 | non=>exact .non
 | bl=>exact .bl
 | int=>exact .int
 | str=>exact .str
 | ty=>exact .ty
 | list h l _ ih=>exact .list (s _ _ h) l ih
 | tup h l _ ih=>exact .tup (s _ _ h) l ih
 | dict h l _ ih=>exact .dict (s _ _ h) l ih
 | scr h=>exact .scr (s.seq h)
 | exc rf nf h hx=>exact .exc rf nf (s _ _ h) (s _ _ hx)
 | exc0 rf h=>exact .exc0 rf (s _ _ h)
 | cls h=>exact .cls h
 | fd h l _ ih=>exact .fd (s _ _ h) l ih
 | ins rf h l _ ih=>exact .ins rf (s _ _ h) l ih
theorem Reps.mono {ds:List D}{vs:List V}(h:Reps K H ds vs) (s:Same H H'):Reps K H' ds vs:=⟨h.1,fun i d v a b=>(h.2 i d v a b).mono s⟩
theorem RepKs.mono {ds:List (Key×D)}{vs:List (Key×V)}(h:RepKs K H ds vs) (s:Same H H'):RepKs K H' ds vs:=⟨h.1,fun i d v a b=>(h.2 i d v a b).mono s⟩
theorem Reps.nil:Reps K H [] []:=⟨rfl,fun i d v a=>by simp at a⟩
theorem Reps.cons {d:D}{v:V}{ds:List D}{vs:List V}(h:Rep K H d v) (t:Reps K H ds vs):Reps K H (d::ds) (v::vs):=⟨by simp [t.1],fun i e w a b=>by
 cases i with
 | zero =>
  simp at a b
  subst a b
  exact h
 | succ i=>exact t.2 i e w (by simpa using a) (by simpa using b)⟩
theorem Reps.cons_iff {d:D}{v:V}{ds:List D}{vs:List V}:Reps K H (d::ds) (v::vs)↔Rep K H d v/\Reps K H ds vs :=
 ⟨fun h=>⟨h.2 0 d v rfl rfl,by have:=h.1;simpa using this,fun i e w a b=>h.2 (i+1) e w (by simpa using a) (by simpa using b)⟩,fun h=>.cons h.1 h.2⟩
theorem Reps.nil_inv {vs:List V}(h:Reps K H [] vs):vs=[]:=by
 have:=h.1
 cases vs with
 | nil=>rfl
 | cons _ _=>simp at this
theorem Reps.cons_inv {d:D}{ds:List D}{vs:List V}(h:Reps K H (d::ds) vs):∃ v ws,vs=v::ws/\Rep K H d v/\Reps K H ds ws:=by
 cases vs with
 | nil=>have:=h.1;simp at this
 | cons v ws=>exact ⟨v,ws,rfl,Reps.cons_iff.mp h⟩
theorem Reps.append:∀ {ds es:List D}{vs ws:List V},Reps K H ds vs->Reps K H es ws->Reps K H (ds++es) (vs++ws)
 | [],es,vs,ws,h,g=>by rw [h.nil_inv];exact g
 | d::ds,es,vs,ws,h,g=>by
  obtain ⟨v,us,rfl,h1,h2⟩:=h.cons_inv
  exact .cons h1 (Reps.append h2 g)
theorem Reps.take {ds:List D}{vs:List V}(h:Reps K H ds vs) (n:Nat):Reps K H (ds.take n) (vs.take n):=⟨by rw [lTq,lTq,h.1],fun i d v a b=>by
 rw [List.getElem?_take] at a b
 split at a
 .rename_i hi
  rw [if_pos hi] at b
  exact h.2 i d v a b
 .cases a⟩
theorem Reps.drop {ds:List D}{vs:List V}(h:Reps K H ds vs) (n:Nat):Reps K H (ds.drop n) (vs.drop n):=⟨by rw [aU,aU,h.1],fun i d v a b=>by
 rw [eV] at a b
 exact h.2 _ d v a b⟩
theorem Reps.get {ds:List D}{vs:List V}(h:Reps K H ds vs) {i:Nat}{d:D}(e:ds[i]?=some d):∃ v,vs[i]?=some v/\Rep K H d v:=by
 have hi:i<ds.length:=(gSq.mp e).1
 have hj:i<vs.length:=h.1 ▸ hi
 exact ⟨vs[i],gEg hj,h.2 i d _ e (gEg hj)⟩
theorem Reps.get' {ds:List D}{vs:List V}(h:Reps K H ds vs) {i:Nat}{v:V}(e:vs[i]?=some v):∃ d,ds[i]?=some d/\Rep K H d v:=by
 have hi:i<vs.length:=(gSq.mp e).1
 have hj:i<ds.length:=h.1.symm ▸ hi
 exact ⟨ds[i],gEg hj,h.2 i _ v (gEg hj) e⟩
theorem Rep.list_inv {ds:List D}{v:V}(h:Rep K H (.list ds) v):∃ p vs,v = .ref p/\H p=some (.lst vs)/\Reps K H ds vs:=by
 cases h with
 | list h l e=>exact ⟨_,_,rfl,h,l,e⟩
theorem Rep.tup_inv {ds:List D}{v:V}(h:Rep K H (.tup ds) v):∃ p vs,v = .ref p/\H p=some (.tup vs)/\Reps K H ds vs:=by
 cases h with
 | tup h l e=>exact ⟨_,_,rfl,h,l,e⟩
theorem Rep.dict_inv {ds:List (Key×D)}{v:V}(h:Rep K H (.dict ds) v):∃ p kvs,v = .ref p/\H p=some (.dK kvs)/\RepKs K H ds kvs:=by
 cases h with
 | dict h l e=>exact ⟨_,_,rfl,h,l,e⟩
theorem Rep.mk_tup {ds:List D}{p:Addr}{vs:List V}(h:H p=some (.tup vs)) (r:Reps K H ds vs):Rep K H (.tup ds) (.ref p):=.tup h r.1 r.2
theorem Rep.mk_dict {ds:List (Key×D)}{p:Addr}{vs:List (Key×V)}(h:H p=some (.dK vs)) (r:RepKs K H ds vs):Rep K H (.dict ds) (.ref p):=.dict h r.1 r.2
end
def D.scal:D->Bool
 | .non=>true
 | .bl _=>true
 | .int _=>true
 | .str _=>true
 | .ty _=>true
 | _=>false
theorem Rep.scal {K:W.Frag}{H H':Hp}{d:D}{v:V}(h:Rep K H d v) (s:d.scal=true):Rep K H' d v:=by
 cases h with
 | non=>exact .non
 | bl=>exact .bl
 | int=>exact .int
 | str=>exact .str
 | ty=>exact .ty
 | _=>cases s
inductive AV where
 | sh (d:D)|ow (avs:List AV)|owd (kvs:List (Key×D))
mutual
def strip:AV->D
 | .sh d=>d
 | .ow avs=>.list (stripL avs)
 | .owd kvs=>.dict kvs
def stripL:List AV->List D
 | []=>[]
 | a::as=>strip a::stripL as
end
theorem stripL_eq:∀ avs:List AV,stripL avs=avs.map strip
 | []=>by simp [stripL]
 | a::as=>by simp [stripL,stripL_eq as]
@[simp] theorem strip_sh (d:D):strip (.sh d)=d:=by simp [strip]
@[simp] theorem strip_ow (avs:List AV):strip (.ow avs) = .list (avs.map strip):=by simp [strip,stripL_eq]
@[simp] theorem strip_owd (kvs:List (Key×D)):strip (.owd kvs) = .dict kvs:=by simp [strip]
inductive RepA (K:W.Frag) (Hf H:Hp):AV->V->List Addr->Prop
 | sh {d:D}{v:V}(r:Rep K Hf d v):RepA K Hf H (.sh d) v []
 | ow {p:Addr}{vs:List V}{avs:List AV}{Fs:List (List Addr)}(h:H p=some (.lst vs)) (n:Hf p=none) (l:avs.length=vs.length) (lf:avs.length=Fs.length)
   (e:∀ (i:Nat) (a:AV) (v:V) (F:List Addr),avs[i]?=some a->vs[i]?=some v->Fs[i]?=some F->RepA K Hf H a v F):RepA K Hf H (.ow avs) (.ref p) (p::Fs.flatten)
 | owd {p:Addr}{kvs:List (Key×V)}{ds:List (Key×D)}(h:H p=some (.dK kvs)) (n:Hf p=none) (r:RepKs K Hf ds kvs):RepA K Hf H (.owd ds) (.ref p) [p]
section
variable {K:W.Frag}{Hf Hf' H H':Hp}{av:AV}{v:V}{F:List Addr}
theorem RepA.owned (h:RepA K Hf H av v F):∀ q∈F,H q≠none/\Hf q=none:=by
 induction h with
 | sh _=>intro q hq;cases hq
 | @ow p vs avs Fs h n l lf e ih =>
  intro q hq
  rcases ai.mp hq with rfl|hq
  .exact ⟨by rw [h];simp,n⟩
  .obtain ⟨F,hF,hq⟩:=mFq.mp hq
   obtain ⟨i,hi,rfl⟩:=bU.mp hF
   exact ih i avs[i] vs[i] Fs[i] (by simp) (by simp) (by simp) q hq
 | owd h n r =>
  intro q hq
  have:=mSq.mp hq
  subst this
  exact ⟨by rw [h];simp,n⟩
theorem RepA.keep (h:RepA K Hf H av v F) (s:Same Hf Hf') (hk:∀ q∈F,H' q=H q) (hn:∀ q∈F,Hf' q=none):RepA K Hf' H' av v F:=by
 induction h with
 | sh r=>exact .sh (r.mono s)
 | @ow p vs avs Fs h n l lf e ih =>
  refine .ow (by rw [hk p (by simp)];exact h) (hn p (by simp)) l lf fun i a v F h1 h2 h3=>ih i a v F h1 h2 h3 (fun q hq=>hk q ?_) fun q hq=>hn q ?_
  all_goals exact mCo _ (mFq.mpr ⟨F,mGq h3,hq⟩)
 | owd h n r=>exact .owd (by rw [hk _ (by simp)];exact h) (hn _ (by simp)) (r.mono s)
theorem RepA.rep (h:RepA K Hf H av v F) (s:Same Hf H):Rep K H (strip av) v:=by
 induction h with
 | sh r=>rw [strip_sh];exact r.mono s
 | @ow p vs avs Fs h n l lf e ih =>
  rw [strip_ow]
  refine .list h (by simp [l]) fun i d v h1 h2=>?_
  rw [gMq] at h1
  cases ea:avs[i]? with
  | none=>rw [ea] at h1;cases h1
  | some a =>
   rw [ea] at h1
   cases h1
   have hi:i<Fs.length:=lf ▸ (gSq.mp ea).1
   exact ih i a v Fs[i] ea h2 (gEg hi)
 | owd h n r=>rw [strip_owd];exact .mk_dict h (r.mono s)
def frz (Hf H:Hp) (F:List Addr):Hp:=fun b=>if b∈F then H b else Hf b
theorem frz_in {b:Addr}(h:b∈F):frz Hf H F b=H b:=if_pos h
theorem frz_out {b:Addr}(h:b∉F):frz Hf H F b=Hf b:=if_neg h
theorem frz_same (h:∀ q∈F,Hf q=none):Same Hf (frz Hf H F):=fun b o e=>by
 rw [frz_out fun m=>by rw [h b m] at e;cases e]
 exact e
theorem frz_sub (s:Same Hf H):Same (frz Hf H F) H:=fun b o e=>by
 by_cases m:b∈F
 .rw [frz_in m] at e;exact e
 .rw [frz_out m] at e;exact s b o e
theorem RepA.frozen (h:RepA K Hf H av v F) (s:Same Hf Hf') (hk:∀ q∈F,Hf' q=H q):Rep K Hf' (strip av) v:=by
 induction h with
 | sh r=>rw [strip_sh];exact r.mono s
 | @ow p vs avs Fs h n l lf e ih =>
  rw [strip_ow]
  refine .list (by rw [hk p (by simp)];exact h) (by simp [l]) fun i d v h1 h2=>?_
  rw [gMq] at h1
  cases ea:avs[i]? with
  | none=>rw [ea] at h1;cases h1
  | some a =>
   rw [ea] at h1
   cases h1
   have hi:i<Fs.length:=lf ▸ (gSq.mp ea).1
   exact ih i a v Fs[i] ea h2 (gEg hi) fun q hq=>hk q (mCo _ (mFq.mpr ⟨Fs[i],gRq hi,hq⟩))
 | owd h n r=>rw [strip_owd];exact .mk_dict (by rw [hk _ (by simp)];exact h) (r.mono s)
end
abbrev AS:=List (Option AV)
structure Rel (K:W.Frag) (H₀ Hf₀ Hf:Hp) (S:AS) (σ:St) (H:Hp) (Fs:List (List Addr)):Prop where
 len:S.length=σ.length
 lenF:Fs.length=S.length
 rep:∀ (i:Nat) (av:AV),S[i]?=some (some av)->∃ v F,σ[i]?=some (some v)/\Fs[i]?=some F/\RepA K Hf H av v F
 emp:∀ i:Nat,S[i]?=some none->Fs[i]?=some []
 nd:Fs.flatten.Nodup
 fresh:∀ p∈Fs.flatten,H₀ p=none
 sub:Same Hf H
 fr:Same H₀ H
 lim:∀ b,Hf₀ b=none->H₀ b≠none->Hf b=none
 sf:Same Hf₀ Hf
structure Stp (Hf H:Hp) (Fs:List (List Addr)) (Hf' H':Hp) (Fs':List (List Addr)):Prop where
 sf:Same Hf Hf'
 sh:Same H H'
 own:∀ p∈Fs'.flatten,p∈Fs.flatten
 gr:∀ b,Hf b=none->Hf' b≠none->H b=none∨b∈Fs.flatten
theorem Stp.refl {Hf H:Hp}{Fs:List (List Addr)}:Stp Hf H Fs Hf H Fs:=⟨.refl _,.refl _,fun _ h=>h,fun b h g=>absurd h g⟩
theorem ne_none {H H':Hp}(s:Same H H') {b:Addr}(h:H b≠none):H' b≠none:=by
 cases e:H b with
 | none=>exact absurd e h
 | some o=>rw [s b o e];simp
theorem Stp.trans {Hf H Hf1 H1 Hf2 H2:Hp}{Fs Fs1 Fs2:List (List Addr)}(a:Stp Hf H Fs Hf1 H1 Fs1) (b:Stp Hf1 H1 Fs1 Hf2 H2 Fs2):Stp Hf H Fs Hf2 H2 Fs2 :=
 ⟨a.sf.trans b.sf,a.sh.trans b.sh,fun p h=>a.own p (b.own p h),fun c h g=>by
  by_cases e:Hf1 c=none
  .rcases b.gr c e g with q|q
   .exact .inl (a.sh.free q)
   .exact .inr (a.own c q)
  .exact a.gr c h e⟩
section
variable {K:W.Frag}{H₀ Hf₀ Hf Hf' H H':Hp}{S:AS}{σ:St}{Fs Fs':List (List Addr)}
theorem same_at {b:Addr}(s:Same H H') (h:H b≠none):H' b=H b:=by
 cases e:H b with
 | none=>exact absurd e h
 | some o=>exact s b o e
theorem Rel.mem (R:Rel K H₀ Hf₀ Hf S σ H Fs) {q:Addr}(h:q∈Fs.flatten):H q≠none/\Hf q=none:=by
 obtain ⟨F,hF,hq⟩:=mFq.mp h
 obtain ⟨i,hi,rfl⟩:=bU.mp hF
 have hiS:i<S.length:=R.lenF ▸ hi
 cases e:S[i] with
 | none =>
  have:=R.emp i (by rw [gEg hiS,e])
  rw [gEg hi] at this
  rw [aT.inj this] at hq
  cases hq
 | some av =>
  obtain ⟨v,F,_,e2,r⟩:=R.rep i av (by rw [gEg hiS,e])
  rw [gEg hi] at e2
  rw [aT.inj e2] at hq
  exact r.owned q hq
theorem Rel.more (R:Rel K H₀ Hf₀ Hf S σ H Fs) (s:Same H H') (sf:Same Hf Hf') (sub:Same Hf' H') (hn:∀ q∈Fs.flatten,Hf' q=none) (lim:∀ b,Hf₀ b=none->H₀ b≠none->Hf' b=none):Rel K H₀ Hf₀ Hf' S σ H' Fs where
 len:=R.len
 lenF:=R.lenF
 rep:=fun i av e=>by
  obtain ⟨v,F,e1,e2,r⟩:=R.rep i av e
  refine ⟨v,F,e1,e2,r.keep sf (fun q hq=>same_at s (r.owned q hq).1) fun q hq=>hn q (mFq.mpr ⟨F,mGq e2,hq⟩)⟩
 emp:=R.emp
 nd:=R.nd
 fresh:=R.fresh
 sub:=sub
 fr:=R.fr.trans s
 lim:=lim
 sf:=R.sf.trans sf
theorem Rel.laid (R:Rel K H₀ Hf₀ Hf S σ H Fs) (s:Same H H'):Rel K H₀ Hf₀ Hf S σ H' Fs:=R.more s (.refl _) (R.sub.trans s) (fun q h=>(R.mem h).2) R.lim
theorem flat_set_mem {F:List Addr}{i:Nat}{p:Addr}(h:p∈(Fs.set i F).flatten):p∈F∨p∈Fs.flatten:=by
 obtain ⟨G,hG,hp⟩:=mFq.mp h
 rcases List.mem_or_eq_of_mem_set hG with q|q
 .exact .inr (mFq.mpr ⟨G,q,hp⟩)
 .subst q;exact .inl hp
theorem flat_set_nodup:∀ {Fs:List (List Addr)}{F:List Addr}(i:Nat),Fs.flatten.Nodup->F.Nodup->(∀ p∈F,p∉Fs.flatten)->(Fs.set i F).flatten.Nodup
 | [],F,i,h,_,_=>by simp
 | G::Gs,F,0,h,hF,hd=>by
  rw [cY,fCq,nAq]
  rw [fCq,nAq] at h
  refine ⟨hF,h.2.1,fun a ha b hb e=>hd a ha ?_⟩
  rw [fCq]
  exact ar _ (e ▸ hb)
 | G::Gs,F,i+1,h,hF,hd=>by
  rw [dP,fCq,nAq]
  rw [fCq,nAq] at h
  refine ⟨h.1,flat_set_nodup i h.2.1 hF fun p hp m=>hd p hp (by rw [fCq];exact ar _ m),fun a ha b hb e=>?_⟩
  rcases flat_set_mem hb with q|q
  .exact hd b q (by rw [fCq];exact bM _ (e ▸ ha))
  .exact h.2.2 a ha b q e
theorem Rel.set (R:Rel K H₀ Hf₀ Hf S σ H Fs) {av:AV}{v:V}{F:List Addr}(i:Nat) (r:RepA K Hf H av v F) (nd:F.Nodup) (hf:∀ q∈F,H₀ q=none/\q∉Fs.flatten) :
  Rel K H₀ Hf₀ Hf (S.set i (some av)) (σ.set i (some v)) H (Fs.set i F) where
 len:=by simp [R.len]
 lenF:=by simp [R.lenF]
 rep:=fun j a e=>by
  rw [bo] at e
  by_cases hij:i=j
  .subst hij
   rw [if_pos rfl] at e
   split at e
   .rename_i hi
    cases e
    exact ⟨v,F,by rw [aF (R.len ▸ hi)],by rw [aF (R.lenF.symm ▸ hi)],r⟩
   .cases e
  .rw [if_neg hij] at e
   obtain ⟨w,G,e1,e2,q⟩:=R.rep j a e
   exact ⟨w,G,by rw [au hij];exact e1,by rw [au hij];exact e2,q⟩
 emp:=fun j e=>by
  rw [bo] at e
  by_cases hij:i=j
  .subst hij
   rw [if_pos rfl] at e
   split at e <;> cases e
  .rw [if_neg hij] at e
   rw [au hij]
   exact R.emp j e
 nd:=flat_set_nodup i R.nd nd fun p hp=>(hf p hp).2
 fresh:=fun p hp=>by
  rcases flat_set_mem hp with q|q
  .exact (hf p q).1
  .exact R.fresh p q
 sub:=R.sub
 fr:=R.fr
 lim:=R.lim
 sf:=R.sf
theorem flat_set_nil {i:Nat}{p:Addr}(h:p∈(Fs.set i []).flatten):p∈Fs.flatten:=by
 rcases flat_set_mem h with q|q
 .cases q
 .exact q
theorem flat_set_out:∀ {Fs:List (List Addr)}{F:List Addr}{i:Nat}{p:Addr},Fs.flatten.Nodup->Fs[i]?=some F->p∈F->p∉(Fs.set i []).flatten
 | [],F,i,p,_,e,_,_=>by simp at e
 | G::Gs,F,0,p,h,e,hp,m=>by
  simp at e
  subst e
  rw [cY,fCq,eK] at m
  rw [fCq,nAq] at h
  exact h.2.2 p hp p m rfl
 | G::Gs,F,i+1,p,h,e,hp,m=>by
  rw [dP,fCq] at m
  rw [fCq,nAq] at h
  have e':Gs[i]?=some F:=by simpa using e
  rcases mAq.mp m with q|q
  .exact h.2.2 p q p (mFq.mpr ⟨F,mGq e',hp⟩) rfl
  .exact flat_set_out h.2.1 e' hp q
theorem Rel.move (R:Rel K H₀ Hf₀ Hf S σ H Fs) {i:Nat}{av:AV}(e:S[i]?=some (some av)):∃ v F,σ[i]?=some (some v)/\Fs[i]?=some F/\RepA K Hf H av v F/\F.Nodup/\(∀ q∈F,H₀ q=none/\q∉(Fs.set i []).flatten) /\
  Rel K H₀ Hf₀ Hf (S.set i none) σ H (Fs.set i []):=by
 obtain ⟨v,F,e1,e2,r⟩:=R.rep i av e
 have hin:∀ q∈F,q∈Fs.flatten:=fun q hq=>mFq.mpr ⟨F,mGq e2,hq⟩
 refine ⟨v,F,e1,e2,r,aR.sublist (bB (mGq e2)) R.nd,fun q hq=>⟨R.fresh q (hin q hq),flat_set_out R.nd e2 hq⟩,?_⟩
 refine ⟨by simp [R.len],by simp [R.lenF],fun j a ej=>?_,fun j ej=>?_,flat_set_nodup i R.nd bh (fun p hp=>by cases hp),fun p hp=>R.fresh p (flat_set_nil hp),R.sub,R.fr,R.lim,R.sf⟩
 .rw [bo] at ej
  by_cases hij:i=j
  .subst hij
   rw [if_pos rfl] at ej
   split at ej <;> cases ej
  .rw [if_neg hij] at ej
   obtain ⟨w,G,f1,f2,q⟩:=R.rep j a ej
   exact ⟨w,G,f1,by rw [au hij];exact f2,q⟩
 .rw [bo] at ej
  by_cases hij:i=j
  .subst hij
   rw [if_pos rfl] at ej
   split at ej
   .rename_i hi
    rw [aF (R.lenF.symm ▸ hi)]
   .cases ej
  .rw [if_neg hij] at ej
   rw [au hij]
   exact R.emp j ej
theorem Rel.frz (R:Rel K H₀ Hf₀ Hf S σ H Fs) {F:List Addr}(hf:∀ q∈F,H₀ q=none/\q∉Fs.flatten) (hn:∀ q∈F,Hf q=none):Rel K H₀ Hf₀ (frz Hf H F) S σ H Fs:=by
 refine R.more (.refl _) (frz_same hn) (frz_sub R.sub) (fun q hq=>?_) fun b h1 h2=>?_
 .rw [frz_out fun m=>(hf q m).2 hq]
  exact (R.mem hq).2
 .rw [frz_out fun m=>h2 (hf b m).1]
  exact R.lim b h1 h2
end
abbrev ME:=AS->Option (D×AS)
abbrev MK:=AS->Option (AV×AS)
abbrev ML:=AS->Option (List D×AS)
abbrev MT:=AS->Option (Bool×AS)
abbrev MA:=AS->Option (List AV×AS)
def RepAs (K:W.Frag) (Hf H:Hp) (avs:List AV) (vs:List V) (Gs:List (List Addr)):Prop :=
 avs.length=vs.length/\avs.length=Gs.length/\∀ (i:Nat) (a:AV) (v:V) (F:List Addr),avs[i]?=some a->vs[i]?=some v->Gs[i]?=some F->RepA K Hf H a v F
structure Own (H₀ H:Hp) (Fs Fs':List (List Addr)) (F:List Addr):Prop where
 nd:F.Nodup
 fr:∀ q∈F,H₀ q=none
 out:∀ q∈F,q∉Fs'.flatten
 new:∀ q∈F,H q=none∨q∈Fs.flatten
theorem Own.nil {H₀ H:Hp}{Fs Fs':List (List Addr)}:Own H₀ H Fs Fs' []:=⟨bh,fun q h=>(by cases h),fun q h=>(by cases h),fun q h=>(by cases h)⟩
section
variable (K:W.Frag)
def SR (te:TE) (m:ME):Prop:=∀ {H₀ Hf₀ Hf:Hp}{S:AS}{σ:St}{H:Hp}{Fs:List (List Addr)}{d:D}{S':AS},Rel K H₀ Hf₀ Hf S σ H Fs->m S=some (d,S')->∀ Q:VK,
 (∀ Hf' H' Fs' v,Stp Hf H Fs Hf' H' Fs'->Rel K H₀ Hf₀ Hf' S' σ H' Fs'->Rep K H' d v->Q v H')->te σ H Q
def SK (te:TE) (m:MK):Prop:=∀ {H₀ Hf₀ Hf:Hp}{S:AS}{σ:St}{H:Hp}{Fs:List (List Addr)}{a:AV}{S':AS},Rel K H₀ Hf₀ Hf S σ H Fs->m S=some (a,S')->∀ Q:VK,
 (∀ Hf' H' Fs' v F,Stp Hf H Fs Hf' H' Fs'->Rel K H₀ Hf₀ Hf' S' σ H' Fs'->RepA K Hf' H' a v F->Own H₀ H Fs Fs' F->Q v H')->te σ H Q
def SL (te:TE) (m:ML):Prop:=∀ {H₀ Hf₀ Hf:Hp}{S:AS}{σ:St}{H:Hp}{Fs:List (List Addr)}{ds:List D}{S':AS},Rel K H₀ Hf₀ Hf S σ H Fs->m S=some (ds,S')->∀ Q:VK,
 (∀ Hf' H' Fs' p vs,Stp Hf H Fs Hf' H' Fs'->Rel K H₀ Hf₀ Hf' S' σ H' Fs'->H' p=some (.lst vs)->Reps K Hf' ds vs->Q (.ref p) H')->te σ H Q
def STt (tt:TT) (m:MT):Prop:=∀ {H₀ Hf₀ Hf:Hp}{S:AS}{σ:St}{H:Hp}{Fs:List (List Addr)}{b:Bool}{S':AS},Rel K H₀ Hf₀ Hf S σ H Fs->m S=some (b,S')->∀ Q:Bool->Hp->Prop,
 (∀ Hf' H' Fs',Stp Hf H Fs Hf' H' Fs'->Rel K H₀ Hf₀ Hf' S' σ H' Fs'->Q b H')->tt σ H Q
def SA (ta:TA) (m:MA):Prop:=∀ {H₀ Hf₀ Hf:Hp}{S:AS}{σ:St}{H:Hp}{Fs:List (List Addr)}{as:List AV}{S':AS},Rel K H₀ Hf₀ Hf S σ H Fs->m S=some (as,S')->∀ Q:List V->Hp->Prop,
 (∀ Hf' H' Fs' vs Gs,Stp Hf H Fs Hf' H' Fs'->Rel K H₀ Hf₀ Hf' S' σ H' Fs'->RepAs K Hf' H' as vs Gs->Own H₀ H Fs Fs' Gs.flatten->Q vs H')->ta σ H Q
def SAr (ta:TA) (m:ML):Prop:=∀ {H₀ Hf₀ Hf:Hp}{S:AS}{σ:St}{H:Hp}{Fs:List (List Addr)}{ds:List D}{S':AS},Rel K H₀ Hf₀ Hf S σ H Fs->m S=some (ds,S')->∀ Q:List V->Hp->Prop,
 (∀ Hf' H' Fs' vs,Stp Hf H Fs Hf' H' Fs'->Rel K H₀ Hf₀ Hf' S' σ H' Fs'->Reps K H' ds vs->Q vs H')->ta σ H Q
end
section
variable {K:W.Frag}{H₀ Hf₀ Hf Hf' H H':Hp}{S S':AS}{σ:St}{Fs Fs':List (List Addr)}
theorem RepA.stp {av:AV}{v:V}{F:List Addr}(r:RepA K Hf H av v F) (ho:∀ q∈F,q∉Fs.flatten) (t:Stp Hf H Fs Hf' H' Fs'):RepA K Hf' H' av v F :=
 r.keep t.sf (fun q hq=>same_at t.sh (r.owned q hq).1) fun q hq=>by
  by_cases e:Hf' q=none
  .exact e
  .rcases t.gr q (r.owned q hq).2 e with z|z
   .exact absurd z (r.owned q hq).1
   .exact absurd z (ho q hq)
theorem Rel.new (R:Rel K H₀ Hf₀ Hf S σ H Fs) {p:Addr}{o:HO}(hp:H p=none):Stp Hf H Fs Hf (upd H p o) Fs/\Rel K H₀ Hf₀ Hf S σ (upd H p o) Fs/\Hf p=none/\H₀ p=none/\p∉Fs.flatten :=
 ⟨⟨.refl _,same_upd hp,fun _ h=>h,fun b h g=>absurd h g⟩,R.laid (same_upd hp),R.sub.free hp,R.fr.free hp,fun m=>(R.mem m).1 hp⟩
theorem repl_flat (n:Nat):(aB n ([]:List Addr)).flatten=[]:=by
 induction n with
 | zero=>rfl
 | succ n ih=>rw [List.replicate_succ,fCq,ih];rfl
theorem RepA.new {p:Addr}{vs:List V}{ds:List D}(h:H p=some (.lst vs)) (n:Hf p=none) (r:Reps K Hf ds vs):RepA K Hf H (.ow (ds.map .sh)) (.ref p) [p]:=by
 have e:[p]=p::(aB ds.length ([]:List Addr)).flatten:=by rw [repl_flat]
 rw [e]
 refine .ow h n (by simp [r.1]) (by simp) fun i a v F h1 h2 h3=>?_
 rw [gMq] at h1
 cases q:ds[i]? with
 | none=>rw [q] at h1;cases h1
 | some d =>
  rw [q] at h1
  cases h1
  have:F=[]:=cL (mGq h3)
  subst this
  exact .sh (r.2 i d v q h2)
theorem RepA.news {p:Addr}{vs:List V}{avs:List AV}{Gs:List (List Addr)}(h:H p=some (.lst vs)) (n:Hf p=none) (r:RepAs K Hf H avs vs Gs):RepA K Hf H (.ow avs) (.ref p) (p::Gs.flatten):=.ow h n r.1 r.2.1 r.2.2
theorem RepA.ow_inv {avs:List AV}{v:V}{F:List Addr}(h:RepA K Hf H (.ow avs) v F):∃ p vs Gs,v = .ref p/\F=p::Gs.flatten/\H p=some (.lst vs)/\Hf p=none/\RepAs K Hf H avs vs Gs:=by
 cases h with
 | ow h n l lf e=>exact ⟨_,_,_,rfl,rfl,h,n,l,lf,e⟩
theorem RepA.owd_inv {ds:List (Key×D)}{v:V}{F:List Addr}(h:RepA K Hf H (.owd ds) v F):∃ p kvs,v = .ref p/\F=[p]/\H p=some (.dK kvs)/\Hf p=none/\RepKs K Hf ds kvs:=by
 cases h with
 | owd h n r=>exact ⟨_,_,rfl,rfl,h,n,r⟩
theorem RepA.sh_inv {d:D}{v:V}{F:List Addr}(h:RepA K Hf H (.sh d) v F):F=[]/\Rep K Hf d v:=by
 cases h with
 | sh r=>exact ⟨rfl,r⟩
theorem Rel.give {H1:Hp}{Fs1:List (List Addr)}(R:Rel K H₀ Hf₀ Hf' S σ H1 Fs1) (t:Stp Hf H Fs Hf' H1 Fs1) {av:AV}{v:V}{F:List Addr}(r:RepA K Hf' H1 av v F) (o:Own H₀ H Fs Fs1 F) :
  Rel K H₀ Hf₀ (Z.frz Hf' H1 F) S σ H1 Fs1/\Rep K (Z.frz Hf' H1 F) (strip av) v/\Stp Hf H Fs (Z.frz Hf' H1 F) H1 Fs1:=by
 have n:∀ q∈F,Hf' q=none:=fun q hq=>(r.owned q hq).2
 refine ⟨R.frz (fun q hq=>⟨o.fr q hq,o.out q hq⟩) n,r.frozen (frz_same n) fun q hq=>frz_in hq,t.sf.trans (frz_same n),t.sh,t.own,fun b h g=>?_⟩
 by_cases m:b∈F
 .exact o.new b m
 .rw [frz_out m] at g
  exact t.gr b h g
theorem RepAs.nil:RepAs K Hf H [] [] []:=⟨rfl,rfl,fun i a v F h=>by simp at h⟩
theorem RepAs.cons {a:AV}{v:V}{F:List Addr}{as:List AV}{vs:List V}{Gs:List (List Addr)}(h:RepA K Hf H a v F) (t:RepAs K Hf H as vs Gs):RepAs K Hf H (a::as) (v::vs) (F::Gs) :=
 ⟨by simp [t.1],by simp [t.2.1],fun i b w G h1 h2 h3=>by
  cases i with
  | zero =>
   simp at h1 h2 h3
   subst h1 h2 h3
   exact h
  | succ i=>exact t.2.2 i b w G (by simpa using h1) (by simpa using h2) (by simpa using h3)⟩
theorem RepAs.nil_inv {vs:List V}{Gs:List (List Addr)}(h:RepAs K Hf H [] vs Gs):vs=[]/\Gs=[]:=by
 obtain ⟨a,b,_⟩:=h
 exact ⟨bD.mp a.symm,bD.mp b.symm⟩
theorem RepAs.cons_inv {a:AV}{as:List AV}{vs:List V}{Gs:List (List Addr)}(h:RepAs K Hf H (a::as) vs Gs):∃ v ws F Gs',vs=v::ws/\Gs=F::Gs'/\RepA K Hf H a v F/\RepAs K Hf H as ws Gs':=by
 obtain ⟨h1,h2,h3⟩:=h
 cases vs with
 | nil=>simp at h1
 | cons v ws =>
  cases Gs with
  | nil=>simp at h2
  | cons F Gs'=>exact ⟨v,ws,F,Gs',rfl,rfl,h3 0 a v F rfl rfl rfl,by simpa using h1,by simpa using h2,fun i b w G q1 q2 q3=>h3 (i+1) b w G (by simpa using q1) (by simpa using q2) (by simpa using q3)⟩
theorem RepAs.frozen (h:RepAs K Hf H as vs Gs) (s:Same Hf Hf') (hk:∀ q∈Gs.flatten,Hf' q=H q):Reps K Hf' (as.map strip) vs :=
 ⟨by simp [h.1],fun i d v h1 h2=>by
  rw [gMq] at h1
  cases ea:as[i]? with
  | none=>rw [ea] at h1;cases h1
  | some a =>
   rw [ea] at h1
   cases h1
   have hi:i<Gs.length:=h.2.1 ▸ (gSq.mp ea).1
   exact (h.2.2 i a v Gs[i] ea h2 (gEg hi)).frozen s fun q hq=>hk q (mFq.mpr ⟨Gs[i],gRq hi,hq⟩)⟩
theorem RepAs.owned (h:RepAs K Hf H as vs Gs):∀ q∈Gs.flatten,H q≠none/\Hf q=none:=fun q hq=>by
 obtain ⟨F,hF,hq⟩:=mFq.mp hq
 obtain ⟨i,hi,rfl⟩:=bU.mp hF
 have h1:i<as.length:=h.2.1.symm ▸ hi
 have h2:i<vs.length:=h.1 ▸ h1
 exact (h.2.2 i as[i] vs[i] Gs[i] (gEg h1) (gEg h2) (gEg hi)).owned q hq
theorem Rel.gives {H1:Hp}{Fs1:List (List Addr)}(R:Rel K H₀ Hf₀ Hf' S σ H1 Fs1) (t:Stp Hf H Fs Hf' H1 Fs1) {as:List AV}{vs:List V}{Gs:List (List Addr)}(r:RepAs K Hf' H1 as vs Gs) (o:Own H₀ H Fs Fs1 Gs.flatten) :
  Rel K H₀ Hf₀ (Z.frz Hf' H1 Gs.flatten) S σ H1 Fs1/\Reps K (Z.frz Hf' H1 Gs.flatten) (as.map strip) vs/\Stp Hf H Fs (Z.frz Hf' H1 Gs.flatten) H1 Fs1:=by
 have n:∀ q∈Gs.flatten,Hf' q=none:=fun q hq=>(r.owned q hq).2
 refine ⟨R.frz (fun q hq=>⟨o.fr q hq,o.out q hq⟩) n,r.frozen (frz_same n) fun q hq=>frz_in hq,t.sf.trans (frz_same n),t.sh,t.own,fun b h g=>?_⟩
 by_cases m:b∈Gs.flatten
 .exact o.new b m
 .rw [frz_out m] at g
  exact t.gr b h g
theorem Own.stp {Hf1 H1 Hf2 H2:Hp}{Fs1 Fs2:List (List Addr)}{F:List Addr}(o:Own H₀ H Fs Fs1 F) (t:Stp Hf1 H1 Fs1 Hf2 H2 Fs2):Own H₀ H Fs Fs2 F:=⟨o.nd,o.fr,fun q h m=>o.out q h (t.own q m),o.new⟩
theorem Own.back {Hf1 H1:Hp}{Fs1 Fs2:List (List Addr)}{F:List Addr}(t:Stp Hf H Fs Hf1 H1 Fs1) (o:Own H₀ H1 Fs1 Fs2 F):Own H₀ H Fs Fs2 F:=⟨o.nd,o.fr,o.out,fun q h=>(o.new q h).elim (fun e=>.inl (t.sh.free e)) fun m=>.inr (t.own q m)⟩
theorem Own.app {F G:List Addr}(a:Own H₀ H Fs Fs' F) (b:Own H₀ H Fs Fs' G) (d:∀ q∈F,q∉G):Own H₀ H Fs Fs' (F++G) :=
 ⟨nAq.mpr ⟨a.nd,b.nd,fun x hx y hy e=>d x hx (e ▸ hy)⟩,fun q h=>(mAq.mp h).elim (a.fr q) (b.fr q),fun q h=>(mAq.mp h).elim (a.out q) (b.out q),fun q h=>(mAq.mp h).elim (a.new q) (b.new q)⟩
theorem Own.apart {Hf1 H1:Hp}{Fs1 Fs2:List (List Addr)}{F G:List Addr}(a:Own H₀ H Fs Fs1 F) (ha:∀ q∈F,H1 q≠none) (b:Own H₀ H1 Fs1 Fs2 G):∀ q∈F,q∉G:=fun q h m=>by
 rcases b.new q m with e|e
 .exact ha q h e
 .exact a.out q h e
theorem Own.one (R:Rel K H₀ Hf₀ Hf S σ H Fs) {p:Addr}(hp:H p=none):Own H₀ H Fs Fs [p] :=
 ⟨by simp,fun q h=>by rw [mSq.mp h];exact R.fr.free hp,fun q h m=>by rw [mSq.mp h] at m;exact (R.mem m).1 hp,fun q h=>by rw [mSq.mp h];exact .inl hp⟩
end
def rVar (i:Nat):ME:=fun S=>(S[i]?.join).map fun a=>(strip a,S)
def kVar (i:Nat):MK:=fun S=>(S[i]?.join).map fun a=>(.sh (strip a),S.set i (some (.sh (strip a))))
def kMov (i:Nat):MK:=fun S=>(S[i]?.join).map fun a=>(a,S.set i none)
def lVar (i:Nat):ML:=fun S=>match S[i]?.join with
 | some (.sh (.list ds))=>some (ds,S)
 | some (.ow avs)=>some (avs.map strip,S.set i (some (.ow ((avs.map strip).map .sh))))
 | _=>none
def rOf (k:MK):ME:=fun S=>(k S).map fun x=>(strip x.1,x.2)
def kSc (m:ME):MK:=fun S=>(m S).bind fun x=>if x.1.scal then some (.sh x.1,x.2) else none
def lOf (k:MK):ML:=fun S=>(k S).bind fun x=>match x.1 with
 | .sh (.list ds)=>some (ds,x.2)
 | .ow avs=>some (avs.map strip,x.2)
 | _=>none
def kFrz (k:MK):MK:=fun S=>(k S).map fun x=>(.sh (strip x.1),x.2)
def rC (d:D):ME:=fun S=>if d.scal then some (d,S) else none
section
variable {K:W.Frag}
theorem some_of_join {S:AS}{i:Nat}{a:AV}(h:S[i]?.join=some a):S[i]?=some (some a):=by
 cases e:S[i]? with
 | none=>rw [e] at h;cases h
 | some z=>rw [e] at h;exact congrArg some h
theorem sr_var (i:Nat):SR K (tVar i) (rVar i):=by
 intro H₀ Hf₀ Hf S σ H Fs d S' R e Q q
 obtain ⟨a,ea,e⟩:=oMq.mp e
 cases e
 obtain ⟨v,F,s1,s2,r⟩:=R.rep i a (some_of_join ea)
 exact ⟨v,s1,q _ _ _ v .refl R (r.rep R.sub)⟩
theorem sk_mov (i:Nat):SK K (tVar i) (kMov i):=by
 intro H₀ Hf₀ Hf S σ H Fs a S' R e Q q
 obtain ⟨b,ea,e⟩:=oMq.mp e
 cases e
 obtain ⟨v,F,s1,s2,r,nd,o,R1⟩:=R.move (some_of_join ea)
 exact ⟨v,s1,q _ _ _ v F ⟨.refl _,.refl _,fun p hp=>flat_set_nil hp,fun b h g=>absurd h g⟩ R1 r ⟨nd,fun q hq=>(o q hq).1,fun q hq=>(o q hq).2,fun q hq=>.inr (mFq.mpr ⟨F,mGq s2,hq⟩)⟩⟩
theorem Rel.again {H₀ Hf₀ Hf H:Hp}{S:AS}{σ:St}{Fs:List (List Addr)}{i:Nat}{av:AV}{v:V}{F G:List Addr}(R:Rel K H₀ Hf₀ Hf (S.set i none) σ H (Fs.set i [])) (s1:σ[i]?=some (some v)) (r:RepA K Hf H av v G) (nd:G.Nodup) (hf:∀ q∈G,H₀ q=none/\q∉(Fs.set i []).flatten) :
  Rel K H₀ Hf₀ Hf (S.set i (some av)) σ H (Fs.set i G):=by
 have R2:=R.set i r nd hf
 rw [eP,eP] at R2
 have e:σ.set i (some v)=σ:=by
  obtain ⟨hk,ev⟩:=gSq.mp s1
  rw [← ev]
  exact eD hk
 rw [e] at R2
 exact R2
theorem sk_var (i:Nat):SK K (tVar i) (kVar i):=by
 intro H₀ Hf₀ Hf S σ H Fs a S' R e Q q
 obtain ⟨b,ea,e⟩:=oMq.mp e
 cases e
 obtain ⟨v,F,s1,s2,r,nd,o,R1⟩:=R.move (some_of_join ea)
 have n:∀ q∈F,Hf q=none:=fun q hq=>(r.owned q hq).2
 have R2:=R1.frz o n
 have r2:=r.frozen (frz_same (H:=H) n) fun q hq=>frz_in hq
 have R3:=R2.again (F:=F) (G:=[]) s1 (.sh r2) bh fun q h=>(by cases h)
 refine ⟨v,s1,q _ _ _ v [] ⟨frz_same n,.refl _,fun p hp=>flat_set_nil hp,fun b h g=>?_⟩ R3 (.sh r2) .nil⟩
 by_cases m:b∈F
 .exact .inr (mFq.mpr ⟨F,mGq s2,m⟩)
 .rw [frz_out m] at g
  exact absurd h g
theorem sl_var (i:Nat):SL K (tVar i) (lVar i):=by
 intro H₀ Hf₀ Hf S σ H Fs ds S' R e Q q
 unfold lVar at e
 split at e
 .rename_i ds' ea
  cases e
  obtain ⟨v,F,s1,s2,r⟩:=R.rep i _ (some_of_join ea)
  obtain ⟨p,vs,rfl,h1,h2⟩:=r.sh_inv.2.list_inv
  exact ⟨_,s1,q _ _ _ p vs .refl R (R.sub _ _ h1) h2⟩
 .rename_i avs ea
  cases e
  obtain ⟨v,F,s1,s2,r,nd,o,R1⟩:=R.move (some_of_join ea)
  obtain ⟨p,vs,Gs,rfl,rfl,h1,h2,h3⟩:=r.ow_inv
  have n:∀ q∈Gs.flatten,Hf q=none:=fun q hq=>(h3.owned q hq).2
  have R2:=R1.frz (F:=Gs.flatten) (fun q hq=>o q (mCo _ hq)) n
  have r2:=h3.frozen (frz_same (H:=H) n) fun q hq=>frz_in hq
  have np:p∉Gs.flatten:=(aL.mp nd).1
  have r3:RepA K (Z.frz Hf H Gs.flatten) H (.ow ((avs.map strip).map .sh)) (.ref p) [p]:=RepA.new h1 (by rw [frz_out np];exact h2) r2
  have R3:=R2.again (F:=p::Gs.flatten) (G:=[p]) s1 r3 (by simp) fun q hq=>by rw [mSq.mp hq];exact o p (by simp)
  refine ⟨_,s1,q _ _ _ p vs ⟨frz_same n,.refl _,fun b hb=>?_,fun b h g=>?_⟩ R3 h1 r2⟩
  .rcases flat_set_mem hb with z|z
   .rw [mSq.mp z]
    exact mFq.mpr ⟨_,mGq s2,by simp⟩
   .exact z
  .by_cases m:b∈Gs.flatten
   .exact .inr (mFq.mpr ⟨_,mGq s2,mCo _ m⟩)
   .rw [frz_out m] at g
    exact absurd h g
 .cases e
theorem SK.rOf {te:TE}{k:MK}(h:SK K te k):SR K te (rOf k):=by
 intro H₀ Hf₀ Hf S σ H Fs d S' R e Q q
 obtain ⟨x,ea,e⟩:=oMq.mp e
 cases e
 exact h R (a:=x.1) (S':=x.2) ea Q fun Hf' H' Fs' v F t R' r o=>q _ _ _ v t R' (r.rep R'.sub)
theorem SR.kSc {te:TE}{m:ME}(h:SR K te m):SK K te (kSc m):=by
 intro H₀ Hf₀ Hf S σ H Fs a S' R e Q q
 obtain ⟨x,ea,e⟩:=oBq.mp e
 split at e
 .rename_i hs
  cases e
  exact h R (d:=x.1) (S':=x.2) ea Q fun Hf' H' Fs' v t R' r=>q _ _ _ v [] t R' (.sh (r.scal hs)) .nil
 .cases e
theorem SK.frz {te:TE}{k:MK}(h:SK K te k):SK K te (kFrz k):=by
 intro H₀ Hf₀ Hf S σ H Fs a S' R e Q q
 obtain ⟨x,ea,e⟩:=oMq.mp e
 cases e
 refine h R (a:=x.1) (S':=x.2) ea Q fun Hf' H' Fs' v F t R' r o=>?_
 obtain ⟨R2,r2,t2⟩:=R'.give t r o
 exact q _ _ _ v [] t2 R2 (.sh r2) .nil
theorem SK.lOf {te:TE}{k:MK}(h:SK K te k):SL K te (lOf k):=by
 intro H₀ Hf₀ Hf S σ H Fs ds S' R e Q q
 obtain ⟨x,ea,e⟩:=oBq.mp e
 refine h R (a:=x.1) (S':=x.2) ea Q fun Hf' H' Fs' v F t R' r o=>?_
 split at e
 .rename_i ds' hx
  cases e
  rw [hx] at r
  obtain ⟨p,vs,rfl,h1,h2⟩:=r.sh_inv.2.list_inv
  exact q _ _ _ p vs t R' (R'.sub _ _ h1) h2
 .rename_i avs hx
  cases e
  obtain ⟨R2,r2,t2⟩:=R'.give t r o
  rw [hx,strip_ow] at r2
  obtain ⟨p,vs,rfl,h1,h2⟩:=r2.list_inv
  exact q _ _ _ p vs t2 R2 (R2.sub _ _ h1) h2
 .cases e
theorem sr_c {v:V}{d:D}(h:∀ H,Rep K H d v):SR K (tC v) (rC d):=by
 intro H₀ Hf₀ Hf S σ H Fs d' S' R e Q q
 unfold rC at e
 split at e
 .cases e
  exact q _ _ _ v .refl R (h _)
 .cases e
theorem sr_int {i:Int}:SR K (tC (.int i)) (rC (.int i)):=sr_c fun _=>.int
theorem sr_bl {i:Bool}:SR K (tC (.bl i)) (rC (.bl i)):=sr_c fun _=>.bl
theorem sr_ty {T:String}:SR K (tC (.ty T)) (rC (.ty T)):=sr_c fun _=>.ty
end
def ifC {α:Type}(p:Prop) (x:Option α):Option α:=@ite (Option α) p (aS p) x none
theorem ifC_pos {α:Type}{p:Prop}(h:p) (x:Option α):ifC p x=x:=if_pos h
theorem ifC_true {α:Type}(x:Option α):ifC True x=x:=if_pos trivial
theorem ifC_cases {α:Type}{p:Prop}{x y:Option α}(h:ifC p x=y):(p/\x=y)∨none=y:=by
 by_cases c:p
 .rw [ifC_pos c] at h
  exact .inl ⟨c,h⟩
 .exact .inr ((@if_neg p (aS p) c _ x none).symm.trans h)
def rOp (f:D->D->Option D) (a b:ME):ME:=fun S=>(a S).bind fun x=>(b x.2).bind fun y=>(f x.1 y.1).map fun d=>(d,y.2)
def rUn (f:D->Option D) (a:ME):ME:=fun S=>(a S).bind fun x=>(f x.1).map fun d=>(d,x.2)
def OpD (K:W.Frag) (r:R2) (f:D->D->Option D):Prop:=∀ {x y:V}{H:Hp}{Q:VK}{dx dy d:D},Rep K H dx x->Rep K H dy y->f dx dy=some d->(∀ v,Rep K H d v->Q v H)->r x y H Q
def UnD (K:W.Frag) (r:V->Hp->VK->Prop) (f:D->Option D):Prop:=∀ {x:V}{H:Hp}{Q:VK}{dx d:D},Rep K H dx x->f dx=some d->(∀ v,Rep K H d v->Q v H)->r x H Q
section
variable {K:W.Frag}{r:R2}{f:D->D->Option D}{ta tb:TE}{a b:ME}
theorem sr_op (hr:OpD K r f) (ha:SR K ta a) (hb:SR K tb b):SR K (tOp r ta tb) (rOp f a b):=by
 intro H₀ Hf₀ Hf S σ H Fs d S' R e Q q
 obtain ⟨x,e1,e⟩:=oBq.mp e
 obtain ⟨y,e2,e⟩:=oBq.mp e
 obtain ⟨z,e3,e⟩:=oMq.mp e
 cases e
 refine ha R (d:=x.1) (S':=x.2) e1 _ fun Hf1 H1 Fs1 v1 t1 R1 r1=>hb R1 (d:=y.1) (S':=y.2) e2 _ fun Hf2 H2 Fs2 v2 t2 R2 r2=>?_
 exact hr (r1.mono t2.sh) r2 e3 fun v rv=>q _ _ _ v (t1.trans t2) R2 rv
theorem sr_un {r:V->Hp->VK->Prop}{f:D->Option D}(hr:UnD K r f) (ha:SR K ta a):SR K (tUn r ta) (rUn f a):=by
 intro H₀ Hf₀ Hf S σ H Fs d S' R e Q q
 obtain ⟨x,e1,e⟩:=oBq.mp e
 obtain ⟨z,e3,e⟩:=oMq.mp e
 cases e
 exact ha R (d:=x.1) (S':=x.2) e1 _ fun Hf1 H1 Fs1 v1 t1 R1 r1=>hr r1 e3 fun v rv=>q _ _ _ v t1 R1 rv
end
def dI2 (c:Int->Int->Prop) (g:Int->Int->D):D->D->Option D
 | .int i,.int j=>ifC (c i j) (some (g i j))
 | _,_=>none
def dI1 (g:Int->D):D->Option D
 | .int i=>some (g i)
 | _=>none
abbrev dAdd:=dI2 (fun _ _=>True) fun i j=>.int (i+j)
abbrev dSub:=dI2 (fun _ _=>True) fun i j=>.int (i-j)
abbrev dMul:=dI2 CMul fun i j=>.int (i*j)
abbrev dMod:=dI2 (fun _ j=>0<j) fun i j=>.int (i % j)
abbrev dDiv:=dI2 CDiv fun i j=>.int (i / j)
abbrev dPow:=dI2 CPow fun i j=>.int (i ^ j.toNat)
abbrev dLt:=dI2 (fun _ _=>True) fun i j=>.bl (decide (i<j))
abbrev dLe:=dI2 (fun _ _=>True) fun i j=>.bl (decide (i<=j))
abbrev dGt:=dI2 (fun _ _=>True) fun i j=>.bl (decide (j<i))
abbrev dGe:=dI2 (fun _ _=>True) fun i j=>.bl (decide (j<=i))
abbrev dNeg:=dI1 fun i=>.int (-i)
def dEq:D->D->Option D
 | .int i,.int j=>some (.bl (decide (i=j)))
 | .str i,.str j=>some (.bl (decide (i=j)))
 | .bl i,.bl j=>some (.bl (decide (i=j)))
 | .non,.non=>some (.bl true)
 | .non,.int _=>some (.bl false)
 | .int _,.non=>some (.bl false)
 | .non,.str _=>some (.bl false)
 | .str _,.non=>some (.bl false)
 | .non,.bl _=>some (.bl false)
 | .bl _,.non=>some (.bl false)
 | .int _,.str _=>some (.bl false)
 | .str _,.int _=>some (.bl false)
 | _,_=>none
def dNot:D->Option D
 | .bl b=>some (.bl (!b))
 | _=>none
def dNe (x y:D):Option D:=(dEq x y).bind dNot
section
variable {K:W.Frag}
theorem opd_I {C:Int->Int->Prop}{g:Int->Int->V}{g':Int->Int->D}(hg:∀ H i j,Rep K H (g' i j) (g i j)):OpD K (rI C g) (dI2 C g'):=by
 intro x y H Q dx dy d rx ry e q
 unfold dI2 at e
 split at e
 .rename_i i j
  cases rx
  cases ry
  rcases ifC_cases e with ⟨h,e⟩|e
  .cases e
   exact ⟨i,j,rfl,rfl,h,q _ (hg H i j)⟩
  .cases e
 .cases e
theorem opd_I0 {g:Int->Int->V}{g':Int->Int->D}(hg:∀ H i j,Rep K H (g' i j) (g i j)):OpD K (rI0 g) (dI2 (fun _ _=>True) g'):=by
 intro x y H Q dx dy d rx ry e q
 unfold dI2 at e
 split at e
 .rename_i i j
  cases rx
  cases ry
  rw [ifC_true] at e
  cases e
  exact ⟨i,j,rfl,rfl,q _ (hg H i j)⟩
 .cases e
theorem od_add:OpD K (rI0 fun i j=>.int (i+j)) dAdd:=opd_I0 fun _ _ _=>.int
theorem od_sub:OpD K (rI0 fun i j=>.int (i-j)) dSub:=opd_I0 fun _ _ _=>.int
theorem od_mul:OpD K (rI CMul fun i j=>.int (i*j)) dMul:=opd_I fun _ _ _=>.int
theorem od_mod:OpD K (rI (fun _ j=>0<j) fun i j=>.int (i % j)) dMod:=opd_I fun _ _ _=>.int
theorem od_div:OpD K (rI CDiv fun i j=>.int (i / j)) dDiv:=opd_I fun _ _ _=>.int
theorem od_pow:OpD K (rI CPow fun i j=>.int (i ^ j.toNat)) dPow:=opd_I fun _ _ _=>.int
theorem od_lt:OpD K (rI0 fun i j=>.bl (decide (i<j))) dLt:=opd_I0 fun _ _ _=>.bl
theorem od_gt:OpD K (rI0 fun i j=>.bl (decide (j<i))) dGt:=opd_I0 fun _ _ _=>.bl
theorem ud_neg:UnD K (rU fun i=>.int (-i)) dNeg:=by
 intro x H Q dx d rx e q
 cases rx <;> simp only [dI1] at e
 all_goals first|(exfalso;simp at e;done)|skip
 rename_i i
 cases e
 exact ⟨i,rfl,q _ .int⟩
theorem od_eq:OpD K rEq dEq:=by
 intro x y H Q dx dy d rx ry e q
 unfold dEq at e
 split at e
 all_goals first|(cases e;done)|skip
 all_goals (cases rx;cases ry;cases e;refine ⟨rfl,q _ ?_⟩;simp only [reduceCtorEq,decide_false,decide_true,V.int.injEq,V.str.injEq,V.bl.injEq];exact .bl)
theorem od_ne:OpD K rNe dNe:=by
 intro x y H Q dx dy d rx ry e q
 obtain ⟨b,e1,e2⟩:=oBq.mp e
 obtain ⟨h1,h2⟩:=od_eq rx ry e1 (Q:=fun v _=>Rep K H b v) fun v h=>h
 cases h2
 cases e2
 exact ⟨h1,q _ .bl⟩
end
def rAnd (a b:ME):ME:=fun S=>(a S).bind fun x=>match x.1 with
 | .bl true=>b x.2
 | .bl false=>some (.bl false,x.2)
 | _=>none
def rOr (a b:ME):ME:=fun S=>(a S).bind fun x=>match x.1 with
 | .bl true=>some (.bl true,x.2)
 | .bl false=>b x.2
 | _=>none
def rNot (a:ME):ME:=rUn dNot a
def tOf (a:ME):MT:=fun S=>(a S).bind fun x=>match x.1 with
 | .bl b=>some (b,x.2)
 | _=>none
def tAndM (a b:MT):MT:=fun S=>(a S).bind fun x=>if x.1=true then b x.2 else some (false,x.2)
def tOrM (a b:MT):MT:=fun S=>(a S).bind fun x=>if x.1=true then some (true,x.2) else b x.2
def tNotM (a:MT):MT:=fun S=>(a S).map fun x=>(!x.1,x.2)
def rIf (c:MT) (a b:ME):ME:=fun S=>(c S).bind fun x=>if x.1=true then a x.2 else b x.2
def kIf (c:MT) (a b:MK):MK:=fun S=>(c S).bind fun x=>if x.1=true then a x.2 else b x.2
section
variable {K:W.Frag}{ta tb:TE}{a b:ME}{ca cb:TT}{ma mb:MT}
theorem st_of (ha:SR K ta a):STt K (tB ta) (tOf a):=by
 intro H₀ Hf₀ Hf S σ H Fs d S' R e Q q
 obtain ⟨x,e1,e⟩:=oBq.mp e
 refine ha R (d:=x.1) (S':=x.2) e1 _ fun Hf1 H1 Fs1 v1 t1 R1 r1=>?_
 split at e
 .rename_i b hx
  rw [hx] at r1
  cases r1
  cases e
  exact ⟨_,rfl,q _ _ _ t1 R1⟩
 .cases e
theorem st_test (ha:SR K ta a):STt K (tTest ta) (tOf a):=st_of ha
theorem st_and (ha:STt K ca ma) (hb:STt K cb mb):STt K (tAnd ca cb) (tAndM ma mb):=by
 intro H₀ Hf₀ Hf S σ H Fs d S' R e Q q
 obtain ⟨x,e1,e⟩:=oBq.mp e
 refine ha R (b:=x.1) (S':=x.2) e1 _ fun Hf1 H1 Fs1 t1 R1=>?_
 split at e
 .rename_i hx
  rw [hx]
  exact iteT (hb R1 e Q fun Hf2 H2 Fs2 t2 R2=>q _ _ _ (t1.trans t2) R2)
 .rename_i hx
  cases e
  rw [cU] at hx
  rw [hx]
  exact iteF (q _ _ _ t1 R1)
theorem st_not (ha:STt K ca ma):STt K (tNot ca) (tNotM ma):=by
 intro H₀ Hf₀ Hf S σ H Fs d S' R e Q q
 obtain ⟨x,e1,e⟩:=oMq.mp e
 cases e
 exact ha R (b:=x.1) (S':=x.2) e1 _ fun Hf1 H1 Fs1 t1 R1=>q _ _ _ t1 R1
end
abbrev LIM:Nat:=16777216
theorem lim_eq:sizeLine=LIM:=sizeLine_eq
def SQ (K:W.Frag) (te:TE) (m:ML):Prop:=∀ {H₀ Hf₀ Hf:Hp}{S:AS}{σ:St}{H:Hp}{Fs:List (List Addr)}{ds:List D}{S':AS},Rel K H₀ Hf₀ Hf S σ H Fs->m S=some (ds,S')->∀ Q:VK,
 (∀ Hf' H' Fs' p vs,Stp Hf H Fs Hf' H' Fs'->Rel K H₀ Hf₀ Hf' S' σ H' Fs'->SqL K H' p vs->Reps K Hf' ds vs->Q (.ref p) H')->te σ H Q
theorem SL.q {K:W.Frag}{te:TE}{m:ML}(h:SL K te m):SQ K te m:=by
 intro H₀ Hf₀ Hf S σ H Fs ds S' R e Q q
 exact h R e Q fun Hf' H' Fs' p vs t R' hp r=>q _ _ _ p vs t R' (SqL.of hp) r
def qVar (i:Nat):ML:=fun S=>match S[i]?.join with
 | some (.sh (.scr ns))=>some (ns.map .int,S)
 | some (.sh (.list ds))=>some (ds,S)
 | some (.ow avs)=>some (avs.map strip,S.set i (some (.ow ((avs.map strip).map .sh))))
 | _=>none
theorem reps_ints {K:W.Frag}{H:Hp}:∀ ns:List Int,Reps K H (ns.map .int) (ns.map V.int)
 | []=>.nil
 | n::ns=>.cons .int (reps_ints ns)
theorem sq_var {K:W.Frag}(i:Nat):SQ K (tVar i) (qVar i):=by
 intro H₀ Hf₀ Hf S σ H Fs ds S' R e Q q
 unfold qVar at e
 split at e
 .rename_i ns ea
  cases e
  obtain ⟨v,F,s1,s2,r⟩:=R.rep i _ (some_of_join ea)
  cases r.sh_inv.2 with
  | scr h=>exact ⟨_,s1,q _ _ _ _ _ .refl R (R.sub.seq h) (reps_ints ns)⟩
 .rename_i ds' ea
  cases e
  refine sl_var i R (ds:=ds) (S':=S) ?_ Q fun Hf' H' Fs' p vs t R' hp r=>q _ _ _ p vs t R' (SqL.of hp) r
  unfold lVar
  rw [ea]
 .rename_i avs ea
  refine sl_var i R (ds:=ds) (S':=S') ?_ Q fun Hf' H' Fs' p vs t R' hp r=>q _ _ _ p vs t R' (SqL.of hp) r
  unfold lVar
  rw [ea]
  exact e
 .cases e
section
variable {K:W.Frag}{H₀ Hf₀ Hf Hf' H H':Hp}{S S':AS}{σ:St}{Fs Fs':List (List Addr)}
theorem RepAs.stp {as:List AV}{vs:List V}{Gs:List (List Addr)}(r:RepAs K Hf H as vs Gs) (ho:∀ q∈Gs.flatten,q∉Fs.flatten) (t:Stp Hf H Fs Hf' H' Fs'):RepAs K Hf' H' as vs Gs :=
 ⟨r.1,r.2.1,fun i a v F h1 h2 h3=>(r.2.2 i a v F h1 h2 h3).stp (fun q hq=>ho q (mFq.mpr ⟨F,mGq h3,hq⟩)) t⟩
theorem Rel.layF (R:Rel K H₀ Hf₀ Hf S σ H Fs) {p:Addr}{o:HO}(hp:H p=none):Stp Hf H Fs (upd Hf p o) (upd H p o) Fs/\Rel K H₀ Hf₀ (upd Hf p o) S σ (upd H p o) Fs:=by
 have hf:Hf p=none:=R.sub.free hp
 refine ⟨⟨same_upd hf,same_upd hp,fun _ h=>h,fun b h g=>?_⟩,R.more (same_upd hp) (same_upd hf) (fun b u e=>?_) (fun q hq=>?_) fun b h1 h2=>?_⟩
 .by_cases m:b=p
  .subst m;exact .inl hp
  .rw [upd_ne m] at g;exact absurd h g
 .by_cases m:b=p
  .subst m
   rw [upd_same] at e ⊢
   exact e
  .rw [upd_ne m] at e ⊢
   exact R.sub b u e
 .rw [upd_ne fun e=>(R.mem hq).1 (by rw [e];exact hp)]
  exact (R.mem hq).2
 .rw [upd_ne fun e=>h2 (by rw [e];exact R.fr.free hp)]
  exact R.lim b h1 h2
end
def aNil:MA:=fun S=>some ([],S)
def aCons (k:MK) (r:MA):MA:=fun S=>(k S).bind fun x=>(r x.2).map fun y=>(x.1::y.1,y.2)
def arNil:ML:=fun S=>some ([],S)
def arCons (k:ME) (r:ML):ML:=fun S=>(k S).bind fun x=>(r x.2).map fun y=>(x.1::y.1,y.2)
section
variable {K:W.Frag}{te ta tb:TE}{tr:TA}
theorem sa_nil:SA K tNil aNil:=by
 intro H₀ Hf₀ Hf S σ H Fs as S' R e Q q
 cases e
 exact q _ _ _ [] [] .refl R .nil .nil
theorem sa_cons {k:MK}{r:MA}(hk:SK K te k) (hr:SA K tr r):SA K (tCons te tr) (aCons k r):=by
 intro H₀ Hf₀ Hf S σ H Fs as S' R e Q q
 obtain ⟨x,e1,e⟩:=oBq.mp e
 obtain ⟨y,e2,e⟩:=oMq.mp e
 cases e
 refine hk R (a:=x.1) (S':=x.2) e1 _ fun Hf1 H1 Fs1 v F t1 R1 r1 o1=>hr R1 (as:=y.1) (S':=y.2) e2 _ fun Hf2 H2 Fs2 vs Gs t2 R2 r2 o2=>?_
 refine q _ _ _ (v::vs) (F::Gs) (t1.trans t2) R2 (.cons (r1.stp o1.out t2) r2) ?_
 rw [fCq]
 exact (o1.stp t2).app (o2.back t1) (o1.apart (Hf1:=Hf1) (fun q hq=>(r1.owned q hq).1) o2)
theorem sar_nil:SAr K tNil arNil:=by
 intro H₀ Hf₀ Hf S σ H Fs as S' R e Q q
 cases e
 exact q _ _ _ [] .refl R .nil
theorem sar_cons {k:ME}{r:ML}(hk:SR K te k) (hr:SAr K tr r):SAr K (tCons te tr) (arCons k r):=by
 intro H₀ Hf₀ Hf S σ H Fs as S' R e Q q
 obtain ⟨x,e1,e⟩:=oBq.mp e
 obtain ⟨y,e2,e⟩:=oMq.mp e
 cases e
 refine hk R (d:=x.1) (S':=x.2) e1 _ fun Hf1 H1 Fs1 v t1 R1 r1=>hr R1 (ds:=y.1) (S':=y.2) e2 _ fun Hf2 H2 Fs2 vs t2 R2 r2=>?_
 exact q _ _ _ (v::vs) (t1.trans t2) R2 (.cons (r1.mono t2.sh) r2)
end
def kLst (a:MA):MK:=fun S=>(a S).bind fun x=>ifC (x.1.length<=LIM) (some (.ow x.1,x.2))
def kTup (a:MA):MK:=fun S=>(a S).bind fun x=>ifC (x.1.length<=LIM) (some (.sh (.tup (x.1.map strip)),x.2))
section
variable {K:W.Frag}{ta:TA}{a:MA}
theorem sk_lst (ha:SA K ta a):SK K (tLst ta) (kLst a):=by
 intro H₀ Hf₀ Hf S σ H Fs av S' R e Q q
 obtain ⟨x,e1,e⟩:=oBq.mp e
 rcases ifC_cases e with ⟨hl,e⟩|e
 .skip
  cases e
  refine ha R (as:=x.1) (S':=x.2) e1 _ fun Hf1 H1 Fs1 vs Gs t1 R1 r1 o1=>⟨by rw [lim_eq,← r1.1];exact hl,fun p hp=>?_⟩
  obtain ⟨t2,R2,n1,n2,n3⟩:=R1.new (o:=.lst vs) hp
  refine q _ _ _ (.ref p) (p::Gs.flatten) (t1.trans t2) R2 (RepA.news upd_same n1 (r1.stp o1.out t2)) ?_
  have o2:=(Own.one R1 hp).back t1
  refine (show Own _ _ _ _ ([p]++Gs.flatten) from o2.app o1 fun q hq m=>?_)
  rw [mSq.mp hq] at m
  exact (r1.owned p m).1 hp
 .cases e
theorem sk_tup (ha:SA K ta a):SK K (tTup ta) (kTup a):=by
 intro H₀ Hf₀ Hf S σ H Fs av S' R e Q q
 obtain ⟨x,e1,e⟩:=oBq.mp e
 rcases ifC_cases e with ⟨hl,e⟩|e
 .skip
  cases e
  refine ha R (as:=x.1) (S':=x.2) e1 _ fun Hf1 H1 Fs1 vs Gs t1 R1 r1 o1=>⟨by rw [lim_eq,← r1.1];exact hl,fun p hp=>?_⟩
  obtain ⟨R2,r2,t2⟩:=R1.gives t1 r1 o1
  obtain ⟨t3,R3⟩:=R2.layF (o:=.tup vs) hp
  exact q _ _ _ (.ref p) [] (t2.trans t3) R3 (.sh (.mk_tup upd_same (r2.mono t3.sf))) .nil
 .cases e
end
def kCat (a b:ML):MK:=fun S=>(a S).bind fun x=>(b x.2).bind fun y=>ifC (x.1.length+y.1.length<=LIM) (some (.ow ((x.1++y.1).map .sh),y.2))
section
variable {K:W.Frag}{ta tb:TE}{a b:ML}
theorem sk_cat (ha:SL K ta a) (hb:SL K tb b):SK K (tOp rCat ta tb) (kCat a b):=by
 intro H₀ Hf₀ Hf S σ H Fs av S' R e Q q
 obtain ⟨x,e1,e⟩:=oBq.mp e
 obtain ⟨y,e2,e⟩:=oBq.mp e
 rcases ifC_cases e with ⟨hl,e⟩|e
 .skip
  cases e
  refine ha R (ds:=x.1) (S':=x.2) e1 _ fun Hf1 H1 Fs1 p1 vs1 t1 R1 h1 r1=>hb R1 (ds:=y.1) (S':=y.2) e2 _ fun Hf2 H2 Fs2 p2 vs2 t2 R2 h2 r2=>?_
  refine ⟨p1,p2,vs1,vs2,rfl,rfl,t2.sh _ _ h1,h2,by rw [lim_eq,← r1.1,← r2.1];exact hl,fun p hp=>?_⟩
  obtain ⟨t3,R3,n1,n2,n3⟩:=R2.new (o:=.lst (vs1++vs2)) hp
  exact q _ _ _ (.ref p) [p] ((t1.trans t2).trans t3) R3 (RepA.new upd_same n1 ((r1.mono t2.sf).append r2)) ((Own.one R2 hp).back (t1.trans t2))
 .cases e
end
abbrev MO:=AS->Option (Option Int×AS)
def SO (K:W.Frag) (to:TO) (m:MO):Prop:=∀ {H₀ Hf₀ Hf:Hp}{S:AS}{σ:St}{H:Hp}{Fs:List (List Addr)}{o:Option Int}{S':AS},Rel K H₀ Hf₀ Hf S σ H Fs->m S=some (o,S')->∀ Q:Option Int->Hp->Prop,
 (∀ Hf' H' Fs',Stp Hf H Fs Hf' H' Fs'->Rel K H₀ Hf₀ Hf' S' σ H' Fs'->Q o H')->to σ H Q
def oNone:MO:=fun S=>some (none,S)
def oSome (m:ME):MO:=fun S=>(m S).bind fun x=>match x.1 with
 | .int i=>some (some i,x.2)
 | _=>none
def cutG {α:Type}(xs:List α) (lo hi:Option Int):List α:=(xs.drop (HT.sIx xs.length 0 lo)).take (HT.sIx xs.length xs.length hi-HT.sIx xs.length 0 lo)
def kSl (l:ML) (lo hi:MO):MK:=fun S=>(l S).bind fun x=>(lo x.2).bind fun y=>(hi y.2).map fun z=>(.ow ((cutG x.1 y.1 z.1).map .sh),z.2)
section
variable {K:W.Frag}{te:TE}{tl th:TO}{l:ML}{lo hi:MO}{m:ME}
theorem so_none:SO K tNoPart oNone:=by
 intro H₀ Hf₀ Hf S σ H Fs o S' R e Q q
 cases e
 exact q _ _ _ .refl R
theorem so_some (h:SR K te m):SO K (tPart te) (oSome m):=by
 intro H₀ Hf₀ Hf S σ H Fs o S' R e Q q
 obtain ⟨x,e1,e⟩:=oBq.mp e
 refine h R (d:=x.1) (S':=x.2) e1 _ fun Hf1 H1 Fs1 v t1 R1 r1=>?_
 split at e
 .rename_i i hx
  rw [hx] at r1
  cases r1
  cases e
  exact ⟨i,rfl,q _ _ _ t1 R1⟩
 .cases e
theorem Reps.cut {H:Hp}{ds:List D}{vs:List V}(r:Reps K H ds vs) (lo hi:Option Int):Reps K H (cutG ds lo hi) (cutV vs lo hi):=by
 unfold cutG cutV
 rw [r.1]
 exact (r.drop _).take _
theorem sk_sl (hl:SQ K te l) (hlo:SO K tl lo) (hhi:SO K th hi):SK K (tSl (rSlL K) te tl th) (kSl l lo hi):=by
 intro H₀ Hf₀ Hf S σ H Fs av S' R e Q q
 obtain ⟨x,e1,e⟩:=oBq.mp e
 obtain ⟨y,e2,e⟩:=oBq.mp e
 obtain ⟨z,e3,e⟩:=oMq.mp e
 cases e
 refine hl R (ds:=x.1) (S':=x.2) e1 _ fun Hf1 H1 Fs1 p1 vs1 t1 R1 h1 r1=>hlo R1 (o:=y.1) (S':=y.2) e2 _ fun Hf2 H2 Fs2 t2 R2=>hhi R2 (o:=z.1) (S':=z.2) e3 _ fun Hf3 H3 Fs3 t3 R3=>?_
 refine ⟨p1,vs1,rfl,(t2.sh.trans t3.sh).seq h1,fun p hp=>?_⟩
 obtain ⟨t4,R4,n1,n2,n3⟩:=R3.new (o:=.lst (cutV vs1 y.1 z.1)) hp
 exact q _ _ _ (.ref p) [p] (((t1.trans t2).trans t3).trans t4) R4 (RepA.new upd_same n1 ((r1.mono (t2.sf.trans t3.sf)).cut _ _)) ((Own.one R3 hp).back ((t1.trans t2).trans t3))
end
def dIx:D->D->Option D
 | .list ds,.int i=>atI ds i
 | .scr ns,.int i=>(atI ns i).map .int
 | _,_=>none
def dIxT:D->D->Option D
 | .tup ds,.int i=>atI ds i
 | _,_=>none
def kIx (l:ML) (b:ME):MK:=fun S=>(l S).bind fun x=>(b x.2).bind fun y=>match y.1 with
 | .int i=>(atI x.1 i).map fun d=>(.sh d,y.2)
 | _=>none
section
variable {K:W.Frag}{ta tb:TE}
theorem Reps.atI {H:Hp}{ds:List D}{vs:List V}{i:Int}{d:D}(r:Reps K H ds vs) (h:L2.atI ds i=some d):∃ v,L2.atI vs i=some v/\Rep K H d v:=by
 unfold L2.atI at h ⊢
 rw [r.1] at h
 obtain ⟨j,h1,h2⟩:=oBq.mp h
 rw [h1]
 exact r.get h2
theorem od_ix:OpD K (rIxL K) dIx:=by
 intro x y H Q dx dy d rx ry e q
 unfold dIx at e
 split at e
 .rename_i ds i
  cases ry
  obtain ⟨p,vs,rfl,h,r⟩:=rx.list_inv
  obtain ⟨l,e'⟩:=r
  obtain ⟨v,h1,h2⟩:=Reps.atI (K:=K) (H:=H) (ds:=ds) (vs:=vs) ⟨l,e'⟩ e
  exact ⟨p,vs,i,v,rfl,rfl,SqL.of h,h1,q v h2⟩
 .rename_i ns i
  cases ry
  cases rx
  rename_i p h
  obtain ⟨n,h1,h2⟩:=oMq.mp e
  subst h2
  obtain ⟨v,h3,h4⟩:=Reps.atI (K:=K) (H:=H) (reps_ints ns) (i:=i) (d:=.int n) (by
   unfold L2.atI at h1 ⊢
   rw [lMq]
   obtain ⟨j,g1,g2⟩:=oBq.mp h1
   rw [g1]
   show (ns.map D.int)[j]?=_
   rw [gMq,g2]
   rfl)
  exact ⟨p,_,i,v,rfl,rfl,h,h3,q v h4⟩
 .cases e
theorem od_ixT:OpD K (rIxT K) dIxT:=by
 intro x y H Q dx dy d rx ry e q
 unfold dIxT at e
 split at e
 .rename_i ds i
  cases ry
  obtain ⟨p,vs,rfl,h,r⟩:=rx.tup_inv
  obtain ⟨v,h1,h2⟩:=Reps.atI (K:=K) (H:=H) (ds:=ds) (vs:=vs) r e
  exact ⟨p,vs,i,v,rfl,rfl,SqT.of h,h1,q v h2⟩
 .cases e
theorem sk_ix {l:ML}{b:ME}(hl:SQ K ta l) (hb:SR K tb b):SK K (tOp (rIxL K) ta tb) (kIx l b):=by
 intro H₀ Hf₀ Hf S σ H Fs av S' R e Q q
 obtain ⟨x,e1,e⟩:=oBq.mp e
 obtain ⟨y,e2,e⟩:=oBq.mp e
 refine hl R (ds:=x.1) (S':=x.2) e1 _ fun Hf1 H1 Fs1 p1 vs1 t1 R1 h1 r1=>hb R1 (d:=y.1) (S':=y.2) e2 _ fun Hf2 H2 Fs2 v2 t2 R2 r2=>?_
 split at e
 .rename_i i hy
  rw [hy] at r2
  cases r2
  obtain ⟨d,e3,e⟩:=oMq.mp e
  cases e
  obtain ⟨v,g1,g2⟩:=(r1.mono t2.sf).atI e3
  exact ⟨p1,vs1,i,v,rfl,rfl,t2.sh.seq h1,g1,q _ _ _ v [] (t1.trans t2) R2 (.sh g2) .nil⟩
 .cases e
end
def CbD (K:W.Frag) (r:List V->Hp->VK->Prop) (f:List D->Option D):Prop:=∀ {vs:List V}{H:Hp}{Q:VK}{ds:List D}{d:D},Reps K H ds vs->f ds=some d->(∀ v,Rep K H d v->Q v H)->r vs H Q
def rCB (f:List D->Option D) (a:ML):ME:=fun S=>(a S).bind fun x=>(f x.1).map fun d=>(d,x.2)
theorem sr_cb {K:W.Frag}{r:List V->Hp->VK->Prop}{f:List D->Option D}{ta:TA}{a:ML}(hr:CbD K r f) (ha:SAr K ta a):SR K (tCB r ta) (rCB f a):=by
 intro H₀ Hf₀ Hf S σ H Fs d S' R e Q q
 obtain ⟨x,e1,e⟩:=oBq.mp e
 obtain ⟨z,e3,e⟩:=oMq.mp e
 cases e
 exact ha R (ds:=x.1) (S':=x.2) e1 _ fun Hf1 H1 Fs1 vs t1 R1 r1=>hr r1 e3 fun v rv=>q _ _ _ v t1 R1 rv
def fLen:List D->Option D
 | [.list ds]=>some (.int ds.length)
 | [.tup ds]=>some (.int ds.length)
 | [.scr ns]=>some (.int ns.length)
 | [.str x]=>ifC (x.length<=LIM) (some (.int x.length))
 | _=>none
def fAbs:List D->Option D
 | [.int i]=>some (.int (if i<0 then -i else i))
 | _=>none
def fMax2:List D->Option D
 | [.int i,.int j]=>some (.int (if j>i then j else i))
 | _=>none
def fMin2:List D->Option D
 | [.int i,.int j]=>some (.int (if j<i then j else i))
 | _=>none
def fInt1:List D->Option D
 | [.int i]=>some (.int i)
 | [.bl k]=>some (.int (if k then 1 else 0))
 | _=>none
def fIsi:List D->Option D
 | [.int _,.ty T]=>if T = "int" then some (.bl true) else if T = "bool" then some (.bl false) else none
 | [.bl _,.ty T]=>if T = "bool" ∨ T = "int" then some (.bl true) else none
 | [.str _,.ty T]=>if T = "str" then some (.bl true) else none
 | [.list _,.ty T]=>if T = "list" then some (.bl true) else none
 | [.tup _,.ty T]=>if T = "tuple" then some (.bl true) else none
 | [.dict _,.ty T]=>if T = "dict" then some (.bl true) else none
 | _=>none
def intsOf:List D->Option (List Int)
 | []=>some []
 | .int i::ds=>(intsOf ds).map (i :: ·)
 | _=>none
theorem intsOf_eq:∀ {ds:List D}{ns:List Int},intsOf ds=some ns->ds=ns.map .int
 | [],ns,h=>by cases h;rfl
 | d::ds,ns,h=>by
  cases d with
  | int i =>
   obtain ⟨ms,h1,h2⟩:=oMq.mp (show (intsOf ds).map (i :: ·)=some ns from h)
   subst h2
   rw [intsOf_eq h1]
   rfl
  | _=>cases h
@[simp] theorem intsOf_map (ns:List Int):intsOf (ns.map .int)=some ns:=by
 induction ns with
 | nil=>rfl
 | cons n ns ih=>show (intsOf (ns.map .int)).map (n :: ·)=_;rw [ih];rfl
theorem reps_ints_inv {K:W.Frag}{H:Hp}:∀ {ns:List Int}{vs:List V},Reps K H (ns.map .int) vs->vs=ns.map V.int
 | [],vs,h=>h.nil_inv
 | n::ns,vs,h=>by
  obtain ⟨v,ws,rfl,h1,h2⟩:=Reps.cons_inv (d:=.int n) (ds:=ns.map .int) h
  cases h1
  rw [reps_ints_inv h2]
  rfl
def leastOf:List Int->Option Int
 | []=>none
 | n::ns=>some (ns.foldl min n)
theorem foldl_min_mem:∀ (ns:List Int) (n:Int),ns.foldl min n∈n::ns
 | [],n=>by simp
 | m::ns,n=>by
  have h:=foldl_min_mem ns (min n m)
  rw [bP]
  rcases ai.mp h with e|e
  .rw [e]
   by_cases c:n<=m
   .rw [Int.min_eq_left c];simp
   .rw [Int.min_eq_right (by omega)];simp
  .exact mCo _ (mCo _ e)
theorem foldl_min_le:∀ (ns:List Int) (n:Int),(ns.foldl min n<=n)/\∀ x∈ns,ns.foldl min n<=x
 | [],n=>⟨fN _,fun x h=>by cases h⟩
 | m::ns,n=>by
  obtain ⟨h1,h2⟩:=foldl_min_le ns (min n m)
  rw [bP]
  refine ⟨by omega,fun x hx=>?_⟩
  rcases ai.mp hx with e|e
  .subst e;omega
  .exact h2 x e
def fMin:List D->Option D
 | [.list ds]=>(intsOf ds).bind fun ns=>(leastOf ns).map .int
 | _=>none
section
variable {K:W.Frag}
theorem cb_len:CbD K (fun xs H Q=>∃ x n,xs=[x]/\LenV K x H n/\Q (.int n) H) fLen:=by
 intro vs H Q ds d r e q
 unfold fLen at e
 split at e
 .obtain ⟨v,ws,rfl,h1,h2⟩:=r.cons_inv
  rw [h2.nil_inv]
  obtain ⟨p,us,rfl,h3,h4⟩:=h1.list_inv
  cases e
  exact ⟨_,_,rfl,.inl ⟨us,SqL.of h3,h4.1⟩,q _ .int⟩
 .obtain ⟨v,ws,rfl,h1,h2⟩:=r.cons_inv
  rw [h2.nil_inv]
  obtain ⟨p,us,rfl,h3,h4⟩:=h1.tup_inv
  cases e
  exact ⟨_,_,rfl,.inr ⟨us,SqT.of h3,h4.1⟩,q _ .int⟩
 .obtain ⟨v,ws,rfl,h1,h2⟩:=r.cons_inv
  rw [h2.nil_inv]
  cases e
  cases h1 with
  | scr h=>exact ⟨_,_,rfl,.inl ⟨_,h,(lMq _).symm⟩,q _ .int⟩
 .rcases ifC_cases e with ⟨hl,e⟩|e
  .skip
   obtain ⟨v,ws,rfl,h1,h2⟩:=r.cons_inv
   rw [h2.nil_inv]
   cases e
   cases h1
   exact ⟨_,_,rfl,⟨by rw [lim_eq];exact hl,rfl⟩,q _ .int⟩
  .cases e
 .cases e
theorem cb_min:CbD K (fun xs H Q=>∃ (a:Addr) (ns:List Int),xs=[.ref a]/\SqL K H a (ns.map V.int)/\0<ns.length/\∀ M,M∈ns->(∀ x,x∈ns->M<=x)->Q (.int M) H) fMin:=by
 intro vs H Q ds d r e q
 unfold fMin at e
 split at e
 .obtain ⟨v,ws,rfl,h1,h2⟩:=r.cons_inv
  rw [h2.nil_inv]
  obtain ⟨ns,e1,e⟩:=oBq.mp e
  obtain ⟨m,e2,e⟩:=oMq.mp e
  cases e
  rw [intsOf_eq e1] at h1
  obtain ⟨p,us,rfl,h3,h4⟩:=h1.list_inv
  rw [reps_ints_inv h4] at h3
  cases ns with
  | nil=>cases e2
  | cons n ns =>
   cases e2
   refine ⟨p,_,rfl,SqL.of h3,by simp,fun M hM hm=>?_⟩
   have e3:M=ns.foldl min n:=by
    have a1:=hm _ (foldl_min_mem ns n)
    have a2:=foldl_min_le ns n
    have a3:ns.foldl min n<=M:=by
     rcases ai.mp hM with z|z
     .subst z;exact a2.1
     .exact a2.2 M z
    omega
   rw [e3]
   exact q _ .int
 .cases e
theorem cb_isi:CbD K (fun xs H Q=>∃ x T b,xs=[x,.ty T]/\IsiV K x H T b/\Q (.bl b) H) fIsi:=by
 intro vs H Q ds d r e q
 unfold fIsi at e
 split at e
 all_goals first|(exact absurd e (fun z=>by cases z))|skip
 all_goals
  obtain ⟨v,ws,rfl,h1,h2⟩:=r.cons_inv
  obtain ⟨u,zs,rfl,h3,h4⟩:=h2.cons_inv
  rw [h4.nil_inv]
  cases h3
 .cases h1
  split at e
  .rename_i hT;cases e;exact ⟨_,_,_,rfl,.inl ⟨hT,rfl⟩,q _ .bl⟩
  .split at e
   .rename_i hT;cases e;exact ⟨_,_,_,rfl,.inr ⟨hT,rfl⟩,q _ .bl⟩
   .cases e
 .cases h1
  split at e
  .rename_i hT;cases e
   rcases hT with hT|hT
   .exact ⟨_,_,_,rfl,.inl ⟨hT,rfl⟩,q _ .bl⟩
   .exact ⟨_,_,_,rfl,.inr ⟨hT,rfl⟩,q _ .bl⟩
  .cases e
 .cases h1
  split at e
  .rename_i hT;cases e;exact ⟨_,_,_,rfl,⟨hT,rfl⟩,q _ .bl⟩
  .cases e
 .obtain ⟨p,us,rfl,g3,g4⟩:=h1.list_inv
  split at e
  .rename_i hT;cases e;exact ⟨_,_,_,rfl,.inl ⟨hT,rfl,us,SqL.of g3⟩,q _ .bl⟩
  .cases e
 .obtain ⟨p,us,rfl,g3,g4⟩:=h1.tup_inv
  split at e
  .rename_i hT;cases e;exact ⟨_,_,_,rfl,.inr (.inr ⟨hT,rfl,us,SqT.of g3⟩),q _ .bl⟩
  .cases e
 .obtain ⟨p,us,rfl,g3,g4⟩:=h1.dict_inv
  split at e
  .rename_i hT;cases e;exact ⟨_,_,_,rfl,.inr (.inl ⟨hT,rfl,us,g3⟩),q _ .bl⟩
  .cases e
end
abbrev MF:=List D->Option AV
def spOf (K:W.Frag) (f:MF):Sp:=fun vs H Q _=>∃ (Hf:Hp) (ds:List D) (a:AV),Same Hf H/\Reps K Hf ds vs/\f ds=some a /\
 ∀ Hf' H' v F,Same Hf Hf'->Same H H'->Same Hf' H'->(∀ b,Hf b=none->H b≠none->Hf' b=none)->RepA K Hf' H' a v F->F.Nodup->(∀ q∈F,H q=none)->Q v H'
def kCall (f:MF) (a:MA):MK:=fun S=>(a S).bind fun x=>(f (x.1.map strip)).map fun r=>(r,x.2)
theorem sk_call {K:W.Frag}{f:MF}{ta:TA}{a:MA}(ha:SA K ta a):SK K (tCall (spOf K f) [] E0 ta) (kCall f a):=by
 intro H₀ Hf₀ Hf S σ H Fs av S' R e Q q
 obtain ⟨x,e1,e⟩:=oBq.mp e
 obtain ⟨z,e3,e⟩:=oMq.mp e
 cases e
 refine ha R (as:=x.1) (S':=x.2) e1 _ fun Hf1 H1 Fs1 vs Gs t1 R1 r1 o1=>?_
 obtain ⟨R2,r2,t2⟩:=R1.gives t1 r1 o1
 rw [aNq]
 refine ⟨_,_,av,R2.sub,r2,e3,fun Hf' H' v F s1 s2 s3 l r nd fr=>?_⟩
 have t3:Stp (Z.frz Hf1 H1 Gs.flatten) H1 Fs1 Hf' H' Fs1:=⟨s1,s2,fun _ h=>h,fun b h g=>.inl (by
  by_cases e:H1 b=none
  .exact e
  .exact absurd (l b h e) g)⟩
 have hn:∀ q∈Fs1.flatten,Hf' q=none:=fun q hq=>l q (R2.mem hq).2 (R2.mem hq).1
 have R3:Rel K H₀ Hf₀ Hf' x.2 σ H' Fs1:=R2.more s2 s1 s3 hn fun b h1 h2=>l b (R2.lim b h1 h2) (ne_none R2.fr h2)
 refine q _ _ _ v F (t2.trans t3) R3 r ⟨nd,fun q hq=>R2.fr.free (fr q hq),fun q hq m=>(R2.mem m).1 (fr q hq),fun q hq=>.inl (t1.sh.free (fr q hq))⟩
inductive Out where
 | nx (S:AS)|rt (a:AV)|bk (S:AS)|ct (S:AS)
abbrev MS:=AS->Option Out
def OutOk (K:W.Frag) (H₀ Hf₀ Hf:Hp) (D:Ends):Out->Prop
 | .nx S=>∀ Hf' σ' H' Fs',Same Hf Hf'->Rel K H₀ Hf₀ Hf' S σ' H' Fs'->D.nx σ' H'
 | .bk S=>∀ Hf' σ' H' Fs',Same Hf Hf'->Rel K H₀ Hf₀ Hf' S σ' H' Fs'->D.bk σ' H'
 | .ct S=>∀ Hf' σ' H' Fs',Same Hf Hf'->Rel K H₀ Hf₀ Hf' S σ' H' Fs'->D.ct σ' H'
 | .rt a=>∀ Hf' H' v F,Same Hf₀ Hf'->Same H₀ H'->Same Hf' H'->(∀ b,Hf₀ b=none->H₀ b≠none->Hf' b=none)->RepA K Hf' H' a v F->F.Nodup->(∀ q∈F,H₀ q=none)->D.rt v H'
def SS (K:W.Frag) (t:TS) (m:MS):Prop:=∀ {H₀ Hf₀ Hf:Hp}{S:AS}{σ:St}{H:Hp}{Fs:List (List Addr)}{o:Out},Rel K H₀ Hf₀ Hf S σ H Fs->m S=some o->∀ D:Ends,OutOk K H₀ Hf₀ Hf D o->t D σ H
theorem OutOk.mono {K:W.Frag}{H₀ Hf₀ Hf Hf':Hp}{D:Ends}{o:Out}(s:Same Hf Hf') (h:OutOk K H₀ Hf₀ Hf D o):OutOk K H₀ Hf₀ Hf' D o:=by
 cases o with
 | nx S=>exact fun Hf2 σ' H' Fs' s2 R=>h Hf2 σ' H' Fs' (s.trans s2) R
 | bk S=>exact fun Hf2 σ' H' Fs' s2 R=>h Hf2 σ' H' Fs' (s.trans s2) R
 | ct S=>exact fun Hf2 σ' H' Fs' s2 R=>h Hf2 σ' H' Fs' (s.trans s2) R
 | rt a=>exact h
def mNext:MS:=fun S=>some (.nx S)
def mBreak:MS:=fun S=>some (.bk S)
def mCont:MS:=fun S=>some (.ct S)
def mNever:MS:=fun _=>none
def mSeq (a b:MS):MS:=fun S=>(a S).bind fun o=>match o with
 | .nx S'=>b S'
 | o=>some o
def mAsg (i:Nat) (k:MK):MS:=fun S=>(k S).map fun x=>.nx (x.2.set i (some x.1))
def mDrop (k:MK):MS:=fun S=>(k S).map fun x=>.nx x.2
def mRet (k:MK):MS:=fun S=>(k S).map fun x=>.rt x.1
def mIf (c:MT) (a b:MS):MS:=fun S=>(c S).bind fun x=>if x.1=true then a x.2 else b x.2
section
variable {K:W.Frag}{t u:TS}{a b:MS}{te:TE}{k:MK}
theorem ss_next:SS K tNext mNext:=by
 intro H₀ Hf₀ Hf S σ H Fs o R e D h
 cases e
 exact h _ _ _ _ (.refl _) R
theorem ss_seq (ha:SS K t a) (hb:SS K u b):SS K (tSeq t u) (mSeq a b):=by
 intro H₀ Hf₀ Hf S σ H Fs o R e D h
 obtain ⟨x,e1,e⟩:=oBq.mp e
 refine ha R e1 _ ?_
 cases x with
 | nx S'=>exact fun Hf' σ' H' Fs' s R'=>hb R' e D (h.mono s)
 | rt a=>cases e;exact h
 | bk a=>cases e;exact h
 | ct a=>cases e;exact h
theorem ss_asg {i:Nat}(hk:SK K te k):SS K (tAsg te (gName i)) (mAsg i k):=by
 intro H₀ Hf₀ Hf S σ H Fs o R e D h
 obtain ⟨x,e1,e⟩:=oMq.mp e
 cases e
 refine hk R (a:=x.1) (S':=x.2) e1 _ fun Hf1 H1 Fs1 v F t1 R1 r1 o1=>?_
 exact h _ _ _ _ t1.sf (R1.set i r1 o1.nd fun q hq=>⟨o1.fr q hq,o1.out q hq⟩)
theorem ss_ret (hk:SK K te k):SS K (tRet te) (mRet k):=by
 intro H₀ Hf₀ Hf S σ H Fs o R e D h
 obtain ⟨x,e1,e⟩:=oMq.mp e
 cases e
 exact hk R (a:=x.1) (S':=x.2) e1 _ fun Hf1 H1 Fs1 v F t1 R1 r1 o1=>h _ _ v F R1.sf R1.fr R1.sub R1.lim r1 o1.nd o1.fr
theorem ss_if {c:TT}{m:MT}(hc:STt K c m) (ha:SS K t a) (hb:SS K u b):SS K (tIfS c t u) (mIf m a b):=by
 intro H₀ Hf₀ Hf S σ H Fs o R e D h
 obtain ⟨x,e1,e⟩:=oBq.mp e
 refine hc R (b:=x.1) (S':=x.2) e1 _ fun Hf1 H1 Fs1 t1 R1=>?_
 split at e
 .rename_i hx
  rw [hx]
  exact iteT (ha R1 e D (h.mono t1.sf))
 .rename_i hx
  rw [cU] at hx
  rw [hx]
  exact iteF (hb R1 e D (h.mono t1.sf))
end
def owAt (S:AS) (i:Nat):Option (List AV):=match S[i]?.join with
 | some (.ow avs)=>some avs
 | _=>none
def owdAt (S:AS) (i:Nat):Option (List (Key×D)):=match S[i]?.join with
 | some (.owd kvs)=>some kvs
 | _=>none
def mApp (i:Nat) (k:MK):MS:=fun S=>(owAt S i).bind fun _=>(k S).bind fun x=>(owAt x.2 i).bind fun avs =>
 ifC (avs.length<LIM) (some (.nx (x.2.set i (some (.ow (avs++[x.1]))))))
def mExt (i:Nat) (l:ML):MS:=fun S=>(owAt S i).bind fun _=>(l S).bind fun x=>(owAt x.2 i).bind fun avs =>
 ifC (avs.length+x.1.length<=LIM) (some (.nx (x.2.set i (some (.ow (avs++x.1.map .sh))))))
def intOf:D->Option Int
 | .int i=>some i
 | _=>none
def mPut (i:Nat) (b:ME) (k:MK):MS:=fun S=>(kFrz k S).bind fun x=>(owAt x.2 i).bind fun _=>(b x.2).bind fun y=>(owAt y.2 i).bind fun avs=>(intOf y.1).bind fun j=>(ixN avs.length j).map fun n =>
 .nx (y.2.set i (some (.ow (((avs.map strip).set n (strip x.1)).map .sh))))
def keyOf:D->Option Key
 | .int i=>some (.inl i)
 | .str x=>some (.inr x)
 | _=>none
def putD (kvs:List (Key×D)) (k:Key) (d:D):List (Key×D):=if kvs.any (fun kv=>decide (kv.1=k)) then kvs.map (fun kv=>if kv.1=k then (kv.1,d) else kv) else kvs++[(k,d)]
def getD (kvs:List (Key×D)) (k:Key):Option D:=(kvs.find? fun kv=>decide (kv.1=k)).map (·.2)
def mDPut (i:Nat) (b:ME) (k:MK):MS:=fun S=>(kFrz k S).bind fun x=>(owdAt x.2 i).bind fun _=>(b x.2).bind fun y=>(owdAt y.2 i).bind fun kvs=>(keyOf y.1).bind fun key =>
 ifC (kvs.length<LIM) (some (.nx (y.2.set i (some (.owd (putD kvs key (strip x.1)))))))
section
variable {K:W.Frag}{H₀ Hf₀ Hf H:Hp}{S:AS}{σ:St}{Fs:List (List Addr)}
theorem Rel.turn (R:Rel K H₀ Hf₀ Hf S σ H Fs) {i:Nat}{av:AV}{p:Addr}{o:HO}{F F':List Addr}(s1:σ[i]?=some (some (.ref p))) (s2:Fs[i]?=some F) (hp:p∈F) (r:RepA K Hf (upd H p o) av (.ref p) F') (nd:F'.Nodup)
  (hf:∀ q∈F',H₀ q=none/\q∉(Fs.set i []).flatten):Rel K H₀ Hf₀ Hf (S.set i (some av)) σ (upd H p o) (Fs.set i F'):=by
 have hin:p∈Fs.flatten:=mFq.mpr ⟨F,mGq s2,hp⟩
 have pn:Hf p=none:=(R.mem hin).2
 have p0:H₀ p=none:=R.fresh p hin
 have out:=flat_set_out R.nd s2 hp
 have R1:Rel K H₀ Hf₀ Hf (S.set i none) σ (upd H p o) (Fs.set i []):=by
  refine ⟨by simp [R.len],by simp [R.lenF],fun j a ej=>?_,fun j ej=>?_,flat_set_nodup i R.nd bh (fun p hp=>by cases hp),fun p hp=>R.fresh p (flat_set_nil hp),fun b u e=>?_,fun b u e=>?_,R.lim,R.sf⟩
  .rw [bo] at ej
   by_cases hij:i=j
   .subst hij
    rw [if_pos rfl] at ej
    split at ej <;> cases ej
   .rw [if_neg hij] at ej
    obtain ⟨w,G,f1,f2,q⟩:=R.rep j a ej
    refine ⟨w,G,f1,by rw [au hij];exact f2,q.keep (.refl _) (fun c hc=>upd_ne fun e=>out ?_) fun c hc=>(q.owned c hc).2⟩
    subst e
    exact mFq.mpr ⟨G,mGq (i:=j) (by rw [au hij];exact f2),hc⟩
  .rw [bo] at ej
   by_cases hij:i=j
   .subst hij
    rw [if_pos rfl] at ej
    split at ej
    .rename_i hi
     rw [aF (R.lenF.symm ▸ hi)]
    .cases ej
   .rw [if_neg hij] at ej
    rw [au hij]
    exact R.emp j ej
  .rw [upd_ne fun z=>by rw [z,pn] at e;cases e]
   exact R.sub b u e
  .rw [upd_ne fun z=>by rw [z,p0] at e;cases e]
   exact R.fr b u e
 exact R1.again (F:=F) s1 r nd hf
theorem flat_mem_of {i:Nat}{F:List Addr}{q:Addr}(s2:Fs[i]?=some F) (h:q∈F):q∈Fs.flatten:=mFq.mpr ⟨F,mGq s2,h⟩
theorem RepAs.snoc {as:List AV}{vs:List V}{Gs:List (List Addr)}{a:AV}{v:V}{F:List Addr}(r:RepAs K Hf H as vs Gs) (s:RepA K Hf H a v F):RepAs K Hf H (as++[a]) (vs++[v]) (Gs++[F]):=by
 obtain ⟨h1,h2,h3⟩:=r
 refine ⟨by simp [h1],by simp [h2],fun i b w G e1 e2 e3=>?_⟩
 by_cases hi:i<as.length
 .rw [gZq hi] at e1
  rw [gZq (h1 ▸ hi)] at e2
  rw [gZq (h2 ▸ hi)] at e3
  exact h3 i b w G e1 e2 e3
 .have hi':i=as.length:=by
   have:=(gSq.mp e1).1
   rw [lAq,lSq] at this
   omega
  subst hi'
  rw [gYq (af _),cV] at e1
  rw [h1,gYq (af _),cV] at e2
  rw [h2,gYq (af _),cV] at e3
  cases e1
  cases e2
  cases e3
  exact s
theorem RepAs.keepUpd {as:List AV}{vs:List V}{Gs:List (List Addr)}{p:Addr}{o:HO}(r:RepAs K Hf H as vs Gs) (hp:p∉Gs.flatten):RepAs K Hf (upd H p o) as vs Gs :=
 ⟨r.1,r.2.1,fun i a v F h1 h2 h3=>by
  have q:=r.2.2 i a v F h1 h2 h3
  refine q.keep (.refl _) (fun c hc=>upd_ne fun e=>hp ?_) fun c hc=>(q.owned c hc).2
  subst e
  exact mFq.mpr ⟨F,mGq h3,hc⟩⟩
theorem RepA.keepUpd {a:AV}{v:V}{F:List Addr}{p:Addr}{o:HO}(q:RepA K Hf H a v F) (hp:p∉F):RepA K Hf (upd H p o) a v F :=
 q.keep (.refl _) (fun c hc=>upd_ne fun e=>hp (e ▸ hc)) fun c hc=>(q.owned c hc).2
theorem reps_as {ds:List D}{vs:List V}(r:Reps K Hf ds vs):RepAs K Hf H (ds.map .sh) vs (aB ds.length []) :=
 ⟨by simp [r.1],by simp,fun i a v F h1 h2 h3=>by
  rw [gMq] at h1
  cases q:ds[i]? with
  | none=>rw [q] at h1;cases h1
  | some d =>
   rw [q] at h1
   cases h1
   have:F=[]:=cL (mGq h3)
   subst this
   exact .sh (r.2 i d v q h2)⟩
theorem RepAs.append {as bs:List AV}{vs ws:List V}{Gs Es:List (List Addr)}(r:RepAs K Hf H as vs Gs) (s:RepAs K Hf H bs ws Es):RepAs K Hf H (as++bs) (vs++ws) (Gs++Es):=by
 obtain ⟨h1,h2,h3⟩:=r
 refine ⟨by simp [h1,s.1],by simp [h2,s.2.1],fun i b w G e1 e2 e3=>?_⟩
 by_cases hi:i<as.length
 .rw [gZq hi] at e1
  rw [gZq (h1 ▸ hi)] at e2
  rw [gZq (h2 ▸ hi)] at e3
  exact h3 i b w G e1 e2 e3
 .rw [gYq (by omega)] at e1
  rw [gYq (by omega),← h1] at e2
  rw [gYq (by omega),← h2] at e3
  exact s.2.2 _ b w G e1 e2 e3
end
section
variable {K:W.Frag}{te ta tb:TE}{k:MK}{b:ME}{l:ML}
theorem owAt_some {S:AS}{i:Nat}{avs:List AV}(h:owAt S i=some avs):S[i]?=some (some (.ow avs)):=by
 unfold owAt at h
 split at h
 .rename_i z e
  cases h
  exact some_of_join e
 .cases h
theorem owdAt_some {S:AS}{i:Nat}{kvs:List (Key×D)}(h:owdAt S i=some kvs):S[i]?=some (some (.owd kvs)):=by
 unfold owdAt at h
 split at h
 .rename_i z e
  cases h
  exact some_of_join e
 .cases h
theorem Rel.ow {H₀ Hf₀ Hf H:Hp}{S:AS}{σ:St}{Fs:List (List Addr)}(R:Rel K H₀ Hf₀ Hf S σ H Fs) {i:Nat}{avs:List AV}(h:S[i]?=some (some (.ow avs))):∃ p vs Gs,σ[i]?=some (some (.ref p))/\Fs[i]?=some (p::Gs.flatten)/\H p=some (.lst vs)/\Hf p=none/\RepAs K Hf H avs vs Gs /\
  p∉Gs.flatten/\Gs.flatten.Nodup/\∀ q∈p::Gs.flatten,H₀ q=none/\q∉(Fs.set i []).flatten:=by
 obtain ⟨v,F,s1,s2,r,nd,o,_⟩:=R.move h
 obtain ⟨p,vs,Gs,rfl,rfl,h1,h2,h3⟩:=r.ow_inv
 exact ⟨p,vs,Gs,s1,s2,h1,h2,h3,(aL.mp nd).1,(aL.mp nd).2,o⟩
theorem ss_app {i:Nat}(hk:SK K te k):SS K (tDrop (tBM K "list" rAppend (tVar i) (tCons te tNil))) (mApp i k):=by
 intro H₀ Hf₀ Hf S σ H Fs o R e D h
 obtain ⟨a0,e0,e⟩:=oBq.mp e
 obtain ⟨x,e1,e⟩:=oBq.mp e
 obtain ⟨avs,e2,e⟩:=oBq.mp e
 rcases ifC_cases e with ⟨hl,e⟩|e
 .skip
  cases e
  obtain ⟨p,vs,Gs,s1,_,h1,_⟩:=R.ow (owAt_some e0)
  refine ⟨.ref p,s1,.inl ⟨rfl,vs,SqL.of h1⟩,hk R (a:=x.1) (S':=x.2) e1 _ fun Hf1 H1 Fs1 v F t1 R1 r1 o1=>?_⟩
  obtain ⟨p',vs',Gs',s1',s2',h1',h2',h3',h4',h5',h6'⟩:=R1.ow (owAt_some e2)
  rw [s1] at s1'
  cases s1'
  have pF:p∉F:=fun m=>o1.out p m (flat_mem_of s2' (by simp))
  refine ⟨p,vs',v,rfl,rfl,h1',by rw [lim_eq,← h3'.1];exact hl,h _ _ _ _ t1.sf (R1.turn s1 s2' (by simp) (F':=p::(Gs'++[F]).flatten) (RepA.news upd_same h2' ((h3'.keepUpd h4').snoc (r1.keepUpd pF))) ?_ fun q hq=>?_)⟩
  .rw [fAq,bF]
   refine aL.mpr ⟨fun m=>(mAq.mp m).elim h4' pF,nAq.mpr ⟨h5',o1.nd,fun a ha b hb e=>o1.out b hb (flat_mem_of s2' (mCo _ (e ▸ ha)))⟩⟩
  .rw [fAq,bF] at hq
   rcases ai.mp hq with z|z
   .exact h6' q (by rw [z];simp)
   .rcases mAq.mp z with z|z
    .exact h6' q (mCo _ z)
    .exact ⟨o1.fr q z,fun m=>o1.out q z (flat_set_nil m)⟩
 .cases e
theorem ss_ext {i:Nat}(hl:SL K te l):SS K (tDrop (tBM K "list" rExtend (tVar i) (tCons te tNil))) (mExt i l):=by
 intro H₀ Hf₀ Hf S σ H Fs o R e D h
 obtain ⟨a0,e0,e⟩:=oBq.mp e
 obtain ⟨x,e1,e⟩:=oBq.mp e
 obtain ⟨avs,e2,e⟩:=oBq.mp e
 rcases ifC_cases e with ⟨hle,e⟩|e
 .skip
  cases e
  obtain ⟨p,vs,Gs,s1,_,h1,_⟩:=R.ow (owAt_some e0)
  refine ⟨.ref p,s1,.inl ⟨rfl,vs,SqL.of h1⟩,hl R (ds:=x.1) (S':=x.2) e1 _ fun Hf1 H1 Fs1 b ws t1 R1 hb r1=>?_⟩
  obtain ⟨p',vs',Gs',s1',s2',h1',h2',h3',h4',h5',h6'⟩:=R1.ow (owAt_some e2)
  rw [s1] at s1'
  cases s1'
  refine ⟨p,b,vs',ws,rfl,rfl,h1',hb,by rw [lim_eq,← h3'.1,← r1.1];exact hle,h _ _ _ _ t1.sf (R1.turn s1 s2' (by simp) (F':=p::(Gs'++aB x.1.length []).flatten) (RepA.news upd_same h2' ((h3'.keepUpd h4').append (reps_as r1))) ?_ fun q hq=>?_)⟩
  .rw [fAq,repl_flat,aNq]
   exact aL.mpr ⟨h4',h5'⟩
  .rw [fAq,repl_flat,aNq] at hq
   exact h6' q hq
 .cases e
theorem getD_rep {H:Hp}:∀ {ds:List (Key×D)}{kvs:List (Key×V)}{key:Key},RepKs K H ds kvs->match getD ds key with
  | some d=>∃ v,valV kvs key=some v/\Rep K H d v
  | none=>valV kvs key=none
 | [],kvs,key,h=>by
  have:kvs=[]:=by
   have:=congrArg bY h.1
   simpa using this.symm
  subst this
  rfl
 | d::ds,[],key,h=>by
  have:=congrArg bY h.1
  simp at this
 | d::ds,v::kvs,key,h=>by
  have h1:d.1=v.1/\ds.map (·.1)=kvs.map (·.1):=by
   have:=h.1
   simpa using this
  have h2:Rep K H d.2 v.2:=h.2 0 d v rfl rfl
  have ht:RepKs K H ds kvs:=⟨h1.2,fun i a b e1 e2=>h.2 (i+1) a b (by simpa using e1) (by simpa using e2)⟩
  unfold getD valV
  by_cases c:d.1=key
  .rw [dm (by simp [c]),dm (by simp [← h1.1,c])]
   exact ⟨v.2,rfl,h2⟩
  .rw [cg (by simp [c]),cg (by simp [← h1.1,c])]
   exact getD_rep ht
theorem keyOf_rep {H:Hp}{d:D}{v:V}{key:Key}(h:keyOf d=some key) (r:Rep K H d v):v=kV key:=by
 cases r <;> simp only [keyOf] at h
 all_goals first|(exfalso;simp at h;done)|skip
 all_goals (cases h;rfl)
theorem RepKs.key {H:Hp}{ds:List (Key×D)}{kvs:List (Key×V)}(h:RepKs K H ds kvs) {i:Nat}{d:Key×D}{v:Key×V}(e1:ds[i]?=some d) (e2:kvs[i]?=some v):d.1=v.1:=by
 have:=congrArg (fun l=>l[i]?) h.1
 simp only [gMq,e1,e2,dG] at this
 exact aT.inj this
theorem RepKs.len {H:Hp}{ds:List (Key×D)}{kvs:List (Key×V)}(h:RepKs K H ds kvs):ds.length=kvs.length:=by
 have:=congrArg bY h.1
 simpa using this
theorem putD_rep {H:Hp}{ds:List (Key×D)}{kvs:List (Key×V)}{key:Key}{d:D}{v:V}(h:RepKs K H ds kvs) (r:Rep K H d v):RepKs K H (putD ds key d) (putK kvs key v):=by
 have ha:(ds.any fun kv=>decide (kv.1=key))=kvs.any fun kv=>decide (kv.1=key):=by
  have e1:(ds.any fun kv=>decide (kv.1=key))=(ds.map (·.1)).any fun k=>decide (k=key):=by rw [gU];rfl
  have e2:(kvs.any fun kv=>decide (kv.1=key))=(kvs.map (·.1)).any fun k=>decide (k=key):=by rw [gU];rfl
  rw [e1,e2,h.1]
 unfold putD putK
 rw [ha]
 split
 .refine ⟨?_,fun i a b e1 e2=>?_⟩
  .rw [mPq,mPq]
   have e1:((fun kv:Key×D=>kv.1)∘fun kv:Key×D=>if kv.1=key then (kv.1,d) else kv)=fun kv=>kv.1:=by
    funext kv
    show (if kv.1=key then (kv.1,d) else kv).1=kv.1
    split <;> rfl
   have e2:((fun kv:Key×V=>kv.1)∘fun kv:Key×V=>if kv.1=key then (kv.1,v) else kv)=fun kv=>kv.1:=by
    funext kv
    show (if kv.1=key then (kv.1,v) else kv).1=kv.1
    split <;> rfl
   rw [e1,e2]
   exact h.1
  .rw [gMq] at e1 e2
   obtain ⟨a',f1,rfl⟩:=oMq.mp e1
   obtain ⟨b',f2,rfl⟩:=oMq.mp e2
   have hk:=h.key f1 f2
   by_cases c:a'.1=key
   .rw [if_pos c,if_pos (hk ▸ c)]
    exact r
   .rw [if_neg c,if_neg (hk ▸ c)]
    exact h.2 i a' b' f1 f2
 .refine ⟨by rw [mBq,mBq,h.1];rfl,fun i a b e1 e2=>?_⟩
  by_cases hi:i<ds.length
  .rw [gZq hi] at e1
   rw [gZq (h.len ▸ hi)] at e2
   exact h.2 i a b e1 e2
  .have hi':i=ds.length:=by
    have:=(gSq.mp e1).1
    rw [lAq,lSq] at this
    omega
   subst hi'
   rw [gYq (af _),cV] at e1
   rw [h.len,gYq (af _),cV] at e2
   cases e1
   cases e2
   exact r
def kDict:MK:=fun S=>some (.owd [],S)
theorem sk_dict:SK K tDNewK kDict:=by
 intro H₀ Hf₀ Hf S σ H Fs av S' R e Q q
 cases e
 intro p hp
 obtain ⟨t,R2,n1,n2,n3⟩:=R.new (o:=.dK []) hp
 exact q _ _ _ (.ref p) [p] t R2 (.owd upd_same n1 ⟨rfl,fun i d v h=>by simp at h⟩) (Own.one R hp)
theorem Rel.owd {H₀ Hf₀ Hf H:Hp}{S:AS}{σ:St}{Fs:List (List Addr)}(R:Rel K H₀ Hf₀ Hf S σ H Fs) {i:Nat}{ds:List (Key×D)}(h:S[i]?=some (some (.owd ds))):∃ p kvs,σ[i]?=some (some (.ref p))/\Fs[i]?=some [p]/\H p=some (.dK kvs)/\Hf p=none/\RepKs K Hf ds kvs /\
  H₀ p=none/\p∉(Fs.set i []).flatten:=by
 obtain ⟨v,F,s1,s2,r,nd,o,_⟩:=R.move h
 obtain ⟨p,kvs,rfl,rfl,h1,h2,h3⟩:=r.owd_inv
 exact ⟨p,kvs,s1,s2,h1,h2,h3,(o p (by simp)).1,(o p (by simp)).2⟩
theorem ss_dput {i:Nat}(hk:SK K te k) (hb:SR K tb b):SS K (sDPut (tVar i) tb te) (mDPut i b k):=by
 intro H₀ Hf₀ Hf S σ H Fs o R e D h
 obtain ⟨x,e1,e⟩:=oBq.mp e
 obtain ⟨a0,e0,e⟩:=oBq.mp e
 obtain ⟨y,e2,e⟩:=oBq.mp e
 obtain ⟨kvs,e3,e⟩:=oBq.mp e
 obtain ⟨key,e4,e⟩:=oBq.mp e
 rcases ifC_cases e with ⟨hl,e⟩|e
 .skip
  cases e
  have hk':SK K te (kFrz k):=SK.frz hk
  refine hk' R (a:=x.1) (S':=x.2) e1 _ fun Hf1 H1 Fs1 v F t1 R1 r1 o1=>?_
  obtain ⟨p',_,s1,_⟩:=R1.owd (owdAt_some e0)
  refine ⟨_,s1,hb R1 (d:=y.1) (S':=y.2) e2 _ fun Hf2 H2 Fs2 w t2 R2 r2=>?_⟩
  obtain ⟨q',kv,s1',s2',h1',h2',h3',h4',h5'⟩:=R2.owd (owdAt_some e3)
  rw [s1] at s1'
  cases s1'
  obtain ⟨x1,hx1⟩:∃ d,x.1 = .sh d:=by
   obtain ⟨w,_,e⟩:=oMq.mp e1
   rw [← e]
   exact ⟨_,rfl⟩
  rw [hx1] at r1
  have rv:=(r1.sh_inv.2).mono t2.sf
  have hw:=keyOf_rep e4 r2
  subst hw
  refine ⟨p',_,rfl,DPut.k h1' (by rw [lim_eq,← h3'.len];exact hl),h _ _ _ _ (t1.sf.trans t2.sf) (R2.turn s1 s2' (by simp) (F':=[p']) (.owd upd_same h2' ?_) (by simp) fun q hq=>by rw [mSq.mp hq];exact ⟨h4',h5'⟩)⟩
  rw [hx1,strip_sh]
  exact putD_rep h3' rv
 .cases e
def rDIn (a b:ME):ME:=fun S=>(a S).bind fun x=>(b x.2).bind fun y=>match y.1 with
 | .dict kvs=>(keyOf x.1).map fun key=>(.bl (getD kvs key).isSome,y.2)
 | _=>none
def rDNotIn (a b:ME):ME:=fun S=>(a S).bind fun x=>(b x.2).bind fun y=>match y.1 with
 | .dict kvs=>(keyOf x.1).map fun key=>(.bl (!(getD kvs key).isSome),y.2)
 | _=>none
def rDGet (a b:ME):ME:=fun S=>(a S).bind fun x=>(b x.2).bind fun y=>match x.1 with
 | .dict kvs=>(keyOf y.1).bind fun key=>(getD kvs key).map fun d=>(d,y.2)
 | _=>none
theorem dget_some {H:Hp}{kvs:List (Key×D)}{x:V}{key:Key}{d:D}(r:Rep K H (.dict kvs) x) (e:getD kvs key=some d):∃ a v,x = .ref a/\DGet H a (kV key) (some v)/\Rep K H d v:=by
 obtain ⟨p,vs,rfl,h1,h2⟩:=r.dict_inv
 have g:=getD_rep (key:=key) h2
 rw [e] at g
 obtain ⟨v,g1,g2⟩:=g
 exact ⟨p,v,rfl,by rw [← g1];exact DGet.k h1,g2⟩
theorem dget_any {H:Hp}{kvs:List (Key×D)}{x:V}{key:Key}(r:Rep K H (.dict kvs) x):∃ a o,x = .ref a/\DGet H a (kV key) o/\o.isSome=(getD kvs key).isSome:=by
 obtain ⟨p,vs,rfl,h1,h2⟩:=r.dict_inv
 have g:=getD_rep (key:=key) h2
 refine ⟨p,_,rfl,DGet.k h1,?_⟩
 cases e:getD kvs key with
 | none=>rw [e] at g;rw [g];rfl
 | some d=>rw [e] at g;obtain ⟨v,g1,_⟩:=g;rw [g1];rfl
theorem sr_dnotin {a:ME}(ha:SR K ta a) (hb:SR K tb b):SR K (tDNotIn ta tb) (rDNotIn a b):=by
 intro H₀ Hf₀ Hf S σ H Fs d S' R e Q q
 obtain ⟨x,e1,e⟩:=oBq.mp e
 obtain ⟨y,e2,e⟩:=oBq.mp e
 refine ha R (d:=x.1) (S':=x.2) e1 _ fun Hf1 H1 Fs1 v1 t1 R1 r1=>hb R1 (d:=y.1) (S':=y.2) e2 _ fun Hf2 H2 Fs2 v2 t2 R2 r2=>?_
 split at e
 .rename_i kvs hy
  rw [hy] at r2
  obtain ⟨key,e3,e⟩:=oMq.mp e
  cases e
  obtain ⟨p,o,rfl,g1,g2⟩:=dget_any (key:=key) r2
  refine ⟨p,o,rfl,by rw [keyOf_rep e3 r1];exact g1,?_⟩
  rw [g2]
  exact q _ _ _ _ (t1.trans t2) R2 .bl
 .cases e
theorem sr_dget {a:ME}(ha:SR K ta a) (hb:SR K tb b):SR K (tDGet ta tb) (rDGet a b):=by
 intro H₀ Hf₀ Hf S σ H Fs d S' R e Q q
 obtain ⟨x,e1,e⟩:=oBq.mp e
 obtain ⟨y,e2,e⟩:=oBq.mp e
 refine ha R (d:=x.1) (S':=x.2) e1 _ fun Hf1 H1 Fs1 v1 t1 R1 r1=>hb R1 (d:=y.1) (S':=y.2) e2 _ fun Hf2 H2 Fs2 v2 t2 R2 r2=>?_
 split at e
 .rename_i kvs hy
  rw [hy] at r1
  obtain ⟨key,e3,e⟩:=oBq.mp e
  obtain ⟨d',e4,e⟩:=oMq.mp e
  cases e
  obtain ⟨p,v,rfl,g1,g2⟩:=dget_some (r1.mono t2.sh) e4
  exact ⟨p,v,rfl,by rw [keyOf_rep e3 r2];exact g1,q _ _ _ _ (t1.trans t2) R2 g2⟩
 .cases e
end
def mForL (x:Nat) (body:MS):List D->AS->Option Out
 | [],S=>some (.nx S)
 | d::ds,S=>(body (S.set x (some (.sh d)))).bind fun o=>match o with
  | .nx S'=>mForL x body ds S'
  | .ct S'=>mForL x body ds S'
  | .bk S'=>some (.nx S')
  | .rt a=>some (.rt a)
def itemsOf:D->Option (List D)
 | .list ds=>some ds
 | .scr ns=>some (ns.map .int)
 | _=>none
def mFor (x:Nat) (k:MK) (body:MS):MS:=fun S=>(kFrz k S).bind fun y=>(itemsOf (strip y.1)).bind fun ds=>mForL x body ds y.2
def rangeD (lo:Int) (n:Nat):List D:=(bf n).map fun i:Nat=>.int (lo+i)
def rng1:List D->Option (List D)
 | [.int j]=>ifC (-(2 ^ 62)<=j/\j<2 ^ 62) (some (rangeD 0 j.toNat))
 | _=>none
def rng2:List D->Option (List D)
 | [.int i,.int j]=>ifC (-(2 ^ 62)<=i/\i<2 ^ 62/\-(2 ^ 62)<=j/\j<2 ^ 62) (some (rangeD i (j-i).toNat))
 | _=>none
def mForR1 (x:Nat) (a:ML) (body:MS):MS:=fun S=>(a S).bind fun y=>(rng1 y.1).bind fun ds=>mForL x body ds y.2
def mForR2 (x:Nat) (a:ML) (body:MS):MS:=fun S=>(a S).bind fun y=>(rng2 y.1).bind fun ds=>mForL x body ds y.2
def mForEL (x y:Nat) (body:MS):Nat->List D->AS->Option Out
 | _,[],S=>some (.nx S)
 | i,d::ds,S=>(body ((S.set x (some (.sh (.int i)))).set y (some (.sh d)))).bind fun o=>match o with
  | .nx S'=>mForEL x y body (i+1) ds S'
  | .ct S'=>mForEL x y body (i+1) ds S'
  | .bk S'=>some (.nx S')
  | .rt a=>some (.rt a)
def mForE (x y:Nat) (k:MK) (body:MS):MS:=fun S=>(kFrz k S).bind fun z=>(itemsOf (strip z.1)).bind fun ds=>mForEL x y body 0 ds z.2
def mForZL (x y:Nat) (body:MS):List D->List D->AS->Option Out
 | d::ds,e::es,S=>(body ((S.set x (some (.sh d))).set y (some (.sh e)))).bind fun o=>match o with
  | .nx S'=>mForZL x y body ds es S'
  | .ct S'=>mForZL x y body ds es S'
  | .bk S'=>some (.nx S')
  | .rt a=>some (.rt a)
 | _,_,S=>some (.nx S)
def mForZ (x y:Nat) (k l:MK) (body:MS):MS:=fun S=>(kFrz k S).bind fun z=>(kFrz l z.2).bind fun w=>(itemsOf (strip z.1)).bind fun ds=>(itemsOf (strip w.1)).bind fun es =>
 if ds.length=es.length then mForZL x y body ds es w.2 else none
def mWhile (c:MT) (body:MS):Nat->MS
 | 0,_=>none
 | n+1,S=>(c S).bind fun x=>if x.1=true then (body x.2).bind fun o=>match o with
   | .nx S'=>mWhile c body n S'
   | .ct S'=>mWhile c body n S'
   | .bk S'=>some (.nx S')
   | .rt a=>some (.rt a)
  else some (.nx x.2)
section
variable {K:W.Frag}{te tf:TE}{k l:MK}{tb:TS}{body:MS}{x y:Nat}
theorem items_rep {H:Hp}{d:D}{ds:List D}{v:V}(e:itemsOf d=some ds) (r:Rep K H d v):∃ a vs,v = .ref a/\SqL K H a vs/\Reps K H ds vs:=by
 cases d with
 | list es =>
  cases e
  obtain ⟨p,vs,rfl,h1,h2⟩:=r.list_inv
  exact ⟨p,vs,rfl,SqL.of h1,h2⟩
 | scr ns =>
  cases e
  cases r with
  | scr h=>exact ⟨_,_,rfl,h,reps_ints ns⟩
 | _=>cases e
theorem frz_form {te:TE}{S:AS}{z:AV×AS}(e:kFrz k S=some z):∃ d,z.1 = .sh d:=by
 obtain ⟨w,_,e⟩:=oMq.mp e
 rw [← e]
 exact ⟨_,rfl⟩
theorem Rel.setD {H₀ Hf₀ Hf H:Hp}{S:AS}{σ:St}{Fs:List (List Addr)}{d:D}{v:V}(R:Rel K H₀ Hf₀ Hf S σ H Fs) (i:Nat) (r:Rep K Hf d v):Rel K H₀ Hf₀ Hf (S.set i (some (.sh d))) (σ.set i (some v)) H (Fs.set i []) :=
 R.set i (.sh r) bh fun q h=>(by cases h)
theorem ss_for (hk:SK K te k) (hb:SS K tb body):SS K (tFor (iList K te) (gName x) tb) (mFor x k body):=by
 intro H₀ Hf₀ Hf S σ H Fs o R e D h
 obtain ⟨z,e1,e⟩:=oBq.mp e
 obtain ⟨ds,e2,e⟩:=oBq.mp e
 have hk':SK K te (kFrz k):=SK.frz hk
 refine hk' R (a:=z.1) (S':=z.2) e1 _ fun Hf1 H1 Fs1 v F t1 R1 r1 o1=>?_
 obtain ⟨d,hd⟩:=frz_form (te:=te) e1
 rw [hd] at r1
 rw [hd,strip_sh] at e2
 obtain ⟨a,vs,rfl,g1,g2⟩:=items_rep e2 r1.sh_inv.2
 refine ⟨a,rfl,⟨vs,R1.sub.seq g1⟩,for_list (xs:=vs) (fun i σ' H'=>∃ Hf' S' Fs',Rel K H₀ Hf₀ Hf' S' σ' H' Fs'/\Same Hf1 Hf'/\mForL x body (ds.drop i) S'=some o) ⟨Hf1,z.2,Fs1,R1,.refl _,e⟩
  (fun i σ' H' _ ⟨Hf',S',Fs',R',s',_⟩=>R'.sub.seq (s'.seq g1)) ?_ ?_⟩
 .rintro i w σ' H' hw ⟨Hf',S',Fs',R',s',e'⟩
  obtain ⟨di,hdi,rw'⟩:=g2.get' hw
  have hlt:i<ds.length:=(gSq.mp hdi).1
  rw [aK hlt] at e'
  have hdi':ds[i]=di:=(gSq.mp hdi).2
  rw [hdi'] at e'
  obtain ⟨ob,e3,e4⟩:=oBq.mp e'
  refine hb (R'.setD x (rw'.mono s')) e3 _ ?_
  cases ob with
  | nx S2=>exact fun Hf2 σ2 H2 Fs2 s2 R2=>⟨Hf2,S2,Fs2,R2,s'.trans s2,e4⟩
  | ct S2=>exact fun Hf2 σ2 H2 Fs2 s2 R2=>⟨Hf2,S2,Fs2,R2,s'.trans s2,e4⟩
  | bk S2=>cases e4;exact fun Hf2 σ2 H2 Fs2 s2 R2=>h _ _ _ _ ((t1.sf.trans s').trans s2) R2
  | rt a=>cases e4;exact h
 .rintro σ' H' ⟨Hf',S',Fs',R',s',e'⟩
  rw [← g2.1,cf] at e'
  cases e'
  exact h _ _ _ _ (t1.sf.trans s') R'
theorem forR_core {H₀ Hf₀ Hf1 H1:Hp}{S1:AS}{σ:St}{Fs1:List (List Addr)}{o:Out}{D:Ends}{lo:Int}{n:Nat}(hb:SS K tb body) (R1:Rel K H₀ Hf₀ Hf1 S1 σ H1 Fs1) (e:mForL x body (rangeD lo n) S1=some o) (h:OutOk K H₀ Hf₀ Hf1 D o) :
  ∃ W:Nat->Nat->St->Hp->Prop,(∃ m,W 0 m σ H1)/\∀ i m σ H,W i m σ H ->
   ((Itr lo n).stop i H/\D.nx σ H)∨((Itr lo n).go i H/\∃ N:St->Hp->Prop,(∀ σ' H',N σ' H'->∃ m',m'<m/\W (i+1) m' σ' H')/\∀ v H',(Itr lo n).yld i H v H'->gName x v σ H' fun σ2 H2=>tb { D with nx:=N,ct:=N,bk:=D.nx } σ2 H2):=by
 refine for_range (fun i σ' H'=>∃ Hf' S' Fs',Rel K H₀ Hf₀ Hf' S' σ' H' Fs'/\Same Hf1 Hf'/\mForL x body ((rangeD lo n).drop i) S'=some o) ⟨Hf1,S1,Fs1,R1,.refl _,e⟩ ?_ ?_
 .rintro i σ' H' hi ⟨Hf',S',Fs',R',s',e'⟩
  have hlt:i<(rangeD lo n).length:=by unfold rangeD;rw [lMq,aZ];exact hi
  rw [aK hlt] at e'
  have hdi:(rangeD lo n)[i] = .int (lo+i):=by simp [rangeD]
  rw [hdi] at e'
  obtain ⟨ob,e3,e4⟩:=oBq.mp e'
  refine hb (R'.setD x .int) e3 _ ?_
  cases ob with
  | nx S2=>exact fun Hf2 σ2 H2 Fs2 s2 R2=>⟨Hf2,S2,Fs2,R2,s'.trans s2,e4⟩
  | ct S2=>exact fun Hf2 σ2 H2 Fs2 s2 R2=>⟨Hf2,S2,Fs2,R2,s'.trans s2,e4⟩
  | bk S2=>cases e4;exact fun Hf2 σ2 H2 Fs2 s2 R2=>h _ _ _ _ (s'.trans s2) R2
  | rt a=>cases e4;exact h
 .rintro σ' H' ⟨Hf',S',Fs',R',s',e'⟩
  have hl:(rangeD lo n).length=n:=by unfold rangeD;rw [lMq,aZ]
  rw [dk (eM hl)] at e'
  cases e'
  exact h _ _ _ _ s' R'
theorem ss_forR1 {ta:TA}{a:ML}(ha:SAr K ta a) (hb:SS K tb body):SS K (tFor (iRng1 ta) (gName x) tb) (mForR1 x a body):=by
 intro H₀ Hf₀ Hf S σ H Fs o R e D h
 obtain ⟨z,e1,e⟩:=oBq.mp e
 obtain ⟨ds,e2,e⟩:=oBq.mp e
 refine ha R (ds:=z.1) (S':=z.2) e1 _ fun Hf1 H1 Fs1 vs t1 R1 r1=>?_
 unfold rng1 at e2
 split at e2
 .rename_i j hz
  rcases ifC_cases e2 with ⟨hj,e2⟩|e2
  .skip
   cases e2
   rw [hz] at r1
   obtain ⟨v,ws,rfl,h1,h2⟩:=r1.cons_inv
   rw [h2.nil_inv]
   cases h1
   exact ⟨j,rfl,hj.1,hj.2,forR_core hb R1 e (h.mono t1.sf)⟩
  .cases e2
 .cases e2
theorem ss_forE (hk:SK K te k) (hb:SS K tb body):SS K (tFor (iEnum K (tCons te tNil)) (gTup K 2 (gCons (gName x) (gCons (gName y) gNil))) tb) (mForE x y k body):=by
 intro H₀ Hf₀ Hf S σ H Fs o R e D h
 obtain ⟨z,e1,e⟩:=oBq.mp e
 obtain ⟨ds,e2,e⟩:=oBq.mp e
 have hk':SK K te (kFrz k):=SK.frz hk
 refine hk' R (a:=z.1) (S':=z.2) e1 _ fun Hf1 H1 Fs1 v F t1 R1 r1 o1=>?_
 obtain ⟨d,hd⟩:=frz_form (te:=te) e1
 rw [hd] at r1
 rw [hd,strip_sh] at e2
 obtain ⟨a,vs,rfl,g1,g2⟩:=items_rep e2 r1.sh_inv.2
 refine ⟨a,rfl,⟨vs,R1.sub.seq g1⟩,for_enum (xs:=vs) (fun i σ' H'=>∃ Hf' S' Fs',Rel K H₀ Hf₀ Hf' S' σ' H' Fs'/\Same Hf1 Hf'/\mForEL x y body i (ds.drop i) S'=some o) ⟨Hf1,z.2,Fs1,R1,.refl _,e⟩
  (fun i σ' H' _ ⟨Hf',S',Fs',R',s',_⟩=>R'.sub.seq (s'.seq g1)) ?_ ?_⟩
 .rintro i w σ' H' T hw ⟨Hf',S',Fs',R',s',e'⟩ hT
  obtain ⟨di,hdi,rw'⟩:=g2.get' hw
  have hlt:i<ds.length:=(gSq.mp hdi).1
  rw [aK hlt] at e'
  have hdi':ds[i]=di:=(gSq.mp hdi).2
  rw [hdi'] at e'
  obtain ⟨ob,e3,e4⟩:=oBq.mp e'
  have R2:=(R'.new (o:=.tup [.int i,w]) hT).2.1
  refine hb ((R2.setD x .int).setD y (rw'.mono s')) e3 _ ?_
  cases ob with
  | nx S2=>exact fun Hf2 σ2 H2 Fs2 s2 R2=>⟨Hf2,S2,Fs2,R2,s'.trans s2,e4⟩
  | ct S2=>exact fun Hf2 σ2 H2 Fs2 s2 R2=>⟨Hf2,S2,Fs2,R2,s'.trans s2,e4⟩
  | bk S2=>cases e4;exact fun Hf2 σ2 H2 Fs2 s2 R2=>h _ _ _ _ ((t1.sf.trans s').trans s2) R2
  | rt a=>cases e4;exact h
 .rintro σ' H' ⟨Hf',S',Fs',R',s',e'⟩
  rw [← g2.1,cf] at e'
  cases e'
  exact h _ _ _ _ (t1.sf.trans s') R'
theorem ss_forZ (hk:SK K te k) (hl:SK K tf l) (hb:SS K tb body):SS K (tFor (iZip K (tCons te (tCons tf tNil))) (gTup K 2 (gCons (gName x) (gCons (gName y) gNil))) tb) (mForZ x y k l body):=by
 intro H₀ Hf₀ Hf S σ H Fs o R e D h
 obtain ⟨z,e1,e⟩:=oBq.mp e
 obtain ⟨w,e1',e⟩:=oBq.mp e
 obtain ⟨ds,e2,e⟩:=oBq.mp e
 obtain ⟨es,e2',e⟩:=oBq.mp e
 split at e
 .rename_i hlen
  have hk':SK K te (kFrz k):=SK.frz hk
  have hl':SK K tf (kFrz l):=SK.frz hl
  refine hk' R (a:=z.1) (S':=z.2) e1 _ fun Hf1 H1 Fs1 v F t1 R1 r1 o1=>hl' R1 (a:=w.1) (S':=w.2) e1' _ fun Hf2 H2 Fs2 v2 F2 t2 R2 r2 o2=>?_
  obtain ⟨d,hd⟩:=frz_form (te:=te) e1
  obtain ⟨d2,hd2⟩:=frz_form (te:=te) e1'
  rw [hd] at r1
  rw [hd,strip_sh] at e2
  rw [hd2] at r2
  rw [hd2,strip_sh] at e2'
  obtain ⟨a,vs,rfl,g1,g2⟩:=items_rep e2 (r1.sh_inv.2.mono t2.sf)
  obtain ⟨b,ws,rfl,g3,g4⟩:=items_rep e2' r2.sh_inv.2
  refine ⟨a,b,rfl,⟨vs,R2.sub.seq g1⟩,⟨ws,R2.sub.seq g3⟩,for_zip (xs:=vs) (ys:=ws) (fun i σ' H'=>∃ Hf' S' Fs',Rel K H₀ Hf₀ Hf' S' σ' H' Fs'/\Same Hf2 Hf'/\mForZL x y body (ds.drop i) (es.drop i) S'=some o) ⟨Hf2,w.2,Fs2,R2,.refl _,e⟩ (by rw [← g2.1,← g4.1,hlen])
   (fun i σ' H' _ ⟨Hf',S',Fs',R',s',_⟩=>⟨R'.sub.seq (s'.seq g1),R'.sub.seq (s'.seq g3)⟩) ?_ ?_⟩
  .rintro i u u' σ' H' T hu hu' ⟨Hf',S',Fs',R',s',e'⟩ hT
   obtain ⟨di,hdi,rw'⟩:=g2.get' hu
   obtain ⟨ei,hei,rw2⟩:=g4.get' hu'
   have hlt:i<ds.length:=(gSq.mp hdi).1
   have hlt2:i<es.length:=(gSq.mp hei).1
   rw [aK hlt,aK hlt2,(gSq.mp hdi).2,(gSq.mp hei).2] at e'
   obtain ⟨ob,e3,e4⟩:=oBq.mp e'
   have R3:=(R'.new (o:=.tup [u,u']) hT).2.1
   refine hb ((R3.setD x (rw'.mono s')).setD y (rw2.mono s')) e3 _ ?_
   cases ob with
   | nx S2=>exact fun Hf2 σ2 H2 Fs2 s2 R2=>⟨Hf2,S2,Fs2,R2,s'.trans s2,e4⟩
   | ct S2=>exact fun Hf2 σ2 H2 Fs2 s2 R2=>⟨Hf2,S2,Fs2,R2,s'.trans s2,e4⟩
   | bk S2=>cases e4;exact fun Hf2 σ2 H2 Fs2 s2 R2=>h _ _ _ _ (((t1.sf.trans t2.sf).trans s').trans s2) R2
   | rt a=>cases e4;exact h
  .rintro σ' H' ⟨Hf',S',Fs',R',s',e'⟩
   have e0:ds.drop vs.length=[]:=by rw [← g2.1,cf]
   rw [e0] at e'
   have e0':mForZL x y body [] (es.drop vs.length) S'=some (.nx S'):=by
    cases es.drop vs.length <;> rfl
   rw [e0'] at e'
   cases e'
   exact h _ _ _ _ ((t1.sf.trans t2.sf).trans s') R'
 .cases e
theorem ss_while {c:TT}{m:MT}(n:Nat) (hc:STt K c m) (hb:SS K tb body):SS K (tWhile c tb) (mWhile m body n):=by
 intro H₀ Hf₀ Hf S σ H Fs o R e D h
 refine ⟨fun n σ' H'=>∃ Hf' S' Fs',Rel K H₀ Hf₀ Hf' S' σ' H' Fs'/\Same Hf Hf'/\mWhile m body n S'=some o,⟨n,Hf,S,Fs,R,.refl _,e⟩,?_⟩
 rintro n σ' H' ⟨Hf',S',Fs',R',s',e'⟩
 cases n with
 | zero=>cases e'
 | succ n =>
  obtain ⟨z,e1,e2⟩:=oBq.mp e'
  refine hc R' (b:=z.1) (S':=z.2) e1 _ fun Hf1 H1 Fs1 t1 R1=>?_
  split at e2
  .rename_i hz
   rw [hz]
   refine iteT ⟨fun σ2 H2=>∃ Hf' S' Fs',Rel K H₀ Hf₀ Hf' S' σ2 H2 Fs'/\Same Hf Hf'/\mWhile m body n S'=some o,fun σ2 H2 w=>⟨n,cS n,w⟩,?_⟩
   obtain ⟨ob,e3,e4⟩:=oBq.mp e2
   refine hb R1 e3 _ ?_
   cases ob with
   | nx S2=>exact fun Hf2 σ2 H2 Fs2 s2 R2=>⟨Hf2,S2,Fs2,R2,(s'.trans t1.sf).trans s2,e4⟩
   | ct S2=>exact fun Hf2 σ2 H2 Fs2 s2 R2=>⟨Hf2,S2,Fs2,R2,(s'.trans t1.sf).trans s2,e4⟩
   | bk S2=>cases e4;exact fun Hf2 σ2 H2 Fs2 s2 R2=>h _ _ _ _ ((s'.trans t1.sf).trans s2) R2
   | rt a=>cases e4;exact h
  .rename_i hz
   rw [cU] at hz
   rw [hz]
   cases e2
   exact iteF (h _ _ _ _ (s'.trans t1.sf) R1)
end
def runF (np n:Nat) (m:MS):MF:=fun ds=>if ds.length=np then (m (ds.map (fun d=>some (.sh d))++aB (n-ds.length) none)).bind fun o=>match o with
  | .rt a=>some a
  | .nx _=>some (.sh .non)
  | _=>none
 else none
theorem start_rel {K:W.Frag}{Hf H:Hp}{ds:List D}{vs:List V}(N:List Str) (s:Same Hf H) (r:Reps K Hf ds vs) :
  Rel K H Hf Hf (ds.map (fun d=>some (.sh d))++aB (N.length-ds.length) none) (L2.start N vs) H (aB (ds.length+(N.length-ds.length)) []):=by
 have fl:=repl_flat (ds.length+(N.length-ds.length))
 refine ⟨by simp [L2.start,r.1],by simp,fun i av e=>?_,fun i e=>?_,by rw [fl];exact bh,fun p hp=>(by rw [fl] at hp;cases hp),s,Same.refl _,fun b h _=>h,Same.refl _⟩
 .by_cases hi:i<ds.length
  .rw [gZq (by simpa using hi),gMq] at e
   obtain ⟨d,e1,e2⟩:=oMq.mp e
   cases e2
   obtain ⟨v,e3,rv⟩:=r.get e1
   refine ⟨v,[],?_,?_,.sh rv⟩
   .unfold L2.start
    rw [gZq (by simpa [← r.1] using hi),gMq,e3]
    rfl
   .rw [bZ,if_pos (by omega)]
  .rw [gYq (by simpa using hi)] at e
   have:=mGq e
   rw [cL this] at e
   have h2:=cL this
   cases h2
 .rw [bZ]
  have hi:=(gSq.mp e).1
  rw [lAq,lMq,ez] at hi
  rw [if_pos hi]
theorem fn_sound {K:W.Frag}{t:TS}{m:MS}{np:Nat}(N:List Str) (h:SS K t m) {vs:List V}{H:Hp}{Q:VK}{E:XK}(hs:spOf K (runF np N.length m) vs H Q E):t { nx:=fun _ H'=>Q .non H',rt:=Q } (L2.start N vs) H:=by
 obtain ⟨Hf,ds,a,s,r,e,q⟩:=hs
 unfold runF at e
 split at e
 .obtain ⟨o,e1,e2⟩:=oBq.mp e
  refine h (start_rel N s r) e1 _ ?_
  cases o with
  | rt a' =>
   cases e2
   exact fun Hf' H' v F s1 s2 s3 l r nd fr=>q Hf' H' v F s1 s2 s3 l r nd fr
  | nx S' =>
   cases e2
   exact fun Hf' σ' H' Fs' s1 R=>q Hf' H' .non [] R.sf R.fr R.sub R.lim (.sh .non) bh fun q h=>(by cases h)
  | bk S'=>cases e2
  | ct S'=>cases e2
 .cases e
theorem sp_len {K:W.Frag}{m:MS}{np n:Nat}{vs:List V}{H:Hp}{Q:VK}{E:XK}(hs:spOf K (runF np n m) vs H Q E):vs.length=np:=by
 obtain ⟨Hf,ds,a,s,r,e,q⟩:=hs
 unfold runF at e
 split at e
 .rename_i h
  rw [← r.1,h]
 .cases e
def fzAll:List Nat->AS->Option AS
 | [],S=>some S
 | j::js,S=>(S[j]?.join).bind fun a=>fzAll js (S.set j (some (.sh (strip a))))
def shOf:Option AV->Option AV
 | some (.sh d)=>some (.sh d)
 | _=>none
def capt (S:AS):List Nat->Option AS
 | []=>some []
 | j::js=>(shOf S[j]?.join).bind fun a=>(capt S js).map (some a :: ·)
def mCompL (tf:MT) (te:MK) (cap:AS):List D->Option (List AV)
 | []=>some []
 | d::ds=>(tf (some (.sh d)::cap)).bind fun b=>if b.1=true then (te b.2).bind fun a=>(mCompL tf te cap ds).map (a.1 :: ·) else mCompL tf te cap ds
abbrev MI:=AS->Option (List D×AS)
def iLst (k:MK):MI:=fun S=>(kFrz k S).bind fun y=>(itemsOf (strip y.1)).map fun ds=>(ds,y.2)
def iR1 (a:ML):MI:=fun S=>(a S).bind fun y=>(rng1 y.1).map fun ds=>(ds,y.2)
def kComp (src:MI) (fr:List Nat) (tf:MT) (te:MK):MK:=fun S=>(src S).bind fun y=>(fzAll fr y.2).bind fun S2=>(capt S2 fr).bind fun cap=>ifC (y.1.length<=LIM) ((mCompL tf te cap y.1).map fun avs=>(.ow avs,S2))
def tAllM:MT:=fun S=>some (true,S)
section
variable {K:W.Frag}{H₀ Hf₀ Hf Hf' H H':Hp}{S S':AS}{σ:St}{Fs Fs':List (List Addr)}
theorem Rel.fz (R:Rel K H₀ Hf₀ Hf S σ H Fs) {j:Nat}{a:AV}(e:S[j]?.join=some a):∃ Hf' Fs',Stp Hf H Fs Hf' H Fs'/\Rel K H₀ Hf₀ Hf' (S.set j (some (.sh (strip a)))) σ H Fs':=by
 obtain ⟨v,F,s1,s2,r,nd,o,R1⟩:=R.move (some_of_join e)
 have n:∀ q∈F,Hf q=none:=fun q hq=>(r.owned q hq).2
 have R2:=R1.frz o n
 have r2:=r.frozen (frz_same (H:=H) n) fun q hq=>frz_in hq
 have R3:=R2.again (F:=F) (G:=[]) s1 (.sh r2) bh fun q h=>(by cases h)
 refine ⟨_,_,⟨frz_same n,.refl _,fun p hp=>flat_set_nil hp,fun b h g=>?_⟩,R3⟩
 by_cases m:b∈F
 .exact .inr (mFq.mpr ⟨F,mGq s2,m⟩)
 .rw [frz_out m] at g
  exact absurd h g
theorem Rel.fzAll:∀ {fr:List Nat}{Hf:Hp}{S S':AS}{Fs:List (List Addr)},Rel K H₀ Hf₀ Hf S σ H Fs->fzAll fr S=some S'->∃ Hf' Fs',Stp Hf H Fs Hf' H Fs'/\Rel K H₀ Hf₀ Hf' S' σ H Fs'
 | [],Hf,S,S',Fs,R,e=>by
  cases e
  exact ⟨Hf,Fs,.refl,R⟩
 | j::js,Hf,S,S',Fs,R,e=>by
  obtain ⟨a,e1,e2⟩:=oBq.mp e
  obtain ⟨Hf1,Fs1,t1,R1⟩:=R.fz e1
  obtain ⟨Hf2,Fs2,t2,R2⟩:=Rel.fzAll R1 e2
  exact ⟨Hf2,Fs2,t1.trans t2,R2⟩
theorem capt_rel (R:Rel K H₀ Hf₀ Hf S σ H Fs):∀ {fr:List Nat}{cap:AS},capt S fr=some cap->cap.length=fr.length/\∀ (k:Nat) (a:AV),cap[k]?=some (some a)->∃ d v,a = .sh d/\(slots σ fr)[k]?=some (some v)/\Rep K Hf d v
 | [],cap,e=>by
  cases e
  exact ⟨rfl,fun k a h=>by simp at h⟩
 | j::js,cap,e=>by
  obtain ⟨a,e1,e2⟩:=oBq.mp e
  obtain ⟨cap',e3,e4⟩:=oMq.mp e2
  subst e4
  obtain ⟨h1,h2⟩:=capt_rel R e3
  refine ⟨by simp [h1],fun k b hk=>?_⟩
  cases k with
  | zero =>
   cases hk
   cases ej:S[j]?.join with
   | none=>rw [ej] at e1;cases e1
   | some c =>
    rw [ej] at e1
    cases c with
    | sh d =>
     cases e1
     obtain ⟨v,F,s1,s2,r⟩:=R.rep j _ (some_of_join ej)
     refine ⟨d,v,rfl,?_,r.sh_inv.2⟩
     show some ((σ[j]?).join)=_
     rw [s1]
     rfl
    | _=>cases e1
  | succ k=>exact h2 k b (by simpa using hk)
theorem inner_rel (R:Rel K H₀ Hf₀ Hf S σ H Fs) {fr:List Nat}{cap:AS}(e:capt S fr=some cap) {d:D}{x:V}(rx:Rep K Hf d x) :
  Rel K H₀ Hf₀ Hf (some (.sh d)::cap) (some x::slots σ fr) H (aB (cap.length+1) []):=by
 obtain ⟨h1,h2⟩:=capt_rel R e
 have fl:=repl_flat (cap.length+1)
 refine ⟨by simp [slots,h1],by simp,fun i av ei=>?_,fun i ei=>?_,by rw [fl];exact bh,fun p hp=>(by rw [fl] at hp;cases hp),R.sub,R.fr,R.lim,R.sf⟩
 .cases i with
  | zero =>
   cases ei
   exact ⟨x,[],rfl,by simp,.sh rx⟩
  | succ k =>
   have hk:k<cap.length:=(gSq.mp (by simpa using ei)).1
   obtain ⟨d',v,rfl,s1,r⟩:=h2 k av (by simpa using ei)
   exact ⟨v,[],by simpa using s1,by rw [bZ,if_pos (by omega)],.sh r⟩
 .rw [bZ]
  have hi:=(gSq.mp ei).1
  rw [if_pos (by simpa using hi)]
theorem Rel.updOut (R:Rel K H₀ Hf₀ Hf S σ H Fs) {p:Addr}{o:HO}(h1:p∉Fs.flatten) (h2:Hf p=none) (h3:H₀ p=none):Rel K H₀ Hf₀ Hf S σ (upd H p o) Fs where
 len:=R.len
 lenF:=R.lenF
 rep:=fun i av e=>by
  obtain ⟨v,F,s1,s2,r⟩:=R.rep i av e
  exact ⟨v,F,s1,s2,r.keepUpd fun m=>h1 (flat_mem_of s2 m)⟩
 emp:=R.emp
 nd:=R.nd
 fresh:=R.fresh
 sub:=fun b u e=>by
  rw [upd_ne fun z=>by rw [z,h2] at e;cases e]
  exact R.sub b u e
 fr:=fun b u e=>by
  rw [upd_ne fun z=>by rw [z,h3] at e;cases e]
  exact R.fr b u e
 lim:=R.lim
 sf:=R.sf
theorem Rel.outer {σ2:St}{Fs2 Fs3:List (List Addr)}{Hf3 H3:Hp}{S3:AS}(R:Rel K H₀ Hf₀ Hf S σ H Fs) (R3:Rel K H₀ Hf₀ Hf3 S3 σ2 H3 Fs3) (t:Stp Hf H Fs2 Hf3 H3 Fs3) (h0:Fs2.flatten=[]):Stp Hf H Fs Hf3 H3 Fs/\Rel K H₀ Hf₀ Hf3 S σ H3 Fs:=by
 have g:∀ b,Hf b=none->H b≠none->Hf3 b=none:=fun b h1 h2=>by
  by_cases e:Hf3 b=none
  .exact e
  .rcases t.gr b h1 e with z|z
   .exact absurd z h2
   .rw [h0] at z;cases z
 exact ⟨⟨t.sf,t.sh,fun _ h=>h,fun b h1 h2=>.inl (by
  by_cases e:H b=none
  .exact e
  .exact absurd (g b h1 e) h2)⟩,R.more t.sh t.sf R3.sub (fun q hq=>g q (R.mem hq).2 (R.mem hq).1) R3.lim⟩
end
section
variable {K:W.Frag}{tf:TT}{te:TE}{mf:MT}{me:MK}{fr:List Nat}
theorem comp_core {H₀ Hf₀ Hf1 H1:Hp}{S1:AS}{σ:St}{Fs1:List (List Addr)}{cap:AS}{ds:List D}{avs:List AV}{J:It}{Q:VK}(hf:STt K tf mf) (he:SK K te me)
  (R1:Rel K H₀ Hf₀ Hf1 S1 σ H1 Fs1) (ec:capt S1 fr=some cap) (hl:ds.length<=LIM) (e:mCompL mf me cap ds=some avs)
  (hgo:∀ i H,Same Hf1 H->i<ds.length->J.go i H) (hst:∀ H,Same Hf1 H->J.stop ds.length H) (hy:∀ i H x H',Same Hf1 H->i<ds.length->J.yld i H x H'->H'=H/\∃ d,ds[i]?=some d/\Rep K Hf1 d x)
  (q:∀ Hf' H' v F,Stp Hf1 H1 Fs1 Hf' H' Fs1->Rel K H₀ Hf₀ Hf' S1 σ H' Fs1->RepA K Hf' H' (.ow avs) v F->Own H₀ H1 Fs1 Fs1 F->Q v H') :
  ∀ acc,H1 acc=none->∃ W:Nat->Nat->Hp->Prop,(∃ m,W 0 m (upd H1 acc (.lst [])))/\∀ i m H,W i m H ->
   (J.stop i H/\Q (.ref acc) H) ∨
   (J.go i H/\∃ N:Hp->Prop,(∀ H',N H'->∃ m',m'<m/\W (i+1) m' H')/\∀ x H',J.yld i H x H'->tf (some x::slots σ fr) H' fun b H2 =>
    if b=true then te (some x::slots σ fr) H2 fun y H3=>∃ ys,H3 acc=some (.lst ys)/\ys.length<sizeLine/\N (upd H3 acc (.lst (ys++[y]))) else N H2):=by
 intro acc hacc
 obtain ⟨t0,R0,n1,n2,n3⟩:=R1.new (o:=.lst []) hacc
 let P:Nat->Hp->Prop:=fun i H=>∃ Hf as vs Gs rest,Rel K H₀ Hf₀ Hf S1 σ H Fs1/\Stp Hf1 H1 Fs1 Hf H Fs1/\H acc=some (.lst vs)/\Hf acc=none/\RepAs K Hf H as vs Gs/\Own H₀ H1 Fs1 Fs1 (acc::Gs.flatten)/\as.length<=i /\
  mCompL mf me cap (ds.drop i)=some rest/\avs=as++rest
 refine ⟨fun i m H=>m=ds.length-i/\i<=ds.length/\P i H,⟨ds.length,by simp,ba _,Hf1,[],[],[],avs,R0,t0,upd_same,n1,.nil,Own.one R1 hacc,ba _,e,rfl⟩,?_⟩
 rintro i m H ⟨rfl,hi,Hf,as,vs,Gs,rest,R,t,ha,hfa,ra,ow,la,er,ea⟩
 have hs:Same Hf1 H:=t.sf.trans R.sub
 by_cases hlt:i<ds.length
 .refine .inr ⟨hgo i H hs hlt,P (i+1),fun H' p=>⟨ds.length-(i+1),by omega,rfl,hlt,p⟩,fun x H' y=>?_⟩
  obtain ⟨rfl,d,hd,rx⟩:=hy i H x H' hs hlt y
  rw [aK hlt,(gSq.mp hd).2] at er
  obtain ⟨b,e1,e2⟩:=oBq.mp er
  have fl:=repl_flat (cap.length+1)
  refine hf (inner_rel R ec (rx.mono t.sf)) (b:=b.1) (S':=b.2) e1 _ fun Hf2 H2 Fs2 t2 R2=>?_
  obtain ⟨t2',R2'⟩:=R.outer R2 t2 fl
  have ha2:H2 acc=some (.lst vs):=t2.sh _ _ ha
  have hfa2:Hf2 acc=none:=by
   by_cases z:Hf2 acc=none
   .exact z
   .rcases t2.gr acc hfa z with z|z
    .rw [ha] at z;cases z
    .rw [fl] at z;cases z
  have ra2:=ra.stp (fun q hq=>ow.out q (mCo _ hq)) t2'
  split at e2
  .rename_i hb
   rw [hb]
   refine iteT ?_
   obtain ⟨a,e3,e4⟩:=oBq.mp e2
   obtain ⟨rest',e5,e6⟩:=oMq.mp e4
   subst e6
   refine he R2 (a:=a.1) (S':=a.2) e3 _ fun Hf3 H3 Fs3 v F t3 R3 r3 o3=>?_
   have fl2:Fs2.flatten=[]:=by
    cases hz:Fs2.flatten with
    | nil=>rfl
    | cons z zs =>
     have:=t2.own z (by rw [hz];simp)
     rw [fl] at this
     cases this
   obtain ⟨t3',R3'⟩:=R2'.outer R3 t3 fl2
   have ha3:H3 acc=some (.lst vs):=t3.sh _ _ ha2
   have hfa3:Hf3 acc=none:=by
    by_cases z:Hf3 acc=none
    .exact z
    .rcases t3.gr acc hfa2 z with z|z
     .rw [ha2] at z;cases z
     .rw [fl2] at z;cases z
   have ra3:=ra2.stp (fun q hq=>ow.out q (mCo _ hq)) t3'
   have newF:∀ q∈F,H2 q=none:=fun q hq=>(o3.new q hq).elim id fun z=>by rw [fl2] at z;cases z
   have accF:acc∉F:=fun m=>by rw [newF acc m] at ha2;cases ha2
   have accG:acc∉Gs.flatten:=(aL.mp ow.nd).1
   have tt:=(t.trans t2').trans t3'
   refine ⟨vs,ha3,?_,?_⟩
   .rw [lim_eq,← ra.1]
    omega
   .refine ⟨Hf3,as++[a.1],vs++[v],Gs++[F],rest',R3'.updOut n3 hfa3 n2,⟨tt.sf,fun b o eb=>?_,fun _ h=>h,tt.gr⟩,upd_same,hfa3,(ra3.keepUpd accG).snoc (r3.keepUpd accF),?_,by rw [lAq,lSq];omega,e5,by rw [ea];simp⟩
    .rw [upd_ne fun z=>by rw [z,hacc] at eb;cases eb]
     exact tt.sh b o eb
    .rw [fAq,bF]
     have oF:Own H₀ H1 Fs1 Fs1 F:=⟨o3.nd,o3.fr,fun q hq m=>(R2'.mem m).1 (newF q hq),fun q hq=>.inl ((t.trans t2').sh.free (newF q hq))⟩
     refine (show Own H₀ H1 Fs1 Fs1 ((acc::Gs.flatten)++F) from ow.app oF fun q hq m=>?_)
     rcases ai.mp hq with z|z
     .rw [z] at m;exact accF m
     .exact (ra2.owned q z).1 (newF q m)
  .rename_i hb
   rw [cU] at hb
   rw [hb]
   exact iteF ⟨Hf2,as,vs,Gs,rest,R2',t.trans t2',ha2,hfa2,ra2,ow,by omega,e2,ea⟩
 .have e0:i=ds.length:=by omega
  subst e0
  rw [cf] at er
  cases er
  rw [aNq] at ea
  subst ea
  exact .inl ⟨hst H hs,q Hf H (.ref acc) _ t R (RepA.news ha hfa ra) ow⟩
theorem sk_compL {tl:TE}{k:MK}(hk:SK K tl k) (hf:STt K tf mf) (he:SK K te me):SK K (tComp (iList K tl) fr tf te) (kComp (iLst k) fr mf me):=by
 intro H₀ Hf₀ Hf S σ H Fs av S' R e Q q
 obtain ⟨y,e1,e⟩:=oBq.mp e
 obtain ⟨z,e0,e1⟩:=oBq.mp e1
 obtain ⟨ds,e2,e1⟩:=oMq.mp e1
 subst e1
 obtain ⟨S2,e3,e⟩:=oBq.mp e
 obtain ⟨cap,e4,e⟩:=oBq.mp e
 rcases ifC_cases e with ⟨hl,e⟩|e
 .obtain ⟨avs,e5,e⟩:=oMq.mp e
  cases e
  have hk':SK K tl (kFrz k):=SK.frz hk
  refine hk' R (a:=z.1) (S':=z.2) e0 _ fun Hf1 H1 Fs1 v F t1 R1 r1 o1=>?_
  obtain ⟨d,hd⟩:=frz_form (te:=tl) e0
  rw [hd] at r1
  rw [hd,strip_sh] at e2
  obtain ⟨Hf2,Fs2,t2,R2⟩:=R1.fzAll e3
  obtain ⟨a,vs,rfl,g1,g2⟩:=items_rep e2 (r1.sh_inv.2.mono t2.sf)
  refine ⟨a,rfl,⟨vs,R2.sub.seq g1⟩,comp_core (K:=K) hf he R2 e4 hl e5 (fun i H s hi=>⟨vs,vs[i]'(g2.1 ▸ hi),s.seq g1,gEg (g2.1 ▸ hi)⟩) (fun H s=>⟨vs,s.seq g1,eM g2.1.symm⟩) (fun i H x H' s hi y=>?_) fun Hf' H' v F t R' r o=>q _ _ _ v F ((t1.trans t2).trans t) R' r (o.back (t1.trans t2))⟩
  obtain ⟨y1,y2⟩:=y
  obtain ⟨di,h1,h2⟩:=g2.get' (y2 vs (s.seq g1))
  exact ⟨y1,di,h1,h2⟩
 .cases e
theorem rangeD_get {lo:Int}{n i:Nat}(h:i<n):(rangeD lo n)[i]?=some (.int (lo+i)):=by
 unfold rangeD
 rw [gMq,eS h]
 rfl
theorem rangeD_len (lo:Int) (n:Nat):(rangeD lo n).length=n:=by unfold rangeD;rw [lMq,aZ]
theorem sk_compR1 {ta:TA}{a:ML}(ha:SAr K ta a) (hf:STt K tf mf) (he:SK K te me):SK K (tComp (iRng1 ta) fr tf te) (kComp (iR1 a) fr mf me):=by
 intro H₀ Hf₀ Hf S σ H Fs av S' R e Q q
 obtain ⟨y,e1,e⟩:=oBq.mp e
 obtain ⟨z,e0,e1⟩:=oBq.mp e1
 obtain ⟨ds,e2,e1⟩:=oMq.mp e1
 subst e1
 obtain ⟨S2,e3,e⟩:=oBq.mp e
 obtain ⟨cap,e4,e⟩:=oBq.mp e
 rcases ifC_cases e with ⟨hl,e⟩|e
 .obtain ⟨avs,e5,e⟩:=oMq.mp e
  cases e
  refine ha R (ds:=z.1) (S':=z.2) e0 _ fun Hf1 H1 Fs1 vs t1 R1 r1=>?_
  unfold rng1 at e2
  split at e2
  .rename_i j hz
   rcases ifC_cases e2 with ⟨hj,e2⟩|e2
   .skip
    cases e2
    rw [hz] at r1
    obtain ⟨v,ws,rfl,h1,h2⟩:=r1.cons_inv
    rw [h2.nil_inv]
    cases h1
    obtain ⟨Hf2,Fs2,t2,R2⟩:=R1.fzAll e3
    refine ⟨j,rfl,hj.1,hj.2,comp_core (K:=K) hf he R2 e4 hl e5 (fun i H s hi=>(by rw [rangeD_len] at hi;exact hi)) (fun H s=>(by rw [rangeD_len];exact af _)) (fun i H x H' s hi y=>?_) fun Hf' H' v F t R' r o=>q _ _ _ v F ((t1.trans t2).trans t) R' r (o.back (t1.trans t2))⟩
    obtain ⟨y1,y2⟩:=y
    rw [rangeD_len] at hi
    exact ⟨y1,_,rangeD_get hi,by rw [y2];exact .int⟩
   .cases e2
  .cases e2
 .cases e
theorem st_all:STt K tAll tAllM:=by
 intro H₀ Hf₀ Hf S σ H Fs b S' R e Q q
 cases e
 exact q _ _ _ .refl R
end
mutual
def py:D->Option PyData
 | .non=>some .none
 | .bl b=>some (.bool b)
 | .int i=>some (.int i)
 | .str x=>some (.str x)
 | .list ds=>(pyL ds).map .list
 | .tup ds=>(pyL ds).map .tuple
 | _=>none
def pyL:List D->Option (List PyData)
 | []=>some []
 | d::ds=>(py d).bind fun x=>(pyL ds).map (x :: ·)
end
def dEqD (d e:D):Option D:=(py d).bind fun a=>(py e).bind fun b=>if SeqAt.shaped a=true/\SeqAt.shaped b=true/\SeqAt.noMix a b=true then some (.bl (PySem.Spec.same a b)) else none
def dNeD (d e:D):Option D:=(dEqD d e).bind dNot
abbrev dI (ns:List Int):D:=.list (ns.map .int)
abbrev dM (rs:List (List Int)):D:=.list (rs.map dI)
theorem pyL_ints (ns:List Int):pyL (ns.map .int)=some (ns.map PyData.int):=by
 induction ns with
 | nil=>simp [pyL]
 | cons n ns ih=>simp [pyL,py,ih]
theorem py_I (ns:List Int):py (dI ns)=some (dRow ns):=by
 show py (.list _)=_
 simp only [py,pyL_ints]
 rfl
theorem pyL_rows (rs:List (List Int)):pyL (rs.map dI)=some (rs.map dRow):=by
 induction rs with
 | nil=>simp [pyL]
 | cons r rs ih =>
  show pyL (dI r::rs.map dI)=_
  simp only [pyL,py_I,ih]
  rfl
theorem py_M (rs:List (List Int)):py (dM rs)=some (dRows rs):=by
 show py (.list _)=_
 simp only [py,pyL_rows]
 rfl
theorem shaped_row (r:List Int):SeqAt.shaped (dRow r)=true:=by
 have h2:=W.depthAll_ints r
 have h3:PyData.depth (dRow r)<=64:=by simp only [dRow,PyData.depth];omega
 show (PyData.canLay0 (dRow r) && decide (PyData.depth (dRow r)<=64))=true
 rw [cT]
 exact ⟨by simp only [dRow,PyData.canLay0];exact W.canLayAll0_ints r,decide_eq_true h3⟩
@[simp] theorem dEqD_I (ns ms:List Int):dEqD (dI ns) (dI ms)=some (.bl (decide (ns=ms))):=by
 unfold dEqD
 rw [py_I,py_I]
 show (if _ then _ else _)=_
 rw [if_pos ⟨shaped_row ns,shaped_row ms,by simp only [dRow,SeqAt.noMix];exact W.noMix_ints ns ms⟩]
 simp only [dRow,PySem.Spec.same,W.same_ints]
@[simp] theorem dEqD_M (rs ts:List (List Int)):dEqD (dM rs) (dM ts)=some (.bl (decide (rs=ts))):=by
 unfold dEqD
 rw [py_M,py_M]
 show (if _ then _ else _)=_
 rw [if_pos ⟨shaped_rows rs,shaped_rows ts,by simp only [dRows,SeqAt.noMix];exact noMix_rows rs ts⟩]
 simp only [dRows,PySem.Spec.same,same_rows]
def kList (l:ML):MK:=fun S=>(l S).map fun x=>(.ow (x.1.map .sh),x.2)
def kSortI (l:ML):MK:=fun S=>(l S).bind fun x=>(intsOf x.1).map fun ns=>(.ow ((srtI ns).map fun n=>.sh (.int n)),x.2)
def rowsOf:List D->Option (List (List Int))
 | []=>some []
 | .list ds::es=>(intsOf ds).bind fun r=>(rowsOf es).map (r :: ·)
 | _=>none
theorem rowsOf_eq:∀ {ds:List D}{rs:List (List Int)},rowsOf ds=some rs->ds=rs.map dI
 | [],rs,h=>by cases h;rfl
 | d::ds,rs,h=>by
  cases d with
  | list es =>
   obtain ⟨r,h1,h⟩:=oBq.mp (show (intsOf es).bind (fun r=>(rowsOf ds).map (r :: ·))=some rs from h)
   obtain ⟨ts,h2,h3⟩:=oMq.mp h
   subst h3
   rw [rowsOf_eq h2,intsOf_eq h1]
   rfl
  | _=>cases h
@[simp] theorem rowsOf_map (rs:List (List Int)):rowsOf (rs.map dI)=some rs:=by
 induction rs with
 | nil=>rfl
 | cons r rs ih =>
  show (intsOf (r.map .int)).bind (fun r=>(rowsOf (rs.map dI)).map (r :: ·))=_
  rw [intsOf_map,ih]
  rfl
def kSortR (l:ML):MK:=fun S=>(l S).bind fun x=>(rowsOf x.1).map fun rs=>(.ow ((srt rs).map fun r=>.sh (dI r)),x.2)
section
variable {K:W.Frag}{te:TE}{l:ML}
theorem sk_list (hl:SQ K te l):SK K (tCB (fun xs H Q=>∃ p ys,xs=[.ref p]/\(SqL K H p ys∨SqT K H p ys)/\∀ l,H l=none->Q (.ref l) (upd H l (.lst ys))) (tCons te tNil)) (kList l):=by
 intro H₀ Hf₀ Hf S σ H Fs av S' R e Q q
 obtain ⟨x,e1,e⟩:=oMq.mp e
 cases e
 refine hl R (ds:=x.1) (S':=x.2) e1 _ fun Hf1 H1 Fs1 p1 vs1 t1 R1 h1 r1=>⟨p1,vs1,rfl,.inl h1,fun p hp=>?_⟩
 obtain ⟨t4,R4,n1,n2,n3⟩:=R1.new (o:=.lst vs1) hp
 exact q _ _ _ (.ref p) [p] (t1.trans t4) R4 (RepA.new upd_same n1 r1) ((Own.one R1 hp).back t1)
theorem map_sh_ints (ns:List Int):(ns.map fun n=>AV.sh (.int n))=(ns.map D.int).map .sh:=by rw [mPq];rfl
theorem sk_sortI (hl:SQ K te l):SK K (tCB (fun xs H Q=>∃ (a:Addr) (ns:List Int),xs=[.ref a]/\SqL K H a (ns.map V.int)/\∀ p,H p=none->Q (.ref p) (upd H p (.lst ((srtI ns).map V.int)))) (tCons te tNil)) (kSortI l):=by
 intro H₀ Hf₀ Hf S σ H Fs av S' R e Q q
 obtain ⟨x,e1,e⟩:=oBq.mp e
 obtain ⟨ns,e2,e⟩:=oMq.mp e
 cases e
 refine hl R (ds:=x.1) (S':=x.2) e1 _ fun Hf1 H1 Fs1 p1 vs1 t1 R1 h1 r1=>?_
 rw [intsOf_eq e2] at r1
 rw [reps_ints_inv r1] at h1
 refine ⟨p1,ns,rfl,h1,fun p hp=>?_⟩
 obtain ⟨t4,R4,n1,n2,n3⟩:=R1.new (o:=.lst ((srtI ns).map V.int)) hp
 rw [map_sh_ints] at q
 exact q _ _ _ (.ref p) [p] (t1.trans t4) R4 (RepA.new upd_same n1 (reps_ints _)) ((Own.one R1 hp).back t1)
theorem reps_rows_inv {H:Hp}:∀ {rs:List (List Int)}{vs:List V},Reps K H (rs.map dI) vs->∃ ps,vs=ps.map V.ref/\Each H ps rs
 | [],vs,h=>⟨[],h.nil_inv,.nil⟩
 | r::rs,vs,h=>by
  obtain ⟨v,ws,rfl,h1,h2⟩:=Reps.cons_inv (d:=dI r) (ds:=rs.map dI) h
  obtain ⟨p,us,rfl,h3,h4⟩:=h1.list_inv
  rw [reps_ints_inv h4] at h3
  obtain ⟨ps,rfl,h5⟩:=reps_rows_inv h2
  exact ⟨p::ps,rfl,Each.cons_iff.mpr ⟨h3,h5⟩⟩
end
def tyD:String->D->Bool
 | T,.list _=>T == "list"
 | T,.scr _=>T == "list"
 | T,.str _=>T == "str"
 | _,_=>false
def rBM (T:String) (f:D->List D->Option D) (a:ME) (as:ML):ME:=fun S=>(a S).bind fun x=>if tyD T x.1=true then (as x.2).bind fun y=>(f x.1 y.1).map fun d=>(d,y.2) else none
def BmD (K:W.Frag) (r:V->List V->Hp->VK->Prop) (f:D->List D->Option D):Prop:=∀ {x:V}{vs:List V}{H:Hp}{Q:VK}{dx:D}{ds:List D}{d:D},Rep K H dx x->Reps K H ds vs->f dx ds=some d->(∀ v,Rep K H d v->Q v H)->r x vs H Q
section
variable {K:W.Frag}{te:TE}{ta:TA}{a:ME}{as:ML}{r:V->List V->Hp->VK->Prop}{f:D->List D->Option D}{T:String}
theorem tyD_ok {H:Hp}{d:D}{v:V}(h:tyD T d=true) (rv:Rep K H d v):tyV K T v H:=by
 cases rv <;> simp only [tyD] at h
 all_goals first|(exfalso;simp at h;done)|skip
 .exact eq_of_beq h
 .rename_i p vs ds h1 l e
  exact .inl ⟨eq_of_beq h,vs,SqL.of h1⟩
 .rename_i p ns h1
  exact .inl ⟨eq_of_beq h,_,h1⟩
theorem sr_bm (hr:BmD K r f) (ha:SR K te a) (hs:SAr K ta as):SR K (tBM K T r te ta) (rBM T f a as):=by
 intro H₀ Hf₀ Hf S σ H Fs d S' R e Q q
 obtain ⟨x,e1,e⟩:=oBq.mp e
 split at e
 .rename_i hT
  obtain ⟨y,e2,e⟩:=oBq.mp e
  obtain ⟨z,e3,e⟩:=oMq.mp e
  cases e
  refine ha R (d:=x.1) (S':=x.2) e1 _ fun Hf1 H1 Fs1 v t1 R1 r1=>⟨tyD_ok hT r1,hs R1 (ds:=y.1) (S':=y.2) e2 _ fun Hf2 H2 Fs2 vs t2 R2 r2=>?_⟩
  exact hr (r1.mono t2.sh) r2 e3 fun v rv=>q _ _ _ v (t1.trans t2) R2 rv
 .cases e
def fIndex:D->List D->Option D
 | .list ds,[.int k]=>(intsOf ds).bind fun ns=>if k∈ns then some (.int (ns.idxOf k:Nat)) else none
 | _,_=>none
theorem bm_index:BmD K (rIndex K) fIndex:=by
 intro x vs H Q dx ds d rx rs e q
 unfold fIndex at e
 split at e
 .rename_i es k
  obtain ⟨ns,e1,e⟩:=oBq.mp e
  split at e
  .rename_i hk
   cases e
   obtain ⟨v,ws,rfl,h1,h2⟩:=rs.cons_inv
   rw [h2.nil_inv]
   cases h1
   rw [intsOf_eq e1] at rx
   obtain ⟨p,us,rfl,h3,h4⟩:=rx.list_inv
   rw [reps_ints_inv h4] at h3
   exact ⟨p,ns,k,rfl,rfl,SqL.of h3,hk,q _ .int⟩
  .cases e
 .cases e
def rCnt0 (a:ME):ME:=fun S=>(a S).bind fun x=>match x.1 with
 | .list ds=>(rowsOf ds).map fun rs=>(.int (rs.countP (·=([]:List Int)):Nat),x.2)
 | _=>none
theorem sr_cnt0 (ha:SR K te a):SR K (tBM K "list" rCount te (tCons (tLst tNil) tNil)) (rCnt0 a):=by
 intro H₀ Hf₀ Hf S σ H Fs d S' R e Q q
 obtain ⟨x,e1,e⟩:=oBq.mp e
 refine ha R (d:=x.1) (S':=x.2) e1 _ fun Hf1 H1 Fs1 v t1 R1 r1=>?_
 split at e
 .rename_i ds hx
  obtain ⟨rs,e2,e⟩:=oMq.mp e
  cases e
  rw [hx,rowsOf_eq e2] at r1
  obtain ⟨p,us,rfl,h3,h4⟩:=r1.list_inv
  obtain ⟨ps,rfl,hE⟩:=reps_rows_inv h4
  refine ⟨.inl ⟨rfl,_,SqL.of h3⟩,ba _,fun b hb=>?_⟩
  obtain ⟨t4,R4,n1,n2,n3⟩:=R1.new (o:=.lst []) hb
  refine ⟨p,b,ps,rs,[],rfl,rfl,(by rw [upd_ne (ne_of_none h3 hb)];exact h3),hE.same t4.sh,upd_same,hE.free (H:=H1) hb,q _ _ _ _ (t1.trans t4) R4 .int⟩
 .cases e
def dTru:D->Option Bool
 | .non=>some false
 | .bl b=>some b
 | .int i=>some (i != 0)
 | .list ds=>some (!ds.isEmpty)
 | .tup ds=>some (!ds.isEmpty)
 | .dict ds=>some (!ds.isEmpty)
 | _=>none
def tTru (a:ME):MT:=fun S=>(a S).bind fun x=>(dTru x.1).map fun b=>(b,x.2)
end
def nodeAt:AV->List Nat->Option (List AV)
 | .ow avs,[]=>some avs
 | .ow avs,j::js=>(avs[j]?).bind fun a=>nodeAt a js
 | _,_=>none
def putAt:AV->List Nat->List AV->AV
 | .ow _,[],as=>.ow as
 | .ow avs,j::js,as=>match avs[j]? with
  | some a=>.ow (avs.set j (putAt a js as))
  | none=>.ow avs
 | a,_,_=>a
def AtP (H:Hp):V->List Nat->V->Prop
 | v,[],w=>v=w
 | v,j::js,w=>∃ p vs u,v = .ref p/\H p=some (.lst vs)/\vs[j]?=some u/\AtP H u js w
section
variable {K:W.Frag}{H₀ Hf₀ Hf Hf' H H':Hp}{S S':AS}{σ:St}{Fs Fs':List (List Addr)}
theorem flat_set_nodup':∀ {Fs:List (List Addr)}{F G:List Addr}(i:Nat),Fs.flatten.Nodup->Fs[i]?=some G->F.Nodup->(∀ p∈F,p∈G∨p∉Fs.flatten)->(Fs.set i F).flatten.Nodup
 | [],F,G,i,h,e,_,_=>by simp at e
 | E::Gs,F,G,0,h,e,hF,hd=>by
  simp at e
  subst e
  rw [cY,fCq,nAq]
  rw [fCq,nAq] at h
  refine ⟨hF,h.2.1,fun a ha b hb e=>?_⟩
  subst e
  rcases hd a ha with z|z
  .exact h.2.2 a z a hb rfl
  .exact z (by rw [fCq];exact ar _ hb)
 | E::Gs,F,G,i+1,h,e,hF,hd=>by
  rw [dP,fCq,nAq]
  rw [fCq,nAq] at h
  have e':Gs[i]?=some G:=by simpa using e
  refine ⟨h.1,flat_set_nodup' i h.2.1 e' hF fun p hp=>(hd p hp).imp id fun z m=>z (by rw [fCq];exact ar _ m),fun a ha b hb e=>?_⟩
  subst e
  rcases flat_set_mem hb with q|q
  .rcases hd a q with z|z
   .exact h.2.2 a ha a (mFq.mpr ⟨G,mGq e',z⟩) rfl
   .exact z (by rw [fCq];exact bM _ ha)
  .exact h.2.2 a ha a q rfl
theorem flat_other:∀ {Fs:List (List Addr)}{F G:List Addr}{i j:Nat}{p:Addr},Fs.flatten.Nodup->Fs[i]?=some F->Fs[j]?=some G->i≠j->p∈F->p∉G
 | [],F,G,i,j,p,_,e,_,_,_,_=>by simp at e
 | E::Es,F,G,0,0,p,h,e,f,n,_,_=>n rfl
 | E::Es,F,G,0,j+1,p,h,e,f,n,hp,m=>by
  simp at e
  subst e
  rw [fCq,nAq] at h
  exact h.2.2 p hp p (mFq.mpr ⟨G,mGq (i:=j) (by simpa using f),m⟩) rfl
 | E::Es,F,G,i+1,0,p,h,e,f,n,hp,m=>by
  simp at f
  subst f
  rw [fCq,nAq] at h
  exact h.2.2 p m p (mFq.mpr ⟨F,mGq (i:=i) (by simpa using e),hp⟩) rfl
 | E::Es,F,G,i+1,j+1,p,h,e,f,n,hp,m=>by
  rw [fCq,nAq] at h
  exact flat_other h.2.1 (i:=i) (j:=j) (by simpa using e) (by simpa using f) (fun z=>n (by rw [z])) hp m
theorem RepA.path:∀ {path:List Nat}{av:AV}{v:V}{F:List Addr}{as:List AV},RepA K Hf H av v F->F.Nodup->nodeAt av path=some as->∃ p vs Gs,AtP H v path (.ref p)/\H p=some (.lst vs)/\Hf p=none/\RepAs K Hf H as vs Gs/\p∈F/\p∉Gs.flatten/\Gs.flatten.Nodup/\(∀ q∈Gs.flatten,q∈F) /\
  ∀ as' vs' Gs',RepAs K Hf (upd H p (.lst vs')) as' vs' Gs'->(p::Gs'.flatten).Nodup->(∀ q∈Gs'.flatten,q∈Gs.flatten∨q∉F)->∃ F',RepA K Hf (upd H p (.lst vs')) (putAt av path as') v F'/\F'.Nodup/\∀ q∈F',q∈F∨q∈Gs'.flatten
 | [],av,v,F,as,r,nd,e=>by
  cases av with
  | ow avs =>
   cases e
   obtain ⟨p,vs,Gs,rfl,rfl,h1,h2,h3⟩:=r.ow_inv
   have n:=aL.mp nd
   refine ⟨p,vs,Gs,rfl,h1,h2,h3,by simp,n.1,n.2,fun q hq=>mCo _ hq,fun as' vs' Gs' r' nd' _=>⟨p::Gs'.flatten,RepA.news upd_same h2 r',nd',fun q hq=>?_⟩⟩
   rcases ai.mp hq with z|z
   .exact .inl (by rw [z];simp)
   .exact .inr z
  | _=>cases e
 | j::js,av,v,F,as,r,nd,e=>by
  cases av with
  | ow avs =>
   obtain ⟨a,e1,e2⟩:=oBq.mp (show (avs[j]?).bind (fun a=>nodeAt a js)=some as from e)
   obtain ⟨p0,vs0,Gs0,rfl,rfl,h1,h2,h3⟩:=r.ow_inv
   have n:=aL.mp nd
   have hj:j<avs.length:=(gSq.mp e1).1
   have hv:vs0[j]?=some (vs0[j]'(h3.1 ▸ hj)):=gEg _
   have hg:Gs0[j]?=some (Gs0[j]'(h3.2.1 ▸ hj)):=gEg _
   generalize vs0[j]'(h3.1 ▸ hj)=vj at hv
   generalize Gs0[j]'(h3.2.1 ▸ hj)=Fj at hg
   have rj:=h3.2.2 j a vj Fj e1 hv hg
   have ndj:Fj.Nodup:=aR.sublist (bB (mGq hg)) n.2
   have sub:∀ q∈Fj,q∈Gs0.flatten:=fun q hq=>flat_mem_of hg hq
   obtain ⟨p,vs,Gs,g1,g2,g3,g4,g5,g6,g6',g7,g8⟩:=RepA.path rj ndj e2
   have pne:p0≠p:=fun z=>n.1 (z ▸ sub p g5)
   refine ⟨p,vs,Gs,⟨p0,vs0,vj,rfl,h1,hv,g1⟩,g2,g3,g4,mCo _ (sub p g5),g6,g6',fun q hq=>mCo _ (sub q (g7 q hq)),fun as' vs' Gs' r' nd' hd=>?_⟩
   obtain ⟨F',k1,k2,k3⟩:=g8 as' vs' Gs' r' nd' fun q hq=>(hd q hq).imp id fun z m=>z (mCo _ (sub q m))
   have hF':∀ q∈F',q∈Fj∨q∉Gs0.flatten:=fun q hq=>by
    rcases k3 q hq with z|z
    .exact .inl z
    .rcases hd q z with y|y
     .exact .inl (g7 q y)
     .exact .inr fun m=>y (mCo _ m)
   refine ⟨p0::(Gs0.set j F').flatten,?_,aL.mpr ⟨fun m=>?_,flat_set_nodup' j n.2 hg k2 hF'⟩,fun q hq=>?_⟩
   .show RepA K Hf (upd H p (.lst vs')) (match avs[j]? with|some a=>.ow (avs.set j (putAt a js as'))|none=>.ow avs) (.ref p0) _
    rw [e1]
    refine .ow (vs:=vs0) (by rw [upd_ne pne];exact h1) h2 (by rw [lZq];exact h3.1) (by rw [lZq,lZq];exact h3.2.1) fun i b w G q1 q2 q3=>?_
    rw [bo] at q1 q3
    by_cases hij:j=i
    .subst hij
     rw [if_pos rfl,if_pos hj] at q1
     rw [if_pos rfl,if_pos (h3.2.1 ▸ hj)] at q3
     rw [hv] at q2
     cases q1
     cases q2
     cases q3
     exact k1
    .rw [if_neg hij] at q1 q3
     exact (h3.2.2 i b w G q1 q2 q3).keepUpd fun m=>flat_other n.2 hg q3 hij g5 m
   .rcases flat_set_mem m with z|z
    .rcases k3 p0 z with y|y
     .exact n.1 (sub p0 y)
     .rcases hd p0 y with x|x
      .exact n.1 (sub p0 (g7 p0 x))
      .exact x (by simp)
    .exact n.1 z
   .rcases ai.mp hq with z|z
    .exact .inl (by rw [z];simp)
    .rcases flat_set_mem z with z|z
     .exact (k3 q z).imp (fun y=>mCo _ (sub q y)) id
     .exact .inl (mCo _ z)
  | _=>cases e
theorem Rel.turnAny (R:Rel K H₀ Hf₀ Hf S σ H Fs) {i:Nat}{av:AV}{p:Addr}{o:HO}{v:V}{F F':List Addr}(s1:σ[i]?=some (some v)) (s2:Fs[i]?=some F) (hp:p∈F) (r:RepA K Hf (upd H p o) av v F') (nd:F'.Nodup)
  (hf:∀ q∈F',H₀ q=none/\q∉(Fs.set i []).flatten):Rel K H₀ Hf₀ Hf (S.set i (some av)) σ (upd H p o) (Fs.set i F'):=by
 have hin:p∈Fs.flatten:=mFq.mpr ⟨F,mGq s2,hp⟩
 have pn:Hf p=none:=(R.mem hin).2
 have p0:H₀ p=none:=R.fresh p hin
 have out:=flat_set_out R.nd s2 hp
 have R1:Rel K H₀ Hf₀ Hf (S.set i none) σ (upd H p o) (Fs.set i []):=by
  refine ⟨by simp [R.len],by simp [R.lenF],fun j a ej=>?_,fun j ej=>?_,flat_set_nodup i R.nd bh (fun p hp=>by cases hp),fun p hp=>R.fresh p (flat_set_nil hp),fun b u e=>?_,fun b u e=>?_,R.lim,R.sf⟩
  .rw [bo] at ej
   by_cases hij:i=j
   .subst hij
    rw [if_pos rfl] at ej
    split at ej <;> cases ej
   .rw [if_neg hij] at ej
    obtain ⟨w,G,f1,f2,q⟩:=R.rep j a ej
    refine ⟨w,G,f1,by rw [au hij];exact f2,q.keep (.refl _) (fun c hc=>upd_ne fun e=>out ?_) fun c hc=>(q.owned c hc).2⟩
    subst e
    exact mFq.mpr ⟨G,mGq (i:=j) (by rw [au hij];exact f2),hc⟩
  .rw [bo] at ej
   by_cases hij:i=j
   .subst hij
    rw [if_pos rfl] at ej
    split at ej
    .rename_i hi
     rw [aF (R.lenF.symm ▸ hi)]
    .cases ej
   .rw [if_neg hij] at ej
    rw [au hij]
    exact R.emp j ej
  .rw [upd_ne fun z=>by rw [z,pn] at e;cases e]
   exact R.sub b u e
  .rw [upd_ne fun z=>by rw [z,p0] at e;cases e]
   exact R.fr b u e
 exact R1.again (F:=F) s1 r nd hf
theorem Rel.kill (R:Rel K H₀ Hf₀ Hf S σ H Fs) (x:Nat):Rel K H₀ Hf₀ Hf (S.set x none) σ H (Fs.set x []):=by
 refine ⟨by simp [R.len],by simp [R.lenF],fun j a ej=>?_,fun j ej=>?_,flat_set_nodup x R.nd bh (fun p hp=>by cases hp),fun p hp=>R.fresh p (flat_set_nil hp),R.sub,R.fr,R.lim,R.sf⟩
 .rw [bo] at ej
  by_cases hij:x=j
  .subst hij
   rw [if_pos rfl] at ej
   split at ej <;> cases ej
  .rw [if_neg hij] at ej
   obtain ⟨w,G,f1,f2,q⟩:=R.rep j a ej
   exact ⟨w,G,f1,by rw [au hij];exact f2,q⟩
 .rw [bo] at ej
  by_cases hij:x=j
  .subst hij
   rw [if_pos rfl] at ej
   split at ej
   .rename_i hi
    rw [aF (R.lenF.symm ▸ hi)]
   .cases ej
  .rw [if_neg hij] at ej
   rw [au hij]
   exact R.emp j ej
theorem Rel.any (R:Rel K H₀ Hf₀ Hf (S.set x none) σ H Fs) (v:V):Rel K H₀ Hf₀ Hf (S.set x none) (σ.set x (some v)) H Fs where
 len:=by rw [R.len,lZq]
 lenF:=R.lenF
 rep:=fun i av e=>by
  by_cases hij:x=i
  .subst hij
   rw [bo] at e
   rw [if_pos rfl] at e
   split at e <;> cases e
  .obtain ⟨w,G,f1,f2,q⟩:=R.rep i av e
   exact ⟨w,G,by rw [au hij];exact f1,f2,q⟩
 emp:=R.emp
 nd:=R.nd
 fresh:=R.fresh
 sub:=R.sub
 fr:=R.fr
 lim:=R.lim
 sf:=R.sf
end
def addAll (d:D):List AV->Option (List AV)
 | []=>some []
 | .ow as::r=>ifC (as.length<LIM) ((addAll d r).map (.ow (as++[.sh d]) :: ·))
 | _=>none
def mSpoil (i x:Nat) (d:D):MS:=fun S=>if i=x∨S.length<=x then none else if d.scal=true then (owAt S i).bind fun avs=>(addAll d avs).map fun bs=>.nx ((S.set i (some (.ow bs))).set x none) else none
abbrev aI (ns:List Int):AV:=.ow (ns.map fun n=>.sh (.int n))
def intsA:List AV->Option (List Int)
 | []=>some []
 | .sh (.int i)::r=>(intsA r).map (i :: ·)
 | _=>none
def rowsA:List AV->Option (List (List Int))
 | []=>some []
 | .ow as::r=>(intsA as).bind fun ns=>(rowsA r).map (ns :: ·)
 | _=>none
theorem intsA_eq:∀ {as:List AV}{ns:List Int},intsA as=some ns->as=ns.map fun n=>.sh (.int n)
 | [],ns,h=>by cases h;rfl
 | a::as,ns,h=>by
  cases a with
  | sh d =>
   cases d with
   | int i =>
    obtain ⟨ms,h1,h2⟩:=oMq.mp (show (intsA as).map (i :: ·)=some ns from h)
    subst h2
    rw [intsA_eq h1]
    rfl
   | _=>cases h
  | _=>cases h
theorem rowsA_eq:∀ {as:List AV}{rs:List (List Int)},rowsA as=some rs->as=rs.map aI
 | [],rs,h=>by cases h;rfl
 | a::as,rs,h=>by
  cases a with
  | ow es =>
   obtain ⟨r,h1,h⟩:=oBq.mp (show (intsA es).bind (fun ns=>(rowsA as).map (ns :: ·))=some rs from h)
   obtain ⟨ts,h2,h3⟩:=oMq.mp h
   subst h3
   rw [rowsA_eq h2,intsA_eq h1]
   rfl
  | _=>cases h
@[simp] theorem intsA_map (ns:List Int):intsA (ns.map fun n=>.sh (.int n))=some ns:=by
 induction ns with
 | nil=>rfl
 | cons n ns ih=>show (intsA (ns.map fun n=>.sh (.int n))).map (n :: ·)=_;rw [ih];rfl
@[simp] theorem rowsA_map (rs:List (List Int)):rowsA (rs.map aI)=some rs:=by
 induction rs with
 | nil=>rfl
 | cons r rs ih=>show (intsA (r.map fun n=>.sh (.int n))).bind (fun ns=>(rowsA (rs.map aI)).map (ns :: ·))=_;rw [intsA_map,ih];rfl
def kSortRO (k:MK):MK:=fun S=>(k S).bind fun x=>match x.1 with
 | .ow avs=>(rowsA avs).map fun rs=>(.ow ((srt rs).map aI),x.2)
 | _=>none
section
variable {K:W.Frag}{Hf H:Hp}
theorem repA_I_inv {ns:List Int}{v:V}{F:List Addr}(h:RepA K Hf H (aI ns) v F):∃ p,v = .ref p/\F=[p]/\H p=some (.lst (ns.map V.int))/\Hf p=none:=by
 obtain ⟨p,vs,Gs,rfl,rfl,h1,h2,h3⟩:=h.ow_inv
 have e:∀ {ns:List Int}{vs:List V}{Gs:List (List Addr)},RepAs K Hf H (ns.map fun n=>AV.sh (.int n)) vs Gs->vs=ns.map V.int/\Gs.flatten=[]:=by
  intro ns
  induction ns with
  | nil =>
   intro vs Gs h
   obtain ⟨a,b⟩:=h.nil_inv
   exact ⟨a,by rw [b];rfl⟩
  | cons n ns ih =>
   intro vs Gs h
   obtain ⟨v,ws,F,Gs',rfl,rfl,r1,r2⟩:=RepAs.cons_inv (a:=.sh (.int n)) h
   obtain ⟨f1,f2⟩:=r1.sh_inv
   subst f1
   cases f2
   obtain ⟨g1,g2⟩:=ih r2
   rw [g1]
   exact ⟨rfl,by rw [fCq,g2];rfl⟩
 obtain ⟨e1,e2⟩:=e h3
 rw [e2]
 subst e1
 exact ⟨p,rfl,rfl,h1,h2⟩
theorem repA_I {ns:List Int}{p:Addr}(h1:H p=some (.lst (ns.map V.int))) (h2:Hf p=none):RepA K Hf H (aI ns) (.ref p) [p]:=by
 have:=RepA.new (K:=K) (Hf:=Hf) (H:=H) (ds:=ns.map D.int) h1 h2 (reps_ints ns)
 rw [← map_sh_ints] at this
 exact this
theorem repAs_rows_inv:∀ {rs:List (List Int)}{vs:List V}{Gs:List (List Addr)},RepAs K Hf H (rs.map aI) vs Gs->∃ ps,vs=ps.map V.ref/\Gs=ps.map (fun p=>[p])/\Each H ps rs/\∀ p∈ps,Hf p=none
 | [],vs,Gs,h=>by
  obtain ⟨a,b⟩:=h.nil_inv
  exact ⟨[],a,b,.nil,fun p hp=>by cases hp⟩
 | r::rs,vs,Gs,h=>by
  obtain ⟨v,ws,F,Gs',rfl,rfl,r1,r2⟩:=RepAs.cons_inv (a:=aI r) (as:=rs.map aI) h
  obtain ⟨p,rfl,rfl,h1,h2⟩:=repA_I_inv r1
  obtain ⟨ps,rfl,rfl,h3,h4⟩:=repAs_rows_inv r2
  exact ⟨p::ps,rfl,rfl,Each.cons_iff.mpr ⟨h1,h3⟩,fun q hq=>(ai.mp hq).elim (fun e=>e ▸ h2) (h4 q)⟩
theorem repAs_rows:∀ {rs:List (List Int)}{ps:List Addr},Each H ps rs->(∀ p∈ps,Hf p=none)->RepAs K Hf H (rs.map aI) (ps.map V.ref) (ps.map fun p=>[p])
 | [],[],_,_=>.nil
 | [],_::_,h,_=>by have:=h.length;simp at this
 | _::_,[],h,_=>by have:=h.length;simp at this
 | r::rs,p::ps,h,n=>by
  obtain ⟨h1,h2⟩:=Each.cons_iff.mp h
  exact .cons (repA_I h1 (n p (by simp))) (repAs_rows h2 fun q hq=>n q (mCo _ hq))
theorem flat_one (ps:List Addr):(ps.map fun p=>[p]).flatten=ps:=by
 induction ps with
 | nil=>rfl
 | cons p ps ih=>rw [aq,fCq,ih];rfl
theorem sk_sortRO {te:TE}{k:MK}(hk:SK K te k):SK K (tCB (fun xs H Q=>∃ (a:Addr) (ps:List Addr) (rs:List (List Int)),xs=[.ref a]/\SqL K H a (ps.map V.ref)/\Each H ps rs /\
  ∀ p qs,H p=none->qs.Perm ps->Each (upd H p (.lst (qs.map V.ref))) qs (srt rs)->Q (.ref p) (upd H p (.lst (qs.map V.ref)))) (tCons te tNil)) (kSortRO k):=by
 intro H₀ Hf₀ Hf S σ H Fs av S' R e Q q
 obtain ⟨x,e1,e⟩:=oBq.mp e
 refine hk R (a:=x.1) (S':=x.2) e1 _ fun Hf1 H1 Fs1 v F t1 R1 r1 o1=>?_
 split at e
 .rename_i avs hx
  obtain ⟨rs,e2,e⟩:=oMq.mp e
  cases e
  rw [hx,rowsA_eq e2] at r1
  obtain ⟨p0,vs,Gs,rfl,rfl,h1,h2,h3⟩:=r1.ow_inv
  obtain ⟨ps,rfl,rfl,hE,hn⟩:=repAs_rows_inv h3
  rw [flat_one] at o1
  refine ⟨p0,ps,rs,rfl,SqL.of h1,hE,fun p qs hp hq hE2=>?_⟩
  obtain ⟨t4,R4,n1,n2,n3⟩:=R1.new (o:=.lst (qs.map V.ref)) hp
  have pq:p∉qs:=fun m=>hE.free (H:=H1) hp (hq.mem_iff.mp m)
  have hm:∀ z∈qs,z∈p0::ps:=fun z hz=>mCo _ (hq.mem_iff.mp hz)
  refine q _ _ _ (.ref p) (p::(qs.map fun p=>[p]).flatten) (t1.trans t4) R4 (RepA.news upd_same n1 (repAs_rows hE2 fun z hz=>hn z (hq.mem_iff.mp hz))) ?_
  rw [flat_one]
  refine ⟨aL.mpr ⟨pq,hq.nodup_iff.mpr (aL.mp o1.nd).2⟩,fun z hz=>?_,fun z hz=>?_,fun z hz=>?_⟩
  .rcases ai.mp hz with y|y
   .rw [y];exact n2
   .exact o1.fr z (hm z y)
  .rcases ai.mp hz with y|y
   .rw [y];exact n3
   .exact o1.out z (hm z y)
  .rcases ai.mp hz with y|y
   .rw [y];exact .inl (t1.sh.free hp)
   .exact o1.new z (hm z y)
 .cases e
def scOf:AV->Option D
 | .sh d=>if d.scal=true then some d else none
 | _=>none
def rCall (f:MF) (a:ML):ME:=fun S=>(a S).bind fun x=>(f x.1).bind fun r=>(scOf r).map fun d=>(d,x.2)
theorem sr_call {f:MF}{ta:TA}{a:ML}(ha:SAr K ta a):SR K (tCall (spOf K f) [] E0 ta) (rCall f a):=by
 intro H₀ Hf₀ Hf S σ H Fs d S' R e Q q
 obtain ⟨x,e1,e⟩:=oBq.mp e
 obtain ⟨r,e2,e⟩:=oBq.mp e
 obtain ⟨z,e3,e⟩:=oMq.mp e
 cases e
 refine ha R (ds:=x.1) (S':=x.2) e1 _ fun Hf1 H1 Fs1 vs t1 R1 r1=>?_
 rw [aNq]
 refine ⟨H1,x.1,r,.refl _,r1,e2,fun Hf' H' v F s1 s2 s3 l rv nd fr=>?_⟩
 have t2:Stp Hf1 H1 Fs1 Hf1 H' Fs1:=⟨.refl _,s2,fun _ h=>h,fun b h g=>absurd h g⟩
 cases r with
 | sh d' =>
  simp only [scOf] at e3
  split at e3
  .rename_i hs
   cases e3
   exact q _ _ _ v (t1.trans t2) (R1.laid s2) (rv.sh_inv.2.scal hs)
  .cases e3
 | _=>cases e3
end
section
variable (S:AS)
@[simp] theorem rVar_ (i:Nat):rVar i S=(S[i]?.join).map fun a=>(strip a,S):=rfl
@[simp] theorem kVar_ (i:Nat):kVar i S=(S[i]?.join).map fun a=>(.sh (strip a),S.set i (some (.sh (strip a)))):=rfl
@[simp] theorem kMov_ (i:Nat):kMov i S=(S[i]?.join).map fun a=>(a,S.set i none):=rfl
@[simp] theorem rOf_ (k:MK):rOf k S=(k S).map fun x=>(strip x.1,x.2):=rfl
@[simp] theorem kSc_ (m:ME):kSc m S=(m S).bind fun x=>if x.1.scal then some (.sh x.1,x.2) else none:=rfl
@[simp] theorem kFrz_ (k:MK):kFrz k S=(k S).map fun x=>(.sh (strip x.1),x.2):=rfl
@[simp] theorem rC_ (d:D):rC d S=if d.scal then some (d,S) else none:=rfl
@[simp] theorem rOp_ (f:D->D->Option D) (a b:ME):rOp f a b S=(a S).bind fun x=>(b x.2).bind fun y=>(f x.1 y.1).map fun d=>(d,y.2):=rfl
@[simp] theorem rUn_ (f:D->Option D) (a:ME):rUn f a S=(a S).bind fun x=>(f x.1).map fun d=>(d,x.2):=rfl
@[simp] theorem tAndM_ (a b:MT):tAndM a b S=(a S).bind fun x=>if x.1=true then b x.2 else some (false,x.2):=rfl
@[simp] theorem tNotM_ (a:MT):tNotM a S=(a S).map fun x=>(!x.1,x.2):=rfl
def blOf:D->Option Bool
 | .bl b=>some b
 | _=>none
@[simp] theorem tOf_ (a:ME):tOf a S=(a S).bind fun x=>(blOf x.1).map fun b=>(b,x.2):=by
 show (a S).bind _=_
 congr 1
 funext x
 obtain ⟨d,S'⟩:=x
 cases d <;> rfl
@[simp] theorem blOf_bl (b:Bool):blOf (.bl b)=some b:=rfl
@[simp] theorem aNil_:aNil S=some ([],S):=rfl
@[simp] theorem aCons_ (k:MK) (r:MA):aCons k r S=(k S).bind fun x=>(r x.2).map fun y=>(x.1::y.1,y.2):=rfl
@[simp] theorem arNil_:arNil S=some ([],S):=rfl
@[simp] theorem arCons_ (k:ME) (r:ML):arCons k r S=(k S).bind fun x=>(r x.2).map fun y=>(x.1::y.1,y.2):=rfl
@[simp] theorem kLst_ (a:MA):kLst a S=(a S).bind fun x=>ifC (x.1.length<=LIM) (some (.ow x.1,x.2)):=rfl
@[simp] theorem kTup_ (a:MA):kTup a S=(a S).bind fun x=>ifC (x.1.length<=LIM) (some (.sh (.tup (x.1.map strip)),x.2)):=rfl
@[simp] theorem kCat_ (a b:ML):kCat a b S=(a S).bind fun x=>(b x.2).bind fun y=>ifC (x.1.length+y.1.length<=LIM) (some (.ow ((x.1++y.1).map .sh),y.2)):=rfl
@[simp] theorem oNone_:oNone S=some (none,S):=rfl
@[simp] theorem oSome_ (m:ME):oSome m S=(m S).bind fun x=>(intOf x.1).map fun i=>(some i,x.2):=by
 show (m S).bind _=_
 congr 1
 funext x
 obtain ⟨d,S'⟩:=x
 cases d <;> rfl
@[simp] theorem intOf_int (i:Int):intOf (.int i)=some i:=rfl
@[simp] theorem kSl_ (l:ML) (lo hi:MO):kSl l lo hi S=(l S).bind fun x=>(lo x.2).bind fun y=>(hi y.2).map fun z=>(.ow ((cutG x.1 y.1 z.1).map .sh),z.2):=rfl
@[simp] theorem kIx_ (l:ML) (b:ME):kIx l b S=(l S).bind fun x=>(b x.2).bind fun y=>(intOf y.1).bind fun i=>(atI x.1 i).map fun d=>(.sh d,y.2):=by
 show (l S).bind _=_
 congr 1
 funext x
 show (b x.2).bind _=_
 congr 1
 funext y
 obtain ⟨d,S'⟩:=y
 cases d <;> rfl
@[simp] theorem rCB_ (f:List D->Option D) (a:ML):rCB f a S=(a S).bind fun x=>(f x.1).map fun d=>(d,x.2):=rfl
@[simp] theorem kCall_ (f:MF) (a:MA):kCall f a S=(a S).bind fun x=>(f (x.1.map strip)).map fun r=>(r,x.2):=rfl
@[simp] theorem rCall_ (f:MF) (a:ML):rCall f a S=(a S).bind fun x=>(f x.1).bind fun r=>(scOf r).map fun d=>(d,x.2):=rfl
@[simp] theorem mNext_:mNext S=some (.nx S):=rfl
def thenO (o:Option Out) (b:MS):Option Out:=o.bind fun o=>match o with
 | .nx S'=>b S'
 | o=>some o
@[simp] theorem thenO_nx (b:MS):thenO (some (.nx S)) b=b S:=rfl
@[simp] theorem thenO_rt (a:AV) (b:MS):thenO (some (.rt a)) b=some (.rt a):=rfl
@[simp] theorem mSeq_ (a b:MS):mSeq a b S=thenO (a S) b:=rfl
@[simp] theorem mAsg_ (i:Nat) (k:MK):mAsg i k S=(k S).map fun x=>.nx (x.2.set i (some x.1)):=rfl
@[simp] theorem mRet_ (k:MK):mRet k S=(k S).map fun x=>.rt x.1:=rfl
@[simp] theorem mIf_ (c:MT) (a b:MS):mIf c a b S=(c S).bind fun x=>if x.1=true then a x.2 else b x.2:=rfl
@[simp] theorem mApp_ (i:Nat) (k:MK):mApp i k S=(owAt S i).bind fun _=>(k S).bind fun x=>(owAt x.2 i).bind fun avs=>ifC (avs.length<LIM) (some (.nx (x.2.set i (some (.ow (avs++[x.1])))))):=rfl
@[simp] theorem mExt_ (i:Nat) (l:ML):mExt i l S=(owAt S i).bind fun _=>(l S).bind fun x=>(owAt x.2 i).bind fun avs=>ifC (avs.length+x.1.length<=LIM) (some (.nx (x.2.set i (some (.ow (avs++x.1.map .sh)))))):=rfl
@[simp] theorem mDPut_ (i:Nat) (b:ME) (k:MK):mDPut i b k S=(kFrz k S).bind fun x=>(owdAt x.2 i).bind fun _=>(b x.2).bind fun y=>(owdAt y.2 i).bind fun kvs=>(keyOf y.1).bind fun key =>
 ifC (kvs.length<LIM) (some (.nx (y.2.set i (some (.owd (putD kvs key (strip x.1))))))):=rfl
def dictOf:D->Option (List (Key×D))
 | .dict kvs=>some kvs
 | _=>none
@[simp] theorem dictOf_dict (kvs:List (Key×D)):dictOf (.dict kvs)=some kvs:=rfl
@[simp] theorem keyOf_int (i:Int):keyOf (.int i)=some (.inl i):=rfl
@[simp] theorem rDNotIn_ (a b:ME):rDNotIn a b S=(a S).bind fun x=>(b x.2).bind fun y=>(dictOf y.1).bind fun kvs=>(keyOf x.1).map fun key=>(.bl (!(getD kvs key).isSome),y.2):=by
 show (a S).bind _=_
 congr 1
 funext x
 show (b x.2).bind _=_
 congr 1
 funext y
 obtain ⟨d,S'⟩:=y
 cases d <;> rfl
@[simp] theorem rDGet_ (a b:ME):rDGet a b S=(a S).bind fun x=>(b x.2).bind fun y=>(dictOf x.1).bind fun kvs=>(keyOf y.1).bind fun key=>(getD kvs key).map fun d=>(d,y.2):=by
 show (a S).bind _=_
 congr 1
 funext x
 show (b x.2).bind _=_
 congr 1
 funext y
 obtain ⟨d,S'⟩:=x
 cases d <;> rfl
@[simp] theorem kDict_:kDict S=some (.owd [],S):=rfl
@[simp] theorem mFor_ (x:Nat) (k:MK) (body:MS):mFor x k body S=(kFrz k S).bind fun y=>(itemsOf (strip y.1)).bind fun ds=>mForL x body ds y.2:=rfl
@[simp] theorem mForR1_ (x:Nat) (a:ML) (body:MS):mForR1 x a body S=(a S).bind fun y=>(rng1 y.1).bind fun ds=>mForL x body ds y.2:=rfl
@[simp] theorem mForE_ (x y:Nat) (k:MK) (body:MS):mForE x y k body S=(kFrz k S).bind fun z=>(itemsOf (strip z.1)).bind fun ds=>mForEL x y body 0 ds z.2:=rfl
@[simp] theorem mForZ_ (x y:Nat) (k l:MK) (body:MS):mForZ x y k l body S=(kFrz k S).bind fun z=>(kFrz l z.2).bind fun w=>(itemsOf (strip z.1)).bind fun ds=>(itemsOf (strip w.1)).bind fun es =>
 if ds.length=es.length then mForZL x y body ds es w.2 else none:=rfl
@[simp] theorem kComp_ (src:MI) (fr:List Nat) (tf:MT) (te:MK):kComp src fr tf te S=(src S).bind fun y=>(fzAll fr y.2).bind fun S2=>(capt S2 fr).bind fun cap=>ifC (y.1.length<=LIM) ((mCompL tf te cap y.1).map fun avs=>(.ow avs,S2)):=rfl
@[simp] theorem iLst_ (k:MK):iLst k S=(kFrz k S).bind fun y=>(itemsOf (strip y.1)).map fun ds=>(ds,y.2):=rfl
@[simp] theorem iR1_ (a:ML):iR1 a S=(a S).bind fun y=>(rng1 y.1).map fun ds=>(ds,y.2):=rfl
@[simp] theorem fzAll_nil:fzAll [] S=some S:=rfl
@[simp] theorem fzAll_cons (j:Nat) (js:List Nat):fzAll (j::js) S=(S[j]?.join).bind fun a=>fzAll js (S.set j (some (.sh (strip a)))):=rfl
@[simp] theorem capt_nil:capt S []=some []:=rfl
@[simp] theorem capt_cons (j:Nat) (js:List Nat):capt S (j::js)=(shOf S[j]?.join).bind fun a=>(capt S js).map (some a :: ·):=rfl
@[simp] theorem kList_ (l:ML):kList l S=(l S).map fun x=>(.ow (x.1.map .sh),x.2):=rfl
@[simp] theorem kSortI_ (l:ML):kSortI l S=(l S).bind fun x=>(intsOf x.1).map fun ns=>(.ow ((srtI ns).map fun n=>.sh (.int n)),x.2):=rfl
def owOf:AV->Option (List AV)
 | .ow avs=>some avs
 | _=>none
@[simp] theorem owOf_ow (avs:List AV):owOf (.ow avs)=some avs:=rfl
@[simp] theorem kSortRO_ (k:MK):kSortRO k S=(k S).bind fun x=>(owOf x.1).bind fun avs=>(rowsA avs).map fun rs=>(.ow ((srt rs).map aI),x.2):=by
 show (k S).bind _=_
 congr 1
 funext x
 obtain ⟨d,S'⟩:=x
 cases d <;> rfl
@[simp] theorem rBM_ (T:String) (f:D->List D->Option D) (a:ME) (as:ML):rBM T f a as S=(a S).bind fun x=>if tyD T x.1=true then (as x.2).bind fun y=>(f x.1 y.1).map fun d=>(d,y.2) else none:=rfl
def lstOf:D->Option (List D)
 | .list ds=>some ds
 | _=>none
@[simp] theorem lstOf_list (ds:List D):lstOf (.list ds)=some ds:=rfl
@[simp] theorem rCnt0_ (a:ME):rCnt0 a S=(a S).bind fun x=>(lstOf x.1).bind fun ds=>(rowsOf ds).map fun rs=>(.int (rs.countP (·=([]:List Int)):Nat),x.2):=by
 show (a S).bind _=_
 congr 1
 funext x
 obtain ⟨d,S'⟩:=x
 cases d <;> rfl
def lsA:AV->Option (List D)
 | .sh (.list ds)=>some ds
 | .ow avs=>some (avs.map strip)
 | _=>none
@[simp] theorem lsA_sh (ds:List D):lsA (.sh (.list ds))=some ds:=rfl
@[simp] theorem lsA_ow (avs:List AV):lsA (.ow avs)=some (avs.map strip):=rfl
@[simp] theorem lOf_ (k:MK):lOf k S=(k S).bind fun x=>(lsA x.1).map fun ds=>(ds,x.2):=by
 show (k S).bind _=_
 congr 1
 funext x
 obtain ⟨a,S'⟩:=x
 cases a with
 | sh d=>cases d <;> rfl
 | _=>rfl
end
@[simp] theorem fold_shs (ds:List D):(ds.map AV.sh).map strip=ds:=by
 rw [mPq]
 have:strip∘AV.sh=id:=by funext d;simp
 rw [this,eX]
def hlf:AV->AV
 | .ow avs=>.ow ((avs.map strip).map .sh)
 | a=>a
@[simp] theorem hlf_sh (d:D):hlf (.sh d) = .sh d:=rfl
theorem set_self {S:AS}{i:Nat}{a:AV}(h:S[i]?=some (some a)):S.set i (some a)=S:=by
 obtain ⟨hk,ev⟩:=gSq.mp h
 rw [← ev]
 exact eD hk
@[simp] theorem lVar_ (S:AS) (i:Nat):lVar i S=(S[i]?.join).bind fun a=>(lsA a).map fun ds=>(ds,S.set i (some (hlf a))):=by
 unfold lVar
 cases e:S[i]?.join with
 | none=>rfl
 | some a =>
  cases a with
  | sh d =>
   cases d with
   | list ds =>
    show some (ds,S)=some (ds,S.set i (some (.sh (.list ds))))
    rw [set_self (some_of_join e)]
   | _=>rfl
  | ow avs=>rfl
  | owd kvs=>rfl
def lsQ:AV->Option (List D)
 | .sh (.scr ns)=>some (ns.map .int)
 | a=>lsA a
@[simp] theorem lsQ_scr (ns:List Int):lsQ (.sh (.scr ns))=some (ns.map .int):=rfl
@[simp] theorem lsQ_sh (ds:List D):lsQ (.sh (.list ds))=some ds:=rfl
@[simp] theorem qVar_ (S:AS) (i:Nat):qVar i S=(S[i]?.join).bind fun a=>(lsQ a).map fun ds=>(ds,S.set i (some (hlf a))):=by
 unfold qVar
 cases e:S[i]?.join with
 | none=>rfl
 | some a =>
  cases a with
  | sh d =>
   cases d with
   | list ds =>
    show some (ds,S)=some (ds,S.set i (some (.sh (.list ds))))
    rw [set_self (some_of_join e)]
   | scr ns =>
    show some (ns.map D.int,S)=some (ns.map D.int,S.set i (some (.sh (.scr ns))))
    rw [set_self (some_of_join e)]
   | _=>rfl
  | ow avs=>rfl
  | owd kvs=>rfl
@[simp] theorem scal_int (i:Int):(D.int i).scal=true:=rfl
@[simp] theorem scal_bl (i:Bool):(D.bl i).scal=true:=rfl
@[simp] theorem scal_ty (i:String):(D.ty i).scal=true:=rfl
@[simp] theorem scOf_int (i:Int):scOf (.sh (.int i))=some (.int i):=rfl
@[simp] theorem scOf_bl (i:Bool):scOf (.sh (.bl i))=some (.bl i):=rfl
@[simp] theorem dEq_int (i j:Int):dEq (.int i) (.int j)=some (.bl (decide (i=j))):=rfl
@[simp] theorem dNe_int (i j:Int):dNe (.int i) (.int j)=some (.bl (!decide (i=j))):=rfl
@[simp] theorem fLen_list (ds:List D):fLen [.list ds]=some (.int ds.length):=rfl
@[simp] theorem fLen_scr (ns:List Int):fLen [.scr ns]=some (.int ns.length):=rfl
@[simp] theorem fIsi_list (ds:List D):fIsi [.list ds,.ty "list"]=some (.bl true):=by simp [fIsi]
@[simp] theorem itemsOf_list (ds:List D):itemsOf (.list ds)=some ds:=rfl
@[simp] theorem dIx_list (ds:List D) (i:Int):dIx (.list ds) (.int i)=atI ds i:=rfl
@[simp] theorem dIx_scr (ns:List Int) (i:Int):dIx (.scr ns) (.int i)=(atI ns i).map .int:=rfl
@[simp] theorem shOf_sh (d:D):shOf (some (.sh d))=some (.sh d):=rfl
@[simp] theorem tyD_list (ds:List D):tyD "list" (.list ds)=true:=rfl
theorem owAt_eq (S:AS) (i:Nat):owAt S i=(S[i]?.join).bind owOf:=by
 unfold owAt
 cases S[i]?.join with
 | none=>rfl
 | some a=>cases a <;> rfl
def owdOf:AV->Option (List (Key×D))
 | .owd kvs=>some kvs
 | _=>none
@[simp] theorem owdOf_owd (kvs:List (Key×D)):owdOf (.owd kvs)=some kvs:=rfl
theorem owdAt_eq (S:AS) (i:Nat):owdAt S i=(S[i]?.join).bind owdOf:=by
 unfold owdAt
 cases S[i]?.join with
 | none=>rfl
 | some a=>cases a <;> rfl
theorem forL_inv {x:Nat}{body:MS}(P:Nat->AS->Prop):∀ {ds:List D}{S:AS}{k:Nat},P k S->(∀ i d S,ds[i]?=some d->P (k+i) S->∃ S',(body (S.set x (some (.sh d)))=some (.nx S')∨body (S.set x (some (.sh d)))=some (.ct S'))/\P (k+i+1) S')->∃ S',mForL x body ds S=some (.nx S')/\P (k+ds.length) S'
 | [],S,k,h0,_=>⟨S,rfl,h0⟩
 | d::ds,S,k,h0,hs=>by
  obtain ⟨S',e,h1⟩:=hs 0 d S rfl h0
  have hs':∀ i d S,ds[i]?=some d->P (k+1+i) S->∃ S',(body (S.set x (some (.sh d)))=some (.nx S')∨body (S.set x (some (.sh d)))=some (.ct S'))/\P (k+1+i+1) S':=fun i d S h p=>by
   have:=hs (i+1) d S (by simpa using h) (by rw [show k+(i+1)=k+1+i by lia];exact p)
   rw [show k+(i+1)=k+1+i by lia] at this
   exact this
  obtain ⟨S2,e2,h2⟩:=forL_inv P (k:=k+1) h1 hs'
  refine ⟨S2,?_,by rw [lCq,show k+(ds.length+1)=k+1+ds.length by lia];exact h2⟩
  show (body _).bind _=_
  rcases e with e|e <;> (rw [e];exact e2)
theorem forL0 {x:Nat}{body:MS}(P:Nat->AS->Prop) {ds:List D}{S:AS}(h0:P 0 S) (hs:∀ i d S,ds[i]?=some d->P i S->∃ S',body (S.set x (some (.sh d)))=some (.nx S')/\P (i+1) S'):∃ S',mForL x body ds S=some (.nx S')/\P ds.length S':=by
 have:=forL_inv (x:=x) (body:=body) P (ds:=ds) (k:=0) h0 fun i d S h p=>by
  rw [bI] at p ⊢
  obtain ⟨S',e,q⟩:=hs i d S h p
  exact ⟨S',.inl e,q⟩
 rw [bI] at this
 exact this
theorem forE0 {x y:Nat}{body:MS}(P:Nat->AS->Prop):∀ {ds:List D}{S:AS}{k:Nat},P k S->(∀ i d S,ds[i]?=some d->P (k+i) S->∃ S',body ((S.set x (some (.sh (.int (k+i:Nat))))).set y (some (.sh d)))=some (.nx S')/\P (k+i+1) S')->∃ S',mForEL x y body k ds S=some (.nx S')/\P (k+ds.length) S'
 | [],S,k,h0,_=>⟨S,rfl,h0⟩
 | d::ds,S,k,h0,hs=>by
  obtain ⟨S',e,h1⟩:=hs 0 d S rfl h0
  have hs':∀ i d S,ds[i]?=some d->P (k+1+i) S->∃ S',body ((S.set x (some (.sh (.int (k+1+i:Nat))))).set y (some (.sh d)))=some (.nx S')/\P (k+1+i+1) S':=fun i d S h p=>by
   have:=hs (i+1) d S (by simpa using h) (by rw [show k+(i+1)=k+1+i by lia];exact p)
   rw [show k+(i+1)=k+1+i by lia] at this
   exact this
  obtain ⟨S2,e2,h2⟩:=forE0 P (k:=k+1) h1 hs'
  refine ⟨S2,?_,by rw [lCq,show k+(ds.length+1)=k+1+ds.length by lia];exact h2⟩
  show (body ((S.set x (some (.sh (.int (k:Nat))))).set y (some (.sh d)))).bind _=_
  rw [gk] at e
  rw [e]
  exact e2
theorem forZ0 {x y:Nat}{body:MS}(P:Nat->AS->Prop):∀ {ds es:List D}{S:AS}{k:Nat},ds.length=es.length->P k S->(∀ i d e S,ds[i]?=some d->es[i]?=some e->P (k+i) S->∃ S',body ((S.set x (some (.sh d))).set y (some (.sh e)))=some (.nx S')/\P (k+i+1) S')->∃ S',mForZL x y body ds es S=some (.nx S')/\P (k+ds.length) S'
 | [],[],S,k,_,h0,_=>⟨S,rfl,h0⟩
 | [],_::_,S,k,hl,_,_=>by simp at hl
 | _::_,[],S,k,hl,_,_=>by simp at hl
 | d::ds,b::es,S,k,hl,h0,hs=>by
  obtain ⟨S',e,h1⟩:=hs 0 d b S rfl rfl h0
  have hs':∀ i d e S,ds[i]?=some d->es[i]?=some e->P (k+1+i) S->∃ S',body ((S.set x (some (.sh d))).set y (some (.sh e)))=some (.nx S')/\P (k+1+i+1) S':=fun i d e S h h' p=>by
   have:=hs (i+1) d e S (by simpa using h) (by simpa using h') (by rw [show k+(i+1)=k+1+i by lia];exact p)
   rw [show k+(i+1)=k+1+i by lia] at this
   exact this
  obtain ⟨S2,e2,h2⟩:=forZ0 P (k:=k+1) (by simpa using hl) h1 hs'
  refine ⟨S2,?_,by rw [lCq,show k+(ds.length+1)=k+1+ds.length by lia];exact h2⟩
  show (body _).bind _=_
  rw [e]
  exact e2
theorem comp_map {te:MK}{cap:AS}(g:D->AV):∀ {ds:List D},(∀ d∈ds,∃ S',te (some (.sh d)::cap)=some (g d,S'))->mCompL tAllM te cap ds=some (ds.map g)
 | [],_=>rfl
 | d::ds,h=>by
  obtain ⟨S',e⟩:=h d (by simp)
  show (te (some (.sh d)::cap)).bind (fun a=>(mCompL tAllM te cap ds).map (a.1 :: ·))=_
  rw [e,comp_map g fun x hx=>h x (mCo _ hx)]
  rfl
theorem comp_filter {tf:MT}{te:MK}{cap:AS}(p:D->Bool) (g:D->AV):∀ {ds:List D},(∀ d∈ds,∃ S1,tf (some (.sh d)::cap)=some (p d,S1)/\(p d=true->∃ S',te S1=some (g d,S')))->mCompL tf te cap ds=some ((ds.filter p).map g)
 | [],_=>rfl
 | d::ds,h=>by
  obtain ⟨S1,e1,e2⟩:=h d (by simp)
  have ih:=comp_filter (tf:=tf) (te:=te) (cap:=cap) p g fun x hx=>h x (mCo _ hx)
  show (tf (some (.sh d)::cap)).bind _=_
  rw [e1]
  show (if p d=true then _ else _)=_
  by_cases c:p d=true
  .obtain ⟨S',e3⟩:=e2 c
   rw [if_pos c,e3,List.filter_cons_of_pos c]
   show (mCompL tf te cap ds).map _=_
   rw [ih]
   rfl
  .rw [if_neg c,List.filter_cons_of_neg c,ih]
theorem cutG_map {α β:Type}(f:α->β) (xs:List α) (lo hi:Option Int):cutG (xs.map f) lo hi=(cutG xs lo hi).map f:=by
 unfold cutG
 rw [lMq,gc,List.map_drop]
theorem cutG_from {α:Type}(xs:List α) (i:Nat) (h:i<=xs.length):cutG xs (some (i:Int)) none=xs.drop i:=by
 unfold cutG
 rw [HT.sIx_nat,HT.sIx_none,dh h,dg (by rw [aU];exact af _)]
theorem cutG_to {α:Type}(xs:List α) (i:Nat) (h:i<=xs.length):cutG xs none (some (i:Int))=xs.take i:=by
 unfold cutG
 rw [HT.sIx_nat,HT.sIx_none,dh h,dW,Nat.sub_zero]
theorem cutG_mid {α:Type}(xs:List α) (i j:Nat):cutG xs (some (i:Int)) (some (j:Int))=(xs.drop i).take (j-i):=by
 unfold cutG
 rw [HT.sIx_nat,HT.sIx_nat]
 by_cases h:i<=xs.length
 .rw [dh h]
  by_cases h2:j<=xs.length
  .rw [dh h2]
  .rw [gB (by lia),dg (by rw [aU];exact af _),dg (by rw [aU];lia)]
 .have e:min i xs.length=xs.length:=gB (by lia)
  rw [e,ef (af xs.length),ef (show xs.length<=i by lia)]
  simp
theorem atI_pos {α:Type}{xs:List α}{i:Int}(h0:0<=i):atI xs i=xs[i.toNat]?:=by
 unfold atI ixN
 rw [if_pos h0]
 by_cases h:i<xs.length
 .rw [if_pos h]
  rfl
 .rw [if_neg h,cw (by lia)]
  rfl
theorem atI_map {α β:Type}(f:α->β) (xs:List α) (i:Int):atI (xs.map f) i=(atI xs i).map f:=by
 unfold atI
 rw [lMq]
 cases ixN xs.length i with
 | none=>rfl
 | some j=>show (xs.map f)[j]?=_;rw [gMq];rfl
theorem ixN_pos {n:Nat}{i:Nat}(h:i<n):ixN n (i:Int)=some i:=by
 unfold ixN
 rw [if_pos (by lia),if_pos (by lia)]
 simp
theorem map_sh2 (ns:List Int):(ns.map D.int).map AV.sh=ns.map fun n=>AV.sh (.int n):=by rw [mPq];rfl
theorem map_st2 (ns:List Int):(ns.map fun n=>AV.sh (.int n)).map strip=ns.map D.int:=by rw [mPq];exact mCq fun n _=>by simp
theorem map_st3 (rs:List (List Int)):(rs.map aI).map strip=rs.map dI:=by
 rw [mPq]
 refine mCq fun r _=>?_
 show strip (.ow (r.map fun n=>AV.sh (.int n)))=_
 rw [strip_ow,map_st2]
theorem map_sh3 (rs:List (List Int)):(rs.map dI).map AV.sh=rs.map fun r=>AV.sh (dI r):=by rw [mPq];rfl
theorem map_st4 (rs:List (List Int)):(rs.map fun r=>AV.sh (dI r)).map strip=rs.map dI:=by rw [mPq];exact mCq fun n _=>by simp
theorem strip_aI (ns:List Int):strip (aI ns)=dI ns:=by
 show strip (.ow (ns.map fun n=>AV.sh (.int n)))=_
 rw [strip_ow,map_st2]
theorem dAdd_ii (i j:Int):dAdd (.int i) (.int j)=some (.int (i+j)):=ifC_true _
theorem dSub_ii (i j:Int):dSub (.int i) (.int j)=some (.int (i-j)):=ifC_true _
theorem dLt_ii (i j:Int):dLt (.int i) (.int j)=some (.bl (decide (i<j))):=ifC_true _
theorem dGt_ii (i j:Int):dGt (.int i) (.int j)=some (.bl (decide (j<i))):=ifC_true _
theorem dNeg_i (i:Int):dNeg (.int i)=some (.int (-i)):=rfl
theorem p40:dPow (.int 10) (.int 40)=some (.int (10 ^ 40)):=ifC_pos ⟨by decide,by decide,by decide⟩ _
theorem mul_l {i j:Int}(h1:-(2 ^ 64)<i) (h2:i<2 ^ 64):dMul (.int i) (.int j)=some (.int (i*j)):=ifC_pos (.inl ⟨h1,h2⟩) _
theorem mul_r {i j:Int}(h1:-(2 ^ 64)<j) (h2:j<2 ^ 64):dMul (.int i) (.int j)=some (.int (i*j)):=ifC_pos (.inr ⟨h1,h2⟩) _
theorem mod_ok {i j:Int}(h:0<j):dMod (.int i) (.int j)=some (.int (i % j)):=ifC_pos h _
theorem div_ok {i j:Int}(h:0<j) (h2:j<1073741824):dDiv (.int i) (.int j)=some (.int (i / j)):=ifC_pos ⟨h,h2⟩ _
theorem lim_0:(0:Nat)<=LIM:=by decide
theorem lim_1:(1:Nat)<=LIM:=by decide
theorem lim_2:(2:Nat)<=LIM:=by decide
theorem lim_5:(5:Nat)<=LIM:=by decide
theorem le_lim {n:Nat}(h:n<=16777216):n<=LIM:=h
theorem lt_lim {n:Nat}(h:n<16777216):n<LIM:=h
theorem rng1_ok {n:Nat}(h:n<1000000):rng1 [.int (n:Int)]=some (rangeD 0 n):=by
 have e:rng1 [.int (n:Int)]=some (rangeD 0 (n:Int).toNat):=ifC_pos ⟨by lia,by lia⟩ _
 rw [e,cE]
theorem rangeD_zero (n:Nat):rangeD 0 n=(bf n).map fun i:Nat=>D.int i:=by
 unfold rangeD
 exact mCq fun i _=>by rw [gV]
theorem runF_ (np n:Nat) (m:MS) (ds:List D):runF np n m ds=if ds.length=np then (m (ds.map (fun d=>some (.sh d))++aB (n-ds.length) none)).bind fun o=>match o with
  | .rt a=>some a
  | .nx _=>some (.sh .non)
  | _=>none
 else none:=rfl
def zq:=aa @Z.ifC_true (aa @Z.lim_0 (aa @Z.lim_1 (aa @Z.lim_2 (aa @Z.lim_5 (aa @Z.rVar_ (aa @Z.kVar_ (aa @Z.kMov_ (aa @Z.rOf_ (aa @Z.kSc_ (aa @Z.kFrz_ (aa @Z.rC_ (aa @Z.rOp_ (aa @Z.rUn_ (aa @Z.tAndM_ (aa @Z.tNotM_ (aa @Z.tOf_ (aa @Z.blOf_bl (aa @Z.aNil_ (aa @Z.aCons_ (aa @Z.arNil_ (aa @Z.arCons_ (aa @Z.kLst_ (aa @Z.kTup_ (aa @Z.kCat_ (aa @Z.oNone_ (aa @Z.oSome_ (aa @Z.intOf_int (aa @Z.kSl_ (aa @Z.kIx_ (aa @Z.rCB_ (aa @Z.kCall_ (aa @Z.rCall_ (aa @Z.mNext_ (aa @Z.thenO_nx (aa @Z.thenO_rt (aa @Z.mSeq_ (aa @Z.mAsg_ (aa @Z.mRet_ (aa @Z.mIf_ (aa @Z.mApp_ (aa @Z.mExt_ (aa @Z.mDPut_ (aa @Z.dictOf_dict (aa @Z.keyOf_int (aa @Z.rDNotIn_ (aa @Z.rDGet_ (aa @Z.kDict_ (aa @Z.mFor_ (aa @Z.mForR1_ (aa @Z.mForE_ (aa @Z.mForZ_ (aa @Z.kComp_ (aa @Z.iLst_ (aa @Z.iR1_ (aa @Z.fzAll_nil (aa @Z.fzAll_cons (aa @Z.capt_nil (aa @Z.capt_cons (aa @Z.kList_ (aa @Z.kSortI_ (aa @Z.owOf_ow (aa @Z.kSortRO_ (aa @Z.rBM_ (aa @Z.lstOf_list (aa @Z.rCnt0_ (aa @Z.lsA_sh (aa @Z.lsA_ow (aa @Z.lOf_ (aa @Z.fold_shs (aa @Z.hlf_sh (aa @Z.lVar_ (aa @Z.lsQ_scr (aa @Z.lsQ_sh (aa @Z.qVar_ (aa @Z.scal_int (aa @Z.scal_bl (aa @Z.scal_ty (aa @Z.scOf_int (aa @Z.scOf_bl (aa @Z.dAdd_ii (aa @Z.dSub_ii (aa @Z.dLt_ii (aa @Z.dGt_ii (aa @Z.dNeg_i (aa @Z.p40 (aa @Z.map_sh2 (aa @Z.map_st2 (aa @Z.map_st3 (aa @Z.map_sh3 (aa @Z.map_st4 (aa @Z.dEq_int (aa @Z.dNe_int (aa @Z.fLen_list (aa @Z.fLen_scr (aa @Z.fIsi_list (aa @Z.itemsOf_list (aa @Z.dIx_list (aa @Z.dIx_scr (aa @Z.shOf_sh (aa @Z.tyD_list (aa @Z.owAt_eq (aa @Z.owdAt_eq (aa @Z.owdOf_owd (aa @Z.strip_sh (aa @Z.strip_ow (aa @Z.strip_owd (aa @Z.runF_ (aa @Z.intsOf_map (aa @Z.rowsOf_map (aa @Z.rowsA_map (aa @List.getElem?_cons_zero.{0} (aa @List.getElem?_cons_succ.{0} (aa @List.set_cons_zero.{0} (aa @List.set_cons_succ.{0} (aa @Option.join_some.{0} (aa @Option.map_some.{0, 0} (aa @Option.bind_some.{0, 0} (aa @Option.bind_none.{0, 0} (aa @List.length_cons.{0} (aa @List.length_nil.{0} (aa @List.map_cons.{0, 0} (aa @List.map_nil.{0, 0} (aa @List.nil_append.{0} (aa @List.cons_append.{0} (aa @List.length_map.{0, 0} (aa @Bool.not_true (aa @Bool.not_false (aa @Bool.false_eq_true (aa @decide_true (aa @decide_false (aa @Nat.zero_add (aa @List.replicate_zero.{0} @List.append_nil.{0}))))))))))))))))))))))))))))))))))))))))))))))))))))))))))))))))))))))))))))))))))))))))))))))))))))))))))))))))))))))))))))))))))))
theorem law_imp {K:W.Frag}{f:MF}(h:∀ ns:List Int,ns.length<=63->f [.scr ns]=some (.sh (.bl true))):∀ vs H Q E,spLaw K vs H Q E->spOf K f vs H Q E:=by
 rintro vs H Q E ⟨a,ns,rfl,hS,hl,q⟩
 refine ⟨H,[.scr ns],_,.refl _,.cons (.scr hS) .nil,h ns hl,fun Hf' H' v F _ _ _ _ r _ _=>?_⟩
 cases r.sh_inv.2
 exact q H'
end Z
namespace Mr
open PySem PySem.Spec PyProof.Rows L2
section
variable {X:Cx}{tg:Expr}
def AllL {α:Type}(P:α->Prop):List α->Prop
 | []=>True
 | a::l=>P a/\AllL P l
theorem AllL.mem {α:Type}{P:α->Prop}:∀ {l:List α},AllL P l->∀ a∈l,P a
 | [],_,a,h=>by cases h
 | b::l,hp,a,h=>(ai.mp h).elim (fun e=>e ▸ hp.1) (AllL.mem hp.2 a)
theorem Frees.of {scope:Scope}{cl:List (Str×Addr)}{x:Str}{N:List Str}{fr:List Nat}(h1:N.Nodup) (h2:N[0]?=some x) (h3:N.length=fr.length+1)
  (h4:AllL (fun p=>X.env.cells.lookup p.1=some p.2) cl) (h5:AllL (fun p=>(p.2 = .cell∨p.2 = .free)->∃ c,cl.lookup p.1=some c) (relabel scope X.env).names)
  (h6:AllL (fun p=>X.N[p.1]?=some p.2/\X.env.scope.names.lookup p.2=some .cell/\(relabel scope X.env).names.lookup p.2=some .cell) (fr.zip (N.drop 1))):Frees X scope cl x N fr where
 names:=h1
 own:=h2
 len:=h3
 sub:=fun y c e=>h4.mem (y,c) (PySem.mem_of_lookup e)
 has:=fun y e=>by
  rcases e with e|e
  .exact h5.mem _ (PySem.mem_of_lookup e) (.inl rfl)
  .exact h5.mem _ (PySem.mem_of_lookup e) (.inr rfl)
 get:=fun k j y e1 e2=>by
  have hm:(j,y)∈fr.zip (N.drop 1):=by
   refine mGq (i:=k) ?_
   rw [cH]
   exact ⟨e1,by rw [eV,Nat.add_comm];exact e2⟩
  exact h6.mem _ hm
end
end Mr
namespace Z
open PySem L2 Mr
end Z
namespace Mr
open PySem PySem.W PySem.Spec PyProof.Rows L2
abbrev g2 (K:W.Frag):TG:=gTup K 2 (gCons (gName 0) (gCons (gName 1) gNil))
end Mr
namespace Mr
open PySem L2
end Mr
namespace Xe
open PySem PySem.Spec PySem.W PyProof.Rows L2 Mr
section
variable {X:Cx}
def Itk (o:Obj) (d:Addr) (kvs:List (Key×V)):It :=
  ⟨fun i H=>H d=some (.frz o (.dK kvs))/\∃ p,kvs[i]?=some p,
   fun i H x H'=>H'=H/\∃ p,kvs[i]?=some p/\x=kV p.1,
   fun i H=>H d=some (.frz o (.dK kvs))/\kvs.length<=i⟩
theorem turn_keys {P:Program}{w:World}{K:Frag}{tg:Expr}(o:Obj) (d it:Addr) (kvs:List (Key×V)) (vs:List (Key×Value)) (ep:Nat) (hne:d≠it)
  (ho:∀ h:Heap,h.get? d=some o->h.DictAt (mixKind P w) d vs ep) (kv:KV kvs vs):Turn P w K tg (Itk o d kvs) [it] it (fun i h=>h.IsKeyIter it d i vs.length ep) where
 mem:=by simp
 obj:=fun i h st b hb=>by
  have e:b=it:=by simpa using hb
  subst e
  obtain ⟨o',e,c,dd⟩:=st
  exact ⟨o',e,fun v z=>by rw [dd] at z;cases z⟩
 keep:=fun i h h' st k=>by
  obtain ⟨o',e,c,dd⟩:=st
  exact ⟨o',k it (by simp) _ e,c,dd⟩
 item:=by
  intro X hP hw hK hc i pins s σ H E I hf st hg
  subst hP hw hK
  obtain ⟨hd,p,hp⟩:=hg
  have e1:s.heap.get? d=some o:=(show ObjOk X.prog X.w H s.heap d (.frz o (.dK kvs)) from I.hok d _ hd).1
  obtain ⟨u,hx,ru⟩:=kv_get kv hp
  obtain ⟨f0,f1,f2,f3,f4,f5⟩:=hf it (by simp)
  refine wpAny_pyNext_dict_item st (ho _ e1) hx fun key h' hkey st' sb=>?_
  have I1:L2.Inv X pins σ H { s with heap:=h' }:=I.turned (t':=s.toks) (fun b o hb e=>(sb.2 b hb).trans e) f0 f1 f3 f4 f5
  have rk:RelV (kV p.1) key:=by
   rcases keyIs_shape hkey with ⟨j,t,e,rfl⟩|⟨z,t,e,rfl⟩
   .rw [e];exact ⟨t,rfl⟩
   .rw [e];exact ⟨t,rfl⟩
  obtain ⟨o',e,c,dd⟩:=id st'
  exact ⟨key,rfl,go_of (s:={ s with heap:=h' }) e c dd (by decide) ⟨_,H,I1,rk,⟨rfl,p,hp,rfl⟩,st',fun b hb=>(hf b hb).1⟩⟩
 done:=by
  intro X hP hw hK hc i pins s σ H E I hf st hg
  subst hP hw hK
  obtain ⟨hd,hl⟩:=hg
  have e1:s.heap.get? d=some o:=(show ObjOk X.prog X.w H s.heap d (.frz o (.dK kvs)) from I.hok d _ hd).1
  have l:=Paired.length kv
  obtain ⟨f0,f1,f2,f3,f4,f5⟩:=hf it (by simp)
  exact wpAny_pyNext_dict_end (I.ok.hd hc) st (ho _ e1) (cw (by lia)) fun h' eb=>⟨rfl,I.turned (t':=s.toks) (fun b o hb e=>eb b o hb e) f0 f1 f3 f4 f5⟩
 self:=fun _ _ _ _ _ st h=>wpAny_pyIter_keyiter st h
def iKeys (te:TE):TI:=fun σ H R=>te σ H fun x H1=>∃ d kvs,x = .ref d/\H1 d=some (.dK kvs)/\∀ o,R (Itk o d kvs) (upd H1 d (.frz o (.dK kvs)))
theorem pi_keys {tg o:Expr}{te:TE}(ho:PE X o te):PI X tg o (iKeys te):=by
 intro pins s σ H R I h
 refine thn (ho pins s σ H _ I h) fun v s1 ⟨x,H1,I1,r1,d,kvs,ex,ha,q⟩=>?_
 subst ex
 obtain rfl:=(show v=az d from r1)
 obtain ⟨hz,sa,vs,kv,dd⟩:=(show ObjOk X.prog X.w H1 s1.heap d (.dK kvs) from I1.hok d _ ha)
 obtain ⟨ep,ob,es,hob,rest⟩:=dd.dictAt
 have da:∀ h:Heap,h.get? d=some ob->h.DictAt (mixKind X.prog X.w) d vs ep:=fun h e=>⟨ob,es,e,rest⟩
 have hlt:d<s1.heap.objs.size:=ah hob
 refine wpAny_pyIter_dict sa (da _ hob) ?_
 have kp:∀ b u,s1.heap.get? b=some u->(s1.heap.push { cls:=.type "dict_keyiterator", data:=.fields #[.ref d,.int 0 0,.int vs.length 0,.int ep 0] }).get? b=some u:=fun b u e=>ae _ e
 have I2:L2.Inv X pins σ (upd H1 d (.frz ob (.dK kvs))) { s1 with heap:=s1.heap.push { cls:=.type "dict_keyiterator", data:=.fields #[.ref d,.int 0 0,.int vs.length 0,.int ep 0] } } :=
  (I1.kept (t':=s1.toks) kp).write (x:=d) (e:=d) (o:=.frz ob (.dK kvs)) (t':=s1.toks) (by rw [ha];trivial) (.inl rfl) (fun b u _ e=>e) ⟨_,kp _ _ hob⟩ ⟨kp _ _ hob,hz,sa,vs,kv,(da _ (kp _ _ hob)).dictOf⟩
 refine ⟨s1.heap.objs.size,[s1.heap.objs.size],_,_,_,rfl,I2,turn_keys ob d _ kvs vs ep (ay hlt) da kv,?_,fun b hb=>?_,q ob⟩
 .exact ⟨_,aQ _ rfl,rfl,rfl⟩
 .have e:b=s1.heap.objs.size:=by simpa using hb
  subst e
  exact I1.fpOk (af _) (by rw [upd_ne (cC hlt)];exact I1.hok.fresh (af _))
end
end Xe
namespace Mr
open PySem PySem.Spec PyProof.Rows L2
end Mr
namespace Z
open PySem L2 Mr
theorem mWhile_ (c:MT) (body:MS) (n:Nat) (S:AS):mWhile c body (n+1) S=(c S).bind fun x=>if x.1=true then (body x.2).bind fun o=>match o with
   | .nx S'=>mWhile c body n S'
   | .ct S'=>mWhile c body n S'
   | .bk S'=>some (.nx S')
   | .rt a=>some (.rt a)
  else some (.nx x.2):=rfl
end Z
namespace Z
open PySem L2 Mr Xe
inductive Res where
 | ok (a:AV)|ex (c:Str) (fs:List (Str×Int))
abbrev MFx:=List D->Option Res
def ResOk (K:W.Frag) (Hf H:Hp) (Q:VK) (E:XK):Res->Prop
 | .ok a=>∀ Hf' H' v F,Same Hf Hf'->Same H H'->Same Hf' H'->(∀ b,Hf b=none->H b≠none->Hf' b=none)->RepA K Hf' H' a v F->F.Nodup->(∀ q∈F,H q=none)->Q v H'
 | .ex c fs=>∀ Hf' H' e od,Same Hf Hf'->Same H H'->Same Hf' H'->(∀ b,Hf b=none->H b≠none->Hf' b=none)->Rep K Hf' (.exc c fs) (.ref e)->E (.ref e) od H'
def spX (K:W.Frag) (f:MFx):Sp:=fun vs H Q E=>∃ (Hf:Hp) (ds:List D) (r:Res),Same Hf H/\Reps K Hf ds vs/\f ds=some r/\ResOk K Hf H Q E r
def okR:Res->Option AV
 | .ok a=>some a
 | _=>none
def okX (f:MFx):MF:=fun ds=>(f ds).bind okR
theorem spX_ok {K:W.Frag}{f:MFx}{vs:List V}{H:Hp}{Q:VK}{E:XK}(h:spOf K (okX f) vs H Q E):spX K f vs H Q E:=by
 obtain ⟨Hf,ds,a,s,r,e,q⟩:=h
 obtain ⟨z,e1,e2⟩:=oBq.mp e
 cases z with
 | ok b=>cases e2;exact ⟨Hf,ds,_,s,r,e1,q⟩
 | ex c fs=>cases e2
inductive OutX where
 | ok (o:Out)|ex (c:Str) (fs:List (Str×Int))
abbrev MX:=AS->Option OutX
def OutOkX (K:W.Frag) (H₀ Hf₀ Hf:Hp) (D:Ends) (E:XK):OutX->Prop
 | .ok o=>OutOk K H₀ Hf₀ Hf D o
 | .ex c fs=>∀ Hf' H' e od,Same Hf₀ Hf'->Same H₀ H'->Same Hf' H'->(∀ b,Hf₀ b=none->H₀ b≠none->Hf' b=none)->Rep K Hf' (.exc c fs) (.ref e)->E (.ref e) od H'
theorem OutOkX.mono {K:W.Frag}{H₀ Hf₀ Hf Hf':Hp}{D:Ends}{E:XK}{o:OutX}(s:Same Hf Hf') (h:OutOkX K H₀ Hf₀ Hf D E o):OutOkX K H₀ Hf₀ Hf' D E o:=by
 cases o with
 | ok o=>exact OutOk.mono s h
 | ex c fs=>exact h
def SSX (K:W.Frag) (E:XK) (t:TS) (m:MX):Prop:=∀ {H₀ Hf₀ Hf:Hp}{S:AS}{σ:St}{H:Hp}{Fs:List (List Addr)}{o:OutX},Rel K H₀ Hf₀ Hf S σ H Fs->m S=some o->∀ D:Ends,OutOkX K H₀ Hf₀ Hf D E o->t D σ H
def xOf (m:MS):MX:=fun S=>(m S).map .ok
def xSeq (a b:MX):MX:=fun S=>(a S).bind fun o=>match o with
 | .ok (.nx S')=>b S'
 | o=>some o
def xIf (c:MT) (a b:MX):MX:=fun S=>(c S).bind fun x=>if x.1=true then a x.2 else b x.2
def xRaise (c fld:Str) (a:ML):MX:=fun S=>(a S).bind fun x=>match x.1 with
 | [.int n]=>some (.ex c [(fld,n)])
 | _=>none
section
variable {K:W.Frag}{E:XK}{t u:TS}{m n:MS}{a b:MX}{tt:TT}{c:MT}{ta:TA}
theorem ssx_of (h:SS K t m):SSX K E t (xOf m):=by
 intro H₀ Hf₀ Hf S σ H Fs o R e D q
 obtain ⟨z,e1,e2⟩:=oMq.mp e
 subst e2
 exact h R e1 D q
theorem ssx_seq (ha:SSX K E t a) (hb:SSX K E u b):SSX K E (tSeq t u) (xSeq a b):=by
 intro H₀ Hf₀ Hf S σ H Fs o R e D q
 obtain ⟨z,e1,e2⟩:=oBq.mp e
 refine ha R e1 { D with nx:=u D } ?_
 cases z with
 | ok z =>
  cases z with
  | nx S'=>exact fun Hf' σ' H' Fs' s R'=>hb R' e2 D (q.mono s)
  | bk S'=>cases e2;exact q
  | ct S'=>cases e2;exact q
  | rt a=>cases e2;exact q
 | ex c fs=>cases e2;exact q
theorem ssx_if (hc:STt K tt c) (ha:SSX K E t a) (hb:SSX K E u b):SSX K E (tIfS tt t u) (xIf c a b):=by
 intro H₀ Hf₀ Hf S σ H Fs o R e D q
 obtain ⟨x,e1,e2⟩:=oBq.mp e
 refine hc R (b:=x.1) (S':=x.2) e1 _ fun Hf1 H1 Fs1 t1 R1=>?_
 split at e2
 .rename_i hx
  rw [if_pos hx]
  exact ha R1 e2 D (q.mono t1.sf)
 .rename_i hx
  rw [if_neg hx]
  exact hb R1 e2 D (q.mono t1.sf)
theorem rep_int_inv {H:Hp}{n:Int}{v:V}(r:Rep K H (.int n) v):v = .int n:=by cases r;rfl
theorem ssx_raise {cn fld:Str}{C M:Addr}{l:ML}(rf:Ref K cn C M) (nf:W.findIn K (.ref C) fld=some none) (hl:SAr K ta l):SSX K E (tRs E C (tMkX K cn fld ta)) (xRaise cn fld l):=by
 intro H₀ Hf₀ Hf S σ H Fs o R e D q
 obtain ⟨x,e1,e2⟩:=oBq.mp e
 refine hl R (ds:=x.1) (S':=x.2) e1 _ fun Hf1 H1 Fs1 vs t1 R1 r1=>?_
 split at e2
 .rename_i k hk
  cases e2
  rw [hk] at r1
  obtain ⟨v,ws,rfl,r2,r3⟩:=r1.cons_inv
  obtain rfl:=r3.nil_inv
  obtain rfl:=rep_int_inv r2
  refine ⟨_,C,M,rfl,rf,nf,fun ex dx n1 n2 n3=>⟨ex,some dx,rfl,upd_same,?_⟩⟩
  rw [upd_upd]
  have nf1:Hf1 ex=none:=R1.sub.free n1
  have nf2:Hf1 dx=none:=R1.sub.free n2
  have s1:Same Hf1 (upd (upd Hf1 dx (.xd [(fld,.int k)])) ex (ExA ex C (some dx))):=(same_upd nf2).trans (same_upd (by rw [upd_ne (Ne.symm n3)];exact nf1))
  have s2:Same H1 (upd (upd H1 dx (.xd [(fld,.int k)])) ex (ExA ex C (some dx))):=(same_upd n2).trans (same_upd (by rw [upd_ne (Ne.symm n3)];exact n1))
  refine q (upd (upd Hf1 dx (.xd [(fld,.int k)])) ex (ExA ex C (some dx))) _ ex (some dx) (R1.sf.trans s1) (R1.fr.trans s2) (fun b o' z=>?_) (fun b z1 z2=>?_) (.exc rf (fun p hp=>?_) upd_same ?_)
  .by_cases hb:b=ex
   .subst hb;rw [upd_same] at z ⊢;exact z
   .rw [upd_ne hb] at z ⊢
    by_cases hb2:b=dx
    .subst hb2;rw [upd_same] at z ⊢;exact z
    .rw [upd_ne hb2] at z ⊢;exact R1.sub b o' z
  .have h1:b≠ex:=fun z=>z2 (by rw [z];exact R1.fr.free n1)
   have h2:b≠dx:=fun z=>z2 (by rw [z];exact R1.fr.free n2)
   rw [upd_ne h1,upd_ne h2]
   exact R1.lim b z1 z2
  .simp only [mSq] at hp;subst hp;exact nf
  .rw [upd_ne n3,upd_same];rfl
 .cases e2
end
def runX (np n:Nat) (m:MX):MFx:=fun ds=>if ds.length=np then (m (ds.map (fun d=>some (.sh d))++aB (n-ds.length) none)).bind fun o=>match o with
  | .ok (.rt a)=>some (.ok a)
  | .ok (.nx _)=>some (.ok (.sh .non))
  | .ex c fs=>some (.ex c fs)
  | _=>none
 else none
theorem fn_soundX {K:W.Frag}{t:TS}{m:MX}{np:Nat}(N:List Str) {E:XK}(h:SSX K E t m) {vs:List V}{H:Hp}{Q:VK}(hs:spX K (runX np N.length m) vs H Q E):t { nx:=fun _ H'=>Q .non H',rt:=Q } (L2.start N vs) H:=by
 obtain ⟨Hf,ds,r,s,rr,e,q⟩:=hs
 unfold runX at e
 split at e
 .obtain ⟨o,e1,e2⟩:=oBq.mp e
  refine h (start_rel N s rr) e1 _ ?_
  cases o with
  | ok o =>
   cases o with
   | rt a'=>cases e2;exact fun Hf' H' v F s1 s2 s3 l r nd fr=>q Hf' H' v F s1 s2 s3 l r nd fr
   | nx S'=>cases e2;exact fun Hf' σ' H' Fs' s1 R=>q Hf' H' .non [] R.sf R.fr R.sub R.lim (.sh .non) bh fun q h=>(by cases h)
   | bk S'=>cases e2
   | ct S'=>cases e2
  | ex c fs=>cases e2;exact q
 .cases e
theorem spX_len {K:W.Frag}{m:MX}{np n:Nat}{vs:List V}{H:Hp}{Q:VK}{E:XK}(hs:spX K (runX np n m) vs H Q E):vs.length=np:=by
 obtain ⟨Hf,ds,a,s,r,e,q⟩:=hs
 unfold runX at e
 split at e
 .rename_i h
  rw [← r.1,h]
 .cases e
abbrev MH:=Str->List (Str×Int)->MS
def under (c c':Str):Bool:=decide (c'=c∨c' = "MapError")
def clr (i:Nat):Out->Out
 | .nx S=>.nx (S.set i none)
 | .bk S=>.bk (S.set i none)
 | .ct S=>.ct (S.set i none)
 | .rt a=>.rt a
def xAs (c':Str) (i:Nat) (mb:MS) (rest:MH):MH:=fun c fs S=>if under c c'=true then (mb (S.set i (some (.sh (.exc c fs))))).map (clr i) else rest c fs S
def xNo (c':Str) (mb:MS) (rest:MH):MH:=fun c fs S=>if under c c'=true then mb S else rest c fs S
def mTryD (f:MFx) (a:MA) (hm:MH):MS:=fun S=>(a S).bind fun x=>(f (x.1.map strip)).bind fun r=>match r with
 | .ok _=>some (.nx x.2)
 | .ex c fs=>hm c fs x.2
def mTryA (i:Nat) (f:MFx) (a:MA) (hm:MH):MS:=fun S=>(a S).bind fun x=>(f (x.1.map strip)).bind fun r=>match r with
 | .ok r=>some (.nx (x.2.set i (some r)))
 | .ex c fs=>hm c fs x.2
section
variable {K:W.Frag}{ta:TA}{a:MA}{f:MFx}{th:XH}{hm:MH}{i:Nat}
theorem after_rel {H₀ Hf₀ Hf1 H1 Hf' H':Hp}{S:AS}{σ:St}{Fs1:List (List Addr)}(R2:Rel K H₀ Hf₀ Hf1 S σ H1 Fs1) (s1:Same Hf1 Hf') (s2:Same H1 H') (s3:Same Hf' H') (l:∀ b,Hf1 b=none->H1 b≠none->Hf' b=none):Rel K H₀ Hf₀ Hf' S σ H' Fs1 :=
 R2.more s2 s1 s3 (fun q hq=>l q (R2.mem hq).2 (R2.mem hq).1) fun b h1 h2=>l b (R2.lim b h1 h2) (ne_none R2.fr h2)
end
def fldOf (f:Str):D->Option D
 | .exc _ fs=>(fs.lookup f).map .int
 | _=>none
section
variable {K:W.Frag}{te:TE}{m:ME}{f:Str}
def rCls (c:Str):ME:=fun S=>some (.cls c,S)
def underD (c:Str):D->Option Bool
 | .cls c'=>some (under c c')
 | .ty T=>if T = "ValueError" then some true else none
 | _=>none
def underAny (c:Str):List D->Option Bool
 | []=>some false
 | d::ds=>(underD c d).bind fun b=>(underAny c ds).map fun b2=>b || b2
def fIsX:List D->Option D
 | [.exc c _,.tup ds]=>(underAny c ds).map .bl
 | [.exc c _,d]=>(underD c d).map .bl
 | _=>none
end
def kD:Key->D
 | .inl i=>.int i
 | .inr x=>.str x
theorem rep_key {K:W.Frag}{H:Hp}(k:Key):Rep K H (kD k) (kV k):=by
 cases k with
 | inl i=>exact .int
 | inr x=>exact .str
def mForIL (x y:Nat) (body:MS):List (Key×D)->AS->Option Out
 | [],S=>some (.nx S)
 | p::ps,S=>(body ((S.set x (some (.sh (kD p.1)))).set y (some (.sh p.2)))).bind fun o=>match o with
  | .nx S'=>mForIL x y body ps S'
  | .ct S'=>mForIL x y body ps S'
  | .bk S'=>some (.nx S')
  | .rt a=>some (.rt a)
def mForI (x y:Nat) (k:MK) (body:MS):MS:=fun S=>(k S).bind fun z=>(owdOf z.1).bind fun kvs=>mForIL x y body kvs z.2
section
variable {K:W.Frag}{te tf:TE}{k:MK}{tb:TS}{body:MS}{x y:Nat}
theorem Rel.fix {H₀ Hf₀ Hf H:Hp}{S:AS}{σ:St}{Fs:List (List Addr)}(R:Rel K H₀ Hf₀ Hf S σ H Fs) {p:Addr}{o:HO}(h1:p∉Fs.flatten) (h2:Hf p=none) (h3:H₀ p=none):Rel K H₀ Hf₀ (upd Hf p o) S σ (upd H p o) Fs:=by
 have s:Same Hf (upd Hf p o):=same_upd h2
 refine ⟨R.len,R.lenF,fun i av e=>?_,R.emp,R.nd,R.fresh,fun b u z=>?_,fun b u z=>?_,fun b z1 z2=>?_,R.sf.trans s⟩
 .obtain ⟨v,F,e1,e2,r⟩:=R.rep i av e
  have hne:∀ q∈F,q≠p:=fun q hq z=>h1 (by rw [← z];exact mFq.mpr ⟨F,mGq e2,hq⟩)
  exact ⟨v,F,e1,e2,r.keep s (fun q hq=>upd_ne (hne q hq)) fun q hq=>by rw [upd_ne (hne q hq)];exact (r.owned q hq).2⟩
 .by_cases hb:b=p
  .subst hb;rw [upd_same] at z ⊢;exact z
  .rw [upd_ne hb] at z ⊢;exact R.sub b u z
 .have hb:b≠p:=fun q=>by rw [q,h3] at z;cases z
  rw [upd_ne hb];exact R.fr b u z
 .have hb:b≠p:=fun q=>z2 (by rw [q];exact h3)
  rw [upd_ne hb];exact R.lim b z1 z2
def kLKeys (a:ME):MK:=fun S=>(a S).bind fun x=>(dictOf x.1).map fun kvs=>(.ow (kvs.map fun p=>.sh (kD p.1)),x.2)
end
structure ClsN (K:W.Frag) (mg:Str->Option Value) (cn:Str) (C:Addr) (bm:List Value):Prop where
 c:IsC K cn C
 xc:xcIn K cn C bm=true
 base:bm.contains (.type "BaseException")=true
 mgc:mg cn=some (.ref C)
structure ClsI (P:Program) (w:World) (K:W.Frag) (mg:Str->Option Value) (bs:Heap) (cn fld prm:Str) (C M f:Addr) (fd:FuncData):Prop where
 c:IsC K cn C
 xc:xcIn K cn C (.ref M::VEm)=true
 base:(az M::VEm).contains (.type "BaseException")=true
 mgc:mg cn=some (.ref C)
 i:Ini P w K mg bs 1 cn fld prm C M f fd
theorem base_M (M:Addr):(az M::VEm).contains (.type "BaseException")=true:=by rw [cZ,show VEm.contains (dE "BaseException")=true by decide,eO]
section
variable {K:W.Frag}{h:Heap}{mg:Str->Option Value}{c:Str}{C M:Addr}
theorem ref_mk (a:W.nsIn K mainGlobals c=some (some (.ref C))) (aM:W.nsIn K mainGlobals "MapError" = some (some (.ref M))) (x:xcIn K c C (.ref M::VEm)=true) (xM:xcIn K "MapError" M VEm=true) (l:lk0 K C=true):Ref K c C M:=⟨a,aM,x,xM,l⟩
theorem clsM_mk (X:K.In h) (G:h.Ns mainGlobals mg) (aM:W.nsIn K mainGlobals "MapError" = some (some (.ref M))) (xM:xcIn K "MapError" M VEm=true):ClsN K mg "MapError" M VEm:=⟨⟨aM,.inr ⟨rfl,xM⟩⟩,xM,by decide,W.mg_of X G aM⟩
end
section
variable {P:Program}{w:World}{K:W.Frag}{mg:Str->Option Value}{base:Heap}
theorem ini_read {c fld:Str}{prm:Str}{vs:List V}{H:Hp}{Q:VK}{E:XK}{tx:Str}(hs:spIni K c fld vs H Q E) :
  tSeq (tDrop (tBI K (tCons (tVar 0) (tCons (tC (.str tx)) tNil)))) (sXF K (tVar 0) (tVar 1) fld) { nx:=fun _ H'=>Q .non H',rt:=Q } (start ["self", prm] vs) H:=by
 obtain ⟨e,v,C,M,rfl,hE,rf,nf,q⟩:=hs
 exact ⟨_,rfl,e,_,c,C,M,rfl,hE,rf,_,rfl,_,rfl,e,c,C,M,rfl,hE,rf,nf,q⟩
end
def kCls (c:Str):MK:=fun S=>some (.sh (.cls c),S)
def thenX:Option OutX->MX->Option OutX
 | none,_=>none
 | some (.ok (.nx S)),b=>b S
 | some o,_=>some o
def raiseOf (c fld:Str):List D->Option OutX
 | [.int n]=>some (.ex c [(fld,n)])
 | _=>none
def resOf:OutX->Option Res
 | .ok (.rt a)=>some (.ok a)
 | .ok (.nx _)=>some (.ok (.sh .non))
 | .ex c fs=>some (.ex c fs)
 | _=>none
def tryD (hm:MH) (S:AS):Res->Option Out
 | .ok _=>some (.nx S)
 | .ex c fs=>hm c fs S
def tryA (i:Nat) (hm:MH) (S:AS):Res->Option Out
 | .ok r=>some (.nx (S.set i (some r)))
 | .ex c fs=>hm c fs S
variable (S:AS)
theorem xOf_ (m:MS):xOf m S=(m S).map .ok:=rfl
theorem thenX_nx (b:MX):thenX (some (.ok (.nx S))) b=b S:=rfl
theorem thenX_ex (c:Str) (fs:List (Str×Int)) (b:MX):thenX (some (.ex c fs)) b=some (.ex c fs):=rfl
theorem xSeq_ (a b:MX):xSeq a b S=thenX (a S) b:=by
 show (a S).bind _=_
 cases a S with
 | none=>rfl
 | some o =>
  cases o with
  | ok o=>cases o <;> rfl
  | ex c fs=>rfl
theorem xIf_ (c:MT) (a b:MX):xIf c a b S=(c S).bind fun x=>if x.1=true then a x.2 else b x.2:=rfl
theorem xRaise_ (c fld:Str) (a:ML):xRaise c fld a S=(a S).bind fun x=>raiseOf c fld x.1:=rfl
theorem resOf_rt (a:AV):resOf (.ok (.rt a))=some (.ok a):=rfl
theorem resOf_nx:resOf (.ok (.nx S))=some (.ok (.sh .non)):=rfl
theorem resOf_ex (c:Str) (fs:List (Str×Int)):resOf (.ex c fs)=some (.ex c fs):=rfl
theorem runX_ (np n:Nat) (m:MX) (ds:List D):runX np n m ds=if ds.length=np then (m (ds.map (fun d=>some (.sh d))++aB (n-ds.length) none)).bind resOf else none:=by
 show (if ds.length=np then (m _).bind _ else none)=_
 first|rfl|(congr 2;funext o;cases o with
 | ok o=>cases o <;> rfl
 | ex c fs=>rfl)
theorem okR_ok (a:AV):okR (.ok a)=some a:=rfl
theorem okX_ (f:MFx) (ds:List D):okX f ds=(f ds).bind okR:=rfl
def zq3:=aa @xOf_ (aa @thenX_nx (aa @thenX_ex (aa @xSeq_ (aa @xIf_ (aa @xRaise_ (aa @resOf_rt (aa @resOf_nx (aa @resOf_ex (aa @runX_ (aa @okR_ok @okX_))))))))))
def xForL (x:Nat) (body:MX):List D->AS->Option OutX
 | [],S=>some (.ok (.nx S))
 | d::ds,S=>(body (S.set x (some (.sh d)))).bind fun o=>match o with
  | .ok (.nx S')=>xForL x body ds S'
  | .ok (.ct S')=>xForL x body ds S'
  | .ok (.bk S')=>some (.ok (.nx S'))
  | .ok (.rt a)=>some (.ok (.rt a))
  | .ex c fs=>some (.ex c fs)
def xFor (x:Nat) (k:MK) (body:MX):MX:=fun S=>(kFrz k S).bind fun y=>(itemsOf (strip y.1)).bind fun ds=>xForL x body ds y.2
def passR (f:AV->Option OutX):Res->Option OutX
 | .ok r=>f r
 | .ex c fs=>some (.ex c fs)
def xDrop (f:MFx) (a:MA):MX:=fun S=>(a S).bind fun x=>(f (x.1.map strip)).bind (passR fun _=>some (.ok (.nx x.2)))
def xAsg (i:Nat) (f:MFx) (a:MA):MX:=fun S=>(a S).bind fun x=>(f (x.1.map strip)).bind (passR fun r=>some (.ok (.nx (x.2.set i (some r)))))
def xRet (f:MFx) (a:MA):MX:=fun S=>(a S).bind fun x=>(f (x.1.map strip)).bind (passR fun r=>some (.ok (.rt r)))
def xRaise0 (c:Str):MX:=fun _=>some (.ex c [])
section
variable {K:W.Frag}{E:XK}{te:TE}{tb:TS}{k:MK}{body:MX}{x:Nat}{ta:TA}{a:MA}{f:MFx}
theorem pass_ok {H₀ Hf₀ Hf:Hp}{S':AS}{σ:St}{o:OutX}{D:Ends}{Hf1 H1:Hp}{Fs1:List (List Addr)}{r:Res}{g:AV->Option OutX}{Q:VK}(R2:Rel K H₀ Hf₀ Hf1 S' σ H1 Fs1) (e:passR g r=some o) (s0:Same Hf Hf1)
  (q:OutOkX K H₀ Hf₀ Hf D E o) (hg:∀ av,g av=some o->∀ Hf' H' v F,Same Hf1 Hf'->Rel K H₀ Hf₀ Hf' S' σ H' Fs1->RepA K Hf' H' av v F->F.Nodup->(∀ p∈F,H1 p=none)->Q v H'):ResOk K Hf1 H1 Q E r:=by
 cases r with
 | ok av=>exact fun Hf' H' v F s1 s2 s3 l ra nd fr=>hg av e Hf' H' v F s1 (after_rel R2 s1 s2 s3 l) ra nd fr
 | ex c fs =>
  cases e
  intro Hf' H' ex od s1 s2 s3 l rx
  have R3:=after_rel R2 s1 s2 s3 l
  exact q Hf' H' ex od R3.sf R3.fr R3.sub R3.lim rx
theorem ssx_drop (ha:SA K ta a):SSX K E (tDrop (tCall (spX K f) [] E ta)) (xDrop f a):=by
 intro H₀ Hf₀ Hf S σ H Fs o R e D q
 obtain ⟨x,e1,e⟩:=oBq.mp e
 obtain ⟨r,e2,e⟩:=oBq.mp e
 refine ha R (as:=x.1) (S':=x.2) e1 _ fun Hf1 H1 Fs1 vs Gs t1 R1 r1 o1=>?_
 obtain ⟨R2,r2,t2⟩:=R1.gives t1 r1 o1
 rw [aNq]
 exact ⟨_,_,r,R2.sub,r2,e2,pass_ok R2 e t2.sf q fun av z Hf' H' v F s1 R' ra nd fr=>by cases z;exact q _ _ _ _ (t2.sf.trans s1) R'⟩
theorem ssx_raise0 {cn:Str}{C M:Addr}(rf:Ref K cn C M):SSX K E (tRs E C (tMk0 K cn)) (xRaise0 cn):=by
 intro H₀ Hf₀ Hf S σ H Fs o R e D q
 cases e
 refine ⟨C,M,rf,fun ex n1=>⟨ex,none,rfl,upd_same,?_⟩⟩
 rw [upd_upd]
 have nf1:Hf ex=none:=R.sub.free n1
 refine q (upd Hf ex (ExA ex C none)) _ ex none (R.sf.trans (same_upd nf1)) (R.fr.trans (same_upd n1)) (fun b o' z=>?_) (fun b z1 z2=>?_) (.exc0 rf upd_same)
 .by_cases hb:b=ex
  .subst hb;rw [upd_same] at z ⊢;exact z
  .rw [upd_ne hb] at z ⊢;exact R.sub b o' z
 .have h1:b≠ex:=fun z=>z2 (by rw [z];exact R.fr.free n1)
  rw [upd_ne h1]
  exact R.lim b z1 z2
def oneI (c fld:Str) (S:AS):List D->Option (D×AS)
 | [.int n]=>some (.exc c [(fld,n)],S)
 | _=>none
def rMk (c fld:Str) (a:ML):ME:=fun S=>(a S).bind fun x=>oneI c fld x.2 x.1
def twoI (c f1 f2:Str) (S:AS):List D->Option (D×AS)
 | [.int n,.int m]=>some (.exc c [(f1,n),(f2,m)],S)
 | _=>none
def rMk2 (c f1 f2:Str) (a:ML):ME:=fun S=>(a S).bind fun x=>twoI c f1 f2 x.2 x.1
def dEqT:D->D->Option D
 | .tup [.str u,.int i],.tup [.str v,.int j]=>some (.bl (decide (u=v/\i=j)))
 | _,_=>none
def dNeT:D->D->Option D
 | .tup [.str u,.int i],.tup [.str v,.int j]=>some (.bl (!decide (u=v/\i=j)))
 | _,_=>none
end
theorem pe_fnE {X:Cx}{E:XK}{k:Nat}{f:Addr}{fd:FuncData}{ps:List Str}{x:Str}{p pos:Pos}{e:Expr}{es:List Expr}{t:TA}{st:Stmt}{g:MFx}(G:FnX X.prog X.w X.K X.mg X.base k x st ps (spX X.K g) f fd) (hr:Room k X.A) (hx:Passes (CXe X.prog X.w) X E) (ha:PA X (e::es) t) (hg:Gl X x:=by rfl) (hdb:(x == ("__debug__" : Str))=false:=by decide)
  (he:starEach (e::es) X.env=(false,eval e X.env)::starEach es X.env:=by rfl) (hpl:(backTo pos (starEach es X.env)).any (·.1)=false:=by rfl) :
  PE X (.Call (.Name x p) (e::es) [] pos) (tCall (spX X.K g) [] E t):=pe_call G.ok hr hg G.D.m G.D.F.kp G.D.b .nil hx ha hdb he hpl
structure ClsI0 (K:W.Frag) (mg:Str->Option Value) (cn:Str) (C M:Addr):Prop where
 c:IsC K cn C
 xc:xcIn K cn C (.ref M::VEm)=true
 base:(az M::VEm).contains (.type "BaseException")=true
 mgc:mg cn=some (.ref C)
 i:Ini0 K mg cn C M
theorem cls0_mk {K:W.Frag}{h:Heap}{mg:Str->Option Value}{c:Str}{C M:Addr}(X:K.In h) (G:h.Ns mainGlobals mg) (r:Ref K c C M) (ini:W.findIn K (.ref C) "__init__" = some (some (.builtin "ValueError.__init__"))) (kp:W.keepIn K (.ref C)=true):ClsI0 K mg c C M :=
 ⟨⟨r.nm,.inl ⟨M,r⟩⟩,r.xc,base_M M,W.mg_of X G r.nm,⟨r,ini,kp,W.mg_of X G r.nm⟩⟩
theorem passR_ok (g:AV->Option OutX) (r:AV):passR g (.ok r)=g r:=rfl
theorem passR_ex (g:AV->Option OutX) (c:Str) (fs:List (Str×Int)):passR g (.ex c fs)=some (.ex c fs):=rfl
theorem xDrop_ (S:AS) (f:MFx) (a:MA):xDrop f a S=(a S).bind fun x=>(f (x.1.map strip)).bind (passR fun _=>some (.ok (.nx x.2))):=rfl
theorem xRaise0_ (S:AS) (c:Str):xRaise0 c S=some (.ex c []):=rfl
def zq4:=aa @passR_ok (aa @passR_ex (aa @xDrop_ @xRaise0_))
def strOf:D->Option Str
 | .str x=>some x
 | _=>none
def fStarts:D->List D->Option D
 | .str a,[.str b]=>some (.bl (Txt.startswith a b))
 | _,_=>none
def dInS:D->D->Option D
 | .str i,.str j=>some (.bl (!(Builtin.Str.occurrences j i 0 j.length 1).isEmpty))
 | _,_=>none
def dNotInS:D->D->Option D
 | .str i,.str j=>some (.bl (!(!(Builtin.Str.occurrences j i 0 j.length 1).isEmpty)))
 | _,_=>none
def dIsN:D->D->Option D
 | .non,.non=>some (.bl true)
 | .int _,.non=>some (.bl false)
 | .str _,.non=>some (.bl false)
 | .bl _,.non=>some (.bl false)
 | .list _,.non=>some (.bl false)
 | .tup _,.non=>some (.bl false)
 | _,_=>none
def fIntT:List D->Option D
 | [.str x]=>(intText? x).bind fun n=>ifC (x.length<=640) (some (.int n))
 | _=>none
def fIndexS:D->List D->Option D
 | .str a,[.str b]=>((Builtin.Str.occurrences a b 0 a.length 1).head?).map fun i=>.int (i:Nat)
 | _,_=>none
def boolsOf:List D->Option (List Bool)
 | []=>some []
 | .bl b::ds=>(boolsOf ds).map (b :: ·)
 | _=>none
def fAll:List D->Option D
 | [.list ds]=>(boolsOf ds).map fun bs=>.bl (bs.all id)
 | _=>none
theorem boolsOf_eq:∀ {ds:List D}{bs:List Bool},boolsOf ds=some bs->ds=bs.map .bl
 | [],bs,h=>by cases h;rfl
 | d::ds,bs,h=>by
  cases d with
  | bl b =>
   obtain ⟨ms,h1,h2⟩:=oMq.mp (show (boolsOf ds).map (b :: ·)=some bs from h)
   subst h2
   rw [boolsOf_eq h1]
   rfl
  | _=>cases h
theorem reps_bools_inv {K:W.Frag}{H:Hp}:∀ {bs:List Bool}{vs:List V},Reps K H (bs.map .bl) vs->vs=bs.map V.bl
 | [],vs,h=>h.nil_inv
 | b::bs,vs,h=>by
  obtain ⟨v,ws,rfl,h1,h2⟩:=Reps.cons_inv (d:=.bl b) (ds:=bs.map .bl) h
  cases h1
  rw [reps_bools_inv h2]
  rfl
section
variable {K:W.Frag}
theorem cb_all:CbD K (fun xs H Q=>∃ (a:Addr) (bs:List Bool),xs=[.ref a]/\SqL K H a (bs.map V.bl)/\Q (.bl (bs.all id)) H) fAll:=by
 intro vs H Q ds d r e q
 unfold fAll at e
 split at e
 .obtain ⟨bs,e1,e⟩:=oMq.mp e
  cases e
  obtain ⟨v,ws,rfl,h1,h2⟩:=r.cons_inv
  rw [h2.nil_inv]
  rw [boolsOf_eq e1] at h1
  obtain ⟨p,us,rfl,h3,h4⟩:=h1.list_inv
  rw [reps_bools_inv h4] at h3
  exact ⟨p,bs,rfl,SqL.of h3,q _ .bl⟩
 .cases e
def rSlX (a:ME) (lo hi:MO):ME:=fun S=>(a S).bind fun x=>(lo x.2).bind fun y=>(hi y.2).bind fun z=>(strOf x.1).bind fun t=>ifC (t.length<=LIM) (some (.str (Txt.slice t y.1 z.1),z.2))
def splitOf:D->List D->Option (List Str)
 | .str a,[.str b]=>ifC ((b.length == 0)=false/\a.length<=LIM/\(Builtin.Str.partsBetween a (Builtin.Str.occurrences a b 0 a.length (a.length+1)) b.length).length<=LIM/\(Txt.split a b).length<=LIM) (some (Txt.split a b))
 | _,_=>none
def kSplit (a:ME) (as:ML):MK:=fun S=>(a S).bind fun x=>(as x.2).bind fun y=>(splitOf x.1 y.1).map fun ws=>(.ow (ws.map fun w=>.sh (.str w)),y.2)
def signs (x:Str):List D:=x.cps.toList.map fun c=>.str ⟨#[c]⟩
def iSg (a:ME):MI:=fun S=>(a S).bind fun x=>(strOf x.1).map fun t=>(signs t,x.2)
def mForT (x:Nat) (a:ME) (body:MS):MS:=fun S=>(a S).bind fun y=>(strOf y.1).bind fun t=>mForL x body (signs t) y.2
def xForEL (x y:Nat) (body:MX):Nat->List D->AS->Option OutX
 | _,[],S=>some (.ok (.nx S))
 | i,d::ds,S=>(body ((S.set x (some (.sh (.int i)))).set y (some (.sh d)))).bind fun o=>match o with
  | .ok (.nx S')=>xForEL x y body (i+1) ds S'
  | .ok (.ct S')=>xForEL x y body (i+1) ds S'
  | .ok (.bk S')=>some (.ok (.nx S'))
  | .ok (.rt a)=>some (.ok (.rt a))
  | .ex c fs=>some (.ex c fs)
def xForE (x y:Nat) (k:MK) (body:MX):MX:=fun S=>(kFrz k S).bind fun z=>(itemsOf (strip z.1)).bind fun ds=>xForEL x y body 0 ds z.2
theorem ssx_ret {E:XK}{ta:TA}{a:MA}{f:MFx}(ha:SA K ta a):SSX K E (tRet (tCall (spX K f) [] E ta)) (xRet f a):=by
 intro H₀ Hf₀ Hf S σ H Fs o R e D q
 obtain ⟨x,e1,e⟩:=oBq.mp e
 obtain ⟨r,e2,e⟩:=oBq.mp e
 refine ha R (as:=x.1) (S':=x.2) e1 _ fun Hf1 H1 Fs1 vs Gs t1 R1 r1 o1=>?_
 obtain ⟨R2,r2,t2⟩:=R1.gives t1 r1 o1
 rw [aNq]
 exact ⟨_,_,r,R2.sub,r2,e2,pass_ok R2 e t2.sf q fun av z Hf' H' v F s1 R' ra nd fr=>by cases z;exact q _ _ _ _ R'.sf R'.fr R'.sub R'.lim ra nd fun p hp=>R2.fr.free (fr p hp)⟩
end
theorem fAll_ (ds:List D):fAll [.list ds]=(boolsOf ds).map fun bs=>.bl (bs.all id):=rfl
theorem xRet_ (S:AS) (f:MFx) (a:MA):xRet f a S=(a S).bind fun x=>(f (x.1.map strip)).bind (passR fun r=>some (.ok (.rt r))):=rfl
def zq5:=@xRet_
def SM (K:W.Frag) (te:TE) (m:ME):Prop:=∀ {H₀ Hf₀ Hf:Hp}{S:AS}{σ:St}{H:Hp}{Fs:List (List Addr)}{d:D}{S':AS},Rel K H₀ Hf₀ Hf S σ H Fs->m S=some (d,S')->∀ Q:VK,
 (∀ Hf' H' Fs' v,Same Hf Hf'->Rel K H₀ Hf₀ Hf' S' σ H' Fs'->Rep K Hf' d v->Q v H')->te σ H Q
def shD:AV->Option D
 | .sh d=>some d
 | _=>none
theorem shD_eq {a:AV}{d:D}(h:shD a=some d):a = .sh d:=by
 unfold shD at h
 split at h <;> cases h
 rfl
def rPopAt' (i:Nat) (b:ME):ME:=fun S=>(owAt S i).bind fun _=>(b S).bind fun y=>(intOf y.1).bind fun z=>(owAt y.2 i).bind fun avs=>ifC (0<=z/\z<avs.length/\avs.length<=LIM) ((avs[z.toNat]?.bind shD).map fun d=>(d,y.2.set i (some (.ow (avs.eraseIdx z.toNat)))))
def rPop' (i:Nat):ME:=fun S=>(owAt S i).bind fun avs=>(avs[avs.length-1]?.bind shD).map fun d=>(d,S.set i (some (.ow avs.dropLast)))
def dropD (kvs:List (Key×D)) (k:Key):List (Key×D):=kvs.filter fun kv=>decide (kv.1≠k)
def rDPop (i:Nat) (b:ME):ME:=fun S=>(owdAt S i).bind fun _=>(b S).bind fun y=>(keyOf y.1).bind fun key=>(owdAt y.2 i).bind fun kvs=>(getD kvs key).map fun d=>(d,y.2.set i (some (.owd (dropD kvs key))))
section
variable {K:W.Frag}
theorem RepAs.erase {Hf H:Hp}{as:List AV}{vs:List V}{Gs:List (List Addr)}(r:RepAs K Hf H as vs Gs) (k:Nat):RepAs K Hf H (as.eraseIdx k) (vs.eraseIdx k) (Gs.eraseIdx k):=by
 obtain ⟨h1,h2,h3⟩:=r
 refine ⟨by rw [dz,dz,h1],by rw [dz,dz,h2],fun i b w G e1 e2 e3=>?_⟩
 rw [List.getElem?_eraseIdx] at e1 e2 e3
 split at e1
 .rename_i q
  rw [if_pos q] at e2 e3
  exact h3 i b w G e1 e2 e3
 .rename_i q
  rw [if_neg q] at e2 e3
  exact h3 (i+1) b w G e1 e2 e3
theorem flat_erase {Gs:List (List Addr)}{k:Nat}(h:Gs[k]?=some []):(Gs.eraseIdx k).flatten=Gs.flatten:=by
 induction Gs generalizing k with
 | nil=>cases h
 | cons g r ih =>
  cases k with
  | zero =>
   simp at h
   subst h
   rfl
  | succ k =>
   rw [cc,fCq,fCq,ih (by simpa using h)]
theorem Rel.lose {H₀ Hf₀ Hf H:Hp}{S:AS}{σ:St}{Fs:List (List Addr)}(R:Rel K H₀ Hf₀ Hf S σ H Fs) {i k:Nat}{avs:List AV}{d:D}(h:S[i]?=some (some (.ow avs))) (hk:avs[k]?=some (.sh d)) :
  ∃ p vs y F',σ[i]?=some (some (.ref p))/\H p=some (.lst vs)/\avs.length=vs.length/\vs[k]?=some y/\Rep K Hf d y/\Rel K H₀ Hf₀ Hf (S.set i (some (.ow (avs.eraseIdx k)))) σ (upd H p (.lst (vs.eraseIdx k))) (Fs.set i F'):=by
 obtain ⟨p,vs,Gs,s1,s2,h1,h2,h3,h4,h5,h6⟩:=R.ow h
 have lk:k<avs.length:=(gSq.mp hk).1
 obtain ⟨y,hy⟩:∃ y,vs[k]?=some y:=⟨_,gEg (by rw [← h3.1];exact lk)⟩
 obtain ⟨G,hG⟩:∃ G,Gs[k]?=some G:=⟨_,gEg (by rw [← h3.2.1];exact lk)⟩
 obtain ⟨hG0,ry⟩:=(h3.2.2 k _ _ _ hk hy hG).sh_inv
 subst hG0
 have hf:=flat_erase hG
 refine ⟨p,vs,y,p::(Gs.eraseIdx k).flatten,s1,h1,h3.1,hy,ry,R.turn s1 s2 (by simp) (RepA.news upd_same h2 ((h3.keepUpd h4).erase k)) ?_ ?_⟩
 .rw [hf]
  exact aL.mpr ⟨h4,h5⟩
 .rw [hf]
  exact h6
theorem sm_popAt {i:Nat}{tb:TE}{b:ME}(hb:SR K tb b):SM K (tBM K "list" rPopAt (tVar i) (tCons tb tNil)) (rPopAt' i b):=by
 intro H₀ Hf₀ Hf S σ H Fs d S' R e Q q
 obtain ⟨a0,e0,e⟩:=oBq.mp e
 obtain ⟨y,e1,e⟩:=oBq.mp e
 obtain ⟨z,e2,e⟩:=oBq.mp e
 obtain ⟨avs,e3,e⟩:=oBq.mp e
 rcases ifC_cases e with ⟨⟨z0,z1,z2⟩,e⟩|e
 .obtain ⟨d',e4,e⟩:=oMq.mp e
  cases e
  obtain ⟨a,e4,e5⟩:=oBq.mp e4
  have e5:=shD_eq e5
  subst e5
  obtain ⟨p,vs,Gs,s1,_,h1,_⟩:=R.ow (owAt_some e0)
  refine ⟨.ref p,s1,.inl ⟨rfl,vs,SqL.of h1⟩,hb R (d:=y.1) (S':=y.2) e1 _ fun Hf1 H1 Fs1 v t1 R1 r1=>?_⟩
  obtain ⟨p',vs',w,F',s1',hp,hl,hw,rw',R2⟩:=R1.lose (owAt_some e3) e4
  rw [s1] at s1'
  cases s1'
  have hv:v = .int z:=by
   have:y.1 = .int z:=by
    revert e2
    unfold intOf
    split <;> intro e2 <;> cases e2
    assumption
   rw [this] at r1
   cases r1
   rfl
  subst hv
  have hz:(avs.length:Int)<=16777216:=by
   have:avs.length<=16777216:=z2
   omega
  refine ⟨p,vs',z,z.toNat,w,rfl,rfl,hp,by omega,by omega,?_,hw,q _ _ _ _ t1.sf R2 rw'⟩
  rw [← hl]
  unfold seqIndex?
  have n1:¬ z<0:=by omega
  have n2:(decide (0<=z) && decide (z<(avs.length:Int)))=true:=by
   rw [decide_eq_true z0,decide_eq_true z1]
   rfl
  simp only [n1,if_false]
  exact if_pos n2
 .cases e
theorem sm_pop {i:Nat}:SM K (tBM K "list" rPop (tVar i) tNil) (rPop' i):=by
 intro H₀ Hf₀ Hf S σ H Fs d S' R e Q q
 obtain ⟨avs,e0,e⟩:=oBq.mp e
 obtain ⟨d',e4,e⟩:=oMq.mp e
 cases e
 obtain ⟨a,e4,e5⟩:=oBq.mp e4
 have e5:=shD_eq e5
 subst e5
 obtain ⟨p,vs,w,F',s1,hp,hl,hw,rw',R2⟩:=R.lose (owAt_some e0) e4
 refine ⟨.ref p,s1,.inl ⟨rfl,vs,SqL.of hp⟩,p,vs,w,rfl,rfl,hp,by rw [← hl];exact hw,?_⟩
 rw [erase_last,hl,erase_last] at R2
 exact q _ _ _ _ (.refl _) R2 rw'
def mAsgM (i:Nat) (m:ME):MS:=fun S=>(m S).map fun x=>.nx (x.2.set i (some (.sh x.1)))
theorem ss_asgM {i:Nat}{te:TE}{m:ME}(h:SM K te m):SS K (tAsg te (gName i)) (mAsgM i m):=by
 intro H₀ Hf₀ Hf S σ H Fs o R e D hd
 obtain ⟨x,e1,e⟩:=oMq.mp e
 cases e
 refine h R (d:=x.1) (S':=x.2) e1 _ fun Hf1 H1 Fs1 v t1 R1 r1=>?_
 exact hd _ _ _ _ t1 (R1.setD i r1)
def mAppM (i:Nat) (m:ME):MS:=fun S=>(owAt S i).bind fun _=>(m S).bind fun x=>(owAt x.2 i).bind fun avs=>ifC (avs.length<LIM) (some (.nx (x.2.set i (some (.ow (avs++[.sh x.1]))))))
def mDPutM (i:Nat) (b:ME) (m:ME):MS:=fun S=>(m S).bind fun x=>(owdAt x.2 i).bind fun _=>(b x.2).bind fun y=>(owdAt y.2 i).bind fun kvs=>(keyOf y.1).bind fun key =>
 ifC (kvs.length<LIM) (some (.nx (y.2.set i (some (.owd (putD kvs key x.1))))))
end
theorem shD_sh (d:D):shD (.sh d)=some d:=rfl
theorem rPopAt'_ (S:AS) (i:Nat) (b:ME):rPopAt' i b S=(owAt S i).bind fun _=>(b S).bind fun y=>(intOf y.1).bind fun z=>(owAt y.2 i).bind fun avs=>ifC (0<=z/\z<avs.length/\avs.length<=LIM) ((avs[z.toNat]?.bind shD).map fun d=>(d,y.2.set i (some (.ow (avs.eraseIdx z.toNat))))):=rfl
theorem rPop'_ (S:AS) (i:Nat):rPop' i S=(owAt S i).bind fun avs=>(avs[avs.length-1]?.bind shD).map fun d=>(d,S.set i (some (.ow avs.dropLast))):=rfl
theorem mAsgM_ (S:AS) (i:Nat) (m:ME):mAsgM i m S=(m S).map fun x=>.nx (x.2.set i (some (.sh x.1))):=rfl
def zq6:=aa @shD_sh (aa @rPopAt'_ (aa @rPop'_ @mAsgM_))
def dIxA (x y:D):Option D:=match x with
 | .tup _=>dIxT x y
 | _=>dIx x y
def fNone:MF:=fun _=>none
def fIsn:List D->Option D
 | [.int _,.ty T]=>if T = "list" ∨ T = "tuple" ∨ T = "str" then some (.bl false) else none
 | [.str _,.ty T]=>if T = "list" ∨ T = "tuple" then some (.bl false) else none
 | [.non,.ty T]=>if T = "list" ∨ T = "tuple" then some (.bl false) else none
 | [.list _,.ty T]=>if T = "tuple" then some (.bl false) else none
 | [.tup _,.ty T]=>if T = "list" then some (.bl false) else none
 | _=>none
def fIsA (ds:List D):Option D:=match fIsi ds with
 | some d=>some d
 | none=>fIsn ds
section
variable {K:W.Frag}{H₀ Hf₀ Hf H:Hp}{S:AS}{σ:St}{Fs:List (List Addr)}{te tb:TE}{k:MK}{b:ME}
theorem Rel.poke (R:Rel K H₀ Hf₀ Hf S σ H Fs) {p:Addr}{o:HO}(pn:Hf p=none) (p0:H₀ p=none) (pf:p∉Fs.flatten):Rel K H₀ Hf₀ Hf S σ (upd H p o) Fs:=by
 refine ⟨R.len,R.lenF,fun j a ej=>?_,R.emp,R.nd,R.fresh,fun b u e=>?_,fun b u e=>?_,R.lim,R.sf⟩
 .obtain ⟨w,G,f1,f2,q⟩:=R.rep j a ej
  refine ⟨w,G,f1,f2,q.keep (.refl _) (fun c hc=>upd_ne fun e=>pf ?_) fun c hc=>(q.owned c hc).2⟩
  subst e
  exact flat_mem_of f2 hc
 .rw [upd_ne fun z=>by rw [z,pn] at e;cases e]
  exact R.sub b u e
 .rw [upd_ne fun z=>by rw [z,p0] at e;cases e]
  exact R.fr b u e
theorem Stp.stays {Hf' H':Hp}{Fs':List (List Addr)}(t:Stp Hf H Fs Hf' H' Fs') {p:Addr}(pn:Hf p=none) (ph:H p≠none) (pf:p∉Fs.flatten):Hf' p=none/\p∉Fs'.flatten:=by
 refine ⟨?_,fun m=>pf (t.own p m)⟩
 by_cases h:Hf' p=none
 .exact h
 .exact ((t.gr p pn h).elim (fun e=>absurd e ph) fun m=>absurd m pf)
def kDict1 (b:ME) (k:MK):MK:=fun S=>(b S).bind fun y=>(kFrz k y.2).bind fun x=>(keyOf y.1).map fun key=>(.owd [(key,strip x.1)],x.2)
theorem sk_dict1 (hb:SR K tb b) (hk:SK K te k):SK K (tDisp [(tb,te)]) (kDict1 b k):=by
 intro H₀ Hf₀ Hf S σ H Fs av S' R e Q q
 obtain ⟨y,e1,e⟩:=oBq.mp e
 obtain ⟨x,e2,e⟩:=oBq.mp e
 obtain ⟨key,e3,e⟩:=oMq.mp e
 cases e
 have hk':SK K te (kFrz k):=SK.frz hk
 intro p hp
 obtain ⟨t0,R0,n1,n2,n3⟩:=R.new (o:=.dK []) hp
 have own0:=Own.one R hp
 refine hb R0 (d:=y.1) (S':=y.2) e1 _ fun Hf1 H1 Fs1 w t1 R1 r1=>?_
 have p0:upd H p (HO.dK []) p=some (.dK []):=upd_same
 have p1:H1 p=some (.dK []):=t1.sh p _ p0
 obtain ⟨a1,a2⟩:=t1.stays n1 (by rw [p0];simp) n3
 refine hk' R1 (a:=x.1) (S':=x.2) e2 _ fun Hf2 H2 Fs2 v F t2 R2 r2 o2=>?_
 have p2:H2 p=some (.dK []):=t2.sh p _ p1
 obtain ⟨b1,b2⟩:=t2.stays a1 (by rw [p1];simp) a2
 obtain ⟨x1,hx1⟩:∃ d,x.1 = .sh d:=by
  obtain ⟨w,_,e⟩:=oMq.mp e2
  rw [← e]
  exact ⟨_,rfl⟩
 rw [hx1] at r2
 have rv:=r2.sh_inv.2
 have hw:=keyOf_rep e3 r1
 subst hw
 refine ⟨p2,[(key,v)],rfl,by simp,?_⟩
 have t12:=(t0.trans t1).trans t2
 have hs:Same H (upd H2 p (HO.dK (mergeK [] [(key,v)]))):=fun c u e=>by
  rw [upd_ne fun z=>by rw [z,hp] at e;cases e]
  exact t12.sh c u e
 refine q Hf2 _ Fs2 (.ref p) [p] ⟨t12.sf,hs,t12.own,t12.gr⟩ (R2.poke b1 n2 b2) (.owd upd_same b1 ⟨rfl,fun i d u h1 h2=>?_⟩) ⟨by simp,fun c h=>by rw [mSq.mp h];exact n2,fun c h=>by rw [mSq.mp h];exact b2,fun c h=>by rw [mSq.mp h];exact .inl hp⟩
 match i,h1,h2 with
 | 0,h1,h2 =>
  cases h1
  cases h2
  rw [hx1,strip_sh]
  exact rv
 | i+1,h1,_=>simp at h1
theorem sm_pop0 {i:Nat}:SM K (tBM0 K "list" rPop (tVar i)) (rPop' i):=sm_pop
def keysI:List (Key×D)->Option (List Int)
 | []=>some []
 | (.inl i,_)::r=>(keysI r).map (i :: ·)
 | _=>none
theorem keysI_eq:∀ {kvs:List (Key×D)}{ns:List Int},keysI kvs=some ns->kvs.map (·.1)=ns.map aO
 | [],ns,h=>by cases h;rfl
 | (.inl i,d)::r,ns,h=>by
  obtain ⟨ms,h1,h2⟩:=oMq.mp (show (keysI r).map (i :: ·)=some ns from h)
  subst h2
  rw [aq,aq,keysI_eq h1]
 | (.inr _,_)::_,_,h=>by cases h
def kSortD (a:ME):MK:=fun S=>(a S).bind fun x=>match x.1 with
 | .dict kvs=>(keysI kvs).map fun ns=>(.ow ((srtI ns).map fun n=>.sh (.int n)),x.2)
 | _=>none
theorem sk_sortD (hb:SR K te b):SK K (tCB (fun xs H Q=>∃ (a:Addr) (kvs:List (Key×V)) (ns:List Int),xs=[.ref a]/\H a=some (.dK kvs)/\kvs.map (·.1)=ns.map aO/\∀ p,H p=none->Q (.ref p) (upd H p (.lst ((srtI ns).map V.int)))) (tCons te tNil)) (kSortD b):=by
 intro H₀ Hf₀ Hf S σ H Fs av S' R e Q q
 obtain ⟨x,e1,e⟩:=oBq.mp e
 obtain ⟨x1,x2⟩:=x
 cases x1 with
 | dict kvs =>
  obtain ⟨ns,e2,e⟩:=oMq.mp (show (keysI kvs).map (fun ns=>(AV.ow ((srtI ns).map fun n=>.sh (.int n)),x2))=some (av,S') from e)
  cases e
  refine hb R (d:=.dict kvs) (S':=S') e1 _ fun Hf1 H1 Fs1 w t1 R1 r1=>?_
  obtain ⟨p1,vs,rfl,h1,h2⟩:=r1.dict_inv
  refine ⟨p1,vs,ns,rfl,h1,by rw [← h2.1];exact keysI_eq e2,fun p hp=>?_⟩
  obtain ⟨t4,R4,n1,n2,n3⟩:=R1.new (o:=.lst ((srtI ns).map V.int)) hp
  rw [map_sh_ints] at q
  exact q _ _ _ (.ref p) [p] (t1.trans t4) R4 (RepA.new upd_same n1 (reps_ints _)) ((Own.one R1 hp).back t1)
 | _=>cases e
end
theorem kDict1_ (S:AS) (b:ME) (k:MK):kDict1 b k S=(b S).bind fun y=>(kFrz k y.2).bind fun x=>(keyOf y.1).map fun key=>(.owd [(key,strip x.1)],x.2):=rfl
def sortD:D->AS->Option (AV×AS)
 | .dict kvs,S=>(keysI kvs).map fun ns=>(.ow ((srtI ns).map fun n=>.sh (.int n)),S)
 | _,_=>none
theorem kSortD_ (S:AS) (a:ME):kSortD a S=(a S).bind fun x=>sortD x.1 x.2:=by
 unfold kSortD
 congr 1
 funext x
 obtain ⟨x1,x2⟩:=x
 cases x1 <;> rfl
theorem sortD_ (kvs:List (Key×D)) (S:AS):sortD (.dict kvs) S=(keysI kvs).map fun ns=>(.ow ((srtI ns).map fun n=>.sh (.int n)),S):=rfl
theorem keysI_map {α:Type}(f:α->Int) (g:α->D):∀ l:List α,keysI (l.map fun x=>(aO (f x),g x))=some (l.map f)
 | []=>rfl
 | x::l=>by
  show (keysI (l.map fun x=>(aO (f x),g x))).map (f x :: ·)=_
  rw [keysI_map f g l]
  rfl
def zq9:=aa @kDict1_ (aa @kSortD_ @sortD_)
def flatD:D->Option V
 | .non=>some .non
 | .bl b=>some (.bl b)
 | .int i=>some (.int i)
 | .str s=>some (.str s)
 | _=>none
def flatDs:List D->Option (List V)
 | []=>some []
 | d::ds=>(flatD d).bind fun v=>(flatDs ds).map (v :: ·)
def itemsD:D->Option (List D)
 | .list ds=>some ds
 | .tup ds=>some ds
 | _=>none
def dInL (neg:Bool) (x y:D):Option D:=(flatD x).bind fun v=>(itemsD y).bind fun ds=>(flatDs ds).map fun vs=>.bl (if neg then !inV v vs else inV v vs)
section
variable {K:W.Frag}{te:TE}
theorem flatD_rep {H:Hp}{d:D}{v w:V}(e:flatD d=some v) (r:Rep K H d w):w=v/\flatV v=true:=by
 cases d <;> first|(cases e;cases r;exact ⟨rfl,rfl⟩)|cases e
theorem flatDs_reps {H:Hp}:∀ {ds:List D}{vs ws:List V},flatDs ds=some vs->Reps K H ds ws->ws=vs/\vs.all flatV=true
 | [],vs,ws,e,r=>by
  cases e
  exact ⟨r.nil_inv,rfl⟩
 | d::ds,vs,ws,e,r=>by
  obtain ⟨v,e1,e⟩:=oBq.mp e
  obtain ⟨us,e2,rfl⟩:=oMq.mp e
  obtain ⟨w,ws',rfl,r1,r2⟩:=r.cons_inv
  obtain ⟨rfl,f1⟩:=flatD_rep e1 r1
  obtain ⟨rfl,f2⟩:=flatDs_reps e2 r2
  exact ⟨rfl,by rw [fW,f1,f2];rfl⟩
theorem od_inL (neg:Bool):OpD K (rIn K neg) (dInL neg):=by
 intro x y H Q dx dy d rx ry e q
 obtain ⟨v,e1,e⟩:=oBq.mp e
 obtain ⟨ds,e2,e⟩:=oBq.mp e
 obtain ⟨vs,e3,e⟩:=oMq.mp e
 subst e
 obtain ⟨rfl,f1⟩:=flatD_rep e1 rx
 cases dy with
 | list xs =>
  cases e2
  obtain ⟨p,us,rfl,h1,h2⟩:=ry.list_inv
  obtain ⟨rfl,f2⟩:=flatDs_reps e3 h2
  exact ⟨p,us,rfl,.inl (SqL.of h1),f1,f2,q _ .bl⟩
 | tup xs =>
  cases e2
  obtain ⟨p,us,rfl,h1,h2⟩:=ry.tup_inv
  obtain ⟨rfl,f2⟩:=flatDs_reps e3 h2
  exact ⟨p,us,rfl,.inr (SqT.of h1),f1,f2,q _ .bl⟩
 | _=>cases e2
end
theorem flatDs_ints (ns:List Int):flatDs (ns.map D.int)=some (ns.map V.int):=by
 induction ns with
 | nil=>rfl
 | cons n ns ih=>rw [aq,flatDs,ih];rfl
theorem inV_ints (i:Int) (ns:List Int):inV (.int i) (ns.map V.int)=decide (i∈ns):=by
 unfold inV
 induction ns with
 | nil=>rfl
 | cons n ns ih =>
  rw [aq,cF,ih]
  show (n == i || decide (i∈ns))=_
  by_cases h:i=n
  .subst h;simp
  .have h':¬ n=i:=fun z=>h z.symm
   simp [h,h']
theorem dInL_I (neg:Bool) (i:Int) (ns:List Int):dInL neg (.int i) (.list (ns.map D.int))=some (.bl (if neg then !decide (i∈ns) else decide (i∈ns))):=by
 show (flatDs (ns.map D.int)).map _=_
 rw [flatDs_ints,dG,inV_ints]
def mComp2L (tf:MT) (te:MK) (cap:AS):List (D×D)->Option (List AV)
 | []=>some []
 | d::ds=>(tf (some (.sh d.1)::some (.sh d.2)::cap)).bind fun b=>if b.1=true then (te b.2).bind fun a=>(mComp2L tf te cap ds).map (a.1 :: ·) else mComp2L tf te cap ds
def enumD:Nat->List D->List (D×D)
 | _,[]=>[]
 | n,d::ds=>(.int (n:Int),d)::enumD (n+1) ds
def kCompE (k:MK) (fr:List Nat) (tf:MT) (te:MK):MK:=fun S=>(kFrz k S).bind fun y=>(itemsOf (strip y.1)).bind fun ds=>(fzAll fr y.2).bind fun S2=>(capt S2 fr).bind fun cap=>ifC (ds.length<=LIM) ((mComp2L tf te cap (enumD 0 ds)).map fun avs=>(.ow avs,S2))
def zqb:=@dInL_I
section
variable {K:W.Frag}{H₀ Hf₀ Hf Hf' H H':Hp}{S S':AS}{σ σ':St}{Fs Fs':List (List Addr)}
theorem AtP.same (s:Same H H'):∀ {path:List Nat}{v w:V},AtP H v path w->AtP H' v path w
 | [],v,w,h=>h
 | j::js,v,w,⟨p,vs,u,h1,h2,h3,h4⟩=>⟨p,vs,u,h1,s _ _ h2,h3,AtP.same s h4⟩
theorem AtP.one:∀ {path:List Nat}{v w w':V},AtP H v path w->AtP H v path w'->w=w'
 | [],v,w,w',h,h'=>h.symm.trans h'
 | j::js,v,w,w',⟨p,vs,u,h1,h2,h3,h4⟩,⟨p',vs',u',g1,g2,g3,g4⟩=>by
  rw [h1] at g1
  cases g1
  rw [h2] at g2
  cases g2
  rw [h3] at g3
  cases g3
  exact h4.one g4
theorem AtP.snoc:∀ {path:List Nat}{v:V}{p:Addr}{vs:List V}{n:Nat}{u:V},AtP H v path (.ref p)->H p=some (.lst vs)->vs[n]?=some u->AtP H v (path++[n]) u
 | [],v,p,vs,n,u,h,h1,h2=>⟨p,vs,u,h,h1,h2,rfl⟩
 | j::js,v,p,vs,n,u,⟨p',vs',u',g1,g2,g3,g4⟩,h1,h2=>⟨p',vs',u',g1,g2,g3,g4.snoc h1 h2⟩
theorem AtP.kept:∀ {path:List Nat}{av:AV}{v w:V}{F:List Addr}{as:List AV},RepA K Hf H av v F->nodeAt av path=some as->AtP H v path w->(∀ q∈F,H' q=H q)->AtP H' v path w
 | [],av,v,w,F,as,_,_,h,_=>h
 | j::js,av,v,w,F,as,r,e,⟨p,vs,u,h1,h2,h3,h4⟩,hk=>by
  cases av with
  | ow avs =>
   obtain ⟨p',vs',Gs,e1,e2,e3,e4,e5⟩:=r.ow_inv
   rw [h1] at e1
   cases e1
   rw [h2] at e3
   cases e3
   obtain ⟨a,ea,e⟩:=oBq.mp (show (avs[j]?).bind (fun a=>nodeAt a js)=some as from e)
   have hj:j<avs.length:=(gSq.mp ea).1
   have hG:=gEg (e5.2.1 ▸ hj)
   have rj:=e5.2.2 j a u _ ea h3 hG
   refine ⟨p,vs,u,h1,by rw [hk p (by rw [e2];simp)];exact h2,h3,h4.kept rj e fun q hq=>hk q ?_⟩
   rw [e2]
   exact mCo _ (flat_mem_of hG hq)
  | _=>cases e
def frm (H₀ H:Hp) (F:List Addr):Hp:=fun b=>if b∈F then H b else H₀ b
theorem frm_in {F:List Addr}{b:Addr}(h:b∈F):frm H₀ H F b=H b:=if_pos h
theorem frm_out {F:List Addr}{b:Addr}(h:b∉F):frm H₀ H F b=H₀ b:=if_neg h
theorem Rel.frame (R:Rel K H₀ Hf₀ Hf S σ H Fs) {i:Nat}{F:List Addr}(s2:Fs[i]?=some F):Rel K (frm H₀ H F) Hf₀ Hf (S.set i none) σ H (Fs.set i []):=by
 have R1:=R.kill i
 have hF:∀ q∈F,q∈Fs.flatten:=fun q hq=>flat_mem_of s2 hq
 refine ⟨R1.len,R1.lenF,R1.rep,R1.emp,R1.nd,fun p hp=>?_,R1.sub,fun b u e=>?_,fun b h1 h2=>?_,R1.sf⟩
 .have hn:p∉F:=fun z=>flat_set_out R.nd s2 z hp
  rw [frm_out hn]
  exact R1.fresh p hp
 .by_cases hb:b∈F
  .rw [frm_in hb] at e
   exact e
  .rw [frm_out hb] at e
   exact R.fr b u e
 .by_cases hb:b∈F
  .exact (R.mem (hF b hb)).2
  .rw [frm_out hb] at h2
   exact R.lim b h1 h2
theorem set_eq {α:Type}{l:List α}{i:Nat}{a:α}(h:l[i]?=some a):l.set i a=l:=by
 obtain ⟨hk,ev⟩:=gSq.mp h
 rw [← ev]
 exact eD hk
theorem Rel.unframe (R:Rel K H₀ Hf₀ Hf S σ H Fs) {i:Nat}{av:AV}{v:V}{F:List Addr}(s2:Fs[i]?=some F) (r:RepA K Hf H av v F) (nd:F.Nodup) (h0:∀ q∈F,H₀ q=none)
  (R':Rel K (frm H₀ H F) Hf₀ Hf' S' σ' H' Fs') (e':S'[i]?=some none) (s1:σ'[i]?=some (some v)) (sf:Same Hf Hf') :
  (∀ q∈F,H' q=H q)/\RepA K Hf' H' av v F/\Rel K H₀ Hf₀ Hf' (S'.set i (some av)) σ' H' (Fs'.set i F):=by
 have hk:∀ q∈F,H' q=H q:=fun q hq=>by
  have hn:=(R.mem (flat_mem_of s2 hq)).1
  cases hu:H q with
  | none=>exact absurd hu hn
  | some u=>exact R'.fr q u (by rw [frm_in hq];exact hu)
 have hf:∀ q∈F,Hf' q=none:=fun q hq=>by
  have hm:=R.mem (flat_mem_of s2 hq)
  refine R'.lim q ?_ (by rw [frm_in hq];exact hm.1)
  cases hz:Hf₀ q with
  | none=>rfl
  | some u=>rw [R.sf q u hz] at hm;exact absurd hm.2 (by simp)
 have r':=r.keep sf hk hf
 refine ⟨hk,r',?_⟩
 have R1:Rel K H₀ Hf₀ Hf' (S'.set i none) σ' H' (Fs'.set i []):=by
  rw [set_eq e',set_eq (R'.emp i e')]
  refine ⟨R'.len,R'.lenF,R'.rep,R'.emp,R'.nd,fun p hp=>?_,R'.sub,fun b u e=>?_,fun b h1 h2=>?_,R'.sf⟩
  .have:=R'.fresh p hp
   by_cases hb:p∈F
   .exact h0 p hb
   .rwa [frm_out hb] at this
  .refine R'.fr b u ?_
   rw [frm_out fun z=>by rw [h0 b z] at e;cases e]
   exact e
  .refine R'.lim b h1 ?_
   rw [frm_out fun z=>h2 (h0 b z)]
   exact h2
 refine R1.again (F:=F) s1 r' nd fun q hq=>⟨h0 q hq,fun m=>?_⟩
 rw [set_eq (R'.emp i e')] at m
 have:=R'.fresh q m
 rw [frm_in hq] at this
 exact (R.mem (flat_mem_of s2 hq)).1 this
end
abbrev MP:=AS->Option (List Nat×AS)
def pVar (i:Nat):MP:=fun S=>(owAt S i).map fun _=>([],S)
def pIx (i:Nat) (pf:MP) (b:ME):MP:=fun S=>(pf S).bind fun x=>(b x.2).bind fun y=>(intOf y.1).bind fun j=>(owAt y.2 i).bind fun avs=>(nodeAt (.ow avs) x.1).bind fun as=>(ixN as.length j).map fun n=>(x.1++[n],y.2)
def SPh (K:W.Frag) (i:Nat) (te:TE) (pf:MP):Prop:=∀ {H₀ Hf₀ Hf:Hp}{S:AS}{σ:St}{H:Hp}{Fs:List (List Addr)}{path:List Nat}{S':AS},Rel K H₀ Hf₀ Hf S σ H Fs->pf S=some (path,S')->∀ Q:VK,
 (∀ Hf' H' Fs' v w,Stp Hf H Fs Hf' H' Fs'->Rel K H₀ Hf₀ Hf' S' σ H' Fs'->σ[i]?=some (some v)->AtP H' v path w->Q w H')->te σ H Q
section
variable {K:W.Frag}
theorem sph_var (i:Nat):SPh K i (tVar i) (pVar i):=by
 intro H₀ Hf₀ Hf S σ H Fs path S' R e Q q
 obtain ⟨avs,e1,e⟩:=oMq.mp e
 cases e
 obtain ⟨p,vs,Gs,s1,_⟩:=R.ow (owAt_some e1)
 exact ⟨_,s1,q _ _ _ _ _ .refl R s1 rfl⟩
theorem node_at {H₀ Hf₀ Hf H:Hp}{S:AS}{σ:St}{Fs:List (List Addr)}{i:Nat}{avs as:List AV}{path:List Nat}{v w:V}(R:Rel K H₀ Hf₀ Hf S σ H Fs) (e:S[i]?=some (some (.ow avs))) (s1:σ[i]?=some (some v)) (en:nodeAt (.ow avs) path=some as) (h:AtP H v path w) :
  ∃ p vs,w = .ref p/\H p=some (.lst vs)/\vs.length=as.length:=by
 obtain ⟨v',F,t1,t2,r,nd,_⟩:=R.move e
 rw [s1] at t1
 cases t1
 obtain ⟨p,vs,Gs,g1,g2,g3,g4,_⟩:=r.path nd en
 exact ⟨p,vs,h.one g1,g2,g4.1.symm⟩
theorem sph_ix {i:Nat}{te tb:TE}{pf:MP}{b:ME}(hp:SPh K i te pf) (hb:SR K tb b):SPh K i (tOp (rIxL K) te tb) (pIx i pf b):=by
 intro H₀ Hf₀ Hf S σ H Fs path S' R e Q q
 obtain ⟨x,e1,e⟩:=oBq.mp e
 obtain ⟨y,e2,e⟩:=oBq.mp e
 obtain ⟨j,e3,e⟩:=oBq.mp e
 obtain ⟨avs,e4,e⟩:=oBq.mp e
 obtain ⟨as,e5,e⟩:=oBq.mp e
 obtain ⟨n,e6,e⟩:=oMq.mp e
 cases e
 refine hp R (path:=x.1) (S':=x.2) e1 _ fun Hf1 H1 Fs1 v w t1 R1 s1 a1=>hb R1 (d:=y.1) (S':=y.2) e2 _ fun Hf2 H2 Fs2 u t2 R2 r2=>?_
 have hy:y.1 = .int j:=by
  cases hx:y.1 <;> rw [hx] at e3 <;> first|(cases e3;rfl)|cases e3
 rw [hy] at r2
 cases r2
 have a2:=a1.same t2.sh
 obtain ⟨p,vs,rfl,h1,h2⟩:=node_at R2 (owAt_some e4) s1 e5 a2
 have hix:=e6
 obtain ⟨_,hn,_⟩:=ixN_seq e6
 have hn':n<vs.length:=by rw [h2];exact hn
 obtain ⟨u,hv⟩:∃ u,vs[n]?=some u:=⟨_,gEg hn'⟩
 refine ⟨p,vs,j,u,rfl,rfl,SqL.of h1,?_,q _ _ _ v _ (t1.trans t2) R2 s1 (a2.snoc h1 hv)⟩
 unfold atI
 rw [h2,e6]
 exact hv
end
section
variable {K:W.Frag}
theorem Rel.grow {H₀ Hf₀ Hf H:Hp}{S:AS}{σ:St}{Fs:List (List Addr)}{i:Nat}{avs as:List AV}{path:List Nat}{v:V}{p:Addr}(R:Rel K H₀ Hf₀ Hf S σ H Fs) (e:S[i]?=some (some (.ow avs))) (s1:σ[i]?=some (some v)) (en:nodeAt (.ow avs) path=some as) (h:AtP H v path (.ref p)) :
  ∃ vs,H p=some (.lst vs)/\as.length=vs.length/\∀ (bs:List AV) (ws:List V) (Gs:List (List Addr)),RepAs K Hf H bs ws Gs->Gs.flatten.Nodup->(∀ q∈Gs.flatten,H₀ q=none/\q∉Fs.flatten) ->
   ∃ Fs',Rel K H₀ Hf₀ Hf (S.set i (some (putAt (.ow avs) path (as++bs)))) σ (upd H p (.lst (vs++ws))) Fs':=by
 obtain ⟨v',F,t1,t2,r,nd,oo,_⟩:=R.move e
 rw [s1] at t1
 cases t1
 obtain ⟨p',vs,Es,g1,g2,g3,g4,g5,g6,g6',g7,g8⟩:=r.path nd en
 have hpp:V.ref p=V.ref p':=h.one g1
 cases hpp
 refine ⟨vs,g2,g4.1,fun bs ws Gs rb nG oG=>?_⟩
 have pG:p∉Gs.flatten:=fun m=>(oG p m).2 (flat_mem_of t2 g5)
 have hfl:(Es++Gs).flatten=Es.flatten++Gs.flatten:=fAq
 obtain ⟨F',k1,k2,k3⟩:=g8 (as++bs) (vs++ws) (Es++Gs) ((g4.keepUpd g6).append (rb.keepUpd pG)) (by
  rw [hfl]
  refine aL.mpr ⟨fun m=>(mAq.mp m).elim g6 pG,nAq.mpr ⟨g6',nG,fun a ha b hb z=>(oG b hb).2 (flat_mem_of t2 (g7 b (z ▸ ha)))⟩⟩) (fun q hq=>by
  rw [hfl] at hq
  exact (mAq.mp hq).imp id fun m z=>(oG q m).2 (flat_mem_of t2 z))
 refine ⟨_,R.turnAny s1 t2 g5 k1 k2 fun q hq=>?_⟩
 rcases k3 q hq with z|z
 .exact oo q z
 .rw [hfl] at z
  rcases mAq.mp z with z|z
  .exact oo q (g7 q z)
  .exact ⟨(oG q z).1,fun m=>(oG q z).2 (flat_set_nil m)⟩
def mAppP (i:Nat) (pf:MP) (k:MK):MS:=fun S=>(pf S).bind fun x=>(owAt x.2 i).bind fun a0=>(nodeAt (.ow a0) x.1).bind fun _=>(k x.2).bind fun y=>(owAt y.2 i).bind fun avs=>(nodeAt (.ow avs) x.1).bind fun as=>ifC (as.length<LIM) (some (.nx (y.2.set i (some (putAt (.ow avs) x.1 (as++[y.1]))))))
def mExtP (i:Nat) (pf:MP) (l:ML):MS:=fun S=>(pf S).bind fun x=>(owAt x.2 i).bind fun a0=>(nodeAt (.ow a0) x.1).bind fun _=>(l x.2).bind fun y=>(owAt y.2 i).bind fun avs=>(nodeAt (.ow avs) x.1).bind fun as=>ifC (as.length+y.1.length<=LIM) (some (.nx (y.2.set i (some (putAt (.ow avs) x.1 (as++y.1.map .sh))))))
def Als (x i:Nat) (path:List Nat) (S:AS) (σ:St) (H:Hp):Prop:=∃ v p avs as,S[i]?=some (some (.ow avs))/\nodeAt (.ow avs) path=some as/\σ[x]?=some (some (.ref p))/\σ[i]?=some (some v)/\AtP H v path (.ref p)
def SAl (K:W.Frag) (x i:Nat) (t:TS) (m:List Nat->MS):Prop:=∀ {path:List Nat}{H₀ Hf₀ Hf:Hp}{S:AS}{σ:St}{H:Hp}{Fs:List (List Addr)}{o:Out},Rel K H₀ Hf₀ Hf S σ H Fs->Als x i path S σ H->m path S=some o->∀ D:Ends,OutOk K H₀ Hf₀ Hf D o->t D σ H
def mAls (x i:Nat) (pf:MP) (m:List Nat->MS):MS:=fun S=>(pf S).bind fun y=>(owAt y.2 i).bind fun avs=>(nodeAt (.ow avs) y.1).bind fun _=>ifC (x≠i/\x<y.2.length) (m y.1 (y.2.set x none))
theorem ss_als {x i:Nat}{te:TE}{pf:MP}{t:TS}{m:List Nat->MS}(hp:SPh K i te pf) (hm:SAl K x i t m):SS K (tSeq (tAsg te (gName x)) t) (mAls x i pf m):=by
 intro H₀ Hf₀ Hf S σ H Fs o R e D h
 obtain ⟨y,e1,e⟩:=oBq.mp e
 obtain ⟨avs,e2,e⟩:=oBq.mp e
 obtain ⟨as,e3,e⟩:=oBq.mp e
 rcases ifC_cases e with ⟨⟨hne,hlt⟩,e⟩|e
 .refine hp R (path:=y.1) (S':=y.2) e1 _ fun Hf1 H1 Fs1 v w t1 R1 s1 a1=>?_
  obtain ⟨p,vs,rfl,h1,h2⟩:=node_at R1 (owAt_some e2) s1 e3 a1
  have R2:=(R1.kill x).any (V.ref p)
  refine hm R2 ⟨v,p,avs,as,?_,e3,?_,?_,a1⟩ e D (h.mono t1.sf)
  .rw [au hne]
   exact owAt_some e2
  .exact aF (by rw [← R1.len];exact hlt)
  .rw [au hne]
   exact s1
 .cases e
theorem al_ss {x i:Nat}{t:TS}{m:MS}(h:SS K t m):SAl K x i t (fun _=>m):=fun R _ e D o=>h R e D o
theorem al_seq {x i:Nat}{t u:TS}{a:List Nat->MS}{b:MS}(ha:SAl K x i t a) (hb:SS K u b):SAl K x i (tSeq t u) (fun path=>mSeq (a path) b):=by
 intro path H₀ Hf₀ Hf S σ H Fs o R A e D h
 obtain ⟨y,e1,e⟩:=oBq.mp e
 refine ha R A e1 _ ?_
 cases y with
 | nx S'=>exact fun Hf' σ' H' Fs' s R'=>hb R' e D (h.mono s)
 | rt a=>cases e;exact h
 | bk a=>cases e;exact h
 | ct a=>cases e;exact h
def mIfA (i:Nat) (c:MT) (a b:List Nat->MS):List Nat->MS:=fun path S=>(c S).bind fun y=>(owAt y.2 i).bind fun avs=>(nodeAt (.ow avs) path).bind fun _=>if y.1=true then a path y.2 else b path y.2
theorem al_if {x i:Nat}{c:TT}{m:MT}{t u:TS}{a b:List Nat->MS}(hc:STt K c m) (ha:SAl K x i t a) (hb:SAl K x i u b):SAl K x i (tIfS c t u) (mIfA i m a b):=by
 intro path H₀ Hf₀ Hf S σ H Fs o R A e D h
 obtain ⟨y,e1,e⟩:=oBq.mp e
 obtain ⟨avs,e2,e⟩:=oBq.mp e
 obtain ⟨as,e3,e⟩:=oBq.mp e
 obtain ⟨v,p,_,_,_,_,s2,s1,at0⟩:=A
 refine hc R (b:=y.1) (S':=y.2) e1 _ fun Hf1 H1 Fs1 t1 R1=>?_
 have A1:Als x i path y.2 σ H1:=⟨v,p,avs,as,owAt_some e2,e3,s2,s1,at0.same t1.sh⟩
 split at e
 .rename_i hx
  rw [hx]
  exact iteT (ha R1 A1 e D (h.mono t1.sf))
 .rename_i hx
  rw [cU] at hx
  rw [hx]
  exact iteF (hb R1 A1 e D (h.mono t1.sf))
def mAppA (i:Nat) (k:MK):List Nat->MS:=fun path S=>(k S).bind fun y=>(owAt y.2 i).bind fun avs=>(nodeAt (.ow avs) path).bind fun as=>ifC (as.length<LIM) (some (.nx (y.2.set i (some (putAt (.ow avs) path (as++[y.1]))))))
theorem al_app {x i:Nat}{te:TE}{k:MK}(hk:SK K te k):SAl K x i (tDrop (tBM K "list" rAppend (tVar x) (tCons te tNil))) (mAppA i k):=by
 intro path H₀ Hf₀ Hf S σ H Fs o R A e D h
 obtain ⟨y,e4,e⟩:=oBq.mp e
 obtain ⟨avs,e5,e⟩:=oBq.mp e
 obtain ⟨as,e6,e⟩:=oBq.mp e
 rcases ifC_cases e with ⟨hl,e⟩|e
 .cases e
  obtain ⟨v,p,a0,n0,e2,e3,s2,s1,at0⟩:=A
  obtain ⟨p',vs,hp,h1,h2⟩:=node_at R e2 s1 e3 at0
  cases hp
  refine ⟨.ref p,s2,.inl ⟨rfl,vs,SqL.of h1⟩,hk R (a:=y.1) (S':=y.2) e4 _ fun Hf2 H2 Fs2 u F t2 R2 r2 o2=>?_⟩
  obtain ⟨vs',g1,g2,g3⟩:=R2.grow (owAt_some e5) s1 e6 (at0.same t2.sh)
  obtain ⟨Fs',R3⟩:=g3 [y.1] [u] [F] (RepAs.nil.snoc r2) (by rw [bF];exact o2.nd) (fun q hq=>by rw [bF] at hq;exact ⟨o2.fr q hq,o2.out q hq⟩)
  exact ⟨p,vs',u,rfl,rfl,g1,by rw [lim_eq,← g2];exact hl,h _ _ _ _ t2.sf R3⟩
 .cases e
def mExtA (i:Nat) (l:ML):List Nat->MS:=fun path S=>(l S).bind fun y=>(owAt y.2 i).bind fun avs=>(nodeAt (.ow avs) path).bind fun as=>ifC (as.length+y.1.length<=LIM) (some (.nx (y.2.set i (some (putAt (.ow avs) path (as++y.1.map .sh))))))
def mAppMA (i:Nat) (mm:ME):List Nat->MS:=fun path S=>(owAt S i).bind fun avs=>(nodeAt (.ow avs) path).bind fun as=>(mm (S.set i none)).bind fun y=>ifC (y.2[i]?=some none/\as.length<LIM) (some (.nx (y.2.set i (some (putAt (.ow avs) path (as++[.sh y.1]))))))
theorem al_appM {x i:Nat}{te:TE}{mm:ME}(hk:SM K te mm):SAl K x i (tDrop (tBM K "list" rAppend (tVar x) (tCons te tNil))) (mAppMA i mm):=by
 intro path H₀ Hf₀ Hf S σ H Fs o R A e D h
 obtain ⟨avs,e2,e⟩:=oBq.mp e
 obtain ⟨as,e3,e⟩:=oBq.mp e
 obtain ⟨y,e4,e⟩:=oBq.mp e
 rcases ifC_cases e with ⟨⟨hn,hl⟩,e⟩|e
 .cases e
  obtain ⟨v,p,a0,n0,_,_,s2,s1,at0⟩:=A
  have e2':=owAt_some e2
  obtain ⟨p',vs,hp,h1,h2⟩:=node_at R e2' s1 e3 at0
  cases hp
  obtain ⟨v',F,t1,t2,r,nd,oo,_⟩:=R.move e2'
  rw [s1] at t1
  cases t1
  refine ⟨.ref p,s2,.inl ⟨rfl,vs,SqL.of h1⟩,hk (R.frame t2) (d:=y.1) (S':=y.2) e4 _ fun Hf2 H2 Fs2 u t3 R2 r2=>?_⟩
  obtain ⟨k1,k2,R3⟩:=R.unframe t2 r nd (fun q hq=>(oo q hq).1) R2 hn s1 t3
  have hlt:i<y.2.length:=(gSq.mp hn).1
  have e5:(y.2.set i (some (.ow avs)))[i]?=some (some (.ow avs)):=aF hlt
  obtain ⟨vs',g1,g2,g3⟩:=R3.grow e5 s1 e3 (at0.kept r e3 k1)
  obtain ⟨Fs',R4⟩:=g3 [.sh y.1] [u] [[]] (RepAs.nil.snoc (.sh r2)) (by simp) (fun q hq=>by simp at hq)
  rw [eP] at R4
  exact ⟨p,vs',u,rfl,rfl,g1,by rw [lim_eq,← g2];exact hl,h _ _ _ _ t3 R4⟩
 .cases e
def SSk (K:W.Frag) (J:List Nat) (t:TS) (m:MS):Prop:=∀ {H₀ Hf₀ Hf:Hp}{S:AS}{σ:St}{H:Hp}{Fs:List (List Addr)}{S':AS},Rel K H₀ Hf₀ Hf S σ H Fs->m S=some (.nx S')->∀ D:Ends,(∀ Hf' σ' H' Fs',Same Hf Hf'->Rel K H₀ Hf₀ Hf' S' σ' H' Fs'->(∀ j∈J,σ'[j]?=σ[j]?)->D.nx σ' H')->t D σ H
theorem ssk_next {J:List Nat}{t:TS}(h:∀ D σ H,D.nx σ H->t D σ H):SSk K J t mNext:=by
 intro H₀ Hf₀ Hf S σ H Fs S' R e D q
 cases e
 exact h _ _ _ (q _ _ _ _ (.refl _) R fun _ _=>rfl)
theorem ssk_asg {J:List Nat}{y:Nat}{te:TE}{k:MK}(hk:SK K te k) (hJ:y∉J):SSk K J (tAsg te (gName y)) (mAsg y k):=by
 intro H₀ Hf₀ Hf S σ H Fs S' R e D q
 obtain ⟨x,e1,e⟩:=oMq.mp e
 cases e
 refine hk R (a:=x.1) (S':=x.2) e1 _ fun Hf1 H1 Fs1 v F t1 R1 r1 o1=>?_
 exact q _ _ _ _ t1.sf (R1.set y r1 o1.nd fun q hq=>⟨o1.fr q hq,o1.out q hq⟩) fun j hj=>au (show y≠j from fun z=>hJ (by rw [z];exact hj))
theorem ssk_asgM {J:List Nat}{y:Nat}{te:TE}{m:ME}(hk:SM K te m) (hJ:y∉J):SSk K J (tAsg te (gName y)) (mAsgM y m):=by
 intro H₀ Hf₀ Hf S σ H Fs S' R e D q
 obtain ⟨x,e1,e⟩:=oMq.mp e
 cases e
 refine hk R (d:=x.1) (S':=x.2) e1 _ fun Hf1 H1 Fs1 v t1 R1 r1=>?_
 exact q _ _ _ _ t1 (R1.setD y r1) fun j hj=>au (show y≠j from fun z=>hJ (by rw [z];exact hj))
theorem ssk_if {J:List Nat}{c:TT}{m:MT}{t u:TS}{a b:MS}(hc:STt K c m) (ha:SSk K J t a) (hb:SSk K J u b):SSk K J (tIfS c t u) (mIf m a b):=by
 intro H₀ Hf₀ Hf S σ H Fs S' R e D q
 obtain ⟨x,e1,e⟩:=oBq.mp e
 refine hc R (b:=x.1) (S':=x.2) e1 _ fun Hf1 H1 Fs1 t1 R1=>?_
 split at e
 .rename_i hx
  rw [hx]
  exact iteT (ha R1 e D fun Hf' σ' H' Fs' s R' j=>q _ _ _ _ (t1.sf.trans s) R' j)
 .rename_i hx
  rw [cU] at hx
  rw [hx]
  exact iteF (hb R1 e D fun Hf' σ' H' Fs' s R' j=>q _ _ _ _ (t1.sf.trans s) R' j)
def mMid (i:Nat) (a:MS) (m:List Nat->MS):List Nat->MS:=fun path S=>(owAt S i).bind fun avs=>(a (S.set i none)).bind fun o=>match o with
 | .nx S1=>ifC (S1[i]?=some none) (m path (S1.set i (some (.ow avs))))
 | _=>none
theorem al_mid {x i:Nat}{t u:TS}{a:MS}{m:List Nat->MS}(ha:SSk K [x,i] t a) (hm:SAl K x i u m):SAl K x i (tSeq t u) (mMid i a m):=by
 intro path H₀ Hf₀ Hf S σ H Fs o R A e D h
 obtain ⟨avs,e2,e⟩:=oBq.mp e
 obtain ⟨oo,e3,e⟩:=oBq.mp e
 cases oo with
 | nx S1 =>
  rcases ifC_cases (show ifC (S1[i]?=some none) (m path (S1.set i (some (.ow avs))))=some o from e) with ⟨hn,e⟩|e
  .obtain ⟨v,p,a0,n0,e2',e4,s2,s1,at0⟩:=A
   have e5:=owAt_some e2
   rw [e5] at e2'
   cases e2'
   obtain ⟨v',F,t1,t2,r,nd,ow,_⟩:=R.move e5
   rw [s1] at t1
   cases t1
   refine ha (R.frame t2) e3 _ fun Hf' σ' H' Fs' s R' hJ=>?_
   have j1:σ'[x]?=σ[x]?:=hJ x (by simp)
   have j2:σ'[i]?=σ[i]?:=hJ i (by simp)
   obtain ⟨k1,k2,R3⟩:=R.unframe t2 r nd (fun q hq=>(ow q hq).1) R' hn (j2.trans s1) s
   have hlt:i<S1.length:=(gSq.mp hn).1
   exact hm R3 ⟨v,p,avs,n0,aF hlt,e4,j1.trans s2,j2.trans s1,at0.kept r e4 k1⟩ e D (h.mono s)
  .cases e
 | _=>cases e
end
theorem pVar_ (S:AS) (i:Nat):pVar i S=(owAt S i).map fun _=>([],S):=rfl
theorem pIx_ (S:AS) (i:Nat) (pf:MP) (b:ME):pIx i pf b S=(pf S).bind fun x=>(b x.2).bind fun y=>(intOf y.1).bind fun j=>(owAt y.2 i).bind fun avs=>(nodeAt (.ow avs) x.1).bind fun as=>(ixN as.length j).map fun n=>(x.1++[n],y.2):=rfl
theorem mAls_ (S:AS) (x i:Nat) (pf:MP) (m:List Nat->MS):mAls x i pf m S=(pf S).bind fun y=>(owAt y.2 i).bind fun avs=>(nodeAt (.ow avs) y.1).bind fun _=>ifC (x≠i/\x<y.2.length) (m y.1 (y.2.set x none)):=rfl
theorem mIfA_ (S:AS) (i:Nat) (c:MT) (a b:List Nat->MS) (path:List Nat):mIfA i c a b path S=(c S).bind fun y=>(owAt y.2 i).bind fun avs=>(nodeAt (.ow avs) path).bind fun _=>if y.1=true then a path y.2 else b path y.2:=rfl
theorem mAppA_ (S:AS) (i:Nat) (k:MK) (path:List Nat):mAppA i k path S=(k S).bind fun y=>(owAt y.2 i).bind fun avs=>(nodeAt (.ow avs) path).bind fun as=>ifC (as.length<LIM) (some (.nx (y.2.set i (some (putAt (.ow avs) path (as++[y.1])))))):=rfl
theorem mAppMA_ (S:AS) (i:Nat) (mm:ME) (path:List Nat):mAppMA i mm path S=(owAt S i).bind fun avs=>(nodeAt (.ow avs) path).bind fun as=>(mm (S.set i none)).bind fun y=>ifC (y.2[i]?=some none/\as.length<LIM) (some (.nx (y.2.set i (some (putAt (.ow avs) path (as++[.sh y.1])))))):=rfl
def midO (i:Nat) (avs:List AV) (m:List Nat->MS) (path:List Nat):Out->Option Out
 | .nx S1=>ifC (S1[i]?=some none) (m path (S1.set i (some (.ow avs))))
 | _=>none
theorem mMid_ (S:AS) (i:Nat) (a:MS) (m:List Nat->MS) (path:List Nat):mMid i a m path S=(owAt S i).bind fun avs=>(a (S.set i none)).bind (midO i avs m path):=by
 unfold mMid
 congr 1
theorem midO_nx (i:Nat) (avs:List AV) (m:List Nat->MS) (path:List Nat) (S1:AS):midO i avs m path (.nx S1)=ifC (S1[i]?=some none) (m path (S1.set i (some (.ow avs)))):=rfl
theorem nodeAt_nil (avs:List AV):nodeAt (.ow avs) []=some avs:=rfl
theorem nodeAt_cons (avs:List AV) (j:Nat) (js:List Nat):nodeAt (.ow avs) (j::js)=(avs[j]?).bind fun a=>nodeAt a js:=rfl
theorem putAt_cons {avs:List AV}{j:Nat}{js:List Nat}{as:List AV}{a:AV}(h:avs[j]?=some a):putAt (.ow avs) (j::js) as = .ow (avs.set j (putAt a js as)):=by
 show (match avs[j]? with|some a=>_|none=>_)=_
 rw [h]
def zqd:=aa @pVar_ (aa @pIx_ (aa @mAls_ (aa @mIfA_ (aa @mAppA_ (aa @mAppMA_ (aa @mMid_ (aa @midO_nx @nodeAt_nil)))))))
section
variable {K:W.Frag}
def mDropM (m:ME):MS:=fun S=>(m S).map fun x=>.nx x.2
theorem ss_dropM {te:TE}{m:ME}(h:SM K te m):SS K (tDrop te) (mDropM m):=by
 intro H₀ Hf₀ Hf S σ H Fs o R e D hd
 obtain ⟨x,e1,e⟩:=oMq.mp e
 cases e
 exact h R (d:=x.1) (S':=x.2) e1 _ fun Hf1 H1 Fs1 v t1 R1 r1=>hd _ _ _ _ t1 R1
def mRev (i:Nat):MS:=fun S=>(owAt S i).map fun avs=>.nx (S.set i (some (.ow avs.reverse)))
end
theorem mDropM_ (S:AS) (m:ME):mDropM m S=(m S).map fun x=>.nx x.2:=rfl
def zqe:=@mDropM_
section
variable {K:W.Frag}
theorem Rep.fd_inv {H:Hp}{ds:List (Key×D)}{v:V}(h:Rep K H (.fd ds) v):∃ p o kvs,v = .ref p/\H p=some (.frz o (.dK kvs))/\RepKs K H ds kvs:=by
 cases h with
 | fd h l e=>exact ⟨_,_,_,rfl,h,l,e⟩
def fdOf:D->Option (List (Key×D))
 | .fd kvs=>some kvs
 | _=>none
theorem fdOf_eq {d:D}{kvs:List (Key×D)}(h:fdOf d=some kvs):d = .fd kvs:=by
 cases d <;> first|(cases h;rfl)|cases h
def rDGetF (a b:ME):ME:=fun S=>(a S).bind fun x=>(b x.2).bind fun y=>(fdOf x.1).bind fun kvs=>(keyOf y.1).bind fun key=>(getD kvs key).map fun d=>(d,y.2)
theorem sr_dgetF {ta tb:TE}{a b:ME}(ha:SR K ta a) (hb:SR K tb b):SR K (tDGet ta tb) (rDGetF a b):=by
 intro H₀ Hf₀ Hf S σ H Fs d S' R e Q q
 obtain ⟨x,e1,e⟩:=oBq.mp e
 obtain ⟨y,e2,e⟩:=oBq.mp e
 obtain ⟨kvs,e3,e⟩:=oBq.mp e
 obtain ⟨key,e4,e⟩:=oBq.mp e
 obtain ⟨d',e5,e⟩:=oMq.mp e
 cases e
 refine ha R (d:=x.1) (S':=x.2) e1 _ fun Hf1 H1 Fs1 v1 t1 R1 r1=>hb R1 (d:=y.1) (S':=y.2) e2 _ fun Hf2 H2 Fs2 v2 t2 R2 r2=>?_
 rw [fdOf_eq e3] at r1
 obtain ⟨p,o,vs,rfl,h1,h2⟩:=(r1.mono t2.sh).fd_inv
 have g:=getD_rep (key:=key) h2
 rw [e5] at g
 obtain ⟨v,g1,g2⟩:=g
 exact ⟨p,v,rfl,by rw [keyOf_rep e4 r2,← g1];exact .inl ⟨vs,key,.inr ⟨o,h1⟩,rfl,rfl⟩,q _ _ _ _ (t1.trans t2) R2 g2⟩
theorem for_keys {ob:Obj}{d:Addr}{kvs:List (Key×V)}{i1:Nat}{tb:TS}{D:Ends}{σ:St}{H:Hp}(Pv:Nat->St->Hp->Prop) (h0:Pv 0 σ H) (hl:∀ i σ H,Pv i σ H->H d=some (.frz ob (.dK kvs)))
  (hs:∀ i p σ H,kvs[i]?=some p->Pv i σ H->tb { D with nx:=Pv (i+1),ct:=Pv (i+1),bk:=D.nx } (σ.set i1 (some (kV p.1))) H) (hd:∀ σ H,Pv kvs.length σ H->D.nx σ H) :
  ∃ W:Nat->Nat->St->Hp->Prop,(∃ m,W 0 m σ H)/\∀ i m σ H,W i m σ H ->
   ((Itk ob d kvs).stop i H/\D.nx σ H)∨((Itk ob d kvs).go i H/\∃ N:St->Hp->Prop,(∀ σ' H',N σ' H'->∃ m',m'<m/\W (i+1) m' σ' H')/\∀ x H',(Itk ob d kvs).yld i H x H'->gName i1 x σ H' fun σ2 H2=>tb { D with nx:=N,ct:=N,bk:=D.nx } σ2 H2):=by
 refine ⟨fun i m σ H=>m=kvs.length-i/\i<=kvs.length/\Pv i σ H,⟨kvs.length,by simp,ba _,h0⟩,?_⟩
 rintro i m σ H ⟨rfl,hi,p⟩
 have q:=hl i σ H p
 by_cases hlt:i<kvs.length
 .refine .inr ⟨⟨q,kvs[i],by simp [hlt]⟩,Pv (i+1),fun σ' H' p'=>⟨kvs.length-(i+1),by omega,rfl,hlt,p'⟩,fun v H' y=>?_⟩
  obtain ⟨rfl,x,hx,rfl⟩:=y
  exact hs i x σ H' hx p
 .have e:i=kvs.length:=by omega
  subst e
  exact .inl ⟨⟨q,af _⟩,hd σ H p⟩
def mForK (x i:Nat) (body:MS):MS:=fun S=>(owdAt S i).bind fun kvs=>ifC (x≠i) (mForL x body (kvs.map fun p=>kD p.1) (S.set i (some (.sh (.fd kvs)))))
theorem ss_forK {x i:Nat}{tb:TS}{body:MS}(hb:SS K tb body):SS K (tFor (iKeys (tVar i)) (gName x) tb) (mForK x i body):=by
 intro H₀ Hf₀ Hf S σ H Fs o R e D h
 obtain ⟨ds,e1,e⟩:=oBq.mp e
 rcases ifC_cases e with ⟨hne,e⟩|e
 .have e1':=owdAt_some e1
  obtain ⟨p,kvs,s1,s2,h1,h2,h3,h4,h5⟩:=R.owd e1'
  refine ⟨_,s1,p,kvs,rfl,h1,fun ob=>?_⟩
  obtain ⟨v,F,t1,t2,r,nd,oo,R1⟩:=R.move e1'
  rw [s2] at t2
  cases t2
  have R2:=Rel.fix R1 (p:=p) (o:=.frz ob (.dK kvs)) h5 h2 h4
  have s3:Same Hf (upd Hf p (.frz ob (.dK kvs))):=same_upd h2
  have h3':RepKs K (upd Hf p (.frz ob (.dK kvs))) ds kvs:=⟨h3.1,fun i d v a b=>(h3.2 i d v a b).mono s3⟩
  have R3:Rel K H₀ Hf₀ (upd Hf p (.frz ob (.dK kvs))) (S.set i (some (.sh (.fd ds)))) σ (upd H p (.frz ob (.dK kvs))) (Fs.set i []) :=
   R2.again (F:=[]) s1 (.sh (.fd upd_same h3'.1 h3'.2)) bh fun q hq=>by cases hq
  have hlen:ds.length=kvs.length:=by have:=congrArg bY h3.1;simpa using this
  refine for_keys (fun n σ' H'=>∃ Hf' S' Fs',Rel K H₀ Hf₀ Hf' S' σ' H' Fs'/\Same (upd Hf p (.frz ob (.dK kvs))) Hf'/\mForL x body ((ds.map fun p=>kD p.1).drop n) S'=some o) ⟨_,_,_,R3,.refl _,e⟩
   (fun n σ' H' ⟨Hf',S',Fs',R',s',_⟩=>R'.sub _ _ (s' _ _ upd_same)) ?_ ?_
  .rintro n w σ' H' hw ⟨Hf',S',Fs',R',s',e'⟩
   have hn:n<ds.length:=by rw [hlen];exact (gSq.mp hw).1
   have hk:(ds.map fun p=>kD p.1)[n]?=some (kD w.1):=by
    have:=congrArg (fun l=>l[n]?) h3.1
    simp only [gMq,hw,dG] at this
    rw [gMq]
    cases hd:ds[n]? with
    | none=>rw [hd] at this;cases this
    | some dd =>
     rw [hd] at this
     rw [dG,show dd.1=w.1 from aT.inj this]
   have hlt:n<(ds.map fun p=>kD p.1).length:=by rw [lMq];exact hn
   rw [aK hlt,(gSq.mp hk).2] at e'
   obtain ⟨o2,e3,e4⟩:=oBq.mp e'
   refine hb (R'.setD x (rep_key w.1)) e3 _ ?_
   cases o2 with
   | nx S2=>exact fun Hf2 σ2 H2 Fs2 s4 R4=>⟨Hf2,S2,Fs2,R4,s'.trans s4,e4⟩
   | ct S2=>exact fun Hf2 σ2 H2 Fs2 s4 R4=>⟨Hf2,S2,Fs2,R4,s'.trans s4,e4⟩
   | bk S2=>cases e4;exact fun Hf2 σ2 H2 Fs2 s4 R4=>h _ _ _ _ ((s3.trans s').trans s4) R4
   | rt a=>cases e4;exact h
  .rintro σ' H' ⟨Hf',S',Fs',R',s',e'⟩
   rw [← hlen,show ds.length=(ds.map fun p=>kD p.1).length from (lMq _).symm,cf] at e'
   cases e'
   exact h _ _ _ _ (s3.trans s') R'
 .cases e
end
theorem fdOf_fd (kvs:List (Key×D)):fdOf (.fd kvs)=some kvs:=rfl
theorem rDGetF_ (S:AS) (a b:ME):rDGetF a b S=(a S).bind fun x=>(b x.2).bind fun y=>(fdOf x.1).bind fun kvs=>(keyOf y.1).bind fun key=>(getD kvs key).map fun d=>(d,y.2):=rfl
theorem mForK_ (S:AS) (x i:Nat) (body:MS):mForK x i body S=(owdAt S i).bind fun kvs=>ifC (x≠i) (mForL x body (kvs.map fun p=>kD p.1) (S.set i (some (.sh (.fd kvs))))):=rfl
def zqf:=aa @fdOf_fd (aa @rDGetF_ @mForK_)
end Z
namespace Mr
open PySem PySem.Spec PyProof.Rows L2
end Mr
namespace Z
open PySem L2 Mr
end Z
namespace Xe
open PySem PySem.Spec PySem.W PyProof.Rows L2 Mr
end Xe
namespace Z
open PySem L2 Mr Xe
end Z
namespace HT
open PySem PyProof.Rows
open PySem.SeqAt
open PySem.AutoSeq1 (wpAny_loadPart')
open PySem.MeetsSeq PySem.MeetsSeq2 PySem.MeetsSeq3
end HT
namespace Mr
open PySem PySem.Spec PyProof.Rows L2
end Mr
namespace Z
open PySem L2 Mr
end Z
namespace Z
open PySem L2 Mr Xe
structure InsC (K:W.Frag) (c:Str) (C:Addr):Prop where
 ns:W.nsIn K mainGlobals c=some (some (.ref C))
 cl:Cls K C
def fldI (c f:Str):D->Option D
 | .ins c' fs=>if c'=c then fs.lookup f else none
 | _=>none
def insD (c m:Str):AV->Option D
 | .sh (.ins c' fs)=>if c'=c/\fs.lookup m=none then some (.ins c' fs) else none
 | _=>none
def allSc (ds:List D):Bool:=ds.all D.scal
def kMkI (c:Str) (fl:List Str) (a:ML):MK:=fun S=>(a S).bind fun x=>if x.1.length=fl.length/\allSc x.1=true then some (.sh (.ins c (fl.zip x.1)),x.2) else none
section
variable {K:W.Frag}{H:Hp}
theorem Rep.ins_inv {c:Str}{fs:List (Str×D)}{v:V}(h:Rep K H (.ins c fs) v):∃ a C dx gs,v = .ref a/\W.nsIn K mainGlobals c=some (some (.ref C))/\H a=some (.ins C dx gs)/\fs.map (·.1)=gs.map (·.1)/\∀ (i:Nat) (d:Str×D) (v:Str×V),fs[i]?=some d->gs[i]?=some v->Rep K H d.2 v.2:=by
 cases h with
 | ins rf h l e=>exact ⟨_,_,_,_,rfl,rf,h,l,e⟩
theorem lookup_rep {f:Str}:∀ {fs:List (Str×D)}{gs:List (Str×V)},fs.map (·.1)=gs.map (·.1)->(∀ (i:Nat) (d:Str×D) (v:Str×V),fs[i]?=some d->gs[i]?=some v->Rep K H d.2 v.2)->(fs.lookup f=none->gs.lookup f=none)/\∀ d,fs.lookup f=some d->∃ v,gs.lookup f=some v/\Rep K H d v
 | [],[],_,_=>⟨fun _=>rfl,fun d h=>by cases h⟩
 | [],_::_,h,_=>by cases h
 | _::_,[],h,_=>by cases h
 | (k,d)::fs,(k',v)::gs,h,e=>by
  rw [aq,aq] at h
  injection h with h1 h2
  have h1:k=k':=h1
  subst h1
  obtain ⟨i1,i2⟩:=lookup_rep (f:=f) h2 fun i d v a b=>e (i+1) d v (by simpa using a) (by simpa using b)
  rw [gC,gC]
  cases hk:(f == k) with
  | true =>
   refine ⟨fun q=>?_,fun d' q=>?_⟩
   .cases q
   .cases q
    exact ⟨v,rfl,e 0 _ _ rfl rfl⟩
  | false=>exact ⟨i1,i2⟩
variable {c f m:Str}{C:Addr}{ta:TE}{t:TA}
theorem sr_fldI {a:ME}(I:InsC K c C) (na:NoAttr K C f) (ha:SR K ta a):SR K (tFld K ta f) (rUn (fldI c f) a):=by
 intro H₀ Hf₀ Hf S σ H Fs d S' R e Q q
 obtain ⟨x,e1,e⟩:=oBq.mp e
 obtain ⟨z,e3,e⟩:=oMq.mp e
 cases e
 refine ha R (d:=x.1) (S':=x.2) e1 _ fun Hf1 H1 Fs1 v t1 R1 r1=>?_
 cases hx:x.1 with
 | ins c' fs =>
  rw [hx] at r1 e3
  have e5:(if c'=c then fs.lookup f else none)=some d:=e3
  clear e3
  split at e5
  .rename_i hc
   subst hc
   obtain ⟨a',C',dx,gs,rfl,hns,ha',hk,he⟩:=r1.ins_inv
   rw [I.ns] at hns
   cases hns
   obtain ⟨w,hw,rw'⟩:=(lookup_rep (f:=f) hk he).2 d e5
   exact ⟨a',C,dx,gs,w,rfl,ha',I.cl,na,hw,q _ _ _ w t1 R1 rw'⟩
  .cases e5
 | _=>rw [hx] at e3;cases e3
def spIniC (C:Addr) (fl:List Str):Sp:=fun vs H Q _=>∃ (x dx:Addr) (ws:List V),vs = .ref x::ws/\ws.length=fl.length/\H x=some (.ins C dx [])/\Q .non (upd H x (.ins C dx (fl.zip ws)))
theorem zip_reps {H:Hp}:∀ {fl:List Str}{ds:List D}{vs:List V},ds.length=fl.length->Reps K H ds vs->(fl.zip ds).map (·.1)=(fl.zip vs).map (·.1)/\∀ (i:Nat) (d:Str×D) (v:Str×V),(fl.zip ds)[i]?=some d->(fl.zip vs)[i]?=some v->Rep K H d.2 v.2:=by
 intro fl ds vs hl hr
 refine ⟨?_,fun i d v e1 e2=>?_⟩
 .rw [fA (by omega),fA (by rw [← hr.1];omega)]
 .obtain ⟨_,h2⟩:=cH.mp e1
  obtain ⟨_,g2⟩:=cH.mp e2
  exact hr.2 i _ _ h2 g2
theorem sk_mkI {fl:List Str}{a:ML}{E:XK}(I:InsC K c C) (ha:SAr K t a):SK K (tMake C (spIniC C fl) [] E t) (kMkI c fl a):=by
 intro H₀ Hf₀ Hf S σ H Fs av S' R e Q q
 obtain ⟨x,e1,e⟩:=oBq.mp e
 split at e
 .rename_i hc
  cases e
  refine ha R (ds:=x.1) (S':=x.2) e1 _ fun Hf1 H1 Fs1 vs t1 R1 r1 p dx hp hdx hne=>?_
  rw [aNq]
  have hx':upd H1 dx (.own p) p=none:=by rw [upd_ne (Ne.symm hne)];exact hp
  refine ⟨p,dx,vs,rfl,by rw [← r1.1,hc.1],upd_same,rfl,?_⟩
  rw [upd_upd]
  obtain ⟨t2,R2⟩:=R1.layF (o:=.own p) hdx
  obtain ⟨t3,R3⟩:=R2.layF (o:=.ins C dx (fl.zip vs)) hx'
  have sc:∀ (i:Nat) (d:D) (v:V),x.1[i]?=some d->vs[i]?=some v->Rep K (upd (upd Hf1 dx (.own p)) p (.ins C dx (fl.zip vs))) d v:=fun i d v h1 h2=>(r1.2 i d v h1 h2).scal (fv.mp hc.2 d (mGq h1))
  obtain ⟨z1,z2⟩:=zip_reps (K:=K) (fl:=fl) hc.1 ⟨r1.1,sc⟩
  exact q _ _ _ (.ref p) [] ((t1.trans t2).trans t3) R3 (.sh (.ins I.ns upd_same z1 z2)) .nil
 .cases e
end
theorem kMkI_ (S:AS) (c:Str) (fl:List Str) (a:ML):kMkI c fl a S=(a S).bind fun x=>if x.1.length=fl.length/\allSc x.1=true then some (.sh (.ins c (fl.zip x.1)),x.2) else none:=rfl
end Z
namespace Xe
open PySem PySem.Spec PySem.W PyProof.Rows L2 Mr
def tObj (C:Addr) (m:Str) (ta:TE) (t:TA):TA:=fun σ H Q=>ta σ H fun x H1=>∃ a dx fs,x = .ref a/\H1 a=some (.ins C dx fs)/\fs.lookup m=none/\t σ H1 fun vs H2=>Q (x::vs) H2
structure MtX (P:Program) (w:World) (K:Frag) (mg:Str->Option Value) (base:Heap) (k:Nat) (C:Addr) (m:Str) (ps:List Str) (sp:Sp) (f:Addr) (fd:FuncData):Prop where
 cl:Cls K C
 mt:Meth K C m f
 b:Binds K fd ps []
 ok:FnOk P w K mg base (CXe P w) k f fd ps sp
end Xe
namespace Z
open PySem L2 Mr Xe
def aObj (c m:Str) (k:MK) (a:MA):MA:=fun S=>(k S).bind fun o=>(insD c m o.1).bind fun d=>(a o.2).map fun x=>(.sh d::x.1,x.2)
section
variable {K:W.Frag}{c m:Str}{C:Addr}{ta:TE}{t:TA}
theorem insD_eq {o:AV}{d:D}(h:insD c m o=some d):∃ fs,o = .sh (.ins c fs)/\d = .ins c fs/\fs.lookup m=none:=by
 unfold insD at h
 split at h
 .rename_i c' fs
  split at h
  .rename_i hc
   cases h
   obtain ⟨rfl,hc⟩:=hc
   exact ⟨fs,rfl,rfl,hc⟩
  .cases h
 .cases h
theorem RepAs.cons' {Hf H:Hp}{a:AV}{as:List AV}{v:V}{vs:List V}{F:List Addr}{Gs:List (List Addr)}(h:RepA K Hf H a v F) (r:RepAs K Hf H as vs Gs):RepAs K Hf H (a::as) (v::vs) (F::Gs):=by
 obtain ⟨l1,l2,e⟩:=r
 refine ⟨by simp [l1],by simp [l2],fun i b w G e1 e2 e3=>?_⟩
 cases i with
 | zero=>cases e1;cases e2;cases e3;exact h
 | succ i=>exact e i b w G (by simpa using e1) (by simpa using e2) (by simpa using e3)
theorem sa_obj {k:MK}{a:MA}(I:InsC K c C) (hk:SK K ta k) (ha:SA K t a):SA K (tObj C m ta t) (aObj c m k a):=by
 intro H₀ Hf₀ Hf S σ H Fs as S' R e Q q
 obtain ⟨o,e1,e⟩:=oBq.mp e
 obtain ⟨d,e2,e⟩:=oBq.mp e
 obtain ⟨x,e3,e⟩:=oMq.mp e
 cases e
 refine hk R (a:=o.1) (S':=o.2) e1 _ fun Hf0 H0 Fs0 v0 F0 t0 R0 r0 o0=>?_
 obtain ⟨fs,ho,hd,hl⟩:=insD_eq e2
 rw [ho] at r0
 obtain ⟨hF,rd⟩:=r0.sh_inv
 obtain ⟨a',C',dx,gs,rfl,hns,ha',hkk,he⟩:=(rd.mono R0.sub).ins_inv
 rw [I.ns] at hns
 cases hns
 refine ⟨a',dx,gs,rfl,ha',(lookup_rep (f:=m) hkk he).1 hl,ha R0 (as:=x.1) (S':=x.2) e3 _ fun Hf1 H1 Fs1 vs Gs t1 R1 r1 o1=>?_⟩
 subst hd
 refine q _ _ _ (.ref a'::vs) ([]::Gs) (t0.trans t1) R1 (RepAs.cons' (.sh (rd.mono t1.sf)) r1) ?_
 rw [fCq,eK]
 exact o1.back t0
end
theorem pe_mtX {X:Cx}{k:Nat}{C:Addr}{m:Str}{ps:List Str}{g:MFx}{f:Addr}{fd:FuncData}{pos apos:Pos}{o e:Expr}{es:List Expr}{ta:TE}{t:TA}{pl:Sem Bool}(G:MtX X.prog X.w X.K X.mg X.base k C m ps (spX X.K g) f fd) (hr:Room k X.A) (he:PE X o ta) (ha:PA X (e::es) t)
  (hst:starEach (e::es) X.env=(false,eval e X.env)::starEach es X.env:=by rfl) (hpl:(backTo pos (starEach es X.env)).any (·.1)=false:=by rfl)
  (ht:eval (.Call (.Attribute o m apos) (e::es) [] pos) X.env=(do
   let ov ← eval o X.env
   standAt apos.atName
   let (f,first) ← holding [ov] (getMethod ov m pl)
   callWith pos f first (backTo pos (starEach (e::es) X.env)) (backToKw pos (keywordEach [] X.env))):=by rfl):PE X (.Call (.Attribute o m apos) (e::es) [] pos) (tCall (spOf X.K (okX g)) [] E0 (tObj C m ta t)) :=
 pe_meth he G.cl G.mt (G.ok.imp fun _ _ _ _ h=>spX_ok h) hr G.b .nil passX0 ha hst hpl ht
theorem aObj_ (S:AS) (c m:Str) (k:MK) (a:MA):aObj c m k a S=(k S).bind fun o=>(insD c m o.1).bind fun d=>(a o.2).map fun x=>(.sh d::x.1,x.2):=rfl
structure ClsM (P:Program) (w:World) (K:W.Frag) (mg:Str->Option Value) (base:Heap) (c:Str) (C f:Addr) (fd:FuncData) (ps fl:List Str):Prop where
 mki:Mk K C f
 ok:FnOk P w K mg base CX0 1 f fd ps (spIniC C fl)
 b:Binds K fd ps []
 m:mg c=some (.ref C)
theorem pe_mkI {X:Cx}{c:Str}{C f:Addr}{fd:FuncData}{ps fl:List Str}{p pos:Pos}{e:Expr}{es:List Expr}{t:TA}(G:ClsM X.prog X.w X.K X.mg X.base c C f fd ps fl) (hr:Room 2 X.A) (ha:PA X (e::es) t) (hg:Gl X c:=by rfl) (hdb:(c == ("__debug__" : Str))=false:=by decide)
  (he:starEach (e::es) X.env=(false,eval e X.env)::starEach es X.env:=by rfl) (hpl:(backTo pos (starEach es X.env)).any (·.1)=false:=by rfl):PE X (.Call (.Name c p) (e::es) [] pos) (tMake C (spIniC C fl) [] E0 t) :=
 pe_make G.mki G.ok hr hg G.m G.b .nil pass0 ha hdb he hpl
section
variable {K:W.Frag}{C:Addr}{vs:List V}{H:Hp}{Q:VK}{E:XK}{f1 f2 f3 p1 p2 p3:Str}
theorem spIniC_len {fl:List Str}(h:spIniC C fl vs H Q E):vs.length=fl.length+1:=by
 obtain ⟨x,dx,ws,rfl,hl,_⟩:=h
 rw [lCq,hl]
theorem iniI1 (cl:Cls K C) (n1:NoAttr K C f1) (h:spIniC C [f1] vs H Q E):sFld K (tVar 0) (tVar 1) f1 { nx:=fun _ H'=>Q .non H',rt:=Q } (start ["self", p1] vs) H:=by
 obtain ⟨x,dx,ws,rfl,hl,hH,q⟩:=h
 match ws,hl with
 | [w],_=>exact ⟨w,rfl,.ref x,rfl,x,C,dx,[],rfl,hH,cl,n1,by decide,q⟩
end
end Z
namespace Mr
open PySem PySem.Spec PySem.W PyProof.Rows L2 HT
end Mr
namespace Z
open PySem L2 Mr Xe
end Z
namespace Z
open PySem PySem.Spec PySem.W PyProof.Rows L2 Mr Xe
end Z
namespace Mr
open PySem L2
open PySem.Spec PyProof.Rows
section
variable {X:Cx}
end
end Mr
namespace Z
open PySem L2 Mr Xe
def rMOp (f:D->D->Option D) (m b:ME):ME:=fun S=>(m S).bind fun x=>(b x.2).bind fun y=>(f x.1 y.1).bind fun d=>if d.scal then some (d,y.2) else none
def mAug (i:Nat) (g:Int->Int->Int) (b:ME):MS:=fun S=>(rVar i S).bind fun x=>(intOf x.1).bind fun a=>(b x.2).bind fun y=>(intOf y.1).map fun c=>.nx (y.2.set i (some (.sh (.int (g a c)))))
def mAppPM (i:Nat) (pf:MP) (mm:ME):MS:=fun S=>(pf S).bind fun x=>(owAt x.2 i).bind fun avs=>(nodeAt (.ow avs) x.1).bind fun as=>(mm (x.2.set i none)).bind fun y=>ifC (y.2[i]?=some none/\as.length<LIM) (some (.nx (y.2.set i (some (putAt (.ow avs) x.1 (as++[.sh y.1]))))))
def xRet1 (g:MF) (f:MFx) (a:MA):MX:=fun S=>(a S).bind fun x=>(f (x.1.map strip)).bind (passR fun r=>(g [strip r]).map fun z=>.ok (.rt z))
section
variable {K:W.Frag}
theorem sm_op {r:R2}{f:D->D->Option D}{ta tb:TE}{m b:ME}(hr:OpD K r f) (ha:SM K ta m) (hb:SR K tb b):SM K (tOp r ta tb) (rMOp f m b):=by
 intro H₀ Hf₀ Hf S σ H Fs d S' R e Q q
 obtain ⟨x,e1,e⟩:=oBq.mp e
 obtain ⟨y,e2,e⟩:=oBq.mp e
 obtain ⟨z,e3,e⟩:=oBq.mp e
 split at e
 .rename_i hs
  cases e
  refine ha R (d:=x.1) (S':=x.2) e1 _ fun Hf1 H1 Fs1 v1 t1 R1 r1=>hb R1 (d:=y.1) (S':=y.2) e2 _ fun Hf2 H2 Fs2 v2 t2 R2 r2=>?_
  exact hr ((r1.mono R1.sub).mono t2.sh) r2 e3 fun v rv=>q _ _ _ v (t1.trans t2.sf) R2 (rv.scal hs)
 .cases e
theorem ss_appPM {i:Nat}{tp te:TE}{pf:MP}{mm:ME}(hp:SPh K i tp pf) (hk:SM K te mm):SS K (tDrop (tBM K "list" rAppend tp (tCons te tNil))) (mAppPM i pf mm):=by
 intro H₀ Hf₀ Hf S σ H Fs o R e D h
 obtain ⟨x,e1,e⟩:=oBq.mp e
 obtain ⟨avs,e2,e⟩:=oBq.mp e
 obtain ⟨as,e3,e⟩:=oBq.mp e
 obtain ⟨y,e4,e⟩:=oBq.mp e
 rcases ifC_cases e with ⟨⟨hn,hl⟩,e⟩|e
 .cases e
  refine hp R (path:=x.1) (S':=x.2) e1 _ fun Hf1 H1 Fs1 v w t1 R1 s1 at0=>?_
  have e2':=owAt_some e2
  obtain ⟨p,vs,rfl,h1,h2⟩:=node_at R1 e2' s1 e3 at0
  obtain ⟨v',F,u1,u2,r,nd,oo,_⟩:=R1.move e2'
  rw [s1] at u1
  cases u1
  refine ⟨.inl ⟨rfl,vs,SqL.of h1⟩,hk (R1.frame u2) (d:=y.1) (S':=y.2) e4 _ fun Hf2 H2 Fs2 u t3 R2 r2=>?_⟩
  obtain ⟨k1,k2,R3⟩:=R1.unframe u2 r nd (fun q hq=>(oo q hq).1) R2 hn s1 t3
  have hlt:i<y.2.length:=(gSq.mp hn).1
  have e5:(y.2.set i (some (.ow avs)))[i]?=some (some (.ow avs)):=aF hlt
  obtain ⟨vs',g1,g2,g3⟩:=R3.grow e5 s1 e3 (at0.kept r e3 k1)
  obtain ⟨Fs',R4⟩:=g3 [.sh y.1] [u] [[]] (RepAs.nil.snoc (.sh r2)) (by simp) (fun q hq=>by simp at hq)
  rw [eP] at R4
  exact ⟨p,vs',u,rfl,rfl,g1,by rw [lim_eq,← g2];exact hl,h _ _ _ _ (t1.sf.trans t3) R4⟩
 .cases e
end
theorem rMOp_ (S:AS) (f:D->D->Option D) (m b:ME):rMOp f m b S=(m S).bind fun x=>(b x.2).bind fun y=>(f x.1 y.1).bind fun d=>if d.scal then some (d,y.2) else none:=rfl
theorem mAppPM_ (S:AS) (i:Nat) (pf:MP) (mm:ME):mAppPM i pf mm S=(pf S).bind fun x=>(owAt x.2 i).bind fun avs=>(nodeAt (.ow avs) x.1).bind fun as=>(mm (x.2.set i none)).bind fun y=>ifC (y.2[i]?=some none/\as.length<LIM) (some (.nx (y.2.set i (some (putAt (.ow avs) x.1 (as++[.sh y.1])))))):=rfl
def zqg:=aa @rMOp_ @mAppPM_
def zqa:=aa zq (aa zq3 (aa zq4 (aa zq5 (aa zq6 (aa zq9 (aa zqb (aa zqd (aa zqe (aa zqf (zqg))))))))))
end Z
local macro_rules | `(tactic| simp_arith [$ls,*]) => `(tactic| simp -implicitDefEqProofs only [Z.zqa,gS,gT,gD,gE,fU,↓reduceIte,reduceCtorEq,$ls,*])
namespace Z
open PySem PySem.Spec PySem.W PyProof.Rows L2 Mr Xe
end Z
namespace Z
open PySem L2 Mr Xe
end Z
namespace HT
open PySem PyProof.Rows
open PySem.SeqAt
open PySem.AutoSeq1 (wpAny_loadPart')
open PySem.MeetsSeq PySem.MeetsSeq2 PySem.MeetsSeq3
end HT
namespace Mr
open PySem L2
open PySem.Spec PyProof.Rows
end Mr
namespace Z
open PySem L2 Mr Xe
end Z
namespace Mr
open PySem PySem.Calls PySem.Spec PyProof.Rows L2
section
variable {X:Cx}
def rCntI (K:W.Frag):V->List V->Hp->VK->Prop:=fun x vs H Q=>∃ (a:Addr) (ns:List Int) (k:Int),x = .ref a/\vs=[.int k]/\SqL K H a (ns.map V.int)/\Q (.int (ns.count k:Nat)) H
theorem cnt_isInt (k:Int) {its:List Value}{ns:List Int}(hl:its.length=ns.length) (h:∀ (j:Nat) (h1:j<its.length) (h2:j<ns.length),isInt k its[j]=decide (ns[j]=k)):its.countP (isInt k)=ns.count k:=by
 have e:its.map (isInt k)=ns.map fun n=>n == k:=by
  refine gA (by simp [hl]) fun j h1 h2=>?_
  rw [gF,gF,h j (by simpa using h1) (by simpa using h2)]
  rfl
 have h1:its.countP (isInt k)=(its.map (isInt k)).countP id:=by rw [dH];rfl
 have h2:ns.count k=(ns.map fun n=>n == k).countP id:=by rw [dH];rfl
 rw [h1,e,h2]
theorem mt_cntI:MtR X "list.count" (rCntI X.K):=by
 intro pins s σ H x xs v us Q I rx r h
 obtain ⟨a,ns,k,rfl,rfl,hS,q⟩:=h
 cases rx
 obtain ⟨u,rfl,t,rfl⟩:=vals1 r
 obtain ⟨its,rv,⟨o,n,ho,hc,hd0,hd⟩,hz⟩:=I.list hS
 have hi:=intsAre_of rv
 obtain ⟨cls,dd,data,sl⟩:=o
 simp only at hc hd0 hd
 subst hc hd0 hd
 have hlen:=hi.length
 refine call_meets cW ⟨_,ho,rfl⟩ fk (ff _ _)
  (SeqAt.list_countAt a its.toArray n none sl (.int k t) (isInt k)) ⟨ho,fun y hy=>(eq_isInt k t hi y (by simpa using hy)).at _ _,?_⟩
 refine ⟨.int _,H,I.tok _,⟨_,rfl⟩,?_⟩
 rw [gb,cnt_isInt k hlen fun j h1 h2=>isInt_at k hi j h1 h2]
 exact q
end
end Mr
namespace Z
open PySem L2 Mr Xe
def fCntI:D->List D->Option D
 | .list ds,[.int k]=>(intsOf ds).map fun ns=>.int (ns.count k:Nat)
 | _,_=>none
theorem bm_cntI {K:W.Frag}:BmD K (rCntI K) fCntI:=by
 intro x vs H Q dx ds d rx rs e q
 unfold fCntI at e
 split at e
 .rename_i es k
  obtain ⟨ns,e1,e⟩:=oMq.mp e
  cases e
  obtain ⟨v,ws,rfl,h1,h2⟩:=rs.cons_inv
  rw [h2.nil_inv]
  cases h1
  rw [intsOf_eq e1] at rx
  obtain ⟨p,us,rfl,h3,h4⟩:=rx.list_inv
  rw [reps_ints_inv h4] at h3
  exact ⟨p,ns,k,rfl,rfl,SqL.of h3,q _ .int⟩
 .cases e
theorem fCntI_ (ns:List Int) (k:Int):fCntI (.list (ns.map .int)) [.int k]=some (.int (ns.count k:Nat)):=by
 show (intsOf (ns.map D.int)).map _=_
 rw [intsOf_map]
 rfl
end Z
namespace Zl
open PySem L2 Mr Z
def mf_is_end:MS:=(mRet (kSc (rAnd (rOp dNe (rVar 0) (rC (.int 0))) (rOp dLt (rCB fAbs (arCons (rVar 0) arNil)) (rOp dPow (rC (.int 10)) (rC (.int 60)))))))
def f_is_end:MF:=runF 1 1 mf_is_end
def mf_turned:MS:=(mSeq (mIf (tOf (rOp dEq (rCB fLen (arCons (rVar 0) arNil)) (rC (.int 0)))) (mRet (kLst aNil)) mNext)
 (mSeq (mAsg 1 (kSc (rBM "list" fIndex (rVar 0) (arCons (rCB fMin (arCons (rVar 0) arNil)) arNil))))
 (mRet (kCat (lOf (kSl (qVar 0) (oSome (rVar 1)) oNone)) (lOf (kSl (qVar 0) oNone (oSome (rVar 1))))))))
def f_turned:MF:=runF 1 2 mf_turned
def mb_told_ends_0:MS:=(mExt 1 (lVar 2))
def mf_told_ends:MS:=(mSeq (mAsg 1 (kLst aNil))
 (mSeq (mFor 2 (kVar 0) mb_told_ends_0)
 (mRet (kMov 1))))
def f_told_ends:MF:=runF 1 3 mf_told_ends
def mf_L_cell_at:MS:=(mSeq (mIf (tOf (rOp dLt (rVar 1) (rCB fLen (arCons (rVar 0) arNil)))) (mRet (kSc (rOp dIx (rVar 0) (rVar 1)))) mNext)
 (mRet (kSc (rC (.int 0)))))
def f_L_cell_at:MF:=runF 2 2 mf_L_cell_at
def mf_in_good_order:MS:=(mRet (kSortRO (kComp (iLst (kVar 0)) [] tAllM (kCall Zl.f_turned (aCons (kVar 0) aNil)))))
def f_in_good_order:MF:=runF 1 1 mf_in_good_order
def mb_refuse_no_end'_0:MX:=(xIf (tNotM (tOf (rCall Zl.f_is_end (arCons (rVar 1) arNil)))) (xRaise "NoEnd" "end" (arCons (rVar 1) arNil)) (xOf mNext))
def mf_refuse_no_end':MX:=(xFor 1 (kVar 0) mb_refuse_no_end'_0)
def f_refuse_no_end':MFx:=runX 1 2 mf_refuse_no_end'
def mb_refuse_twice'_0:MX:=(xSeq (xIf (tOf (rDIn (rVar 2) (rVar 1))) (xRaise "Twice" "end" (arCons (rVar 2) arNil)) (xOf mNext)) (xOf (mDPut 1 (rVar 2) (kSc (rC (.bl true))))))
def mf_refuse_twice':MX:=(xSeq (xOf (mAsg 1 kDict))
 (xFor 2 (kVar 0) mb_refuse_twice'_0))
def f_refuse_twice':MFx:=runX 1 3 mf_refuse_twice'
def mb_refuse_lone'_0:MS:=(mDPut 1 (rVar 2) (kSc (rC (.bl true))))
def mb_refuse_lone'_1:MX:=(xIf (tOf (rDNotIn (rUn dNeg (rVar 2)) (rVar 1))) (xRaise "Lone" "end" (arCons (rVar 2) arNil)) (xOf mNext))
def mf_refuse_lone':MX:=(xSeq (xOf (mAsg 1 kDict))
 (xSeq (xOf (mFor 2 (kVar 0) mb_refuse_lone'_0))
 (xFor 2 (kVar 0) mb_refuse_lone'_1)))
def f_refuse_lone':MFx:=runX 1 3 mf_refuse_lone'
def mf_refuse_too_many':MX:=(xSeq (xIf (tOf (rOp dGt (rCB fLen (arCons (rOf (kCall Zl.f_told_ends (aCons (kVar 0) aNil))) arNil)) (rC (.int 128)))) (xRaise0 "TooMany") (xOf mNext))
 (xIf (tOf (rOp dGt (rCnt0 (rVar 0)) (rC (.int 128)))) (xRaise0 "TooMany") (xOf mNext)))
def f_refuse_too_many':MFx:=runX 1 1 mf_refuse_too_many'
def mf_map_of'':MX:=(xSeq (xOf (mAsg 1 (kCall Zl.f_told_ends (aCons (kVar 0) aNil))))
 (xSeq (xDrop Zl.f_refuse_no_end' (aCons (kVar 1) aNil))
 (xSeq (xDrop Zl.f_refuse_twice' (aCons (kVar 1) aNil))
 (xSeq (xDrop Zl.f_refuse_lone' (aCons (kVar 1) aNil))
 (xSeq (xDrop Zl.f_refuse_too_many' (aCons (kVar 0) aNil))
 (xOf (mRet (kCall Zl.f_in_good_order (aCons (kVar 0) aNil)))))))))
def f_map_of'':MFx:=runX 1 2 mf_map_of''
def mf_ends_of:MS:=(mRet (kSortI (lOf (kCall Zl.f_told_ends (aCons (kVar 0) aNil)))))
def f_ends_of:MF:=runF 1 1 mf_ends_of
def mf_roads_of:MS:=(mRet (kComp (iLst (kCall Zl.f_ends_of (aCons (kVar 0) aNil))) [] (tOf (rOp dGt (rVar 0) (rC (.int 0)))) (kVar 0)))
def f_roads_of:MF:=runF 1 1 mf_roads_of
def mb_places_at_0:MS:=(mDPut 1 (rVar 4) (kVar 2))
def mb_places_at_1:MS:=(mFor 4 (kVar 3) mb_places_at_0)
def mf_places_at:MS:=(mSeq (mAsg 1 kDict)
 (mSeq (mForE 2 3 (kVar 0) mb_places_at_1)
 (mRet (kMov 1))))
def f_places_at:MF:=runF 1 5 mf_places_at
theorem cell_ok (ns:List Int) {k:Int}(h:0<=k):f_L_cell_at [.scr ns,.int k]=some (.sh (.int (cell ns k.toNat))):=by
 by_cases c:k<(ns.length:Int)
 .have hk:k.toNat<ns.length:=by lia
  have e:ns.getD k.toNat 0=ns[k.toNat]:=getD_eq hk
  simp_arith [f_L_cell_at,mf_L_cell_at,c,atI_pos h,gEg hk,cell,e]
 .have hk:ns.length<=k.toNat:=by lia
  have e:ns.getD k.toNat 0=0:=by rw [gDq,cw hk];rfl
  simp_arith [f_L_cell_at,mf_L_cell_at,c,cell,e]
theorem least_min {n:Int}{ns:List Int}:ns.foldl min n∈n::ns/\∀ x∈n::ns,ns.foldl min n<=x:=⟨foldl_min_mem ns n,fun x hx=>(ai.mp hx).elim (fun e=>e ▸ (foldl_min_le ns n).1) ((foldl_min_le ns n).2 x)⟩
theorem turned_ok {ns:List Int}(hl:ns.length<=500000):f_turned [dI ns]=some (aI (good ns)):=by
 cases ns with
 | nil =>
  have h1:((0:Nat):Int)=0:=rfl
  simp_arith [f_turned,mf_turned,h1]
  rfl
 | cons n ns =>
  obtain ⟨h1,h2⟩:=least_min (n:=n) (ns:=ns)
  have e:=idxOf_least h1 h2
  have hle:=leastAt_le (n::ns)
  have hne:¬ ((n::ns).length:Int)=0:=by simp only [lCq];lia
  have hm:fMin [dI (n::ns)]=some (.int (ns.foldl min n)):=by
   show (intsOf ((n::ns).map D.int)).bind (fun ns=>(leastOf ns).map D.int)=_
   rw [intsOf_map]
   rfl
  have hx:fIndex (dI (n::ns)) [.int (ns.foldl min n)]=some (.int (leastAt (n::ns) (n::ns).length:Nat)):=by
   show (intsOf ((n::ns).map D.int)).bind _=_
   rw [intsOf_map]
   show (if _ then _ else _)=_
   rw [if_pos h1,e]
  generalize hN:n::ns=N at *
  have hlen:(N.drop (leastAt N N.length)).length+(N.take (leastAt N N.length)).length<=LIM:=by rw [aU,lTq];show _<=16777216;lia
  simp_arith [f_turned,mf_turned,hne,hm,hx,cutG_map,cutG_to N _ hle,cutG_from N _ hle,hlen,← mBq,map_sh2]
  rfl
theorem flatten_take_succ {rs:List (List Int)}{i:Nat}{r:List Int}(h:rs[i]?=some r):(rs.take (i+1)).flatten=(rs.take i).flatten++r:=by
 rw [dr,h,fAq]
 simp
theorem flatten_take_le (rs:List (List Int)) (i:Nat):(rs.take i).flatten.length<=rs.flatten.length:=by
 have:=congrArg bY (congrArg List.flatten (bt i rs))
 rw [fAq,lAq] at this
 lia
theorem getD_ok {rs:List (List Int)}{i:Nat}{d:D}(h:(rs.map dI)[i]?=some d):∃ r,rs[i]?=some r/\d=dI r:=by
 rw [gMq] at h
 obtain ⟨r,h1,h2⟩:=oMq.mp h
 exact ⟨r,h1,h2.symm⟩
theorem getI_ok {ns:List Int}{i:Nat}{d:D}(h:(ns.map D.int)[i]?=some d):∃ z,ns[i]?=some z/\d = .int z:=by
 rw [gMq] at h
 obtain ⟨r,h1,h2⟩:=oMq.mp h
 exact ⟨r,h1,h2.symm⟩
theorem told_ok {rs:List (List Int)}(hl:rs.flatten.length<=500000):f_told_ends [dM rs]=some (aI rs.flatten):=by
 have key:=forL0 (x:=2) (body:=mb_told_ends_0) (fun i S=>∃ v,S=[some (.sh (dM rs)),some (aI (rs.take i).flatten),v]) (ds:=rs.map dI) (S:=[some (.sh (dM rs)),some (.ow []),none]) ⟨none,by simp⟩ (by
  rintro i d S hd ⟨v,rfl⟩
  obtain ⟨r,hr,rfl⟩:=getD_ok hd
  have h1:=flatten_take_succ hr
  have h2:=flatten_take_le rs (i+1)
  rw [h1,lAq] at h2
  have h3:(rs.take i).flatten.length+r.length<=LIM:=by show _<=16777216;lia
  refine ⟨_,?_,some (.sh (dI r)),rfl⟩
  rw [h1]
  simp_arith [mb_told_ends_0,h3,map_sh2,← mBq])
 obtain ⟨S',e,v,rfl⟩:=key
 rw [lMq,bu] at e
 simp_arith [f_told_ends,mf_told_ends,e]
theorem mem_dM {rs:List (List Int)}{d:D}(h:d∈rs.map dI):∃ r∈rs,d=dI r:=by
 obtain ⟨r,h1,h2⟩:=mMq.mp h
 exact ⟨r,h1,h2.symm⟩
def undI:D->List Int
 | .list ds=>(intsOf ds).getD []
 | _=>[]
theorem undI_dI (r:List Int):undI (dI r)=r:=by
 show (intsOf (r.map D.int)).getD []=r
 rw [intsOf_map]
 rfl
theorem map_undI {β:Type}(g:List Int->β) (rs:List (List Int)):(rs.map dI).map (fun d=>g (undI d))=rs.map g:=by
 rw [mPq]
 exact mCq fun r _=>by show g (undI (dI r))=g r;rw [undI_dI]
theorem turned_comp {rs:List (List Int)}(hl:∀ r∈rs,r.length<=500000):mCompL tAllM (kCall f_turned (aCons (kVar 0) aNil)) [] (rs.map dI)=some ((rs.map good).map aI):=by
 rw [comp_map (fun d=>aI (good (undI d)))]
 .rw [map_undI (fun r=>aI (good r)),mPq]
  rfl
 .intro d hd
  obtain ⟨r,hr,rfl⟩:=mem_dM hd
  refine ⟨[some (.sh (dI r))],?_⟩
  simp_arith [turned_ok (hl r hr),undI_dI]
theorem at_dM {ts:List (List Int)}{a:Nat}(h:a<ts.length):atI (ts.map dI) (a:Int)=some (dI (ts.getD a [])):=by
 rw [atI_map,atI_pos (by lia),cE,gDq,gEg h]
 rfl
theorem in_good_order_ok {rs:List (List Int)}(hl:∀ r∈rs,r.length<=500000) (h7:rs.length<=LIM):f_in_good_order [dM rs]=some (.ow ((srt (rs.map good)).map aI)):=by
 have h6:=turned_comp (rs:=rs) hl
 simp_arith [f_in_good_order,mf_in_good_order,h6,h7]
end Zl
--ZQ3 --ZQ4
namespace Zl
open PySem L2 Mr Z Xe
def bare (rs:List (List Int)):Nat:=rs.countP (·=([]:List Int))
theorem many_x {rs:List (List Int)}(hl:rs.flatten.length<=500000):f_refuse_too_many' [dM rs]=some (if rs.flatten.length<=128/\bare rs<=128 then .ok (.sh .non) else .ex "TooMany" []):=by
 have ht:=told_ok hl
 unfold bare
 by_cases c1:rs.flatten.length<=128
 .have h4:¬ (128:Int)<(rs.flatten.length:Int):=by lia
  by_cases c2:rs.countP (·=([]:List Int))<=128
  .have h5:¬ (128:Int)<(rs.countP (·=([]:List Int)):Nat):=by lia
   rw [if_pos ⟨c1,c2⟩]
   simp_arith [f_refuse_too_many',mf_refuse_too_many',ht,h4,h5]
  .have h5:(128:Int)<(rs.countP (·=([]:List Int)):Nat):=by lia
   rw [if_neg fun z=>c2 z.2]
   simp_arith [f_refuse_too_many',mf_refuse_too_many',ht,h4,h5]
 .have h4:(128:Int)<(rs.flatten.length:Int):=by lia
  rw [if_neg fun z=>c1 z.1]
  simp_arith [f_refuse_too_many',mf_refuse_too_many',ht,h4]
section
variable {rs:List (List Int)}(hl:rs.flatten.length<=500000)
include hl
end
theorem flat_good (rs:List (List Int)):(srt (rs.map good)).flatten.Perm rs.flatten:=(flatten_perm (srt_perm _)).trans (flatten_map_perm good_perm rs)
end Zl
namespace Zl
open PySem L2 Mr Z
theorem ends_ok {rs:List (List Int)}(hl:rs.flatten.length<=500000):f_ends_of [dM rs]=some (aI (srtI rs.flatten)):=by
 simp_arith [f_ends_of,mf_ends_of,told_ok hl]
theorem fil_comp (ns:List Int):mCompL (tOf (rOp dGt (rVar 0) (rC (.int 0)))) (kVar 0) [] (ns.map D.int)=some ((ns.filter fun z=>decide (0<z)).map fun n=>.sh (.int n)):=by
 rw [Z.comp_filter (fun d=>match d with|.int z=>decide (0<z)|_=>false) (fun d=>.sh d)]
 .rw [dJ,mPq]
  rfl
 .intro d hd
  obtain ⟨z,hz,rfl⟩:=mMq.mp hd
  refine ⟨[some (.sh (.int z))],?_,fun _=>⟨[some (.sh (.int z))],?_⟩⟩
  .simp_arith []
  .simp_arith []
theorem roads_ok {rs:List (List Int)}(hl:rs.flatten.length<=500000):f_roads_of [dM rs]=some (aI ((srtI rs.flatten).filter fun z=>decide (0<z))):=by
 have h1:(srtI rs.flatten).length<=LIM:=le_lim (by rw [(srtI_perm _).length_eq];lia)
 simp_arith [f_roads_of,mf_roads_of,ends_ok hl,h1,fil_comp]
def rowKv (p:Nat) (r:List Int):List (Key×D):=r.map fun e=>(.inl e,.int (p:Int))
def kvFrom:Nat->List (List Int)->List (Key×D)
 | _,[]=>[]
 | p,r::rs=>rowKv p r++kvFrom (p+1) rs
theorem kvFrom_snoc (r:List Int):∀ (rs:List (List Int)) (p:Nat),kvFrom p (rs++[r])=kvFrom p rs++rowKv (p+rs.length) r
 | [],p=>by simp [kvFrom]
 | s::rs,p=>by
  show rowKv p s++kvFrom (p+1) (rs++[r])=(rowKv p s++kvFrom (p+1) rs)++_
  rw [kvFrom_snoc r rs (p+1),ak,lCq,show p+1+rs.length=p+(rs.length+1) by lia]
theorem kvFrom_keys:∀ (rs:List (List Int)) (p:Nat),(kvFrom p rs).map (·.1)=rs.flatten.map aO
 | [],p=>rfl
 | r::rs,p=>by
  show (rowKv p r++kvFrom (p+1) rs).map (·.1)=_
  rw [mBq,kvFrom_keys rs (p+1),fCq,mBq]
  congr 1
  unfold rowKv
  rw [mPq]
  rfl
theorem kvFrom_len (rs:List (List Int)) (p:Nat):(kvFrom p rs).length=rs.flatten.length:=by
 have:=congrArg bY (kvFrom_keys rs p)
 rwa [lMq,lMq] at this
theorem putD_new {kvs:List (Key×D)}{k:Key}{d:D}(h:k∉kvs.map (·.1)):putD kvs k d=kvs++[(k,d)]:=by
 unfold putD
 rw [if_neg]
 intro e
 obtain ⟨kv,hk,e⟩:=fB.mp e
 exact h (mMq.mpr ⟨kv,hk,of_decide_eq_true e⟩)
theorem getD_app {k:Key}:∀ {a b:List (Key×D)},k∉a.map (·.1)->Z.getD (a++b) k=Z.getD b k
 | [],b,_=>rfl
 | x::a,b,h=>by
  unfold Z.getD
  rw [List.cons_append,cg (by
   intro e
   exact h (by rw [← of_decide_eq_true e];simp))]
  exact getD_app (k:=k) (a:=a) (b:=b) fun m=>h (by simp only [aq,ai];exact .inr m)
theorem getD_row {p:Nat}{e:Int}{b:List (Key×D)}:∀ {r:List Int},e∈r->Z.getD (rowKv p r++b) (.inl e)=some (.int p)
 | [],h=>by cases h
 | x::r,h=>by
  unfold Z.getD
  show ((((aO x:Key),D.int (p:Int))::(rowKv p r++b)).find? _).map _=_
  by_cases c:x=e
  .subst c
   rw [dm (by simp)]
   rfl
  .rw [cg (by simp [c])]
   exact getD_row (r:=r) ((ai.mp h).resolve_left fun z=>c z.symm)
theorem getD_kv {e:Int}{r:List Int}:∀ {rs:List (List Int)}{i:Nat}(p:Nat),rs.flatten.Nodup->rs[i]?=some r->e∈r->Z.getD (kvFrom p rs) (.inl e)=some (.int ((p+i:Nat):Int))
 | [],i,p,_,h,_=>by simp at h
 | s::rs,0,p,hn,h,he=>by
  simp at h
  subst h
  exact getD_row he
 | s::rs,i+1,p,hn,h,he=>by
  rw [fCq,nAq] at hn
  have h':rs[i]?=some r:=by simpa using h
  have:=getD_kv (rs:=rs) (i:=i) (p+1) hn.2.1 h' he
  rw [show p+1+i=p+(i+1) by lia] at this
  rw [← this]
  refine getD_app ?_
  unfold rowKv
  rw [mPq]
  intro m
  obtain ⟨x,hx,e2⟩:=mMq.mp m
  cases e2
  exact hn.2.2 _ hx _ (mFq.mpr ⟨r,mGq h',he⟩) rfl
theorem places_at_ok {rs:List (List Int)}(hn:rs.flatten.Nodup) (hl:rs.flatten.length<=500000):f_places_at [dM rs]=some (.owd (kvFrom 0 rs)):=by
 have key:=forE0 (x:=2) (y:=3) (k:=0) (body:=mb_places_at_1) (fun i S=>∃ v2 v3 v4,S=[some (.sh (dM rs)),some (.owd (kvFrom 0 (rs.take i))),v2,v3,v4]) (ds:=rs.map dI) (S:=[some (.sh (dM rs)),some (.owd []),none,none,none]) ⟨none,none,none,rfl⟩ (by
  rintro i d S hd ⟨v2,v3,v4,rfl⟩
  rw [bI]
  obtain ⟨r,hr,rfl⟩:=getD_ok hd
  have hfl:=flatten_take_succ hr
  have hle:=flatten_take_le rs (i+1)
  have hi:i<rs.length:=(gSq.mp hr).1
  have hnd:((rs.take i).flatten++r).Nodup:=by
   rw [← hfl]
   have e0:rs.flatten=(rs.take (i+1)).flatten++(rs.drop (i+1)).flatten:=by rw [← fAq,bt]
   rw [e0] at hn
   exact (nAq.mp hn).1
  rw [hfl,lAq] at hle
  have k2:=forL0 (x:=4) (body:=mb_places_at_0) (fun j S=>∃ v4,S=[some (.sh (dM rs)),some (.owd (kvFrom 0 (rs.take i)++rowKv i (r.take j))),some (.sh (.int i)),some (.sh (dI r)),v4]) (ds:=r.map D.int) (S:=[some (.sh (dM rs)),some (.owd (kvFrom 0 (rs.take i))),some (.sh (.int i)),some (.sh (dI r)),v4]) ⟨v4,by simp [rowKv]⟩ (by
   rintro j d S hd ⟨v4,rfl⟩
   obtain ⟨z,hz,rfl⟩:=getI_ok hd
   have hj:j<r.length:=(gSq.mp hz).1
   have h3:(kvFrom 0 (rs.take i)++rowKv i (r.take j)).length<LIM:=lt_lim (by
    rw [lAq,kvFrom_len]
    unfold rowKv
    rw [lMq,lTq]
    lia)
   have hput:putD (kvFrom 0 (rs.take i)++rowKv i (r.take j)) (.inl z) (.int (i:Int))=kvFrom 0 (rs.take i)++rowKv i (r.take (j+1)):=by
    rw [putD_new]
    .unfold rowKv
     rw [take_snoc hz,mBq,ak]
     rfl
    .rw [mBq,kvFrom_keys]
     intro m
     have e1:r.take (j+1)=r.take j++[z]:=take_snoc hz
     rcases mAq.mp m with m|m
     .obtain ⟨x,hx,e2⟩:=mMq.mp m
      cases e2
      exact (nAq.mp hnd).2.2 _ hx _ (mGq hz) rfl
     .unfold rowKv at m
      rw [mPq] at m
      obtain ⟨x,hx,e2⟩:=mMq.mp m
      cases e2
      have:=aR.sublist (bj (j+1) r) (nAq.mp hnd).2.1
      rw [e1] at this
      exact (nAq.mp this).2.2 _ hx _ (by simp) rfl
   refine ⟨_,?_,some (.sh (.int z)),rfl⟩
   simp_arith [mb_places_at_0,h3,hput])
  obtain ⟨S2,e2,w4,rfl⟩:=k2
  rw [lMq,bu] at e2
  refine ⟨_,?_,some (.sh (.int i)),some (.sh (dI r)),w4,rfl⟩
  rw [take_snoc hr,kvFrom_snoc,lTq,dh (by lia),bI]
  simp_arith [mb_places_at_1,e2])
 obtain ⟨S',e,v2,v3,v4,rfl⟩:=key
 rw [bI,lMq,bu] at e
 simp_arith [f_places_at,mf_places_at,e]
theorem while_ok {c:MT}{body:MS}(P:AS->Prop) (μ:AS->Nat) (Qf:AS->Prop) (h:∀ S,P S->∃ b S1,c S=some (b,S1)/\(b=true->∃ S2,body S1=some (.nx S2)/\P S2/\μ S2<μ S)/\(b=false->Qf S1)) :
  ∀ (fuel:Nat) (S:AS),P S->μ S<fuel->∃ S',mWhile c body fuel S=some (.nx S')/\Qf S'
 | 0,S,_,hm=>absurd hm (cD _)
 | n+1,S,hp,hm=>by
  obtain ⟨b,S1,e1,h1,h2⟩:=h S hp
  rw [mWhile_,e1,Option.bind_some]
  cases b with
  | true =>
   obtain ⟨S2,e2,p2,m2⟩:=h1 rfl
   rw [if_pos rfl,e2]
   exact while_ok P μ Qf h n S2 p2 (by lia)
  | false =>
   rw [if_neg (by simp)]
   exact ⟨S1,rfl,h2 rfl⟩
end Zl
--ZQ3 --ZQ4 --ZQ5 --ZQ6 --ZQ8 --ZQ9 --ZQB
namespace Zl
open PySem L2 Mr Z Xe
def addN (kn:List Nat) (t:Nat):List Nat:=if t∈kn then kn else kn++[t]
def plc (rs:List (List Int)) (e:Int):Nat:=rs.findIdx fun r=>decide (e∈r)
theorem same_place {rs:List (List Int)}(hn:rs.flatten.Nodup) {i j:Nat}{r s:List Int}{e:Int}(hi:rs[i]?=some r) (hj:rs[j]?=some s) (h1:e∈r) (h2:e∈s):i=j:=by
 have a:=getD_kv 0 hn hi h1
 have b:=getD_kv 0 hn hj h2
 rw [a] at b
 have:=D.int.inj (aT.inj b)
 omega
theorem plc_eq {rs:List (List Int)}(hn:rs.flatten.Nodup) {i:Nat}{r:List Int}{e:Int}(hi:rs[i]?=some r) (h1:e∈r):plc rs e=i:=by
 have hl:rs.findIdx (fun r=>decide (e∈r))<rs.length:=cJ ⟨r,mGq hi,decide_eq_true h1⟩
 have h2:=eJ (xs:=rs) (p:=fun r=>decide (e∈r)) (w:=hl)
 exact same_place hn (gEg hl) hi (of_decide_eq_true h2) h1
structure Mp (rs:List (List Int)):Prop where
 hn:rs.flatten.Nodup
 hl:rs.flatten.length<=1000
 hr:rs.length<=1000
 hneg:∀ e∈rs.flatten, -e∈rs.flatten
theorem Mp.at {rs:List (List Int)}(h:Mp rs) {e:Int}(he:e∈rs.flatten):∃ r,rs[plc rs e]?=some r/\e∈r:=by
 obtain ⟨r,h1,h2⟩:=mFq.mp he
 obtain ⟨i,h3⟩:=bJ.mp h1
 exact ⟨r,by rw [plc_eq h.hn h3 h2];exact h3,h2⟩
theorem Mp.kv {rs:List (List Int)}(h:Mp rs) {e:Int}(he:e∈rs.flatten):Z.getD (kvFrom 0 rs) (aO e)=some (.int (plc rs e:Int)):=by
 obtain ⟨r,h1,h2⟩:=h.at he
 have:=getD_kv 0 h.hn h1 h2
 rwa [bI] at this
theorem Mp.lt {rs:List (List Int)}(h:Mp rs) {e:Int}(he:e∈rs.flatten):plc rs e<rs.length:=by
 obtain ⟨r,h1,_⟩:=h.at he
 exact (gSq.mp h1).1
def nbS (rs:List (List Int)) (k:Nat) (ks:List Nat) (e:Int):List Nat:=if plc rs (-e)=k then ks else addN ks (plc rs (-e))
def nb (rs:List (List Int)) (k:Nat) (r:List Int):List Nat:=r.foldl (nbS rs k) []
theorem fold_take {α β:Type}{f:α->β->α}{a:α}{r:List β}{i:Nat}{e:β}(he:r[i]?=some e):(r.take (i+1)).foldl f a=f ((r.take i).foldl f a) e:=by
 obtain ⟨hi,h2⟩:=gSq.mp he
 rw [cK hi,fg,h2]
 rfl
def itr (f:Int->Int):Nat->Int->Int
 | 0,e=>e
 | n+1,e=>f (itr f n e)
theorem itr_add (f:Int->Int) (m:Nat) (e:Int):∀ n:Nat,itr f (n+m) e=itr f n (itr f m e)
 | 0=>by rw [bI];rfl
 | n+1=>by rw [Nat.add_right_comm];show f (itr f (n+m) e)=f (itr f n (itr f m e));rw [itr_add f m e n]
theorem pigE:∀ (l E:List Int),l.Nodup->(∀ x∈l,x∈E)->l.length<=E.length
 | [],E,_,_=>ba _
 | x::l,E,hn,h=>by
  have hn':=aL.mp hn
  have hx:=h x (bb ..)
  have h2:=pigE l (E.erase x) hn'.2 (fun y hy=>by
   refine (List.mem_erase_of_ne ?_).mpr (h y (mCo _ hy))
   intro e
   exact hn'.1 (e ▸ hy))
  rw [fo hx] at h2
  have:=ee hx
  rw [lCq]
  omega
theorem least_of {p:Nat->Prop}:∀ n,p n->∃ m,m<=n/\p m/\∀ j,j<m->¬ p j:=by
 intro n
 induction n using Nat.strongRecOn with
 | _ n ih =>
  intro h
  by_cases c:∃ j,j<n/\p j
  .obtain ⟨j,hj,pj⟩:=c
   obtain ⟨m,h1,h2,h3⟩:=ih j hj pj
   exact ⟨m,by omega,h2,h3⟩
  .exact ⟨n,af _,h,fun j hj pj=>c ⟨j,hj,pj⟩⟩
structure One (f:Int->Int) (E:List Int):Prop where
 nd:E.Nodup
 to:∀ e∈E,f e∈E
 inj:∀ a∈E,∀ b∈E,f a=f b->a=b
section
variable {f:Int->Int}{E:List Int}
theorem One.itr_mem (h:One f E) {e:Int}(he:e∈E):∀ n,itr f n e∈E
 | 0=>he
 | n+1=>h.to _ (h.itr_mem he n)
theorem One.itr_inj (h:One f E) {a b:Int}(ha:a∈E) (hb:b∈E):∀ n,itr f n a=itr f n b->a=b
 | 0,e=>e
 | n+1,e=>h.itr_inj ha hb n (h.inj _ (h.itr_mem ha n) _ (h.itr_mem hb n) e)
theorem One.cut (h:One f E) {e:Int}(he:e∈E) {i j:Nat}(hij:i<=j) (q:itr f i e=itr f j e):itr f (j-i) e=e:=by
 have e1:itr f j e=itr f i (itr f (j-i) e):=by rw [← itr_add];congr 1;omega
 rw [e1] at q
 exact (h.itr_inj he (h.itr_mem he _) i q).symm
structure Cy (f:Int->Int) (e:Int) (l:List Int):Prop where
 len:1<=l.length
 get:l=(bf l.length).map fun n=>itr f n e
 back:itr f l.length e=e
 nd:l.Nodup
theorem One.cy (h:One f E) {e:Int}(he:e∈E):∃ l,Cy f e l/\l.length<=E.length/\∀ j,0<j->j<l.length->itr f j e≠e:=by
 have hex:∃ k,1<=k/\k<=E.length/\itr f k e=e:=by
  by_cases c:((bf (E.length+1)).map fun n=>itr f n e).Nodup
  .have:=pigE _ E c (fun x hx=>by obtain ⟨n,_,rfl⟩:=mMq.mp hx;exact h.itr_mem he n)
   rw [lMq,aZ] at this
   omega
  .rw [aH,aY] at c
   have:∃ i j,i<j/\j<E.length+1/\itr f i e=itr f j e:=by
    by_cases d:∃ i j,i<j/\j<E.length+1/\itr f i e=itr f j e
    .exact d
    .exfalso
     refine c ?_
     refine aR.imp_of_mem (R:=fun a b=>a<b) (fun {a b} ha hb hab q=>d ⟨a,b,hab,cj.mp hb,q⟩) fL
   obtain ⟨i,j,hij,hj,q⟩:=this
   exact ⟨j-i,by omega,by omega,h.cut he (bX hij) q⟩
 obtain ⟨k,h1,h2,h3⟩:=hex
 obtain ⟨m,m1,⟨m2,m3⟩,m4⟩:=least_of (p:=fun k=>1<=k/\itr f k e=e) k ⟨h1,h3⟩
 refine ⟨(bf m).map fun n=>itr f n e,⟨by rw [lMq,aZ];exact m2,by rw [lMq,aZ],by rw [lMq,aZ];exact m3,?_⟩,by rw [lMq,aZ];omega,fun j hj hjm q=>?_⟩
 .rw [aH,aY]
  refine aR.imp_of_mem (R:=fun a b=>a<b) (fun {a b} ha hb hab q=>?_) fL
  have hb':=cj.mp hb
  exact m4 (b-a) (by omega) ⟨by omega,h.cut he (bX hab) q⟩
 .rw [lMq,aZ] at hjm
  exact m4 j hjm ⟨hj,q⟩
theorem Cy.at {e:Int}{l:List Int}(h:Cy f e l) {i:Nat}(hi:i<l.length):l[i]?=some (itr f i e):=by
 have e1:l[i]?=((bf l.length).map fun n=>itr f n e)[i]?:=congrArg (fun x:List Int=>x[i]?) h.get
 rw [e1,gMq,eS hi]
 rfl
theorem Cy.self {e:Int}{l:List Int}(h:Cy f e l):e∈l:=mGq (h.at (i:=0) (by have:=h.len;omega))
structure Orb (f:Int->Int) (E:List Int) (L:List (List Int)):Prop where
 cy:∀ l∈L,∃ e,Cy f e l
 dj:L.flatten.Nodup
 all:∀ x,x∈L.flatten↔x∈E
end
end Zl
namespace K13
open PySem L2 Mr Z Xe
def mb_joined_0:MS:=(mExt 1 (lVar 2))
def mf_joined:MX:=(xSeq (xOf (mAsg 1 (kLst aNil)))
 (xSeq (xOf (mFor 2 (kVar 0) mb_joined_0))
 (xRet Zl.f_map_of'' (aCons (kVar 1) aNil))))
def f_joined:MFx:=runX 1 3 mf_joined
def mb_L_alike_0 (fm:MF):MS:=(mIf (tNotM (tOf (rCall fm (arCons (rOp dIxA (rVar 0) (rVar 2)) (arCons (rOp dIxA (rVar 1) (rVar 2)) arNil))))) (mRet (kSc (rC (.bl false)))) mNext)
def mf_L_alike (fm:MF):MS:=(mSeq (mIf (tOrM (tOf (rCB fIsA (arCons (rVar 1) (arCons (rC (.ty "list")) arNil)))) (tOf (rCB fIsA (arCons (rVar 1) (arCons (rC (.ty "tuple")) arNil))))) (mSeq (mIf (tOrM (tOf (rOp dNe (rCB fIsA (arCons (rVar 0) (arCons (rC (.ty "list")) arNil))) (rCB fIsA (arCons (rVar 1) (arCons (rC (.ty "list")) arNil))))) (tOf (rOp dNe (rCB fIsA (arCons (rVar 0) (arCons (rC (.ty "tuple")) arNil))) (rCB fIsA (arCons (rVar 1) (arCons (rC (.ty "tuple")) arNil)))))) (mRet (kSc (rC (.bl false)))) mNext) (mSeq (mIf (tOf (rOp dNe (rCB fLen (arCons (rVar 0) arNil)) (rCB fLen (arCons (rVar 1) arNil)))) (mRet (kSc (rC (.bl false)))) mNext) (mSeq (mForR1 2 (arCons (rCB fLen (arCons (rVar 1) arNil)) arNil) (mb_L_alike_0 fm)) (mRet (kSc (rC (.bl true))))))) mNext)
 (mSeq (mIf (tOf (rOp dIsN (rVar 1) (rC .non))) (mRet (kSc (rOp dIsN (rVar 0) (rC .non)))) mNext)
 (mSeq (mIf (tOf (rCB fIsA (arCons (rVar 1) (arCons (rC (.ty "str")) arNil)))) (mRet (kSc (rAnd (rCB fIsA (arCons (rVar 0) (arCons (rC (.ty "str")) arNil))) (rOp dEq (rVar 0) (rVar 1))))) mNext)
 (mRet (kSc (rAnd (rCB fIsA (arCons (rVar 0) (arCons (rC (.ty "int")) arNil))) (rAnd (rNot (rCB fIsA (arCons (rVar 0) (arCons (rC (.ty "bool")) arNil)))) (rOp dEq (rVar 0) (rVar 1)))))))))
def fA_L_alike (fm:MF):MF:=runF 2 3 (mf_L_alike fm)
def f_L_alike:MF:=(fA_L_alike (fA_L_alike (fA_L_alike (fA_L_alike Z.fNone))))
end K13
namespace K51
open PySem L2 Mr Z Xe
def mb_nexts_0:MS:=(mDPut 1 (rVar 3) (kVar 4))
def mb_nexts_1:MS:=(mForZ 3 4 (kVar 2) (kCat (lOf (kSl (qVar 2) (oSome (rC (.int 1))) oNone)) (lOf (kSl (qVar 2) oNone (oSome (rC (.int 1)))))) mb_nexts_0)
def mf_nexts:MS:=(mSeq (mAsg 1 kDict)
 (mSeq (mFor 2 (kVar 0) mb_nexts_1)
 (mRet (kMov 1))))
def f_nexts:MF:=runF 1 5 mf_nexts
def mb_reached_0:MS:=(mSeq (mAsg 7 (kSc (rDGet (rVar 2) (rUn dNeg (rVar 6))))) (mIf (tOf (rDNotIn (rVar 7) (rVar 3))) (mSeq (mDPut 3 (rVar 7) (kSc (rC (.bl true)))) (mApp 4 (kVar 7))) mNext))
def mb_reached_1:MS:=(mSeq (mAsgM 5 (rPop' 4)) (mFor 6 (kIx (qVar 0) (rVar 5)) mb_reached_0))
def mf_reached:MS:=(mSeq (mAsg 2 (kCall Zl.f_places_at (aCons (kVar 0) aNil)))
 (mSeq (mAsg 3 (kDict1 (rVar 1) (kSc (rC (.bl true)))))
 (mSeq (mAsg 4 (kLst (aCons (kVar 1) aNil)))
 (mSeq (mWhile (tOf (rOp dGt (rCB fLen (arCons (rVar 4) arNil)) (rC (.int 0)))) mb_reached_1 100000)
 (mRet (kSortD (rVar 3)))))))
def f_reached:MF:=runF 2 8 mf_reached
def mb_pieces_0:MS:=(mDPut 1 (rVar 5) (kSc (rC (.bl true))))
def mb_pieces_1:MS:=(mIf (tOf (rDNotIn (rVar 3) (rVar 1))) (mSeq (mAsg 4 (kCall K51.f_reached (aCons (kVar 0) (aCons (kVar 3) aNil)))) (mSeq (mFor 5 (kVar 4) mb_pieces_0) (mApp 2 (kComp (iLst (kVar 4)) [0] tAllM (kList (lOf (kIx (qVar 1) (rVar 0)))))))) mNext)
def mf_pieces:MS:=(mSeq (mAsg 1 kDict)
 (mSeq (mAsg 2 (kLst aNil))
 (mSeq (mForR1 3 (arCons (rCB fLen (arCons (rVar 0) arNil)) arNil) mb_pieces_1)
 (mRet (kMov 2)))))
def f_pieces:MF:=runF 1 6 mf_pieces
def mf_L_copy:MS:=(mRet (kComp (iLst (kVar 0)) [] tAllM (kList (qVar 0))))
def f_L_copy:MF:=runF 1 1 mf_L_copy
end K51
namespace K12
open PySem L2 Mr Z Xe
end K12
namespace K15
open PySem L2 Mr Z
def mb_onwards_0:MS:=(mDPut 2 (rVar 3) (kSc (rDGetF (rVar 1) (rUn dNeg (rVar 3)))))
def mf_onwards:MS:=(mSeq (mAsg 1 (kCall K51.f_nexts (aCons (kVar 0) aNil)))
 (mSeq (mAsg 2 kDict)
 (mSeq (mForK 3 1 mb_onwards_0)
 (mRet (kMov 2)))))
def f_onwards:MF:=runF 1 4 mf_onwards
def mb_gone_round_0:MS:=(mSeq (mApp 2 (kVar 3)) (mAsg 3 (kSc (rDGet (rVar 0) (rVar 3)))))
def mf_gone_round:MS:=(mSeq (mAsg 2 (kLst (aCons (kVar 1) aNil)))
 (mSeq (mAsg 3 (kSc (rDGet (rVar 0) (rVar 1))))
 (mSeq (mWhile (tOf (rOp dNe (rVar 3) (rVar 1))) mb_gone_round_0 100000)
 (mRet (kMov 2)))))
def f_gone_round:MF:=runF 2 4 mf_gone_round
def mb_lands_0:MS:=(mDPut 2 (rVar 6) (kSc (rC (.bl true))))
def mb_lands_1:MS:=(mIf (tOf (rDNotIn (rVar 4) (rVar 2))) (mSeq (mAsg 5 (kCall K15.f_gone_round (aCons (kVar 1) (aCons (kVar 4) aNil)))) (mSeq (mFor 6 (kVar 5) mb_lands_0) (mApp 3 (kVar 5)))) mNext)
def mf_lands:MS:=(mSeq (mAsg 1 (kCall K15.f_onwards (aCons (kVar 0) aNil)))
 (mSeq (mAsg 2 kDict)
 (mSeq (mAsg 3 (kComp (iLst (kVar 0)) [] (tOf (rOp dEq (rCB fLen (arCons (rVar 0) arNil)) (rC (.int 0)))) (kLst aNil)))
 (mSeq (mFor 4 (kCall Zl.f_ends_of (aCons (kVar 0) aNil)) mb_lands_1)
 (mRet (kCall Zl.f_in_good_order (aCons (kVar 3) aNil)))))))
def f_lands:MF:=runF 1 7 mf_lands
end K15
namespace K23
open PySem L2 Mr Z Xe
def mf_settled:MX:=(xSeq (xDrop Zl.f_refuse_too_many' (aCons (kVar 0) aNil))
 (xOf (mRet (kCall Zl.f_in_good_order (aCons (kVar 0) aNil)))))
def f_settled:MFx:=runX 1 1 mf_settled
def mf_thinned:MS:=(mRet (kComp (iLst (kVar 0)) [1] (tOf (rOp (dInL true) (rVar 0) (rVar 1))) (kVar 0)))
def f_thinned:MF:=runF 2 2 mf_thinned
def mf_without_road:MX:=(xSeq (xIf (tOf (rOp (dInL true) (rVar 1) (rOf (kCall Zl.f_told_ends (aCons (kVar 0) aNil))))) (xRaise "NotThere" "end" (arCons (rVar 1) arNil)) (xOf mNext))
 (xRet K23.f_settled (aCons (kComp (iLst (kVar 0)) [1] tAllM (kCall K23.f_thinned (aCons (kVar 0) (aCons (kTup (aCons (kVar 1) (aCons (kSc (rUn dNeg (rVar 1))) aNil))) aNil)))) aNil)))
def f_without_road:MFx:=runX 2 2 mf_without_road
def mf_Cut_done:MX:=(xRet K23.f_without_road (aCons (kVar 1) (aCons (kSc (rUn (fldI "Cut" "road") (rVar 0))) aNil)))
def f_Cut_done:MFx:=runX 2 2 mf_Cut_done
end K23
namespace K31
open PySem L2 Mr Z Xe
def mf_L_name:MS:=(mSeq (mAsg 3 (kSc (rC (.int 1))))
 (mSeq (mAsg 4 (kSc (rC (.int 0))))
 (mSeq (mIf (tOf (rOp dGt (rOp dMod (rVar 0) (rC (.int 3))) (rC (.int 0)))) (mSeq (mAsg 3 (kSc (rOp dAdd (rC (.int 1)) (rOp dMod (rOp dDiv (rVar 0) (rC (.int 3))) (rOp dPow (rC (.int 10)) (rC (.int 40))))))) (mAsg 4 (kSc (rOp dMod (rOp dDiv (rVar 1) (rC (.int 66))) (rOp dPow (rC (.int 10)) (rC (.int 40))))))) mNext)
 (mRet (kSc (rOp dAdd (rOp dMul (rVar 3) (rOp dAdd (rOp dMod (rOp dAdd (rOp dMul (rOp dAdd (rC (.int 1)) (rOp dMod (rVar 1) (rC (.int 66)))) (rVar 2)) (rVar 0)) (rC (.int 67))) (rC (.int 1)))) (rVar 4)))))))
def f_L_name:MF:=runF 3 5 mf_L_name
def mb_L_turns_0:MS:=(mAls 8 3 (pIx 3 (pVar 3) (rOp dIx (rVar 4) (rOp dSub (rCB fLen (arCons (rVar 4) arNil)) (rC (.int 1))))) (mIfA 3 (tAndM (tOf (rOp dEq (rOp dMod (rVar 7) (rC (.int 4))) (rC (.int 1)))) (tOf (rOp dGt (rCB fLen (arCons (rVar 4) arNil)) (rC (.int 1))))) (fun _=>(mDropM (rPop' 4))) (mIfA 3 (tAndM (tOf (rOp dEq (rOp dMod (rVar 7) (rC (.int 4))) (rC (.int 2)))) (tOf (rOp dGt (rCB fLen (arCons (rVar 5) arNil)) (rC (.int 0))))) (mMid 3 (mAsg 9 (kSc (rOp dSub (rCB fLen (arCons (rVar 5) arNil)) (rC (.int 1))))) (mMid 3 (mIf (tOf (rVar 2)) (mAsg 9 (kSc (rOp dMod (rOp dDiv (rVar 7) (rC (.int 8))) (rCB fLen (arCons (rVar 5) arNil))))) mNext) (mAppMA 3 (rPopAt' 5 (rVar 9))))) (mIfA 3 (tOf (rOp dGt (rCB fLen (arCons (rVar 6) arNil)) (rC (.int 0)))) (mMid 3 (mAsgM 10 (rMOp dMul (rPopAt' 6 (rC (.int 0))) (rOp dSub (rC (.int 1)) (rOp dMul (rC (.int 2)) (rOp dMod (rOp dDiv (rVar 7) (rC (.int 4))) (rC (.int 2))))))) (fun path=>mSeq ((mAppA 3 (kVar 10)) path) (mIf (tOf (rOp dEq (rOp dMod (rVar 7) (rC (.int 4))) (rC (.int 0)))) (mSeq (mApp 3 (kLst (aCons (kSc (rUn dNeg (rVar 10))) aNil))) (mApp 4 (kSc (rOp dSub (rCB fLen (arCons (rVar 3) arNil)) (rC (.int 1)))))) (mApp 5 (kSc (rUn dNeg (rVar 10))))))) (fun _=>mNext)))))
def mb_L_turns_1:MS:=(mAppPM 3 (pIx 3 (pVar 3) (rOp dIx (rVar 4) (rOp dSub (rCB fLen (arCons (rVar 4) arNil)) (rC (.int 1))))) (rPop' 5))
def mf_L_turns:MS:=(mSeq (mAsg 3 (kLst (aCons (kLst aNil) aNil)))
 (mSeq (mAsg 4 (kLst (aCons (kSc (rC (.int 0))) aNil)))
 (mSeq (mAsg 5 (kLst aNil))
 (mSeq (mAsg 6 (kList (qVar 1)))
 (mSeq (mFor 7 (kVar 0) mb_L_turns_0)
 (mSeq (mWhile (tOf (rOp dGt (rCB fLen (arCons (rVar 5) arNil)) (rC (.int 0)))) mb_L_turns_1 100000)
 (mRet (kMov 3))))))))
def f_L_turns:MF:=runF 3 11 mf_L_turns
end K31
namespace K43
open PySem L2 Mr Z Xe
def mf_without_roads:MS:=(mSeq (mAsg 2 (kCat (lVar 1) (lOf (kComp (iLst (kVar 1)) [] tAllM (kSc (rUn dNeg (rVar 0)))))))
 (mRet (kComp (iLst (kVar 0)) [2] tAllM (kCall K23.f_thinned (aCons (kVar 0) (aCons (kVar 1) aNil))))))
def f_without_roads:MF:=runF 2 3 mf_without_roads
def mf_is_bridge:MS:=(mSeq (mAsg 2 (kCall Zl.f_places_at (aCons (kVar 0) aNil)))
 (mRet (kSc (rOp (dInL true) (rDGet (rVar 2) (rUn dNeg (rVar 1))) (rOf (kCall K51.f_reached (aCons (kCall K43.f_without_roads (aCons (kVar 0) (aCons (kLst (aCons (kVar 1) aNil)) aNil))) (aCons (kSc (rDGet (rVar 2) (rVar 1))) aNil))))))))
def f_is_bridge:MF:=runF 2 3 mf_is_bridge
def mf_bridges:MS:=(mRet (kComp (iLst (kCall Zl.f_roads_of (aCons (kVar 0) aNil))) [0] (tOf (rCall K43.f_is_bridge (arCons (rVar 1) (arCons (rVar 0) arNil)))) (kVar 0)))
def f_bridges:MF:=runF 1 1 mf_bridges
def mf_counts:MS:=(mSeq (mAsg 1 (kSc (rCB fLen (arCons (rVar 0) arNil))))
 (mSeq (mAsg 2 (kSc (rCB fLen (arCons (rOf (kCall Zl.f_roads_of (aCons (kVar 0) aNil))) arNil))))
 (mSeq (mAsg 3 (kSc (rCB fLen (arCons (rOf (kCall K15.f_lands (aCons (kVar 0) aNil))) arNil))))
 (mSeq (mAsg 4 (kSc (rCB fLen (arCons (rOf (kCall K51.f_pieces (aCons (kVar 0) aNil))) arNil))))
 (mSeq (mAsg 5 (kSc (rOp dDiv (rOp dSub (rOp dAdd (rOp dSub (rOp dMul (rC (.int 2)) (rVar 4)) (rVar 1)) (rVar 2)) (rVar 3)) (rC (.int 2)))))
 (mRet (kTup (aCons (kVar 1) (aCons (kVar 2) (aCons (kVar 3) (aCons (kVar 4) (aCons (kVar 5) aNil))))))))))))
def f_counts:MF:=runF 1 6 mf_counts
def mb_law_0:MS:=(mIf (tAndM (tOf (rOp dGt (rVar 8) (rC (.int 0)))) (tOf (rOp dNe (rOp dIxT (rOf (kCall K43.f_counts (aCons (kCall (okX K23.f_Cut_done) (aObj "Cut" "done" (kMkI "Cut" ["road"] (arCons (rVar 8) arNil)) (aCons (kVar 5) aNil))) aNil))) (rC (.int 3))) (rOp dAdd (rVar 7) (rBM "list" fCntI (rVar 6) (arCons (rVar 8) arNil)))))) (mRet (kSc (rC (.bl false)))) mNext)
def mf_law:MS:=(mSeq (mAsg 1 (kSc (rCall Zl.f_L_cell_at (arCons (rVar 0) (arCons (rC (.int 0)) arNil)))))
 (mSeq (mAsg 2 (kSc (rCall Zl.f_L_cell_at (arCons (rVar 0) (arCons (rC (.int 1)) arNil)))))
 (mSeq (mAsg 3 (kSc (rCall Zl.f_L_cell_at (arCons (rVar 0) (arCons (rC (.int 2)) arNil)))))
 (mSeq (mAsg 4 (kComp (iR1 (arCons (rC (.int 12)) arNil)) [1,2] tAllM (kSc (rCall K31.f_L_name (arCons (rVar 1) (arCons (rVar 2) (arCons (rVar 0) arNil)))))))
 (mSeq (mAsg 5 (kCall Zl.f_in_good_order (aCons (kCat (lOf (kCall K31.f_L_turns (aCons (kSl (qVar 0) (oSome (rC (.int 3))) (oSome (rC (.int 66)))) (aCons (kVar 4) (aCons (kSc (rOp dEq (rOp dMod (rVar 3) (rC (.int 2))) (rC (.int 1)))) aNil))))) (lOf (kComp (iR1 (arCons (rOp dMod (rOp dDiv (rVar 3) (rC (.int 2))) (rC (.int 3))) arNil)) [] tAllM (kLst aNil)))) aNil)))
 (mSeq (mAsg 6 (kCall K43.f_bridges (aCons (kCall K51.f_L_copy (aCons (kVar 5) aNil)) aNil)))
 (mSeq (mAsg 7 (kSc (rOp dIxT (rOf (kCall K43.f_counts (aCons (kVar 5) aNil))) (rC (.int 3)))))
 (mSeq (mIf (tNotM (tOf (rCB fIsi (arCons (rVar 6) (arCons (rC (.ty "list")) arNil))))) (mRet (kSc (rC (.bl false)))) mNext)
 (mSeq (mFor 8 (kCall Zl.f_told_ends (aCons (kVar 5) aNil)) mb_law_0)
 (mRet (kSc (rCB fAll (arCons (rOf (kComp (iLst (kVar 6)) [4] tAllM (kSc (rOp (dInL false) (rVar 0) (rVar 1))))) arNil)))))))))))))
def f_law:MF:=runF 1 9 mf_law
def top (i:Nat):Stmt:=PySem.Challenge.pw_mapround_k43_bridges_cut.main.body.getD i (.Pass ⟨0,0,0,0⟩)
def meth (i:Nat):Stmt:=match top i with|.ClassDef _ _ _ (m::_) _ _ _ _ _ _ _=>m|s=>s
section
variable {P:Program}{w:World}{K:W.Frag}{mg:Str->Option Value}{base:Heap}
def cdef (i j:Nat):Stmt:=match top i with|.ClassDef _ _ _ b _ _ _ _ _ _ _=>b.getD j (.Pass ⟨0,0,0,0⟩)|s=>s
abbrev sj_Cut:Stmt:=cdef 34 0
theorem scj_Cut:FnScope ["self", "road"] ["self", "road"] (defScope sj_Cut):=⟨rfl,rfl,rfl,by decide +kernel,rfl,by decide +kernel,by decide +kernel⟩
theorem inj_Cut {C f:Addr}{fd:FuncData}(F:Fun K "__init__" "Cut.__init__" sj_Cut f fd) (b:Binds K fd ["self", "road"] []) (mk:Mk K C f) (cl:Cls K C) (n0:NoAttr K C "road") (m:mg "Cut" = some (.ref C)):ClsM P w K mg base "Cut" C f fd ["self", "road"] ["road"] :=
 ⟨mk,F.ok scj_Cut (fun vs H Q E h=>spIniC_len h) fun cdv A outer s H vs Q E hr h=>⟨_,pss_one (ps_fld (pv 0) (pv 1) rfl),iniI1 cl n0 h⟩,b,m⟩
abbrev si_NotThere:Stmt:=meth 3
theorem sci_NotThere:FnScope ["self", "end"] ["self", "end"] (defScope si_NotThere):=⟨rfl,rfl,rfl,by decide +kernel,rfl,by decide +kernel,by decide +kernel⟩
theorem ini_NotThere {C M f:Addr}{fd:FuncData}(F:Fun K "__init__" "NotThere.__init__" si_NotThere f fd) (b:Binds K fd ["self", "end"] []) (rf:Ref K "NotThere" C M) (mM:mg "MapError" = some (.ref M)) (hr0:W.readsIn K M (.type "type")=true) (hs0:W.specialIn K (.ref M) "__getattribute__" = some (some (.builtin "type.__getattribute__"))) (hf0:W.findCls K (.ref M) (.type "type") "__init__" = some (.val (.builtin "ValueError.__init__"))) (ini:W.findIn K (.ref C) "__init__" = some (some (.ref f))) (fn:W.isFn K (.ref f)=true) (kp:W.keepIn K (.ref C)=true) (nf:W.findIn K (.ref C) "end" = some none) (m:mg "NotThere" = some (.ref C)):ClsI P w K mg base "NotThere" "end" "end" C M f fd :=
 ⟨⟨rf.nm,.inl ⟨M,rf⟩⟩,rf.xc,base_M M,m,⟨rf,ini,fn,kp,nf,m,b,F.ok sci_NotThere (fun vs H Q E h=>by obtain ⟨e,v,C,M,rfl,_⟩:=h;rfl) fun cdv A outer s H vs Q E hr h=>⟨_,pss_cons (ps_expr (pe_bi (by rfl) mM hr0 hs0 hf0 (pa_cons (pv 0) (pa_cons pe_str pa_nil)))) (pss_one (ps_xf (pv 0) (pv 1) rfl)),ini_read h⟩⟩⟩
abbrev s_turned:Stmt:=top 8
theorem sc_turned:FnScope ["ends", "start"] ["ends"] (defScope s_turned):=⟨rfl,rfl,rfl,by decide +kernel,rfl,by decide +kernel,by decide +kernel⟩
theorem ok_turned     (D:Def K mg "turned" s_turned ["ends"] f fd) (B:Bt mg)     : Fn P w K mg base 1 "turned" s_turned ["ends"] (spOf K Zl.f_turned) f fd :=
 ⟨D,D.F.ok sc_turned (fun _ _ _ _=>sp_len) fun cdv A outer s H vs Q E hr h=>⟨_,
   (pss_cons (ps_if (pt_cmpR op_eq (pe_callB call_len (by rfl) B.len PySem.boot_len (pa_cons (pv 0) pa_nil)) pe_int (nomark _)) (pss_one (ps_ret (pe_lst pa_nil))) pss_nil)
   (pss_cons (ps_set (i:=1) sc_turned.nd rfl (by first|exact aG rfl|exact aE rfl) (pe_bm aj dR fF mt_index (pv 0) (pa_cons (pe_callB (call_minL rfl) (by rfl) B.min fO (pa_cons (pv 0) pa_nil)) pa_nil)))
   (pss_one (ps_ret (pe_op op_cat (pe_slice sl_list (pv 0) (po_some (pv 1)) po_none) (pe_slice sl_list (pv 0) po_none (po_some (pv 1)))))))),
   fn_sound ["ends", "start"] (K:=K) (ss_seq (ss_if (st_test (sr_op od_eq (sr_cb cb_len (sar_cons (sr_var 0) sar_nil)) sr_int)) (ss_ret (sk_lst sa_nil)) ss_next)
   (ss_seq (ss_asg (i:=1) (SR.kSc (sr_bm (T := "list") bm_index (sr_var 0) (sar_cons (sr_cb cb_min (sar_cons (sr_var 0) sar_nil)) sar_nil))))
   (ss_ret (sk_cat (SK.lOf (sk_sl (sq_var 0) (so_some (sr_var 1)) so_none)) (SK.lOf (sk_sl (sq_var 0) so_none (so_some (sr_var 1)))))))) h⟩⟩
abbrev s_told_ends:Stmt:=top 9
theorem sc_told_ends:FnScope ["turns", "told", "turn"] ["turns"] (defScope s_told_ends):=⟨rfl,rfl,rfl,by decide +kernel,rfl,by decide +kernel,by decide +kernel⟩
theorem ok_told_ends     (D:Def K mg "told_ends" s_told_ends ["turns"] f fd) (B:Bt mg)     : Fn P w K mg base 1 "told_ends" s_told_ends ["turns"] (spOf K Zl.f_told_ends) f fd :=
 ⟨D,D.F.ok sc_told_ends (fun _ _ _ _=>sp_len) fun cdv A outer s H vs Q E hr h=>⟨_,
   (pss_cons (ps_set (i:=1) sc_told_ends.nd rfl (by first|exact aG rfl|exact aE rfl) (pe_lst pa_nil))
   (pss_cons (ps_for PassesOwn.never rfl (pi_list (pv 0)) (pg_name (i:=2) sc_told_ends.nd rfl (by first|exact aG rfl|exact aE rfl))
    (pss_one (ps_expr (pe_bm aj fq ft mt_extend (pv 1) (pa_cons (pv 2) pa_nil)))))
   (pss_one (ps_ret (pv 1))))),
   fn_sound ["turns", "told", "turn"] (K:=K) (ss_seq (ss_asg (i:=1) (sk_lst sa_nil))
   (ss_seq (ss_for (sk_var 0) (ss_ext (i:=1) (sl_var 2)))
   (ss_ret (sk_mov 1)))) h⟩⟩
abbrev s_refuse_too_many:Stmt:=top 10
theorem sc_refuse_too_many:FnScope ["turns"] ["turns"] (defScope s_refuse_too_many):=⟨rfl,rfl,rfl,by decide +kernel,rfl,by decide +kernel,by decide +kernel⟩
theorem ok_refuse_too_many {C_TooMany M_TooMany:Addr}  (D:Def K mg "refuse_too_many" s_refuse_too_many ["turns"] f fd) (B:Bt mg) (g_MOST_ENDS:mg "MOST_ENDS" = some (.int 128 t_MOST_ENDS)) (g_MOST_BARE_PLACES:mg "MOST_BARE_PLACES" = some (.int 128 t_MOST_BARE_PLACES)) (I_TooMany:ClsI0 K mg "TooMany" C_TooMany M_TooMany) (G_told_ends:Fn P w K mg base 1 "told_ends" s_told_ends ["turns"] (spOf K Zl.f_told_ends) ftold_ends fdtold_ends)  : FnX P w K mg base 2 "refuse_too_many" s_refuse_too_many ["turns"] (spX K Zl.f_refuse_too_many') f fd :=
 ⟨D,okX D.F sc_refuse_too_many (fun vs H Q E h=>spX_len h) fun cdv A outer s H vs Q E hr h=>have hu65:=Room.units65 hr;⟨_,
   (pss_cons (ps_if (pt_cmpR op_gt (pe_callB call_len (by rfl) B.len PySem.boot_len (pa_cons (pe_fn G_told_ends (hr.mono (by decide)) (pa_cons (pv 0) pa_nil)) pa_nil)) (pe_glob (v:=.int 128) (by rfl) g_MOST_ENDS ⟨_,rfl⟩) (nomark _)) (pss_one (ps_raise I_TooMany.i.rf leaves_cx rfl (pe_mk0 I_TooMany.i))) pss_nil)
   (pss_one (ps_if (pt_cmpR op_gt (pe_bm aj cW fG (mt_count hu65) (pv 0) (pa_cons (pe_lst pa_nil) pa_nil)) (pe_glob (v:=.int 128) (by rfl) g_MOST_BARE_PLACES ⟨_,rfl⟩) (nomark _)) (pss_one (ps_raise I_TooMany.i.rf leaves_cx rfl (pe_mk0 I_TooMany.i))) pss_nil))),
   fn_soundX ["turns"] (K:=K) (ssx_seq (ssx_if (st_test (sr_op od_gt (sr_cb cb_len (sar_cons (SK.rOf (sk_call (sa_cons (sk_var 0) sa_nil))) sar_nil)) sr_int)) (ssx_raise0 I_TooMany.i.rf) (ssx_of ss_next))
   (ssx_if (st_test (sr_op od_gt (sr_cnt0 (sr_var 0)) sr_int)) (ssx_raise0 I_TooMany.i.rf) (ssx_of ss_next))) h⟩⟩
abbrev s_in_good_order:Stmt:=top 11
theorem sc_in_good_order:FnScope ["turns"] ["turns"] (defScope s_in_good_order):=⟨rfl,rfl,rfl,by decide +kernel,rfl,by decide +kernel,by decide +kernel⟩
theorem ok_in_good_order  (D:Def K mg "in_good_order" s_in_good_order ["turns"] f fd) (B:Bt mg)   (G_turned:Fn P w K mg base 1 "turned" s_turned ["ends"] (spOf K Zl.f_turned) fturned fdturned)  : Fn P w K mg base 2 "in_good_order" s_in_good_order ["turns"] (spOf K Zl.f_in_good_order) f fd :=
 ⟨D,D.F.ok sc_in_good_order (fun _ _ _ _=>sp_len) fun cdv A outer s H vs Q E hr h=>have hu:=hr.units;⟨_,
   (pss_one (ps_ret (pe_callB (call_sortedR hu) (by rfl) B.sorted cO (pa_cons (pe_comp (cl:=[]) (N:=["turn"]) (fr:=[]) rfl rfl (by decide +kernel) rfl (by decide +kernel) rfl (Frees.none (by decide +kernel)) (pi_list (pv 0)) (fun _ _ _ _=>pf_nil) (fun _ _ _ _=>(pe_fn G_turned (hr.mono (by decide)) (pa_cons (pv 0) pa_nil)))) pa_nil)))),
   fn_sound ["turns"] (K:=K) (ss_ret (sk_sortRO (sk_compL (sk_var 0) st_all (sk_call (sa_cons (sk_var 0) sa_nil))))) h⟩⟩
abbrev s_ends_of:Stmt:=top 12
theorem sc_ends_of:FnScope ["m"] ["m"] (defScope s_ends_of):=⟨rfl,rfl,rfl,by decide +kernel,rfl,by decide +kernel,by decide +kernel⟩
theorem ok_ends_of  (D:Def K mg "ends_of" s_ends_of ["m"] f fd) (B:Bt mg)   (G_told_ends:Fn P w K mg base 1 "told_ends" s_told_ends ["turns"] (spOf K Zl.f_told_ends) ftold_ends fdtold_ends)  : Fn P w K mg base 2 "ends_of" s_ends_of ["m"] (spOf K Zl.f_ends_of) f fd :=
 ⟨D,D.F.ok sc_ends_of (fun _ _ _ _=>sp_len) fun cdv A outer s H vs Q E hr h=>⟨_,
   (pss_one (ps_ret (pe_callB call_sortedI (by rfl) B.sorted cO (pa_cons (pe_fn G_told_ends (hr.mono (by decide)) (pa_cons (pv 0) pa_nil)) pa_nil)))),
   fn_sound ["m"] (K:=K) (ss_ret (sk_sortI (SL.q (SK.lOf (sk_call (sa_cons (sk_var 0) sa_nil)))))) h⟩⟩
abbrev s_roads_of:Stmt:=top 13
theorem sc_roads_of:FnScope ["m"] ["m"] (defScope s_roads_of):=⟨rfl,rfl,rfl,by decide +kernel,rfl,by decide +kernel,by decide +kernel⟩
theorem ok_roads_of  (D:Def K mg "roads_of" s_roads_of ["m"] f fd) (B:Bt mg)   (G_ends_of:Fn P w K mg base 2 "ends_of" s_ends_of ["m"] (spOf K Zl.f_ends_of) fends_of fdends_of)  : Fn P w K mg base 3 "roads_of" s_roads_of ["m"] (spOf K Zl.f_roads_of) f fd :=
 ⟨D,D.F.ok sc_roads_of (fun _ _ _ _=>sp_len) fun cdv A outer s H vs Q E hr h=>⟨_,
   (pss_one (ps_ret (pe_comp (cl:=[]) (N:=["end"]) (fr:=[]) rfl rfl (by decide +kernel) rfl (by decide +kernel) rfl (Frees.none (by decide +kernel)) (pi_list (pe_fn G_ends_of (hr.mono (by decide)) (pa_cons (pv 0) pa_nil))) (fun _ _ _ _=>pf_one (pt_cmpR op_gt (pv 0) pe_int (nomark _))) (fun _ _ _ _=>(pv 0))))),
   fn_sound ["m"] (K:=K) (ss_ret (sk_compL (sk_call (sa_cons (sk_var 0) sa_nil)) (st_test (sr_op od_gt (sr_var 0) sr_int)) (sk_var 0))) h⟩⟩
abbrev s_places_at:Stmt:=top 14
theorem sc_places_at:FnScope ["m", "places", "place", "turn", "end"] ["m"] (defScope s_places_at):=⟨rfl,rfl,rfl,by decide +kernel,rfl,by decide +kernel,by decide +kernel⟩
theorem ok_places_at     (D:Def K mg "places_at" s_places_at ["m"] f fd) (B:Bt mg)     : Fn P w K mg base 1 "places_at" s_places_at ["m"] (spOf K Zl.f_places_at) f fd :=
 ⟨D,D.F.ok sc_places_at (fun _ _ _ _=>sp_len) fun cdv A outer s H vs Q E hr h=>⟨_,
   (pss_cons (ps_set (i:=1) sc_places_at.nd rfl (by first|exact aG rfl|exact aE rfl) pe_dnewK)
   (pss_cons (ps_for PassesOwn.never rfl (pi_enum (by rfl) B.enum (pa_cons (pv 0) pa_nil)) (pg_tup rfl (pgs_cons (pg_name (i:=2) sc_places_at.nd rfl (by first|exact aG rfl|exact aE rfl)) (pgs_cons (pg_name (i:=3) sc_places_at.nd rfl (by first|exact aG rfl|exact aE rfl)) pgs_nil)))
    (pss_one (ps_for PassesOwn.never rfl (pi_list (pv 3)) (pg_name (i:=4) sc_places_at.nd rfl (by first|exact aG rfl|exact aE rfl))
    (pss_one (ps_dput (hu_of hr) (pv 1) (pv 4) (pv 2) rfl)))))
   (pss_one (ps_ret (pv 1))))),
   fn_sound ["m", "places", "place", "turn", "end"] (K:=K) (ss_seq (ss_asg (i:=1) sk_dict)
   (ss_seq (ss_forE (sk_var 0) (ss_for (sk_var 3) (ss_dput (i:=1) (sk_var 2) (sr_var 4))))
   (ss_ret (sk_mov 1)))) h⟩⟩
abbrev s_nexts:Stmt:=top 15
theorem sc_nexts:FnScope ["m", "following", "turn", "end", "behind"] ["m"] (defScope s_nexts):=⟨rfl,rfl,rfl,by decide +kernel,rfl,by decide +kernel,by decide +kernel⟩
theorem ok_nexts     (D:Def K mg "nexts" s_nexts ["m"] f fd) (B:Bt mg)     : Fn P w K mg base 1 "nexts" s_nexts ["m"] (spOf K K51.f_nexts) f fd :=
 ⟨D,D.F.ok sc_nexts (fun _ _ _ _=>sp_len) fun cdv A outer s H vs Q E hr h=>⟨_,
   (pss_cons (ps_set (i:=1) sc_nexts.nd rfl (by first|exact aG rfl|exact aE rfl) pe_dnewK)
   (pss_cons (ps_for PassesOwn.never rfl (pi_list (pv 0)) (pg_name (i:=2) sc_nexts.nd rfl (by first|exact aG rfl|exact aE rfl))
    (pss_one (ps_for PassesOwn.never rfl (pi_zip (by rfl) B.zip (pa_cons (pv 2) (pa_cons (pe_op op_cat (pe_slice sl_list (pv 2) (po_some pe_int) po_none) (pe_slice sl_list (pv 2) po_none (po_some pe_int))) pa_nil))) (pg_tup rfl (pgs_cons (pg_name (i:=3) sc_nexts.nd rfl (by first|exact aG rfl|exact aE rfl)) (pgs_cons (pg_name (i:=4) sc_nexts.nd rfl (by first|exact aG rfl|exact aE rfl)) pgs_nil)))
    (pss_one (ps_dput (hu_of hr) (pv 1) (pv 3) (pv 4) rfl)))))
   (pss_one (ps_ret (pv 1))))),
   fn_sound ["m", "following", "turn", "end", "behind"] (K:=K) (ss_seq (ss_asg (i:=1) sk_dict)
   (ss_seq (ss_for (sk_var 0) (ss_forZ (sk_var 2) (sk_cat (SK.lOf (sk_sl (sq_var 2) (so_some sr_int) so_none)) (SK.lOf (sk_sl (sq_var 2) so_none (so_some sr_int)))) (ss_dput (i:=1) (sk_var 4) (sr_var 3))))
   (ss_ret (sk_mov 1)))) h⟩⟩
abbrev s_settled:Stmt:=top 17
theorem sc_settled:FnScope ["turns"] ["turns"] (defScope s_settled):=⟨rfl,rfl,rfl,by decide +kernel,rfl,by decide +kernel,by decide +kernel⟩
theorem ok_settled  (D:Def K mg "settled" s_settled ["turns"] f fd) (B:Bt mg)   (G_refuse_too_many:FnX P w K mg base 2 "refuse_too_many" s_refuse_too_many ["turns"] (spX K Zl.f_refuse_too_many') frefuse_too_many fdrefuse_too_many) (G_in_good_order:Fn P w K mg base 2 "in_good_order" s_in_good_order ["turns"] (spOf K Zl.f_in_good_order) fin_good_order fdin_good_order)  : FnX P w K mg base 3 "settled" s_settled ["turns"] (spX K K23.f_settled) f fd :=
 ⟨D,okX D.F sc_settled (fun vs H Q E h=>spX_len h) fun cdv A outer s H vs Q E hr h=>⟨_,
   (pss_cons (ps_expr (pe_fnE G_refuse_too_many (hr.mono (by decide)) passes_cx (pa_cons (pv 0) pa_nil)))
   (pss_one (ps_ret (pe_fn G_in_good_order (hr.mono (by decide)) (pa_cons (pv 0) pa_nil))))),
   fn_soundX ["turns"] (K:=K) (ssx_seq (ssx_drop (sa_cons (sk_var 0) sa_nil))
   (ssx_of (ss_ret (sk_call (sa_cons (sk_var 0) sa_nil))))) h⟩⟩
abbrev s_thinned:Stmt:=top 18
theorem sc_thinned:FnScope ["turn", "gone"] ["turn", "gone"] (defScope s_thinned):=⟨rfl,rfl,rfl,by decide +kernel,rfl,by decide +kernel,by decide +kernel⟩
theorem ok_thinned     (D:Def K mg "thinned" s_thinned ["turn", "gone"] f fd) (B:Bt mg)     : Fn P w K mg base 1 "thinned" s_thinned ["turn", "gone"] (spOf K K23.f_thinned) f fd :=
 ⟨D,D.F.ok sc_thinned (fun _ _ _ _=>sp_len) fun cdv A outer s H vs Q E hr h=>⟨_,
   (pss_one (ps_ret (pe_comp (N:=["end", "gone"]) (fr:=[1]) rfl rfl (by decide +kernel) rfl (by decide +kernel) rfl (Frees.of (by decide +kernel) rfl rfl (by exact ⟨rfl,trivial⟩) (by repeat (first|exact trivial|refine ⟨(by first|exact fun _=>⟨_,rfl⟩|exact fun h=>(by rcases h with h|h <;> cases h)),?_⟩)) (by exact ⟨⟨rfl,rfl,rfl⟩,trivial⟩)) (pi_list (pv 0)) (fun _ _ _ _=>pf_one (pt_cmpR op_notIn_seq (pv 0) (pv 1) rfl)) (fun _ _ _ _=>(pv 0))))),
   fn_sound ["turn", "gone"] (K:=K) (ss_ret (sk_compL (sk_var 0) (st_test (sr_op (od_inL true) (sr_var 0) (sr_var 1))) (sk_var 0))) h⟩⟩
abbrev s_without_road:Stmt:=top 19
theorem sc_without_road:FnScope ["m", "road"] ["m", "road"] (defScope s_without_road):=⟨rfl,rfl,rfl,by decide +kernel,rfl,by decide +kernel,by decide +kernel⟩
theorem ok_without_road  (D:Def K mg "without_road" s_without_road ["m", "road"] f fd) (B:Bt mg)  (I_NotThere:ClsI P w K mg base "NotThere" "end" "end" C_NotThere M_NotThere fi_NotThere fdi_NotThere) (G_settled:FnX P w K mg base 3 "settled" s_settled ["turns"] (spX K K23.f_settled) fsettled fdsettled) (G_told_ends:Fn P w K mg base 1 "told_ends" s_told_ends ["turns"] (spOf K Zl.f_told_ends) ftold_ends fdtold_ends) (G_thinned:Fn P w K mg base 1 "thinned" s_thinned ["turn", "gone"] (spOf K K23.f_thinned) fthinned fdthinned)  : FnX P w K mg base 4 "without_road" s_without_road ["m", "road"] (spX K K23.f_without_road) f fd :=
 ⟨D,okX D.F sc_without_road (fun vs H Q E h=>spX_len h) fun cdv A outer s H vs Q E hr h=>⟨_,
   (pss_cons (ps_if (pt_cmpR op_notIn_seq (pv 1) (pe_fn G_told_ends (hr.mono (by decide)) (pa_cons (pv 0) pa_nil)) rfl) (pss_one (ps_raise I_NotThere.i.rf leaves_cx rfl (pe_mkx I_NotThere.i (hr.mono (by decide)) (pa_cons (pv 1) pa_nil)))) pss_nil)
   (pss_one (ps_ret (pe_fnE G_settled (hr.mono (by decide)) passes_cx (pa_cons (pe_comp (N:=["turn", "road"]) (fr:=[1]) rfl rfl (by decide +kernel) rfl (by decide +kernel) rfl (Frees.of (by decide +kernel) rfl rfl (by exact ⟨rfl,trivial⟩) (by repeat (first|exact trivial|refine ⟨(by first|exact fun _=>⟨_,rfl⟩|exact fun h=>(by rcases h with h|h <;> cases h)),?_⟩)) (by exact ⟨⟨rfl,rfl,rfl⟩,trivial⟩)) (pi_list (pv 0)) (fun _ _ _ _=>pf_nil) (fun _ _ _ _=>(pe_fn G_thinned (hr.mono (by decide)) (pa_cons (pv 0) (pa_cons (pe_tup (pa_cons (pv 1) (pa_cons (pe_un un_neg (pv 1)) pa_nil))) pa_nil))))) pa_nil))))),
   fn_soundX ["m", "road"] (K:=K) (ssx_seq (ssx_if (st_test (sr_op (od_inL true) (sr_var 1) (SK.rOf (sk_call (sa_cons (sk_var 0) sa_nil))))) (ssx_raise I_NotThere.i.rf I_NotThere.i.nf (sar_cons (sr_var 1) sar_nil)) (ssx_of ss_next))
   (ssx_ret (sa_cons (sk_compL (sk_var 0) st_all (sk_call (sa_cons (sk_var 0) (sa_cons (sk_tup (sa_cons (sk_var 1) (sa_cons (SR.kSc (sr_un ud_neg (sr_var 1))) sa_nil))) sa_nil)))) sa_nil))) h⟩⟩
abbrev s_reached:Stmt:=top 21
theorem sc_reached:FnScope ["m", "start", "place_of", "known", "waiting", "here", "end", "there"] ["m", "start"] (defScope s_reached):=⟨rfl,rfl,rfl,by decide +kernel,rfl,by decide +kernel,by decide +kernel⟩
theorem ok_reached  (D:Def K mg "reached" s_reached ["m", "start"] f fd) (B:Bt mg)   (G_places_at:Fn P w K mg base 1 "places_at" s_places_at ["m"] (spOf K Zl.f_places_at) fplaces_at fdplaces_at)  : Fn P w K mg base 2 "reached" s_reached ["m", "start"] (spOf K K51.f_reached) f fd :=
 ⟨D,D.F.ok sc_reached (fun _ _ _ _=>sp_len) fun cdv A outer s H vs Q E hr h=>⟨_,
   (pss_cons (ps_set (i:=2) sc_reached.nd rfl (by first|exact aG rfl|exact aE rfl) (pe_fn G_places_at (hr.mono (by decide)) (pa_cons (pv 0) pa_nil)))
   (pss_cons (ps_set (i:=3) sc_reached.nd rfl (by first|exact aG rfl|exact aE rfl) (pe_disp (pps_cons (pv 1) pe_bl pps_nil) rfl rfl (by simp) (by decide)))
   (pss_cons (ps_set (i:=4) sc_reached.nd rfl (by first|exact aG rfl|exact aE rfl) (pe_lst (pa_cons (pv 1) pa_nil)))
   (pss_cons (ps_while PassesOwn.never (pt_cmpR op_gt (pe_callB call_len (by rfl) B.len PySem.boot_len (pa_cons (pv 4) pa_nil)) pe_int (nomark _)) (pss_cons (ps_set (i:=5) sc_reached.nd rfl (by first|exact aG rfl|exact aE rfl) (pe_bm0 aj cA cB mt_pop (pv 4))) (pss_one (ps_for PassesOwn.never rfl (pi_list (pe_ix ix_list (pv 0) (pv 5) (fun _ _=>rfl))) (pg_name (i:=6) sc_reached.nd rfl (by first|exact aG rfl|exact aE rfl))
    (pss_cons (ps_set (i:=7) sc_reached.nd rfl (by first|exact aG rfl|exact aE rfl) (pe_dget (hu_of hr) (pv 2) (pe_un un_neg (pv 6)) (by first|rfl|exact trivial|(intro _ _;rfl)))) (pss_one (ps_if (pt_cmp (pc_dnotin (hu_of hr) (pv 7) (pv 3))) (pss_cons (ps_dput (hu_of hr) (pv 3) (pv 7) pe_bl rfl) (pss_one (ps_expr (pe_bm aj aW aX mt_append (pv 4) (pa_cons (pv 7) pa_nil))))) pss_nil)))))))
   (pss_one (ps_ret (pe_callB (call_sortedD rfl) (by rfl) B.sorted cO (pa_cons (pv 3) pa_nil)))))))),
   fn_sound ["m", "start", "place_of", "known", "waiting", "here", "end", "there"] (K:=K) (ss_seq (ss_asg (i:=2) (sk_call (sa_cons (sk_var 0) sa_nil)))
   (ss_seq (ss_asg (i:=3) (sk_dict1 (sr_var 1) (SR.kSc sr_bl)))
   (ss_seq (ss_asg (i:=4) (sk_lst (sa_cons (sk_var 1) sa_nil)))
   (ss_seq (ss_while 100000 (st_test (sr_op od_gt (sr_cb cb_len (sar_cons (sr_var 4) sar_nil)) sr_int)) (ss_seq (ss_asgM (i:=5) (sm_pop0 (i:=4))) (ss_for (sk_ix (sq_var 0) (sr_var 5)) (ss_seq (ss_asg (i:=7) (SR.kSc (sr_dget (sr_var 2) (sr_un ud_neg (sr_var 6))))) (ss_if (st_of (sr_dnotin (sr_var 7) (sr_var 3))) (ss_seq (ss_dput (i:=3) (SR.kSc sr_bl) (sr_var 7)) (ss_app (i:=4) (sk_var 7))) ss_next)))))
   (ss_ret (sk_sortD (sr_var 3))))))) h⟩⟩
abbrev s_pieces:Stmt:=top 22
theorem sc_pieces:FnScope ["m", "known", "found", "start", "places", "place"] ["m"] (defScope s_pieces):=⟨rfl,rfl,rfl,by decide +kernel,rfl,by decide +kernel,by decide +kernel⟩
theorem ok_pieces  (D:Def K mg "pieces" s_pieces ["m"] f fd) (B:Bt mg)   (G_reached:Fn P w K mg base 2 "reached" s_reached ["m", "start"] (spOf K K51.f_reached) freached fdreached)  : Fn P w K mg base 3 "pieces" s_pieces ["m"] (spOf K K51.f_pieces) f fd :=
 ⟨D,D.F.ok sc_pieces (fun _ _ _ _=>sp_len) fun cdv A outer s H vs Q E hr h=>⟨_,
   (pss_cons (ps_set (i:=1) sc_pieces.nd rfl (by first|exact aG rfl|exact aE rfl) pe_dnewK)
   (pss_cons (ps_set (i:=2) sc_pieces.nd rfl (by first|exact aG rfl|exact aE rfl) (pe_lst pa_nil))
   (pss_cons (ps_for PassesOwn.never rfl (pi_range1 (by rfl) B.range (pa_cons (pe_callB call_len (by rfl) B.len PySem.boot_len (pa_cons (pv 0) pa_nil)) pa_nil)) (pg_name (i:=3) sc_pieces.nd rfl (by first|exact aG rfl|exact aE rfl))
    (pss_one (ps_if (pt_cmp (pc_dnotin (hu_of hr) (pv 3) (pv 1))) (pss_cons (ps_set (i:=4) sc_pieces.nd rfl (by first|exact aG rfl|exact aE rfl) (pe_fn G_reached (hr.mono (by decide)) (pa_cons (pv 0) (pa_cons (pv 3) pa_nil)))) (pss_cons (ps_for PassesOwn.never rfl (pi_list (pv 4)) (pg_name (i:=5) sc_pieces.nd rfl (by first|exact aG rfl|exact aE rfl))
    (pss_one (ps_dput (hu_of hr) (pv 1) (pv 5) pe_bl rfl))) (pss_one (ps_expr (pe_bm aj aW aX mt_append (pv 2) (pa_cons (pe_comp (N:=["place", "m"]) (fr:=[0]) rfl rfl (by decide +kernel) rfl (by decide +kernel) rfl (Frees.of (by decide +kernel) rfl rfl (by exact ⟨rfl,trivial⟩) (by repeat (first|exact trivial|refine ⟨(by first|exact fun _=>⟨_,rfl⟩|exact fun h=>(by rcases h with h|h <;> cases h)),?_⟩)) (by exact ⟨⟨rfl,rfl,rfl⟩,trivial⟩)) (pi_list (pv 4)) (fun _ _ _ _=>pf_nil) (fun _ _ _ _=>(pe_callTy call_list_of (by rfl) B.list dn (pa_cons (pe_ix ix_list (pv 1) (pv 0) (fun _ _=>rfl)) pa_nil)))) pa_nil)))))) pss_nil)))
   (pss_one (ps_ret (pv 2)))))),
   fn_sound ["m", "known", "found", "start", "places", "place"] (K:=K) (ss_seq (ss_asg (i:=1) sk_dict)
   (ss_seq (ss_asg (i:=2) (sk_lst sa_nil))
   (ss_seq (ss_forR1 (sar_cons (sr_cb cb_len (sar_cons (sr_var 0) sar_nil)) sar_nil) (ss_if (st_of (sr_dnotin (sr_var 3) (sr_var 1))) (ss_seq (ss_asg (i:=4) (sk_call (sa_cons (sk_var 0) (sa_cons (sk_var 3) sa_nil)))) (ss_seq (ss_for (sk_var 4) (ss_dput (i:=1) (SR.kSc sr_bl) (sr_var 5))) (ss_app (i:=2) (sk_compL (sk_var 4) st_all (sk_list (SL.q (SK.lOf (sk_ix (sq_var 1) (sr_var 0))))))))) ss_next))
   (ss_ret (sk_mov 2))))) h⟩⟩
abbrev s_without_roads:Stmt:=top 24
theorem sc_without_roads:FnScope ["m", "roads", "gone"] ["m", "roads"] (defScope s_without_roads):=⟨rfl,rfl,rfl,by decide +kernel,rfl,by decide +kernel,by decide +kernel⟩
theorem ok_without_roads  (D:Def K mg "without_roads" s_without_roads ["m", "roads"] f fd) (B:Bt mg)   (G_thinned:Fn P w K mg base 1 "thinned" s_thinned ["turn", "gone"] (spOf K K23.f_thinned) fthinned fdthinned)  : Fn P w K mg base 2 "without_roads" s_without_roads ["m", "roads"] (spOf K K43.f_without_roads) f fd :=
 ⟨D,D.F.ok sc_without_roads (fun _ _ _ _=>sp_len) fun cdv A outer s H vs Q E hr h=>⟨_,
   (pss_cons (ps_set (i:=2) sc_without_roads.nd rfl (by first|exact aG rfl|exact aE rfl) (pe_op op_cat (pv 1) (pe_comp (cl:=[]) (N:=["road"]) (fr:=[]) rfl rfl (by decide +kernel) rfl (by decide +kernel) rfl (Frees.none (by decide +kernel)) (pi_list (pv 1)) (fun _ _ _ _=>pf_nil) (fun _ _ _ _=>(pe_un un_neg (pv 0))))))
   (pss_one (ps_ret (pe_comp (N:=["turn", "gone"]) (fr:=[2]) rfl rfl (by decide +kernel) rfl (by decide +kernel) rfl (Frees.of (by decide +kernel) rfl rfl (by exact ⟨rfl,trivial⟩) (by repeat (first|exact trivial|refine ⟨(by first|exact fun _=>⟨_,rfl⟩|exact fun h=>(by rcases h with h|h <;> cases h)),?_⟩)) (by exact ⟨⟨rfl,rfl,rfl⟩,trivial⟩)) (pi_list (pv 0)) (fun _ _ _ _=>pf_nil) (fun _ _ _ _=>(pe_fn G_thinned (hr.mono (by decide)) (pa_cons (pv 0) (pa_cons (pv 1) pa_nil)))))))),
   fn_sound ["m", "roads", "gone"] (K:=K) (ss_seq (ss_asg (i:=2) (sk_cat (sl_var 1) (SK.lOf (sk_compL (sk_var 1) st_all (SR.kSc (sr_un ud_neg (sr_var 0)))))))
   (ss_ret (sk_compL (sk_var 0) st_all (sk_call (sa_cons (sk_var 0) (sa_cons (sk_var 1) sa_nil)))))) h⟩⟩
abbrev s_is_bridge:Stmt:=top 25
theorem sc_is_bridge:FnScope ["m", "road", "place_of"] ["m", "road"] (defScope s_is_bridge):=⟨rfl,rfl,rfl,by decide +kernel,rfl,by decide +kernel,by decide +kernel⟩
theorem ok_is_bridge  (D:Def K mg "is_bridge" s_is_bridge ["m", "road"] f fd) (B:Bt mg)   (G_places_at:Fn P w K mg base 1 "places_at" s_places_at ["m"] (spOf K Zl.f_places_at) fplaces_at fdplaces_at) (G_reached:Fn P w K mg base 2 "reached" s_reached ["m", "start"] (spOf K K51.f_reached) freached fdreached) (G_without_roads:Fn P w K mg base 2 "without_roads" s_without_roads ["m", "roads"] (spOf K K43.f_without_roads) fwithout_roads fdwithout_roads)  : Fn P w K mg base 3 "is_bridge" s_is_bridge ["m", "road"] (spOf K K43.f_is_bridge) f fd :=
 ⟨D,D.F.ok sc_is_bridge (fun _ _ _ _=>sp_len) fun cdv A outer s H vs Q E hr h=>⟨_,
   (pss_cons (ps_set (i:=2) sc_is_bridge.nd rfl (by first|exact aG rfl|exact aE rfl) (pe_fn G_places_at (hr.mono (by decide)) (pa_cons (pv 0) pa_nil)))
   (pss_one (ps_ret (pe_cmpR op_notIn_seq (pe_dget (hu_of hr) (pv 2) (pe_un un_neg (pv 1)) (by first|rfl|exact trivial|(intro _ _;rfl))) (pe_fn G_reached (hr.mono (by decide)) (pa_cons (pe_fn G_without_roads (hr.mono (by decide)) (pa_cons (pv 0) (pa_cons (pe_lst (pa_cons (pv 1) pa_nil)) pa_nil))) (pa_cons (pe_dget (hu_of hr) (pv 2) (pv 1) (by first|rfl|exact trivial|(intro _ _;rfl))) pa_nil))) rfl)))),
   fn_sound ["m", "road", "place_of"] (K:=K) (ss_seq (ss_asg (i:=2) (sk_call (sa_cons (sk_var 0) sa_nil)))
   (ss_ret (SR.kSc (sr_op (od_inL true) (sr_dget (sr_var 2) (sr_un ud_neg (sr_var 1))) (SK.rOf (sk_call (sa_cons (sk_call (sa_cons (sk_var 0) (sa_cons (sk_lst (sa_cons (sk_var 1) sa_nil)) sa_nil))) (sa_cons (SR.kSc (sr_dget (sr_var 2) (sr_var 1))) sa_nil)))))))) h⟩⟩
abbrev s_bridges:Stmt:=top 26
theorem sc_bridges:FnScope ["m"] ["m"] (defScope s_bridges):=⟨rfl,rfl,rfl,by decide +kernel,rfl,by decide +kernel,by decide +kernel⟩
theorem ok_bridges  (D:Def K mg "bridges" s_bridges ["m"] f fd) (B:Bt mg)   (G_roads_of:Fn P w K mg base 3 "roads_of" s_roads_of ["m"] (spOf K Zl.f_roads_of) froads_of fdroads_of) (G_is_bridge:Fn P w K mg base 3 "is_bridge" s_is_bridge ["m", "road"] (spOf K K43.f_is_bridge) fis_bridge fdis_bridge)  : Fn P w K mg base 4 "bridges" s_bridges ["m"] (spOf K K43.f_bridges) f fd :=
 ⟨D,D.F.ok sc_bridges (fun _ _ _ _=>sp_len) fun cdv A outer s H vs Q E hr h=>⟨_,
   (pss_one (ps_ret (pe_comp (N:=["road", "m"]) (fr:=[0]) rfl rfl (by decide +kernel) rfl (by decide +kernel) rfl (Frees.of (by decide +kernel) rfl rfl (by exact ⟨rfl,trivial⟩) (by repeat (first|exact trivial|refine ⟨(by first|exact fun _=>⟨_,rfl⟩|exact fun h=>(by rcases h with h|h <;> cases h)),?_⟩)) (by exact ⟨⟨rfl,rfl,rfl⟩,trivial⟩)) (pi_list (pe_fn G_roads_of (hr.mono (by decide)) (pa_cons (pv 0) pa_nil))) (fun _ _ _ _=>pf_one (pt_val (pe_fn G_is_bridge (hr.mono (by decide)) (pa_cons (pv 1) (pa_cons (pv 0) pa_nil))))) (fun _ _ _ _=>(pv 0))))),
   fn_sound ["m"] (K:=K) (ss_ret (sk_compL (sk_call (sa_cons (sk_var 0) sa_nil)) (st_of (sr_call (sar_cons (sr_var 1) (sar_cons (sr_var 0) sar_nil)))) (sk_var 0))) h⟩⟩
abbrev s_onwards:Stmt:=top 28
theorem sc_onwards:FnScope ["m", "following", "steps", "end"] ["m"] (defScope s_onwards):=⟨rfl,rfl,rfl,by decide +kernel,rfl,by decide +kernel,by decide +kernel⟩
theorem ok_onwards  (D:Def K mg "onwards" s_onwards ["m"] f fd) (B:Bt mg)   (G_nexts:Fn P w K mg base 1 "nexts" s_nexts ["m"] (spOf K K51.f_nexts) fnexts fdnexts)  : Fn P w K mg base 2 "onwards" s_onwards ["m"] (spOf K K15.f_onwards) f fd :=
 ⟨D,D.F.ok sc_onwards (fun _ _ _ _=>sp_len) fun cdv A outer s H vs Q E hr h=>⟨_,
   (pss_cons (ps_set (i:=1) sc_onwards.nd rfl (by first|exact aG rfl|exact aE rfl) (pe_fn G_nexts (hr.mono (by decide)) (pa_cons (pv 0) pa_nil)))
   (pss_cons (ps_set (i:=2) sc_onwards.nd rfl (by first|exact aG rfl|exact aE rfl) pe_dnewK)
   (pss_cons (ps_for PassesOwn.never rfl (Xe.pi_keys (pv 1)) (pg_name (i:=3) sc_onwards.nd rfl (by first|exact aG rfl|exact aE rfl))
    (pss_one (ps_dput (hu_of hr) (pv 2) (pv 3) (pe_dget (hu_of hr) (pv 1) (pe_un un_neg (pv 3)) (by first|rfl|exact trivial|(intro _ _;rfl))) rfl)))
   (pss_one (ps_ret (pv 2)))))),
   fn_sound ["m", "following", "steps", "end"] (K:=K) (ss_seq (ss_asg (i:=1) (sk_call (sa_cons (sk_var 0) sa_nil)))
   (ss_seq (ss_asg (i:=2) sk_dict)
   (ss_seq (ss_forK (x:=3) (i:=1) (ss_dput (i:=2) (SR.kSc (sr_dgetF (sr_var 1) (sr_un ud_neg (sr_var 3)))) (sr_var 3)))
   (ss_ret (sk_mov 2))))) h⟩⟩
abbrev s_gone_round:Stmt:=top 29
theorem sc_gone_round:FnScope ["steps", "end", "ends", "step"] ["steps", "end"] (defScope s_gone_round):=⟨rfl,rfl,rfl,by decide +kernel,rfl,by decide +kernel,by decide +kernel⟩
theorem ok_gone_round     (D:Def K mg "gone_round" s_gone_round ["steps", "end"] f fd) (B:Bt mg)     : Fn P w K mg base 1 "gone_round" s_gone_round ["steps", "end"] (spOf K K15.f_gone_round) f fd :=
 ⟨D,D.F.ok sc_gone_round (fun _ _ _ _=>sp_len) fun cdv A outer s H vs Q E hr h=>⟨_,
   (pss_cons (ps_set (i:=2) sc_gone_round.nd rfl (by first|exact aG rfl|exact aE rfl) (pe_lst (pa_cons (pv 1) pa_nil)))
   (pss_cons (ps_set (i:=3) sc_gone_round.nd rfl (by first|exact aG rfl|exact aE rfl) (pe_dget (hu_of hr) (pv 0) (pv 1) (by first|rfl|exact trivial|(intro _ _;rfl))))
   (pss_cons (ps_while PassesOwn.never (pt_cmpR op_ne (pv 3) (pv 1) (nomark _)) (pss_cons (ps_expr (pe_bm aj aW aX mt_append (pv 2) (pa_cons (pv 3) pa_nil))) (pss_one (ps_set (i:=3) sc_gone_round.nd rfl (by first|exact aG rfl|exact aE rfl) (pe_dget (hu_of hr) (pv 0) (pv 3) (by first|rfl|exact trivial|(intro _ _;rfl)))))))
   (pss_one (ps_ret (pv 2)))))),
   fn_sound ["steps", "end", "ends", "step"] (K:=K) (ss_seq (ss_asg (i:=2) (sk_lst (sa_cons (sk_var 1) sa_nil)))
   (ss_seq (ss_asg (i:=3) (SR.kSc (sr_dget (sr_var 0) (sr_var 1))))
   (ss_seq (ss_while 100000 (st_test (sr_op od_ne (sr_var 3) (sr_var 1))) (ss_seq (ss_app (i:=2) (sk_var 3)) (ss_asg (i:=3) (SR.kSc (sr_dget (sr_var 0) (sr_var 3))))))
   (ss_ret (sk_mov 2))))) h⟩⟩
abbrev s_lands:Stmt:=top 30
theorem sc_lands:FnScope ["m", "steps", "known", "found", "start", "land", "end"] ["m"] (defScope s_lands):=⟨rfl,rfl,rfl,by decide +kernel,rfl,by decide +kernel,by decide +kernel⟩
theorem ok_lands  (D:Def K mg "lands" s_lands ["m"] f fd) (B:Bt mg)   (G_onwards:Fn P w K mg base 2 "onwards" s_onwards ["m"] (spOf K K15.f_onwards) fonwards fdonwards) (G_ends_of:Fn P w K mg base 2 "ends_of" s_ends_of ["m"] (spOf K Zl.f_ends_of) fends_of fdends_of) (G_in_good_order:Fn P w K mg base 2 "in_good_order" s_in_good_order ["turns"] (spOf K Zl.f_in_good_order) fin_good_order fdin_good_order) (G_gone_round:Fn P w K mg base 1 "gone_round" s_gone_round ["steps", "end"] (spOf K K15.f_gone_round) fgone_round fdgone_round)  : Fn P w K mg base 3 "lands" s_lands ["m"] (spOf K K15.f_lands) f fd :=
 ⟨D,D.F.ok sc_lands (fun _ _ _ _=>sp_len) fun cdv A outer s H vs Q E hr h=>⟨_,
   (pss_cons (ps_set (i:=1) sc_lands.nd rfl (by first|exact aG rfl|exact aE rfl) (pe_fn G_onwards (hr.mono (by decide)) (pa_cons (pv 0) pa_nil)))
   (pss_cons (ps_set (i:=2) sc_lands.nd rfl (by first|exact aG rfl|exact aE rfl) pe_dnewK)
   (pss_cons (ps_comp (i:=3) (cl:=[]) (N:=["turn"]) (fr:=[]) rfl sc_lands.nd rfl (by first|exact aG rfl|exact aE rfl) rfl (by decide +kernel) rfl (by decide +kernel) rfl (Frees.none (by decide +kernel)) (pi_list (pv 0)) (fun _ _ _ _=>pf_one (pt_cmpR op_eq (pe_callB call_len (by rfl) B.len PySem.boot_len (pa_cons (pv 0) pa_nil)) pe_int (nomark _))) (fun _ _ _ _=>(pe_lst pa_nil)))
   (pss_cons (ps_for PassesOwn.never rfl (pi_list (pe_fn G_ends_of (hr.mono (by decide)) (pa_cons (pv 0) pa_nil))) (pg_name (i:=4) sc_lands.nd rfl (by first|exact aG rfl|exact aE rfl))
    (pss_one (ps_if (pt_cmp (pc_dnotin (hu_of hr) (pv 4) (pv 2))) (pss_cons (ps_set (i:=5) sc_lands.nd rfl (by first|exact aG rfl|exact aE rfl) (pe_fn G_gone_round (hr.mono (by decide)) (pa_cons (pv 1) (pa_cons (pv 4) pa_nil)))) (pss_cons (ps_for PassesOwn.never rfl (pi_list (pv 5)) (pg_name (i:=6) sc_lands.nd rfl (by first|exact aG rfl|exact aE rfl))
    (pss_one (ps_dput (hu_of hr) (pv 2) (pv 6) pe_bl rfl))) (pss_one (ps_expr (pe_bm aj aW aX mt_append (pv 3) (pa_cons (pv 5) pa_nil)))))) pss_nil)))
   (pss_one (ps_ret (pe_fn G_in_good_order (hr.mono (by decide)) (pa_cons (pv 3) pa_nil)))))))),
   fn_sound ["m", "steps", "known", "found", "start", "land", "end"] (K:=K) (ss_seq (ss_asg (i:=1) (sk_call (sa_cons (sk_var 0) sa_nil)))
   (ss_seq (ss_asg (i:=2) sk_dict)
   (ss_seq (ss_asg (i:=3) (sk_compL (sk_var 0) (st_test (sr_op od_eq (sr_cb cb_len (sar_cons (sr_var 0) sar_nil)) sr_int)) (sk_lst sa_nil)))
   (ss_seq (ss_for (sk_call (sa_cons (sk_var 0) sa_nil)) (ss_if (st_of (sr_dnotin (sr_var 4) (sr_var 2))) (ss_seq (ss_asg (i:=5) (sk_call (sa_cons (sk_var 1) (sa_cons (sk_var 4) sa_nil)))) (ss_seq (ss_for (sk_var 5) (ss_dput (i:=2) (SR.kSc sr_bl) (sr_var 6))) (ss_app (i:=3) (sk_var 5)))) ss_next))
   (ss_ret (sk_call (sa_cons (sk_var 3) sa_nil))))))) h⟩⟩
abbrev s_counts:Stmt:=top 31
theorem sc_counts:FnScope ["m", "place_count", "road_count", "land_count", "piece_count", "handle_count"] ["m"] (defScope s_counts):=⟨rfl,rfl,rfl,by decide +kernel,rfl,by decide +kernel,by decide +kernel⟩
theorem ok_counts  (D:Def K mg "counts" s_counts ["m"] f fd) (B:Bt mg)   (G_roads_of:Fn P w K mg base 3 "roads_of" s_roads_of ["m"] (spOf K Zl.f_roads_of) froads_of fdroads_of) (G_lands:Fn P w K mg base 3 "lands" s_lands ["m"] (spOf K K15.f_lands) flands fdlands) (G_pieces:Fn P w K mg base 3 "pieces" s_pieces ["m"] (spOf K K51.f_pieces) fpieces fdpieces)  : Fn P w K mg base 4 "counts" s_counts ["m"] (spOf K K43.f_counts) f fd :=
 ⟨D,D.F.ok sc_counts (fun _ _ _ _=>sp_len) fun cdv A outer s H vs Q E hr h=>⟨_,
   (pss_cons (ps_set (i:=1) sc_counts.nd rfl (by first|exact aG rfl|exact aE rfl) (pe_callB call_len (by rfl) B.len PySem.boot_len (pa_cons (pv 0) pa_nil)))
   (pss_cons (ps_set (i:=2) sc_counts.nd rfl (by first|exact aG rfl|exact aE rfl) (pe_callB call_len (by rfl) B.len PySem.boot_len (pa_cons (pe_fn G_roads_of (hr.mono (by decide)) (pa_cons (pv 0) pa_nil)) pa_nil)))
   (pss_cons (ps_set (i:=3) sc_counts.nd rfl (by first|exact aG rfl|exact aE rfl) (pe_callB call_len (by rfl) B.len PySem.boot_len (pa_cons (pe_fn G_lands (hr.mono (by decide)) (pa_cons (pv 0) pa_nil)) pa_nil)))
   (pss_cons (ps_set (i:=4) sc_counts.nd rfl (by first|exact aG rfl|exact aE rfl) (pe_callB call_len (by rfl) B.len PySem.boot_len (pa_cons (pe_fn G_pieces (hr.mono (by decide)) (pa_cons (pv 0) pa_nil)) pa_nil)))
   (pss_cons (ps_set (i:=5) sc_counts.nd rfl (by first|exact aG rfl|exact aE rfl) (pe_op op_fdiv (pe_op op_sub (pe_op op_add (pe_op op_sub (pe_op op_mul pe_int (pv 4)) (pv 1)) (pv 2)) (pv 3)) pe_int))
   (pss_one (ps_ret (pe_tup (pa_cons (pv 1) (pa_cons (pv 2) (pa_cons (pv 3) (pa_cons (pv 4) (pa_cons (pv 5) pa_nil))))))))))))),
   fn_sound ["m", "place_count", "road_count", "land_count", "piece_count", "handle_count"] (K:=K) (ss_seq (ss_asg (i:=1) (SR.kSc (sr_cb cb_len (sar_cons (sr_var 0) sar_nil))))
   (ss_seq (ss_asg (i:=2) (SR.kSc (sr_cb cb_len (sar_cons (SK.rOf (sk_call (sa_cons (sk_var 0) sa_nil))) sar_nil))))
   (ss_seq (ss_asg (i:=3) (SR.kSc (sr_cb cb_len (sar_cons (SK.rOf (sk_call (sa_cons (sk_var 0) sa_nil))) sar_nil))))
   (ss_seq (ss_asg (i:=4) (SR.kSc (sr_cb cb_len (sar_cons (SK.rOf (sk_call (sa_cons (sk_var 0) sa_nil))) sar_nil))))
   (ss_seq (ss_asg (i:=5) (SR.kSc (sr_op od_div (sr_op od_sub (sr_op od_add (sr_op od_sub (sr_op od_mul sr_int (sr_var 4)) (sr_var 1)) (sr_var 2)) (sr_var 3)) sr_int)))
   (ss_ret (sk_tup (sa_cons (sk_var 1) (sa_cons (sk_var 2) (sa_cons (sk_var 3) (sa_cons (sk_var 4) (sa_cons (sk_var 5) sa_nil)))))))))))) h⟩⟩
abbrev s_L_cell:Stmt:=top 38
theorem sc_L_cell:FnScope ["_law_script", "_law_k"] ["_law_script", "_law_k"] (defScope s_L_cell):=⟨rfl,rfl,rfl,by decide +kernel,rfl,by decide +kernel,by decide +kernel⟩
theorem ok_L_cell     (D:Def K mg "_law_cell" s_L_cell ["_law_script", "_law_k"] f fd) (B:Bt mg)     : Fn P w K mg base 1 "_law_cell" s_L_cell ["_law_script", "_law_k"] (spOf K Zl.f_L_cell_at) f fd :=
 ⟨D,D.F.ok sc_L_cell (fun _ _ _ _=>sp_len) fun cdv A outer s H vs Q E hr h=>⟨_,
   (pss_cons (ps_if (pt_cmpR op_lt (pv 1) (pe_callB call_len (by rfl) B.len PySem.boot_len (pa_cons (pv 0) pa_nil)) (nomark _)) (pss_one (ps_ret (pe_ix ix_list (pv 0) (pv 1) (fun _ _=>rfl)))) pss_nil)
   (pss_one (ps_ret pe_int))),
   fn_sound ["_law_script", "_law_k"] (K:=K) (ss_seq (ss_if (st_test (sr_op od_lt (sr_var 1) (sr_cb cb_len (sar_cons (sr_var 0) sar_nil)))) (ss_ret (SR.kSc (sr_op od_ix (sr_var 0) (sr_var 1)))) ss_next)
   (ss_ret (SR.kSc sr_int))) h⟩⟩
abbrev s_L_name:Stmt:=top 39
theorem sc_L_name:FnScope ["_law_one", "_law_two", "_law_k", "_law_step", "_law_shift"] ["_law_one", "_law_two", "_law_k"] (defScope s_L_name):=⟨rfl,rfl,rfl,by decide +kernel,rfl,by decide +kernel,by decide +kernel⟩
theorem ok_L_name     (D:Def K mg "_law_name" s_L_name ["_law_one", "_law_two", "_law_k"] f fd) (B:Bt mg)     : Fn P w K mg base 1 "_law_name" s_L_name ["_law_one", "_law_two", "_law_k"] (spOf K K31.f_L_name) f fd :=
 ⟨D,D.F.ok sc_L_name (fun _ _ _ _=>sp_len) fun cdv A outer s H vs Q E hr h=>⟨_,
   (pss_cons (ps_set (i:=3) sc_L_name.nd rfl (by first|exact aG rfl|exact aE rfl) pe_int)
   (pss_cons (ps_set (i:=4) sc_L_name.nd rfl (by first|exact aG rfl|exact aE rfl) pe_int)
   (pss_cons (ps_if (pt_cmpR op_gt (pe_op op_mod (pv 0) pe_int) pe_int (nomark _)) (pss_cons (ps_set (i:=3) sc_L_name.nd rfl (by first|exact aG rfl|exact aE rfl) (pe_op op_add pe_int (pe_op op_mod (pe_op op_fdiv (pv 0) pe_int) (pe_op op_pow pe_int pe_int)))) (pss_one (ps_set (i:=4) sc_L_name.nd rfl (by first|exact aG rfl|exact aE rfl) (pe_op op_mod (pe_op op_fdiv (pv 1) pe_int) (pe_op op_pow pe_int pe_int))))) pss_nil)
   (pss_one (ps_ret (pe_op op_add (pe_op op_mul (pv 3) (pe_op op_add (pe_op op_mod (pe_op op_add (pe_op op_mul (pe_op op_add pe_int (pe_op op_mod (pv 1) pe_int)) (pv 2)) (pv 0)) pe_int) pe_int)) (pv 4))))))),
   fn_sound ["_law_one", "_law_two", "_law_k", "_law_step", "_law_shift"] (K:=K) (ss_seq (ss_asg (i:=3) (SR.kSc sr_int))
   (ss_seq (ss_asg (i:=4) (SR.kSc sr_int))
   (ss_seq (ss_if (st_test (sr_op od_gt (sr_op od_mod (sr_var 0) sr_int) sr_int)) (ss_seq (ss_asg (i:=3) (SR.kSc (sr_op od_add sr_int (sr_op od_mod (sr_op od_div (sr_var 0) sr_int) (sr_op od_pow sr_int sr_int))))) (ss_asg (i:=4) (SR.kSc (sr_op od_mod (sr_op od_div (sr_var 1) sr_int) (sr_op od_pow sr_int sr_int))))) ss_next)
   (ss_ret (SR.kSc (sr_op od_add (sr_op od_mul (sr_var 3) (sr_op od_add (sr_op od_mod (sr_op od_add (sr_op od_mul (sr_op od_add sr_int (sr_op od_mod (sr_var 1) sr_int)) (sr_var 2)) (sr_var 0)) sr_int) sr_int)) (sr_var 4))))))) h⟩⟩
abbrev s_L_turns:Stmt:=top 40
theorem sc_L_turns:FnScope ["_law_cells", "_law_names", "_law_wild", "_law_turns_here", "_law_way", "_law_loose", "_law_left", "_law_cell_here", "_law_here", "_law_at", "_law_end"] ["_law_cells", "_law_names", "_law_wild"] (defScope s_L_turns):=⟨rfl,rfl,rfl,by decide +kernel,rfl,by decide +kernel,by decide +kernel⟩
theorem ok_L_turns     (D:Def K mg "_law_turns" s_L_turns ["_law_cells", "_law_names", "_law_wild"] f fd) (B:Bt mg)     : Fn P w K mg base 1 "_law_turns" s_L_turns ["_law_cells", "_law_names", "_law_wild"] (spOf K K31.f_L_turns) f fd :=
 ⟨D,D.F.ok sc_L_turns (fun _ _ _ _=>sp_len) fun cdv A outer s H vs Q E hr h=>⟨_,
   (pss_cons (ps_set (i:=3) sc_L_turns.nd rfl (by first|exact aG rfl|exact aE rfl) (pe_lst (pa_cons (pe_lst pa_nil) pa_nil)))
   (pss_cons (ps_set (i:=4) sc_L_turns.nd rfl (by first|exact aG rfl|exact aE rfl) (pe_lst (pa_cons pe_int pa_nil)))
   (pss_cons (ps_set (i:=5) sc_L_turns.nd rfl (by first|exact aG rfl|exact aE rfl) (pe_lst pa_nil))
   (pss_cons (ps_set (i:=6) sc_L_turns.nd rfl (by first|exact aG rfl|exact aE rfl) (pe_callTy call_list_of (by rfl) B.list dn (pa_cons (pv 1) pa_nil)))
   (pss_cons (ps_for PassesOwn.never rfl (pi_list (pv 0)) (pg_name (i:=7) sc_L_turns.nd rfl (by first|exact aG rfl|exact aE rfl))
    (pss_cons (ps_set (i:=8) sc_L_turns.nd rfl (by first|exact aG rfl|exact aE rfl) (pe_ix ix_list (pv 3) (pe_ix ix_list (pv 4) (pe_op op_sub (pe_callB call_len (by rfl) B.len PySem.boot_len (pa_cons (pv 4) pa_nil)) pe_int) (fun _ _=>rfl)) (fun _ _=>rfl))) (pss_one (ps_if (PW.pt (pw_and (pt_cmpR op_eq (pe_op op_mod (pv 7) pe_int) pe_int (nomark _)) (pw_and1 (pt_cmpR op_gt (pe_callB call_len (by rfl) B.len PySem.boot_len (pa_cons (pv 4) pa_nil)) pe_int (nomark _))))) (pss_one (ps_expr (pe_bm0 aj cA cB mt_pop (pv 4)))) (pss_one (ps_if (PW.pt (pw_and (pt_cmpR op_eq (pe_op op_mod (pv 7) pe_int) pe_int (nomark _)) (pw_and1 (pt_cmpR op_gt (pe_callB call_len (by rfl) B.len PySem.boot_len (pa_cons (pv 5) pa_nil)) pe_int (nomark _))))) (pss_cons (ps_set (i:=9) sc_L_turns.nd rfl (by first|exact aG rfl|exact aE rfl) (pe_op op_sub (pe_callB call_len (by rfl) B.len PySem.boot_len (pa_cons (pv 5) pa_nil)) pe_int)) (pss_cons (ps_if (pt_val (pv 2)) (pss_one (ps_set (i:=9) sc_L_turns.nd rfl (by first|exact aG rfl|exact aE rfl) (pe_op op_mod (pe_op op_fdiv (pv 7) pe_int) (pe_callB call_len (by rfl) B.len PySem.boot_len (pa_cons (pv 5) pa_nil))))) pss_nil) (pss_one (ps_expr (pe_bm aj aW aX mt_append (pv 8) (pa_cons (pe_bm aj cA cB mt_popAt (pv 5) (pa_cons (pv 9) pa_nil)) pa_nil)))))) (pss_one (ps_if (pt_cmpR op_gt (pe_callB call_len (by rfl) B.len PySem.boot_len (pa_cons (pv 6) pa_nil)) pe_int (nomark _)) (pss_cons (ps_set (i:=10) sc_L_turns.nd rfl (by first|exact aG rfl|exact aE rfl) (pe_op op_mul (pe_bm aj cA cB mt_popAt (pv 6) (pa_cons pe_int pa_nil)) (pe_op op_sub pe_int (pe_op op_mul pe_int (pe_op op_mod (pe_op op_fdiv (pv 7) pe_int) pe_int))))) (pss_cons (ps_expr (pe_bm aj aW aX mt_append (pv 8) (pa_cons (pv 10) pa_nil))) (pss_one (ps_if (pt_cmpR op_eq (pe_op op_mod (pv 7) pe_int) pe_int (nomark _)) (pss_cons (ps_expr (pe_bm aj aW aX mt_append (pv 3) (pa_cons (pe_lst (pa_cons (pe_un un_neg (pv 10)) pa_nil)) pa_nil))) (pss_one (ps_expr (pe_bm aj aW aX mt_append (pv 4) (pa_cons (pe_op op_sub (pe_callB call_len (by rfl) B.len PySem.boot_len (pa_cons (pv 3) pa_nil)) pe_int) pa_nil))))) (pss_one (ps_expr (pe_bm aj aW aX mt_append (pv 5) (pa_cons (pe_un un_neg (pv 10)) pa_nil)))))))) pss_nil))))))))
   (pss_cons (ps_while PassesOwn.never (pt_cmpR op_gt (pe_callB call_len (by rfl) B.len PySem.boot_len (pa_cons (pv 5) pa_nil)) pe_int (nomark _)) (pss_one (ps_expr (pe_bm aj aW aX mt_append (pe_ix ix_list (pv 3) (pe_ix ix_list (pv 4) (pe_op op_sub (pe_callB call_len (by rfl) B.len PySem.boot_len (pa_cons (pv 4) pa_nil)) pe_int) (fun _ _=>rfl)) (fun _ _=>rfl)) (pa_cons (pe_bm0 aj cA cB mt_pop (pv 5)) pa_nil)))))
   (pss_one (ps_ret (pv 3))))))))),
   fn_sound ["_law_cells", "_law_names", "_law_wild", "_law_turns_here", "_law_way", "_law_loose", "_law_left", "_law_cell_here", "_law_here", "_law_at", "_law_end"] (K:=K) (ss_seq (ss_asg (i:=3) (sk_lst (sa_cons (sk_lst sa_nil) sa_nil)))
   (ss_seq (ss_asg (i:=4) (sk_lst (sa_cons (SR.kSc sr_int) sa_nil)))
   (ss_seq (ss_asg (i:=5) (sk_lst sa_nil))
   (ss_seq (ss_asg (i:=6) (sk_list (sq_var 1)))
   (ss_seq (ss_for (sk_var 0) (ss_als (sph_ix (sph_var 3) (sr_op od_ix (sr_var 4) (sr_op od_sub (sr_cb cb_len (sar_cons (sr_var 4) sar_nil)) sr_int))) (al_if (st_and (st_test (sr_op od_eq (sr_op od_mod (sr_var 7) sr_int) sr_int)) (st_test (sr_op od_gt (sr_cb cb_len (sar_cons (sr_var 4) sar_nil)) sr_int))) (al_ss (ss_dropM (sm_pop0 (i:=4)))) (al_if (st_and (st_test (sr_op od_eq (sr_op od_mod (sr_var 7) sr_int) sr_int)) (st_test (sr_op od_gt (sr_cb cb_len (sar_cons (sr_var 5) sar_nil)) sr_int))) (al_mid (ssk_asg (SR.kSc (sr_op od_sub (sr_cb cb_len (sar_cons (sr_var 5) sar_nil)) sr_int)) (by decide)) (al_mid (ssk_if (st_of (sr_var 2)) (ssk_asg (SR.kSc (sr_op od_mod (sr_op od_div (sr_var 7) sr_int) (sr_cb cb_len (sar_cons (sr_var 5) sar_nil)))) (by decide)) (ssk_next (fun _ _ _ h=>h))) (al_appM (sm_popAt (i:=5) (sr_var 9))))) (al_if (st_test (sr_op od_gt (sr_cb cb_len (sar_cons (sr_var 6) sar_nil)) sr_int)) (al_mid (ssk_asgM (sm_op od_mul (sm_popAt (i:=6) sr_int) (sr_op od_sub sr_int (sr_op od_mul sr_int (sr_op od_mod (sr_op od_div (sr_var 7) sr_int) sr_int)))) (by decide)) (al_seq (al_app (sk_var 10)) (ss_if (st_test (sr_op od_eq (sr_op od_mod (sr_var 7) sr_int) sr_int)) (ss_seq (ss_app (i:=3) (sk_lst (sa_cons (SR.kSc (sr_un ud_neg (sr_var 10))) sa_nil))) (ss_app (i:=4) (SR.kSc (sr_op od_sub (sr_cb cb_len (sar_cons (sr_var 3) sar_nil)) sr_int)))) (ss_app (i:=5) (SR.kSc (sr_un ud_neg (sr_var 10))))))) (al_ss ss_next))))))
   (ss_seq (ss_while 100000 (st_test (sr_op od_gt (sr_cb cb_len (sar_cons (sr_var 5) sar_nil)) sr_int)) (ss_appPM (sph_ix (sph_var 3) (sr_op od_ix (sr_var 4) (sr_op od_sub (sr_cb cb_len (sar_cons (sr_var 4) sar_nil)) sr_int))) (sm_pop0 (i:=5))))
   (ss_ret (sk_mov 3)))))))) h⟩⟩
abbrev s_L_turned:Stmt:=top 41
theorem sc_L_turned:FnScope ["_law_turn", "_law_at"] ["_law_turn"] (defScope s_L_turned):=⟨rfl,rfl,rfl,by decide +kernel,rfl,by decide +kernel,by decide +kernel⟩
theorem ok_L_turned     (D:Def K mg "_law_turned" s_L_turned ["_law_turn"] f fd) (B:Bt mg)     : Fn P w K mg base 1 "_law_turned" s_L_turned ["_law_turn"] (spOf K Zl.f_turned) f fd :=
 ⟨D,D.F.ok sc_L_turned (fun _ _ _ _=>sp_len) fun cdv A outer s H vs Q E hr h=>⟨_,
   (pss_cons (ps_if (pt_cmpR op_eq (pe_callB call_len (by rfl) B.len PySem.boot_len (pa_cons (pv 0) pa_nil)) pe_int (nomark _)) (pss_one (ps_ret (pe_lst pa_nil))) pss_nil)
   (pss_cons (ps_set (i:=1) sc_L_turned.nd rfl (by first|exact aG rfl|exact aE rfl) (pe_bm aj dR fF mt_index (pv 0) (pa_cons (pe_callB (call_minL rfl) (by rfl) B.min fO (pa_cons (pv 0) pa_nil)) pa_nil)))
   (pss_one (ps_ret (pe_op op_cat (pe_slice sl_list (pv 0) (po_some (pv 1)) po_none) (pe_slice sl_list (pv 0) po_none (po_some (pv 1)))))))),
   fn_sound ["_law_turn", "_law_at"] (K:=K) (ss_seq (ss_if (st_test (sr_op od_eq (sr_cb cb_len (sar_cons (sr_var 0) sar_nil)) sr_int)) (ss_ret (sk_lst sa_nil)) ss_next)
   (ss_seq (ss_asg (i:=1) (SR.kSc (sr_bm (T := "list") bm_index (sr_var 0) (sar_cons (sr_cb cb_min (sar_cons (sr_var 0) sar_nil)) sar_nil))))
   (ss_ret (sk_cat (SK.lOf (sk_sl (sq_var 0) (so_some (sr_var 1)) so_none)) (SK.lOf (sk_sl (sq_var 0) so_none (so_some (sr_var 1)))))))) h⟩⟩
abbrev s_L_good:Stmt:=top 42
theorem sc_L_good:FnScope ["_law_turns_here"] ["_law_turns_here"] (defScope s_L_good):=⟨rfl,rfl,rfl,by decide +kernel,rfl,by decide +kernel,by decide +kernel⟩
theorem ok_L_good  (D:Def K mg "_law_good" s_L_good ["_law_turns_here"] f fd) (B:Bt mg)   (G_L_turned:Fn P w K mg base 1 "_law_turned" s_L_turned ["_law_turn"] (spOf K Zl.f_turned) fL_turned fdL_turned)  : Fn P w K mg base 2 "_law_good" s_L_good ["_law_turns_here"] (spOf K Zl.f_in_good_order) f fd :=
 ⟨D,D.F.ok sc_L_good (fun _ _ _ _=>sp_len) fun cdv A outer s H vs Q E hr h=>have hu:=hr.units;⟨_,
   (pss_one (ps_ret (pe_callB (call_sortedR hu) (by rfl) B.sorted cO (pa_cons (pe_comp (cl:=[]) (N:=["_law_turn"]) (fr:=[]) rfl rfl (by decide +kernel) rfl (by decide +kernel) rfl (Frees.none (by decide +kernel)) (pi_list (pv 0)) (fun _ _ _ _=>pf_nil) (fun _ _ _ _=>(pe_fn G_L_turned (hr.mono (by decide)) (pa_cons (pv 0) pa_nil)))) pa_nil)))),
   fn_sound ["_law_turns_here"] (K:=K) (ss_ret (sk_sortRO (sk_compL (sk_var 0) st_all (sk_call (sa_cons (sk_var 0) sa_nil))))) h⟩⟩
abbrev s_L_copy:Stmt:=top 43
theorem sc_L_copy:FnScope ["_law_m"] ["_law_m"] (defScope s_L_copy):=⟨rfl,rfl,rfl,by decide +kernel,rfl,by decide +kernel,by decide +kernel⟩
theorem ok_L_copy     (D:Def K mg "_law_copy" s_L_copy ["_law_m"] f fd) (B:Bt mg)     : Fn P w K mg base 1 "_law_copy" s_L_copy ["_law_m"] (spOf K K51.f_L_copy) f fd :=
 ⟨D,D.F.ok sc_L_copy (fun _ _ _ _=>sp_len) fun cdv A outer s H vs Q E hr h=>⟨_,
   (pss_one (ps_ret (pe_comp (cl:=[]) (N:=["_law_turn"]) (fr:=[]) rfl rfl (by decide +kernel) rfl (by decide +kernel) rfl (Frees.none (by decide +kernel)) (pi_list (pv 0)) (fun _ _ _ _=>pf_nil) (fun _ _ _ _=>(pe_callTy call_list_of (by rfl) B.list dn (pa_cons (pv 0) pa_nil)))))),
   fn_sound ["_law_m"] (K:=K) (ss_ret (sk_compL (sk_var 0) st_all (sk_list (sq_var 0)))) h⟩⟩
abbrev s_L_flat:Stmt:=top 44
theorem sc_L_flat:FnScope ["_law_turns_here", "_law_ends", "_law_turn"] ["_law_turns_here"] (defScope s_L_flat):=⟨rfl,rfl,rfl,by decide +kernel,rfl,by decide +kernel,by decide +kernel⟩
theorem ok_L_flat     (D:Def K mg "_law_flat" s_L_flat ["_law_turns_here"] f fd) (B:Bt mg)     : Fn P w K mg base 1 "_law_flat" s_L_flat ["_law_turns_here"] (spOf K Zl.f_told_ends) f fd :=
 ⟨D,D.F.ok sc_L_flat (fun _ _ _ _=>sp_len) fun cdv A outer s H vs Q E hr h=>⟨_,
   (pss_cons (ps_set (i:=1) sc_L_flat.nd rfl (by first|exact aG rfl|exact aE rfl) (pe_lst pa_nil))
   (pss_cons (ps_for PassesOwn.never rfl (pi_list (pv 0)) (pg_name (i:=2) sc_L_flat.nd rfl (by first|exact aG rfl|exact aE rfl))
    (pss_one (ps_expr (pe_bm aj fq ft mt_extend (pv 1) (pa_cons (pv 2) pa_nil)))))
   (pss_one (ps_ret (pv 1))))),
   fn_sound ["_law_turns_here", "_law_ends", "_law_turn"] (K:=K) (ss_seq (ss_asg (i:=1) (sk_lst sa_nil))
   (ss_seq (ss_for (sk_var 0) (ss_ext (i:=1) (sl_var 2)))
   (ss_ret (sk_mov 1)))) h⟩⟩
abbrev s_Cut_done:Stmt:=cdef 34 1
theorem sc_Cut_done:FnScope ["self", "m"] ["self", "m"] (defScope s_Cut_done):=⟨rfl,rfl,rfl,by decide +kernel,rfl,by decide +kernel,by decide +kernel⟩
theorem ok_Cut_done  {C_Cut:Addr}(F:Fun K "done" "Cut.done" s_Cut_done f fd) (mt:Meth K C_Cut "done" f) (b:Binds K fd ["self", "m"] []) (B:Bt mg)   (G_without_road:FnX P w K mg base 4 "without_road" s_without_road ["m", "road"] (spX K K23.f_without_road) fwithout_road fdwithout_road) (IC_Cut:InsC K "Cut" C_Cut) (NA_Cut_road:NoAttr K C_Cut "road"):MtX P w K mg base 5 C_Cut "done" ["self", "m"] (spX K K23.f_Cut_done) f fd :=
 ⟨IC_Cut.cl,mt,b,okX F sc_Cut_done (fun vs H Q E h=>spX_len h) fun cdv A outer s H vs Q E hr h=>⟨_,
   (pss_one (ps_ret (pe_fnE G_without_road (hr.mono (by decide)) passes_cx (pa_cons (pv 1) (pa_cons (pe_fld (pv 0) (by rfl)) pa_nil))))),
   fn_soundX ["self", "m"] (K:=K) (ssx_ret (sa_cons (sk_var 1) (sa_cons (SR.kSc (sr_fldI IC_Cut NA_Cut_road (sr_var 0))) sa_nil))) h⟩⟩
abbrev s_law:Stmt:=top 45
theorem sc_law:FnScope ["_law_script", "_law_one", "_law_two", "_law_pick", "_law_names", "_law_m", "_law_found", "_law_many", "_law_end"] ["_law_script"] (defScope s_law):=⟨rfl,rfl,rfl,by decide +kernel,rfl,by decide +kernel,by decide +kernel⟩
theorem ok_law  {C_Cut:Addr}{ji_Cut:Addr}{fdj_Cut:FuncData}(D:Def K mg "law" s_law ["_law_script"] f fd) (B:Bt mg)   (G_L_cell:Fn P w K mg base 1 "_law_cell" s_L_cell ["_law_script", "_law_k"] (spOf K Zl.f_L_cell_at) fL_cell fdL_cell) (G_L_good:Fn P w K mg base 2 "_law_good" s_L_good ["_law_turns_here"] (spOf K Zl.f_in_good_order) fL_good fdL_good) (G_bridges:Fn P w K mg base 4 "bridges" s_bridges ["m"] (spOf K K43.f_bridges) fbridges fdbridges) (G_L_flat:Fn P w K mg base 1 "_law_flat" s_L_flat ["_law_turns_here"] (spOf K Zl.f_told_ends) fL_flat fdL_flat) (G_L_name:Fn P w K mg base 1 "_law_name" s_L_name ["_law_one", "_law_two", "_law_k"] (spOf K K31.f_L_name) fL_name fdL_name) (G_L_copy:Fn P w K mg base 1 "_law_copy" s_L_copy ["_law_m"] (spOf K K51.f_L_copy) fL_copy fdL_copy) (G_counts:Fn P w K mg base 4 "counts" s_counts ["m"] (spOf K K43.f_counts) fcounts fdcounts) (G_L_turns:Fn P w K mg base 1 "_law_turns" s_L_turns ["_law_cells", "_law_names", "_law_wild"] (spOf K K31.f_L_turns) fL_turns fdL_turns) (IC_Cut:InsC K "Cut" C_Cut) (NA_Cut_road:NoAttr K C_Cut "road") (M_Cut:ClsM P w K mg base "Cut" C_Cut ji_Cut fdj_Cut ["self", "road"] ["road"]) (G_Cut_done:MtX P w K mg base 5 C_Cut "done" ["self", "m"] (spX K K23.f_Cut_done) fCut_done fdCut_done):Fn P w K mg base 6 "law" s_law ["_law_script"] (spOf K K43.f_law) f fd :=
 ⟨D,D.F.ok sc_law (fun _ _ _ _=>sp_len) fun cdv A outer s H vs Q E hr h=>⟨_,
   (pss_cons (ps_set (i:=1) sc_law.nd rfl (by first|exact aG rfl|exact aE rfl) (pe_fn G_L_cell (hr.mono (by decide)) (pa_cons (pv 0) (pa_cons pe_int pa_nil))))
   (pss_cons (ps_set (i:=2) sc_law.nd rfl (by first|exact aG rfl|exact aE rfl) (pe_fn G_L_cell (hr.mono (by decide)) (pa_cons (pv 0) (pa_cons pe_int pa_nil))))
   (pss_cons (ps_set (i:=3) sc_law.nd rfl (by first|exact aG rfl|exact aE rfl) (pe_fn G_L_cell (hr.mono (by decide)) (pa_cons (pv 0) (pa_cons pe_int pa_nil))))
   (pss_cons (ps_set (i:=4) sc_law.nd rfl (by first|exact aG rfl|exact aE rfl) (pe_comp (N:=["_law_k", "_law_one", "_law_two"]) (fr:=[1,2]) rfl rfl (by decide +kernel) rfl (by decide +kernel) rfl (Frees.of (by decide +kernel) rfl rfl (by exact ⟨rfl,rfl,trivial⟩) (by repeat (first|exact trivial|refine ⟨(by first|exact fun _=>⟨_,rfl⟩|exact fun h=>(by rcases h with h|h <;> cases h)),?_⟩)) (by exact ⟨⟨rfl,rfl,rfl⟩,⟨rfl,rfl,rfl⟩,trivial⟩)) (pi_range1 (by rfl) B.range (pa_cons pe_int pa_nil)) (fun _ _ _ _=>pf_nil) (fun _ _ _ _=>(pe_fn G_L_name (hr.mono (by decide)) (pa_cons (pv 1) (pa_cons (pv 2) (pa_cons (pv 0) pa_nil)))))))
   (pss_cons (ps_set (i:=5) sc_law.nd rfl (by first|exact aG rfl|exact aE rfl) (pe_fn G_L_good (hr.mono (by decide)) (pa_cons (pe_op op_cat (pe_fn G_L_turns (hr.mono (by decide)) (pa_cons (pe_slice sl_list (pv 0) (po_some pe_int) (po_some pe_int)) (pa_cons (pv 4) (pa_cons (pe_cmpR op_eq (pe_op op_mod (pv 3) pe_int) pe_int (nomark _)) pa_nil)))) (pe_comp (cl:=[]) (N:=["_law_k"]) (fr:=[]) rfl rfl (by decide +kernel) rfl (by decide +kernel) rfl (Frees.none (by decide +kernel)) (pi_range1 (by rfl) B.range (pa_cons (pe_op op_mod (pe_op op_fdiv (pv 3) pe_int) pe_int) pa_nil)) (fun _ _ _ _=>pf_nil) (fun _ _ _ _=>(pe_lst pa_nil)))) pa_nil)))
   (pss_cons (ps_set (i:=6) sc_law.nd rfl (by first|exact aG rfl|exact aE rfl) (pe_fn G_bridges (hr.mono (by decide)) (pa_cons (pe_fn G_L_copy (hr.mono (by decide)) (pa_cons (pv 5) pa_nil)) pa_nil)))
   (pss_cons (ps_set (i:=7) sc_law.nd rfl (by first|exact aG rfl|exact aE rfl) (pe_ix ix_tup (pe_fn G_counts (hr.mono (by decide)) (pa_cons (pv 5) pa_nil)) pe_int (fun _ _=>rfl)))
   (pss_cons (ps_if (pt_not (pt_val (pe_callB call_isi (by rfl) B.isi gM (pa_cons (pv 6) (pa_cons (pe_bltn (v:=.ty "list") (by rfl) B.list dn rfl) pa_nil))))) (pss_one (ps_ret pe_bl)) pss_nil)
   (pss_cons (ps_for PassesOwn.never rfl (pi_list (pe_fn G_L_flat (hr.mono (by decide)) (pa_cons (pv 5) pa_nil))) (pg_name (i:=8) sc_law.nd rfl (by first|exact aG rfl|exact aE rfl))
    (pss_one (ps_if (PW.pt (pw_and (pt_cmpR op_gt (pv 8) pe_int (nomark _)) (pw_and1 (pt_cmpR op_ne (pe_ix ix_tup (pe_fn G_counts (hr.mono (by decide)) (pa_cons (pe_mtX G_Cut_done (hr.mono (by decide)) (pe_mkI M_Cut (hr.mono (by decide)) (pa_cons (pv 8) pa_nil)) (pa_cons (pv 5) pa_nil)) pa_nil)) pe_int (fun _ _=>rfl)) (pe_op op_add (pv 7) (pe_bm aj cW fG mt_cntI (pv 6) (pa_cons (pv 8) pa_nil))) (nomark _))))) (pss_one (ps_ret pe_bl)) pss_nil)))
   (pss_one (ps_ret (pe_callB (call_all rfl) (by rfl) B.all hU (pa_cons (pe_comp (N:=["_law_road", "_law_names"]) (fr:=[4]) rfl rfl (by decide +kernel) rfl (by decide +kernel) rfl (Frees.of (by decide +kernel) rfl rfl (by exact ⟨rfl,trivial⟩) (by repeat (first|exact trivial|refine ⟨(by first|exact fun _=>⟨_,rfl⟩|exact fun h=>(by rcases h with h|h <;> cases h)),?_⟩)) (by exact ⟨⟨rfl,rfl,rfl⟩,trivial⟩)) (pi_list (pv 6)) (fun _ _ _ _=>pf_nil) (fun _ _ _ _=>(pe_cmpR op_in_seq (pv 0) (pv 1) rfl))) pa_nil))))))))))))),
   fn_sound ["_law_script", "_law_one", "_law_two", "_law_pick", "_law_names", "_law_m", "_law_found", "_law_many", "_law_end"] (K:=K) (ss_seq (ss_asg (i:=1) (SR.kSc (sr_call (sar_cons (sr_var 0) (sar_cons sr_int sar_nil)))))
   (ss_seq (ss_asg (i:=2) (SR.kSc (sr_call (sar_cons (sr_var 0) (sar_cons sr_int sar_nil)))))
   (ss_seq (ss_asg (i:=3) (SR.kSc (sr_call (sar_cons (sr_var 0) (sar_cons sr_int sar_nil)))))
   (ss_seq (ss_asg (i:=4) (sk_compR1 (sar_cons sr_int sar_nil) st_all (SR.kSc (sr_call (sar_cons (sr_var 1) (sar_cons (sr_var 2) (sar_cons (sr_var 0) sar_nil)))))))
   (ss_seq (ss_asg (i:=5) (sk_call (sa_cons (sk_cat (SK.lOf (sk_call (sa_cons (sk_sl (sq_var 0) (so_some sr_int) (so_some sr_int)) (sa_cons (sk_var 4) (sa_cons (SR.kSc (sr_op od_eq (sr_op od_mod (sr_var 3) sr_int) sr_int)) sa_nil))))) (SK.lOf (sk_compR1 (sar_cons (sr_op od_mod (sr_op od_div (sr_var 3) sr_int) sr_int) sar_nil) st_all (sk_lst sa_nil)))) sa_nil)))
   (ss_seq (ss_asg (i:=6) (sk_call (sa_cons (sk_call (sa_cons (sk_var 5) sa_nil)) sa_nil)))
   (ss_seq (ss_asg (i:=7) (SR.kSc (sr_op od_ixT (SK.rOf (sk_call (sa_cons (sk_var 5) sa_nil))) sr_int)))
   (ss_seq (ss_if (st_not (st_of (sr_cb cb_isi (sar_cons (sr_var 6) (sar_cons sr_ty sar_nil))))) (ss_ret (SR.kSc sr_bl)) ss_next)
   (ss_seq (ss_for (sk_call (sa_cons (sk_var 5) sa_nil)) (ss_if (st_and (st_test (sr_op od_gt (sr_var 8) sr_int)) (st_test (sr_op od_ne (sr_op od_ixT (SK.rOf (sk_call (sa_cons (sk_call (sa_obj IC_Cut (sk_mkI IC_Cut (sar_cons (sr_var 8) sar_nil)) (sa_cons (sk_var 5) sa_nil))) sa_nil))) sr_int) (sr_op od_add (sr_var 7) (sr_bm (T := "list") bm_cntI (sr_var 6) (sar_cons (sr_var 8) sar_nil)))))) (ss_ret (SR.kSc sr_bl)) ss_next))
   (ss_ret (SR.kSc (sr_cb cb_all (sar_cons (SK.rOf (sk_compL (sk_var 6) st_all (SR.kSc (sr_op (od_inL false) (sr_var 0) (sr_var 1))))) sar_nil))))))))))))) h⟩⟩
end
end K43
--ZQ3 --ZQ4 --ZQ5 --ZQ8
namespace K13
open PySem L2 Mr Z Xe Zl
def plain:Nat->D->Prop
 | 0,_=>False
 | _+1,.int _=>True
 | _+1,.str _=>True
 | n+1,.list ds=>ds.length<1000000/\∀ d∈ds,plain n d
 | n+1,.tup ds=>ds.length<1000000/\∀ d∈ds,plain n d
 | _+1,_=>False
def iter:Nat->MF
 | 0=>fNone
 | n+1=>fA_L_alike (iter n)
end K13
--ZQ3 --ZQ4 --ZQ5 --ZQ6 --ZQ8 --ZQ9 --ZQB --ZQC --ZQD --ZQE
namespace K12
open PySem L2 Mr Z Xe Zl
abbrev aP (part:List (List Int)):AV:=.ow (part.map aI)
theorem map_set' {α β:Type}(f:α->β) (l:List α) (i:Nat) (a:α):(l.map f).set i (f a)=(l.set i a).map f:=by rw [List.map_set]
structure Wd where
 P0:List (List (List Int))
 last:List (List Int)
 t0:List Nat
 h:Nat
 left:List Int
 used:Nat
abbrev cN (ks:List Nat):List Int:=ks.map fun n:Nat=>(n:Int)
def st (v0 v1:Option AV) (w:Wd) (v6 v7 v8 v9:Option AV):AS:=[v0,v1,some (.ow ((w.P0++[w.last]).map aP)),some (aI (cN (w.t0++[w.h]))),some (aI w.left),some (.sh (.int (w.used:Int))),v6,v7,v8,v9]
end K12
--ZQ3 --ZQ4 --ZQ5 --ZQ6 --ZQ8 --ZQ9 --ZQB --ZQC --ZQD --ZQE
namespace K12
open PySem L2 Mr Z Xe Zl
section
variable {nm:List Int}{P0:List (List (List Int))}{last:List (List Int)}{t0:List Nat}{hd:Nat}{left r:List Int}{used:Nat}{c e:Int}{v0 v1 v8:Option AV}
theorem ap_row (r:List Int) (e:Int):(r.map fun n=>AV.sh (.int n))++[.sh (.int e)]=(r++[e]).map fun n=>.sh (.int n):=by rw [mBq];rfl
theorem ap_turn (l:List (List Int)) (e:Int):l.map aI++[.ow [.sh (.int e)]]=(l++[[e]]).map aI:=by rw [mBq];rfl
theorem ap_cN (ks:List Nat) (n:Nat):(cN ks).map (fun n=>AV.sh (.int n))++[.sh (.int (n:Int))]=(cN (ks++[n])).map fun n=>.sh (.int n):=by unfold cN;rw [mBq,mBq];rfl
theorem er_map {α β:Type}(f:α->β):∀ (l:List α) (i:Nat),(l.map f).eraseIdx i=(l.eraseIdx i).map f
 | [],i=>rfl
 | x::l,0=>rfl
 | x::l,i+1=>by rw [aq,cc,cc,er_map f l i,aq]
end
end K12
--ZQ3 --ZQ4 --ZQ5 --ZQ6 --ZQ8 --ZQ9 --ZQB --ZQC --ZQD --ZQE
namespace K12
open PySem L2 Mr Z Xe Zl
def both (nm:List Int) (k:Nat):List Int:=(nm.take k).flatMap fun x=>[x, -x]
theorem cnt_set {x r:List Int}(a:Int):∀ {l:List (List Int)}{h:Nat},l[h]?=some r->(l.set h (r++x)).flatten.count a=l.flatten.count a+x.count a
 | [],_,h=>by simp at h
 | s::l,0,h=>by
  cases h
  rw [cY,fCq,fCq,cAq,cAq,cAq]
  omega
 | s::l,h+1,e=>by
  rw [dP,fCq,fCq,cAq,cAq,cnt_set a (by simpa using e)]
  omega
theorem cnt_erase (a:Int):∀ {l:List Int}{j:Nat},j<l.length->(l.eraseIdx j).count a+[l.getD j 0].count a=l.count a
 | [],_,h=>by simp at h
 | x::l,0,_=>by
  rw [dS,show x::l=[x]++l from rfl,cAq]
  show l.count a+[x].count a=_
  omega
 | x::l,j+1,h=>by
  have ih:=cnt_erase a (l:=l) (j:=j) (by simpa using h)
  rw [cc,show x::l.eraseIdx j=[x]++l.eraseIdx j from rfl,show (x::l).getD (j+1) 0=l.getD j 0 from rfl,show x::l=[x]++l from rfl,cAq,cAq]
  omega
theorem row_len {l:List (List Int)}{h:Nat}{r:List Int}(e:l[h]?=some r):r.length<=l.flatten.length:=eQ.length_le (bB (mGq e))
end K12
--ZQ3 --ZQ4 --ZQ5 --ZQ6 --ZQ8 --ZQ9 --ZQB --ZQC --ZQD --ZQE
namespace K12
open PySem L2 Mr Z Xe Zl
def w0:Wd:=⟨[],[[]],[],0,[],0⟩
end K12
--ZQ3 --ZQ4 --ZQ5 --ZQ6 --ZQ8 --ZQ9 --ZQB --ZQC --ZQD --ZQE
namespace K12
open PySem L2 Mr Z Xe Zl
def nmk (st sh a b k:Int):Int:=st*((a*k+b) % 67+1)+sh
theorem nmk_inj {st sh a b:Int}(h1:1<=st) (h2:1<=a) (h3:a<=66) {j k:Nat}(hj:j<67) (hk:k<67) (h:nmk st sh a b j=nmk st sh a b k):j=k:=by
 unfold nmk at h
 have e1:st*((a*j+b) % 67+1)=st*((a*k+b) % 67+1):=by omega
 have e2:=Int.eq_of_mul_eq_mul_left (by omega) e1
 have e3:((a*j+b)-(a*k+b)) % 67=0:=Int.emod_eq_emod_iff_emod_sub_eq_zero.mp (by omega)
 have e4:(a*((j:Int)-k)) % 67=0:=by
  rw [← e3]
  congr 1
  rw [Int.mul_sub]
  omega
 obtain ⟨tn,rfl⟩:∃ tn:Nat,a=(tn:Int)+1:=⟨(a-1).toNat,by omega⟩
 rcases gp j k with q|q|q
 .exfalso
  refine Mr.prime67 ⟨tn,by omega⟩ ⟨k-j,by omega⟩ (by show 0<k-j;omega) ?_
  show (tn+1)*(k-j) % 67=0
  have e5:(((tn:Int)+1)*((k:Int)-j)) % 67=0:=by
   have:((tn:Int)+1)*((k:Int)-j) = -(((tn:Int)+1)*((j:Int)-k)):=by
    rw [← Int.mul_neg]
    congr 1
    omega
   rw [this]
   omega
  have e6:(((tn+1)*(k-j) % 67:Nat):Int)=0:=by
   rw [← e5]
   push_cast [bX q]
   rfl
  omega
 .exact q
 .exfalso
  refine Mr.prime67 ⟨tn,by omega⟩ ⟨j-k,by omega⟩ (by show 0<j-k;omega) ?_
  show (tn+1)*(j-k) % 67=0
  have e6:(((tn+1)*(j-k) % 67:Nat):Int)=0:=by
   rw [← e4]
   push_cast [bX q]
   rfl
  omega
theorem pm_nodup:∀ {l:List Int},l.Nodup->(∀ x∈l,1<=x)->(l.flatMap fun x=>[x, -x]).Nodup
 | [],_,_=>bh
 | x::l,hn,hp=>by
  have hn':=aL.mp hn
  have px:=hp x (bb ..)
  rw [fh,nAq]
  refine ⟨?_,pm_nodup hn'.2 fun y hy=>hp y (mCo _ hy),fun a ha b hb e=>?_⟩
  .rw [aL]
   refine ⟨?_,by simp⟩
   rw [mSq]
   omega
  .subst e
   obtain ⟨y,hy,q⟩:=gG.mp hb
   have py:=hp y (mCo _ hy)
   simp at ha q
   have:y=x:=by omega
   exact hn'.1 (this ▸ hy)
end K12
--ZQ3 --ZQ4 --ZQ5 --ZQ6 --ZQ8 --ZQ9
namespace K51
open PySem L2 Mr Z Xe Zl
def rd (st sh a b k:Int):Int:=st*(1+(a*k+b) % 67)+sh
end K51
--ZQ3 --ZQ4 --ZQ5 --ZQ6 --ZQ8 --ZQ9
namespace K51
open PySem L2 Mr Z Xe Zl
end K51
--ZQ3 --ZQ4 --ZQ5 --ZQ6 --ZQ8 --ZQ9
namespace K51
open PySem L2 Mr Z Xe Zl
end K51
--ZQ3 --ZQ4 --ZQ5 --ZQ6 --ZQ8 --ZQ9
namespace K51
open PySem L2 Mr Z Xe Zl
def kd (ks:List Nat):List (Key×D):=ks.map fun k:Nat=>((aO (k:Int):Key),D.bl true)
def wd (ws:List Nat):List AV:=ws.map fun k:Nat=>AV.sh (.int (k:Int))
theorem kd_any (ks:List Nat) (t:Nat):(kd ks).any (fun kv=>decide (kv.1=(aO (t:Int):Key)))=decide (t∈ks):=by
 induction ks with
 | nil=>simp [kd]
 | cons k ks ih =>
  unfold kd at ih ⊢
  rw [aq,cF,ih]
  by_cases h:t=k
  .subst h;simp
  .have h':¬ (aO (k:Int):Key)=aO (t:Int):=fun q=>h (by have:=aO.inj q;omega)
   simp [h',h]
theorem kd_get (ks:List Nat) (t:Nat):(getD (kd ks) (aO (t:Int))).isSome=decide (t∈ks):=by
 unfold getD
 rw [dX,← kd_any,bx,gu,fB]
theorem kd_put {ks:List Nat}{t:Nat}(h:t∉ks):putD (kd ks) (aO (t:Int)) (.bl true)=kd (ks++[t]):=by
 unfold putD
 rw [kd_any,decide_eq_false h,if_neg (by simp)]
 simp [kd]
theorem reach_step {kvs:List (Key×D)}{ks ws:List Nat}{e:Int}{t:Nat}{v0 v1 v5 v7:Option AV}(hg:getD kvs (aO (-e))=some (.int (t:Int))) (hk:ks.length<500000) (hw:ws.length<500000) :
  mb_reached_0 [v0,v1,some (.owd kvs),some (.owd (kd ks)),some (.ow (wd ws)),v5,some (.sh (.int e)),v7]=some (.nx [v0,v1,some (.owd kvs),some (.owd (kd (if t∈ks then ks else ks++[t]))),some (.ow (wd (if t∈ks then ws else ws++[t]))),v5,some (.sh (.int e)),some (.sh (.int (t:Int)))]):=by
 have l1:(kd ks).length<LIM:=by unfold kd;rw [lMq];show _<16777216;lia
 have l2:(wd ws).length<LIM:=by unfold wd;rw [lMq];show _<16777216;lia
 have hg2:=kd_get ks t
 by_cases h:t∈ks
 .rw [decide_eq_true h] at hg2
  simp_arith [mb_reached_0,hg,hg2,h]
 .rw [decide_eq_false h] at hg2
  have hp:=kd_put h
  have hw2:wd ws++[.sh (.int (t:Int))]=wd (ws++[t]):=by simp [wd]
  simp_arith [mb_reached_0,hg,hg2,h,hp,l1,l2,hw2]
def see (pl:Int->Nat) (x:List Nat×List Nat) (e:Int):List Nat×List Nat:=if pl (-e)∈x.1 then x else (x.1++[pl (-e)],x.2++[pl (-e)])
theorem see_len (pl:Int->Nat):∀ (r:List Int) (x:List Nat×List Nat),(r.foldl (see pl) x).1.length<=x.1.length+r.length/\(r.foldl (see pl) x).2.length<=x.2.length+r.length
 | [],x=>⟨af _,af _⟩
 | e::r,x=>by
  obtain ⟨h1,h2⟩:=see_len pl r (see pl x e)
  have h3:(see pl x e).1.length<=x.1.length+1/\(see pl x e).2.length<=x.2.length+1:=by
   unfold see
   split
   .exact ⟨bA _,bA _⟩
   .simp
  rw [bP,lCq]
  omega
theorem reach_row {kvs:List (Key×D)}{ks ws:List Nat}{r:List Int}{pl:Int->Nat}{v0 v1 v5 v6 v7:Option AV}(hg:∀ e∈r,getD kvs (aO (-e))=some (.int (pl (-e):Int))) (hk:ks.length+r.length<500000) (hw:ws.length+r.length<500000) :
  ∃ v6' v7',mForL 6 mb_reached_0 (r.map D.int) [v0,v1,some (.owd kvs),some (.owd (kd ks)),some (.ow (wd ws)),v5,v6,v7]=some (.nx [v0,v1,some (.owd kvs),some (.owd (kd (r.foldl (see pl) (ks,ws)).1)),some (.ow (wd (r.foldl (see pl) (ks,ws)).2)),v5,v6',v7']):=by
 have key:=forL0 (x:=6) (body:=mb_reached_0) (fun i S=>∃ v6' v7',S=[v0,v1,some (.owd kvs),some (.owd (kd ((r.take i).foldl (see pl) (ks,ws)).1)),some (.ow (wd ((r.take i).foldl (see pl) (ks,ws)).2)),v5,v6',v7']) (ds:=r.map D.int) (S:=[v0,v1,some (.owd kvs),some (.owd (kd ks)),some (.ow (wd ws)),v5,v6,v7])
  ⟨v6,v7,rfl⟩ (by
  rintro i d S hd ⟨v6',v7',rfl⟩
  rw [gMq] at hd
  obtain ⟨e,he,rfl⟩:=oMq.mp hd
  have hi:i<r.length:=(gSq.mp he).1
  have hm:e∈r:=mGq he
  obtain ⟨n1,n2⟩:=see_len pl (r.take i) (ks,ws)
  rw [lTq] at n1 n2
  have n1':((r.take i).foldl (see pl) (ks,ws)).1.length<=ks.length+min i r.length:=n1
  have n2':((r.take i).foldl (see pl) (ks,ws)).2.length<=ws.length+min i r.length:=n2
  have step:=reach_step (v0:=v0) (v1:=v1) (v5:=v5) (v7:=v7') (hg e hm) (ks:=((r.take i).foldl (see pl) (ks,ws)).1) (ws:=((r.take i).foldl (see pl) (ks,ws)).2) (by omega) (by omega)
  have et:(r.take (i+1)).foldl (see pl) (ks,ws)=see pl ((r.take i).foldl (see pl) (ks,ws)) e:=by
   have:r[i]'hi=e:=by rw [gEg hi] at he;exact aT.inj he
   rw [cK hi,fg,this]
   rfl
  refine ⟨_,step,some (.sh (.int e)),some (.sh (.int (pl (-e):Int))),?_⟩
  rw [et]
  unfold see
  split <;> rfl)
 obtain ⟨S',e,v6',v7',rfl⟩:=key
 rw [lMq,bu] at e
 exact ⟨v6',v7',e⟩
end K51
--ZQ3 --ZQ4 --ZQ5 --ZQ6 --ZQ8 --ZQ9
namespace K51
open PySem L2 Mr Z Xe Zl
theorem pig:∀ (N:Nat) (l:List Nat),l.Nodup->(∀ x∈l,x<N)->l.length<=N
 | 0,l,_,h=>by
  cases l with
  | nil=>exact af _
  | cons x l=>exact absurd (h x (bb ..)) (cD _)
 | N+1,l,hn,h=>by
  have h2:=pig N (l.erase N) (hn.erase N) (fun x hx=>by
   have:=(hn.mem_erase_iff).mp hx
   have:=h x this.2
   omega)
  rw [List.length_erase] at h2
  split at h2 <;> omega
def plc (rs:List (List Int)) (e:Int):Nat:=rs.findIdx fun r=>decide (e∈r)
theorem same_place {rs:List (List Int)}(hn:rs.flatten.Nodup) {i j:Nat}{r s:List Int}{e:Int}(hi:rs[i]?=some r) (hj:rs[j]?=some s) (h1:e∈r) (h2:e∈s):i=j:=by
 have a:=getD_kv 0 hn hi h1
 have b:=getD_kv 0 hn hj h2
 rw [a] at b
 have:=D.int.inj (aT.inj b)
 omega
theorem plc_eq {rs:List (List Int)}(hn:rs.flatten.Nodup) {i:Nat}{r:List Int}{e:Int}(hi:rs[i]?=some r) (h1:e∈r):plc rs e=i:=by
 have hl:rs.findIdx (fun r=>decide (e∈r))<rs.length:=cJ ⟨r,mGq hi,decide_eq_true h1⟩
 have h2:=eJ (xs:=rs) (p:=fun r=>decide (e∈r)) (w:=hl)
 exact same_place hn (gEg hl) hi (of_decide_eq_true h2) h1
structure Mp (rs:List (List Int)):Prop where
 hn:rs.flatten.Nodup
 hl:rs.flatten.length<=1000
 hr:rs.length<=1000
 hneg:∀ e∈rs.flatten, -e∈rs.flatten
theorem Mp.at {rs:List (List Int)}(h:Mp rs) {e:Int}(he:e∈rs.flatten):∃ r,rs[plc rs e]?=some r/\e∈r:=by
 obtain ⟨r,h1,h2⟩:=mFq.mp he
 obtain ⟨i,h3⟩:=bJ.mp h1
 exact ⟨r,by rw [plc_eq h.hn h3 h2];exact h3,h2⟩
theorem Mp.other {rs:List (List Int)}(h:Mp rs) {k:Nat}{r:List Int}{e:Int}(hk:rs[k]?=some r) (he:e∈r):-e∈rs.flatten:=h.hneg e (mFq.mpr ⟨r,mGq hk,he⟩)
theorem Mp.kv {rs:List (List Int)}(h:Mp rs) {e:Int}(he:e∈rs.flatten):getD (kvFrom 0 rs) (aO e)=some (.int (plc rs e:Int)):=by
 obtain ⟨r,h1,h2⟩:=h.at he
 have:=getD_kv 0 h.hn h1 h2
 rwa [bI] at this
theorem Mp.lt {rs:List (List Int)}(h:Mp rs) {e:Int}(he:e∈rs.flatten):plc rs e<rs.length:=by
 obtain ⟨r,h1,_⟩:=h.at he
 exact (gSq.mp h1).1
theorem Mp.row {rs:List (List Int)}(h:Mp rs) {k:Nat}{r:List Int}(hk:rs[k]?=some r):r.length<=1000:=by
 have:=eQ.length_le (bB (mGq hk))
 have:=h.hl
 omega
inductive Rch (rs:List (List Int)) (s:Nat):Nat->Prop
 | base:Rch rs s s
 | step {k:Nat}{r:List Int}{e:Int}:Rch rs s k->rs[k]?=some r->e∈r->Rch rs s (plc rs (-e))
theorem see_fold (pl:Int->Nat):∀ (r:List Int) (ks ws:List Nat),∃ a,r.foldl (see pl) (ks,ws)=(ks++a,ws++a)/\(∀ k∈a,∃ e∈r,k=pl (-e))/\(∀ e∈r,pl (-e)∈ks++a)/\(ks.Nodup->(ks++a).Nodup)
 | [],ks,ws=>⟨[],by simp,by simp,by simp,by simp⟩
 | e::r,ks,ws=>by
  rw [bP]
  by_cases h:pl (-e)∈ks
  .have e1:see pl (ks,ws) e=(ks,ws):=by unfold see;rw [if_pos h]
   rw [e1]
   obtain ⟨a,h1,h2,h3,h4⟩:=see_fold pl r ks ws
   refine ⟨a,h1,fun k hk=>?_,fun x hx=>?_,h4⟩
   .obtain ⟨x,hx,q⟩:=h2 k hk
    exact ⟨x,mCo _ hx,q⟩
   .rcases ai.mp hx with rfl|hx
    .exact mAq.mpr (.inl h)
    .exact h3 x hx
  .have e1:see pl (ks,ws) e=(ks++[pl (-e)],ws++[pl (-e)]):=by unfold see;rw [if_neg h]
   rw [e1]
   obtain ⟨a,h1,h2,h3,h4⟩:=see_fold pl r (ks++[pl (-e)]) (ws++[pl (-e)])
   refine ⟨pl (-e)::a,by rw [h1,ak,ak];rfl,fun k hk=>?_,fun x hx=>?_,fun hn=>?_⟩
   .rcases ai.mp hk with rfl|hk
    .exact ⟨e,bb ..,rfl⟩
    .obtain ⟨x,hx,q⟩:=h2 k hk
     exact ⟨x,mCo _ hx,q⟩
   .rcases ai.mp hx with rfl|hx
    .exact mAq.mpr (.inr (bb ..))
    .have:=h3 x hx
     rwa [ak] at this
   .have:=h4 (by
     rw [nAq]
     exact ⟨hn,by simp,fun x hx y hy q=>h (by rw [mSq.mp hy] at q;rw [← q];exact hx)⟩)
    rwa [ak] at this
structure Inv (rs:List (List Int)) (s:Nat) (ks ws:List Nat):Prop where
 nd:ks.Nodup
 lt:∀ k∈ks,k<rs.length
 st:s∈ks
 rc:∀ k∈ks,Rch rs s k
 sub:∀ w∈ws,w∈ks
 cl:∀ k∈ks,k∉ws->∀ r e,rs[k]?=some r->e∈r->plc rs (-e)∈ks
 few:2*(rs.length-ks.length)+ws.length<=2*rs.length+1
theorem Inv.go {rs:List (List Int)}(hm:Mp rs) {s h:Nat}{ks ws:List Nat}{r:List Int}(hi:Inv rs s ks (ws++[h])) (hr:rs[h]?=some r):∃ a,r.foldl (see (plc rs)) (ks,ws)=(ks++a,ws++a)/\Inv rs s (ks++a) (ws++a)/\2*(rs.length-(ks++a).length)+(ws++a).length<2*(rs.length-ks.length)+(ws++[h]).length:=by
 obtain ⟨a,h1,h2,h3,h4⟩:=see_fold (plc rs) r ks ws
 have hh:h∈ks:=hi.sub h (by simp)
 have nd:=h4 hi.nd
 have lt:∀ k∈ks++a,k<rs.length:=by
  intro k hk
  rcases mAq.mp hk with q|q
  .exact hi.lt k q
  .obtain ⟨e,he,rfl⟩:=h2 k q
   exact hm.lt (hm.other hr he)
 have pl:=pig _ _ nd lt
 have p0:=hi.few
 rw [lAq] at pl
 rw [lAq,lSq] at p0
 have key:2*(rs.length-(ks++a).length)+(ws++a).length<2*(rs.length-ks.length)+(ws++[h]).length:=by
  rw [lAq,lAq,lAq,lSq]
  omega
 refine ⟨a,h1,⟨nd,lt,mAq.mpr (.inl hi.st),fun k hk=>?_,fun w hw=>?_,fun k hk hw=>?_,?_⟩,key⟩
 .rcases mAq.mp hk with q|q
  .exact hi.rc k q
  .obtain ⟨e,he,rfl⟩:=h2 k q
   exact .step (hi.rc h hh) hr he
 .rcases mAq.mp hw with q|q
  .exact mAq.mpr (.inl (hi.sub w (mAq.mpr (.inl q))))
  .exact mAq.mpr (.inr q)
 .intro r' e hr' he
  have k1:k∈ks:=(mAq.mp hk).resolve_right fun q=>hw (mAq.mpr (.inr q))
  by_cases q:k=h
  .subst q
   rw [hr] at hr'
   cases hr'
   exact h3 e he
  .exact mAq.mpr (.inl (hi.cl k k1 (fun z=>by
    rcases mAq.mp z with z|z
    .exact hw (mAq.mpr (.inl z))
    .exact q (mSq.mp z)) r' e hr' he))
 .rw [lAq,lAq] at key ⊢
  rw [lAq,lSq] at key
  omega
def mu (N:Nat):AS->Nat
 | [_,_,_,some (.owd kv),some (.ow w),_,_,_]=>2*(N-kv.length)+w.length
 | _=>0
theorem reach_loop {rs:List (List Int)}(hm:Mp rs) {s:Nat}(hs:s<rs.length):∃ S',mWhile (tOf (rOp dGt (rCB fLen (arCons (rVar 4) arNil)) (rC (.int 0)))) mb_reached_1 100000 [some (.sh (dM rs)),some (.sh (.int (s:Int))),some (.owd (kvFrom 0 rs)),some (.owd (kd [s])),some (.ow (wd [s])),none,none,none]=some (.nx S') /\
  ∃ ks v5 v6 v7,S'=[some (.sh (dM rs)),some (.sh (.int (s:Int))),some (.owd (kvFrom 0 rs)),some (.owd (kd ks)),some (.ow (wd [])),v5,v6,v7]/\Inv rs s ks []:=by
 have h1000:=hm.hr
 refine while_ok (c:=tOf (rOp dGt (rCB fLen (arCons (rVar 4) arNil)) (rC (.int 0)))) (body:=mb_reached_1) (fun S=>∃ ks ws v5 v6 v7,S=[some (.sh (dM rs)),some (.sh (.int (s:Int))),some (.owd (kvFrom 0 rs)),some (.owd (kd ks)),some (.ow (wd ws)),v5,v6,v7]/\Inv rs s ks ws) (mu rs.length) (fun S'=>∃ ks v5 v6 v7,S'=[some (.sh (dM rs)),some (.sh (.int (s:Int))),some (.owd (kvFrom 0 rs)),some (.owd (kd ks)),some (.ow (wd [])),v5,v6,v7]/\Inv rs s ks []) ?_ 100000 _ ⟨[s],[s],none,none,none,rfl,?_⟩ ?_
 .rintro S ⟨ks,ws,v5,v6,v7,rfl,hi⟩
  rcases du ws with rfl|⟨ws,h,rfl⟩
  .refine ⟨false,_,?_,fun q=>(nomatch q),fun _=>⟨ks,v5,v6,v7,rfl,hi⟩⟩
   simp_arith [wd]
   rfl
  .rw [dw] at hi ⊢
   have hlt:h<rs.length:=hi.lt h (hi.sub h (by simp))
   have hr:rs[h]?=some rs[h]:=gEg hlt
   obtain ⟨a,e1,hi2,mlt⟩:=hi.go hm hr
   have few:=hi.few
   have kl:=pig _ _ hi.nd hi.lt
   have rl:=hm.row hr
   rw [lAq,lSq] at few
   obtain ⟨v6',v7',e2⟩:=reach_row (kvs:=kvFrom 0 rs) (ks:=ks) (ws:=ws) (r:=rs[h]) (pl:=plc rs) (v0:=some (.sh (dM rs))) (v1:=some (.sh (.int (s:Int)))) (v5:=some (.sh (.int (h:Int)))) (v6:=v6) (v7:=v7) (fun e he=>hm.kv (hm.other hr he)) (by omega) (by omega)
   rw [e1] at e2
   have hw:wd (ws++[h])=wd ws++[.sh (.int (h:Int))]:=by simp [wd]
   have wl:(wd ws).length=ws.length:=by simp [wd]
   have c1:(0:Int)<((wd ws++[AV.sh (.int (h:Int))]).length:Int):=by
    rw [lAq,lSq]
    omega
   have p1:(wd ws++[AV.sh (.int (h:Int))])[(wd ws++[AV.sh (.int (h:Int))]).length-1]?=some (.sh (.int (h:Int))):=by
    rw [lAq,lSq,gYq (by omega)]
    simp
   have p2:(wd ws++[AV.sh (.int (h:Int))]).dropLast=wd ws:=cI
   have at1:atI (rs.map dI) (h:Int)=some (dI rs[h]):=atI_nat (by rw [gMq,hr];rfl)
   refine ⟨true,[some (.sh (dM rs)),some (.sh (.int (s:Int))),some (.owd (kvFrom 0 rs)),some (.owd (kd ks)),some (.ow (wd ws++[.sh (.int (h:Int))])),v5,v6,v7],?_,fun _=>⟨[some (.sh (dM rs)),some (.sh (.int (s:Int))),some (.owd (kvFrom 0 rs)),some (.owd (kd (ks++a))),some (.ow (wd (ws++a))),some (.sh (.int (h:Int))),v6',v7'],?_,⟨_,_,_,_,_,rfl,hi2⟩,?_⟩,fun q=>(nomatch q)⟩
   .simp_arith [hw,c1]
   .simp_arith [mb_reached_1,p1,p2,dM,at1,e2]
   .show 2*(rs.length-(kd (ks++a)).length)+(wd (ws++a)).length<2*(rs.length-(kd ks).length)+(wd (ws++[h])).length
    unfold kd wd
    rw [lMq,lMq,lMq,lMq]
    exact mlt
 .refine ⟨by simp,?_,by simp,?_,fun w h=>h,?_,?_⟩
  .intro k hk
   rw [mSq.mp hk]
   exact hs
  .intro k hk
   rw [mSq.mp hk]
   exact .base
  .intro k hk hn
   exact absurd hk hn
  .simp only [lSq]
   omega
 .show 2*(rs.length-(kd [s]).length)+(wd [s]).length<100000
  simp only [kd,wd,lMq,lSq]
  omega
theorem reached_ok {rs:List (List Int)}(hm:Mp rs) {s:Nat}(hs:s<rs.length):∃ ks,Inv rs s ks []/\f_reached [dM rs,.int (s:Int)]=some (aI (srtI (ks.map fun k:Nat=>(k:Int)))):=by
 obtain ⟨S',e,ks,v5,v6,v7,rfl,hi⟩:=reach_loop hm hs
 have hl:=hm.hl
 have pa:=places_at_ok hm.hn (by omega)
 have e1:[((aO (s:Int):Key),D.bl true)]=kd [s]:=rfl
 have e2:[AV.sh (.int (s:Int))]=wd [s]:=rfl
 have e3:keysI (kd ks)=some (ks.map fun k:Nat=>(k:Int)):=keysI_map (fun k:Nat=>(k:Int)) (fun _=>D.bl true) ks
 have l1:(wd [s]).length<=LIM:=by show 1<=16777216;decide
 refine ⟨ks,hi,?_⟩
 simp_arith [f_reached,mf_reached,pa,e1,e2,e,e3,l1]
end K51
--ZQ3 --ZQ4 --ZQ5 --ZQ6 --ZQ8 --ZQ9
namespace K51
open PySem L2 Mr Z Xe Zl
theorem nat_srt (ks:List Nat):∃ ps:List Nat,ps.Perm ks/\ps.Pairwise (·<=·)/\srtI (ks.map fun k:Nat=>(k:Int))=ps.map fun k:Nat=>(k:Int):=by
 have hp:=srtI_perm (ks.map fun k:Nat=>(k:Int))
 have hs:=srtI_sorted (ks.map fun k:Nat=>(k:Int))
 have hc:(srtI (ks.map fun k:Nat=>(k:Int)))=((srtI (ks.map fun k:Nat=>(k:Int))).map fP).map fun k:Nat=>(k:Int):=by
  rw [mPq]
  conv=>lhs;rw [← eX (srtI (ks.map fun k:Nat=>(k:Int)))]
  refine mCq fun z hz=>?_
  obtain ⟨k,_,rfl⟩:=mMq.mp (hp.mem_iff.mp hz)
  rfl
 refine ⟨(srtI (ks.map fun k:Nat=>(k:Int))).map fP,?_,?_,hc⟩
 .have:=hp.map fP
  rw [mPq] at this
  have e:ks.map (fP∘fun k:Nat=>(k:Int))=ks:=by
   conv=>rhs;rw [← eX ks]
   refine mCq fun k _=>?_
   show fP (k:Int)=k
   exact cE k
  rwa [e] at this
 .rw [aY]
  refine aR.imp (fun h=>?_) hs
  omega
structure Pc (rs:List (List Int)) (s:Nat) (ps:List Nat):Prop where
 nd:ps.Nodup
 so:ps.Pairwise (·<=·)
 lt:∀ k∈ps,k<rs.length
 iff:∀ k,k∈ps↔Rch rs s k
theorem reached_pc {rs:List (List Int)}(hm:Mp rs) {s:Nat}(hs:s<rs.length):∃ ps,Pc rs s ps/\f_reached [dM rs,.int (s:Int)]=some (aI (ps.map fun k:Nat=>(k:Int))):=by
 obtain ⟨ks,hi,e⟩:=reached_ok hm hs
 obtain ⟨ps,h1,h2,h3⟩:=nat_srt ks
 rw [h3] at e
 refine ⟨ps,⟨h1.symm.nodup hi.nd,h2,fun k hk=>hi.lt k (h1.mem_iff.mp hk),fun k=>⟨fun hk=>hi.rc k (h1.mem_iff.mp hk),fun hk=>h1.mem_iff.mpr ?_⟩⟩,e⟩
 induction hk with
 | base=>exact hi.st
 | step _ a b c=>exact hi.cl _ c (dC) _ _ a b
def addN (kn:List Nat) (t:Nat):List Nat:=if t∈kn then kn else kn++[t]
theorem kd_put2 (ks:List Nat) (t:Nat):putD (kd ks) (aO (t:Int)) (.bl true)=kd (addN ks t):=by
 unfold addN
 by_cases h:t∈ks
 .rw [if_pos h]
  unfold putD
  rw [kd_any,decide_eq_true h,if_pos rfl]
  unfold kd
  rw [mPq]
  refine mCq fun k _=>?_
  show (if _ then _ else _)=_
  split <;> rfl
 .rw [if_neg h]
  exact kd_put h
theorem addN_len (kn:List Nat) (t:Nat):(addN kn t).length<=kn.length+1:=by
 unfold addN
 split
 .omega
 .simp
theorem fold_len:∀ (ps kn:List Nat),(ps.foldl addN kn).length<=kn.length+ps.length
 | [],kn=>af _
 | p::ps,kn=>by
  have h1:=fold_len ps (addN kn p)
  have h2:=addN_len kn p
  rw [bP,lCq]
  omega
theorem mem_addN {kn:List Nat}{t k:Nat}:k∈addN kn t↔k∈kn∨k=t:=by
 unfold addN
 split
 .rename_i h
  exact ⟨.inl,fun q=>q.elim id fun q=>q ▸ h⟩
 .simp
theorem mem_fold:∀ {ps kn:List Nat}{k:Nat},k∈ps.foldl addN kn↔k∈kn∨k∈ps
 | [],kn,k=>by simp
 | p::ps,kn,k=>by
  rw [bP,mem_fold,mem_addN,ai,or_assoc]
theorem nd_addN {kn:List Nat}{t:Nat}(h:kn.Nodup):(addN kn t).Nodup:=by
 unfold addN
 split
 .exact h
 .rename_i q
  rw [nAq]
  exact ⟨h,by simp,fun x hx y hy z=>q (by rw [mSq.mp hy] at z;rw [← z];exact hx)⟩
theorem nd_fold:∀ {ps kn:List Nat},kn.Nodup->(ps.foldl addN kn).Nodup
 | [],kn,h=>h
 | p::ps,kn,h=>by
  rw [bP]
  exact nd_fold (nd_addN h)
theorem piece_row {ps kn:List Nat}{v0 v2 v3 v4 v5:Option AV}(hk:kn.length+ps.length<500000):∃ v5',mForL 5 mb_pieces_0 ((ps.map fun k:Nat=>(k:Int)).map D.int) [v0,some (.owd (kd kn)),v2,v3,v4,v5]=some (.nx [v0,some (.owd (kd (ps.foldl addN kn))),v2,v3,v4,v5']):=by
 have key:=forL0 (x:=5) (body:=mb_pieces_0) (fun i S=>∃ v5',S=[v0,some (.owd (kd ((ps.take i).foldl addN kn))),v2,v3,v4,v5']) (ds:=(ps.map fun k:Nat=>(k:Int)).map D.int) (S:=[v0,some (.owd (kd kn)),v2,v3,v4,v5]) ⟨v5,rfl⟩ (by
  rintro i d S hd ⟨v5',rfl⟩
  rw [gMq,gMq] at hd
  obtain ⟨z,hz,rfl⟩:=oMq.mp hd
  obtain ⟨k,hk',rfl⟩:=oMq.mp hz
  have hi:i<ps.length:=(gSq.mp hk').1
  have n1:=fold_len (ps.take i) kn
  rw [lTq] at n1
  have l1:(kd ((ps.take i).foldl addN kn)).length<LIM:=by unfold kd;rw [lMq];show _<16777216;omega
  have et:(ps.take (i+1)).foldl addN kn=addN ((ps.take i).foldl addN kn) k:=by
   have:ps[i]'hi=k:=by rw [gEg hi] at hk';exact aT.inj hk'
   rw [cK hi,fg,this]
   rfl
  have hp:=kd_put2 ((ps.take i).foldl addN kn) k
  rw [← et] at hp
  refine ⟨_,?_,some (.sh (.int (k:Int))),rfl⟩
  simp_arith [mb_pieces_0,l1,hp])
 obtain ⟨S',e,v5',rfl⟩:=key
 rw [lMq,lMq,bu] at e
 exact ⟨v5',e⟩
theorem piece_comp {rs:List (List Int)}{ps:List Nat}(h:∀ k∈ps,k<rs.length):mCompL tAllM (kList (lOf (kIx (qVar 1) (rVar 0)))) [some (.sh (dM rs))] ((ps.map fun k:Nat=>(k:Int)).map D.int)=some (ps.map fun k=>aI (rs.getD k [])):=by
 have key:=comp_map (te:=kList (lOf (kIx (qVar 1) (rVar 0)))) (cap:=[some (.sh (dM rs))]) (fun d=>match d with|.int k=>aI (rs.getD k.toNat [])|_=>.sh .non) (ds:=(ps.map fun k:Nat=>(k:Int)).map D.int) (by
  intro d hd
  rw [mPq] at hd
  obtain ⟨k,hk,rfl⟩:=mMq.mp hd
  have at1:=at_dM (h k hk)
  refine ⟨[some (.sh (.int (k:Int))),some (.sh (dM rs))],?_⟩
  simp_arith [dM,at1,Function.comp,cE,dI,aI,mPq]
  rfl)
 rw [key,mPq,mPq]
 rfl
def pA (rs:List (List Int)) (ps:List Nat):AV:=.ow (ps.map fun k=>aI (rs.getD k []))
theorem Rch.trans {rs:List (List Int)}{a b c:Nat}(h:Rch rs a b) (h2:Rch rs b c):Rch rs a c:=by
 induction h2 with
 | base=>exact h
 | step _ p q r=>exact .step r p q
theorem Rch.symm {rs:List (List Int)}(hm:Mp rs) {a b:Nat}(h:Rch rs a b):Rch rs b a:=by
 induction h with
 | base=>exact .base
 | @step k r e _ p q ih =>
  obtain ⟨r',h1,h2⟩:=hm.at (hm.other p q)
  have:=Rch.step (s:=plc rs (-e)) .base h1 h2
  rw [gH,plc_eq hm.hn p q] at this
  exact this.trans ih
structure Ps (rs:List (List Int)) (i:Nat) (kn:List Nat) (PS:List (List Nat)):Prop where
 sub:∀ ps∈PS,∀ k∈ps,k∈kn
 dj:PS.Pairwise fun a b=>∀ k∈a,k∉b
 pc:∀ ps∈PS,∃ s,s<rs.length/\Pc rs s ps
 all:∀ k,k<i->k∈kn
 mem:∀ k,k∈kn->∃ ps∈PS,k∈ps
 nd:kn.Nodup
 lt:∀ k∈kn,k<rs.length
 len:PS.length<=i
theorem pieces_ok {rs:List (List Int)}(hm:Mp rs):∃ kn PS,Ps rs rs.length kn PS/\f_pieces [dM rs]=some (.ow (PS.map (pA rs))):=by
 have h1000:=hm.hr
 have key:=forL0 (x:=3) (body:=mb_pieces_1) (fun i S=>∃ kn PS v3 v4 v5,S=[some (.sh (dM rs)),some (.owd (kd kn)),some (.ow (PS.map (pA rs))),v3,v4,v5]/\Ps rs i kn PS) (ds:=rangeD 0 rs.length) (S:=[some (.sh (dM rs)),some (.owd []),some (.ow []),none,none,none])
  ⟨[],[],none,none,none,rfl,⟨by simp,by simp,by simp,by simp,by simp,by simp,by simp,by simp⟩⟩ (by
  rintro i d S hd ⟨kn,PS,v3,v4,v5,rfl,hp⟩
  have hi:i<rs.length:=by
   have:=(gSq.mp hd).1
   rwa [rangeD_len] at this
  rw [rangeD_get hi,gV] at hd
  cases hd
  have hg:=kd_get kn i
  by_cases c:i∈kn
  .rw [decide_eq_true c] at hg
   refine ⟨[some (.sh (dM rs)),some (.owd (kd kn)),some (.ow (PS.map (pA rs))),some (.sh (.int (i:Int))),v4,v5],?_,kn,PS,_,_,_,rfl,hp.sub,hp.dj,hp.pc,?_,hp.mem,hp.nd,hp.lt,?_⟩
   .simp_arith [mb_pieces_1,hg]
   .intro k hk
    rcases cP.mp hk with q|rfl
    .exact hp.all k q
    .exact c
   .have:=hp.len
    omega
  .rw [decide_eq_false c] at hg
   obtain ⟨ps,h1,e1⟩:=reached_pc hm hi
   have p1:=pig _ _ hp.nd hp.lt
   have p2:=pig _ _ h1.nd h1.lt
   have p3:=hp.len
   have l2:ps.length<=LIM:=by show _<=16777216;omega
   have l3:PS.length<LIM:=by show _<16777216;omega
   obtain ⟨v5',e2⟩:=piece_row (ps:=ps) (kn:=kn) (v0:=some (.sh (dM rs))) (v2:=some (.ow (PS.map (pA rs)))) (v3:=some (.sh (.int (i:Int)))) (v4:=some (.sh (dI (ps.map fun k:Nat=>(k:Int))))) (v5:=v5) (by omega)
   have e3:=piece_comp h1.lt
   refine ⟨[some (.sh (dM rs)),some (.owd (kd (ps.foldl addN kn))),some (.ow ((PS++[ps]).map (pA rs))),some (.sh (.int (i:Int))),some (.sh (dI (ps.map fun k:Nat=>(k:Int)))),v5'],?_,ps.foldl addN kn,PS++[ps],_,_,_,rfl,?_,?_,?_,?_,?_,nd_fold hp.nd,?_,?_⟩
   .simp_arith [mb_pieces_1,hg,e1,e2,e3,l2,l3,mBq,pA]
   .intro qs hq k hk
    rcases mAq.mp hq with q|q
    .exact mem_fold.mpr (.inl (hp.sub qs q k hk))
    .rw [mSq.mp q] at hk
     exact mem_fold.mpr (.inr hk)
   .rw [aD]
    refine ⟨hp.dj,List.pairwise_singleton ..,fun qs hq b hb k hk hk2=>c ?_⟩
    rw [mSq.mp hb] at hk2
    obtain ⟨s,hs,hc⟩:=hp.pc qs hq
    exact hp.sub qs hq i ((hc.iff i).mpr (((hc.iff k).mp hk).trans (((h1.iff k).mp hk2).symm hm)))
   .intro qs hq
    rcases mAq.mp hq with q|q
    .exact hp.pc qs q
    .rw [mSq.mp q]
     exact ⟨i,hi,h1⟩
   .intro k hk
    rcases cP.mp hk with q|rfl
    .exact mem_fold.mpr (.inl (hp.all k q))
    .exact mem_fold.mpr (.inr ((h1.iff k).mpr .base))
   .intro k hk
    rcases mem_fold.mp hk with q|q
    .obtain ⟨qs,a,b⟩:=hp.mem k q
     exact ⟨qs,mAq.mpr (.inl a),b⟩
    .exact ⟨ps,mAq.mpr (.inr (mSq.mpr rfl)),q⟩
   .intro k hk
    rcases mem_fold.mp hk with q|q
    .exact hp.lt k q
    .exact h1.lt k q
   .rw [lAq,lSq]
    omega)
 obtain ⟨S',e,kn,PS,v3,v4,v5,rfl,hp⟩:=key
 rw [rangeD_len] at hp
 have r1:=rng1_ok (n:=rs.length) (by omega)
 refine ⟨kn,PS,hp,?_⟩
 simp_arith [f_pieces,mf_pieces,dM,r1,e]
end K51
--ZQ3 --ZQ4 --ZQ5 --ZQ6 --ZQ8 --ZQ9 --ZQB --ZQC --ZQD --ZQE
namespace K12
open PySem L2 Mr Z Xe Zl
end K12
--ZQ3 --ZQ4 --ZQ5 --ZQ6 --ZQ8 --ZQ9 --ZQB --ZQC --ZQD --ZQE
namespace K12
open PySem L2 Mr Z Xe Zl
theorem copy_comp (rs:List (List Int)):mCompL tAllM (kList (qVar 0)) [] (rs.map dI)=some (rs.map aI):=by
 rw [Z.comp_map fun d=>aI (undI d)]
 .rw [map_undI aI]
 .intro d hd
  obtain ⟨r,hr,rfl⟩:=mem_dM hd
  refine ⟨[some (.sh (dI r))],?_⟩
  simp_arith [undI_dI]
def tl:MS:=(mSeq (mAsg 5 (kComp (iLst (kVar 3)) [] tAllM (kComp (iLst (kVar 0)) [] tAllM (kList (qVar 0)))))
 (mSeq (mAsg 6 (kCall (okX K13.f_joined) (aCons (kVar 5) aNil)))
 (mSeq (mIf (tOrM (tNotM (tOf (rCall K13.f_L_alike (arCons (rVar 6) (arCons (rVar 2) arNil))))) (tNotM (tOf (rCall K13.f_L_alike (arCons (rVar 5) (arCons (rVar 3) arNil)))))) (mRet (kSc (rC (.bl false)))) mNext)
 (mSeq (mSpoil 6 7 (.int 7))
 (mSeq (mApp 6 (kLst (aCons (kSc (rC (.int 8))) aNil)))
 (mSeq (mIf (tOrM (tNotM (tOf (rCall K13.f_L_alike (arCons (rVar 5) (arCons (rVar 3) arNil))))) (tNotM (tOf (rCall K13.f_L_alike (arCons (rOf (kCall (okX K13.f_joined) (aCons (kVar 5) aNil))) (arCons (rVar 2) arNil)))))) (mRet (kSc (rC (.bl false)))) mNext)
 (mRet (kSc (rCall K13.f_L_alike (arCons (rOf (kCall (okX K13.f_joined) (aCons (kCall K51.f_pieces (aCons (kComp (iLst (kVar 2)) [] tAllM (kList (qVar 0))) aNil)) aNil))) (arCons (rVar 2) arNil)))))))))))
end K12
--ZQ3 --ZQ4 --ZQ5 --ZQ6 --ZQ8 --ZQ9 --ZQB --ZQC --ZQD --ZQE --ZQF
namespace K23
open PySem L2 Mr Z Xe Zl
abbrev cz (z:Int):D:=.ins "Cut" [("road", .int z)]
theorem fld1 (z:Int):fldI "Cut" "road" (cz z)=some (.int z):=by rfl
theorem in1 (z:Int):insD "Cut" "done" (.sh (cz z))=some (cz z):=by rfl
def cutP (z:Int) (t:List Int):List Int:=t.filter fun e=>!decide (e∈[z, -z])
theorem inT (i z:Int):dInL true (.int i) (.tup [.int z,.int (-z)])=some (.bl (!decide (i∈[z, -z]))):=dInL_I true i [z, -z]
theorem sh_ints (t:List Int) (p:Int->Bool):((t.map D.int).filter fun d=>match d with|.int e=>p e|_=>false).map (fun d=>AV.sh d)=(t.filter p).map fun n=>.sh (.int n):=by
 rw [dJ,mPq]
 rfl
theorem th_comp (z:Int) (t:List Int):mCompL (tOf (rOp (dInL true) (rVar 0) (rVar 1))) (kVar 0) [some (.sh (.tup [.int z,.int (-z)]))] (t.map D.int)=some ((cutP z t).map fun n=>.sh (.int n)):=by
 rw [Z.comp_filter (fun d=>match d with|.int e=>!decide (e∈[z, -z])|_=>false) (fun d=>.sh d)]
 .rw [sh_ints]
  rfl
 .intro d hd
  obtain ⟨e,_,rfl⟩:=mMq.mp hd
  have h:=inT e z
  refine ⟨[some (.sh (.int e)),some (.sh (.tup [.int z,.int (-z)]))],?_,fun _=>⟨[some (.sh (.int e)),some (.sh (.tup [.int z,.int (-z)]))],?_⟩⟩
  .simp_arith [h]
  .simp_arith []
theorem thin_ok (z:Int) (t:List Int) (ht:t.length<=1000):f_thinned [dI t,.tup [.int z,.int (-z)]]=some (aI (cutP z t)):=by
 have h:=th_comp z t
 have hl2:t.length<=LIM:=le_lim (by omega)
 simp_arith [f_thinned,mf_thinned,dI,h,hl2]
theorem thins_comp (z:Int) {rs:List (List Int)}(hr:∀ r∈rs,r.length<=1000):mCompL tAllM (kCall f_thinned (aCons (kVar 0) (aCons (kTup (aCons (kVar 1) (aCons (kSc (rUn dNeg (rVar 1))) aNil))) aNil))) [some (.sh (.int z))] (rs.map dI)=some ((rs.map (cutP z)).map aI):=by
 rw [Z.comp_map fun d=>aI (cutP z (undI d))]
 .rw [map_undI fun r=>aI (cutP z r),mPq]
  rfl
 .intro d hd
  obtain ⟨r,hr',rfl⟩:=mem_dM hd
  refine ⟨[some (.sh (dI r)),some (.sh (.int z))],?_⟩
  simp_arith [thin_ok z r (hr r hr'),undI_dI]
def C (z:Int) (rs:List (List Int)):List (List Int):=rs.map (cutP z)
section
variable {rs:List (List Int)}{z:Int}
theorem C_flat:(C z rs).flatten=cutP z rs.flatten:=by
 unfold C cutP
 rw [List.filter_flatten]
theorem C_le (h:rs.flatten.length<=128):(C z rs).flatten.length<=128:=by
 rw [C_flat]
 exact bC (bK _ _) h
theorem settled_ok (hf:rs.flatten.length<=128) (hl:rs.length<=1000):f_settled [dM rs]=some (if bare rs<=128 then .ok (.ow ((srt (rs.map good)).map aI)) else .ex "TooMany" []):=by
 have h1:=many_x (rs:=rs) (by omega)
 have h2:=in_good_order_ok (rs:=rs) (fun r hr=>by have:=row_le hr;omega) (le_lim (by omega))
 by_cases c:bare rs<=128
 .rw [if_pos ⟨hf,c⟩] at h1
  rw [if_pos c]
  simp_arith [f_settled,mf_settled,h1,h2]
 .rw [if_neg fun q=>c q.2] at h1
  rw [if_neg c]
  simp_arith [f_settled,mf_settled,h1]
theorem road_in (hf:rs.flatten.length<=128) (hl:rs.length<=1000) (h:z∈rs.flatten):f_without_road [dM rs,.int z]=some (if bare (C z rs)<=128 then .ok (.ow ((srt ((C z rs).map good)).map aI)) else .ex "TooMany" []):=by
 have ht:=told_ok (rs:=rs) (by omega)
 have d0:decide (z∈rs.flatten)=true:=decide_eq_true h
 have hs:=settled_ok (rs:=C z rs) (C_le hf) (by unfold C;rw [lMq];exact hl)
 have hc:=thins_comp z (rs:=rs) fun r hr=>by have:=row_le hr;omega
 have sc:((rs.map (cutP z)).map aI).map strip=(C z rs).map dI:=by rw [mPq];exact mCq fun r _=>strip_aI r
 have l1:rs.length<=LIM:=le_lim (by omega)
 by_cases c:bare (C z rs)<=128
 .rw [if_pos c] at hs ⊢
  simp_arith [f_without_road,mf_without_road,ht,d0,hc,sc,hs,l1]
 .rw [if_neg c] at hs ⊢
  simp_arith [f_without_road,mf_without_road,ht,d0,hc,sc,hs,l1]
theorem done_eq (d:D):f_Cut_done [cz z,d]=f_without_road [d,.int z]:=by
 have h:=fld1 z
 cases e:f_without_road [d,.int z] with
 | none=>simp_arith [f_Cut_done,mf_Cut_done,h,e]
 | some r=>cases r <;> simp_arith [f_Cut_done,mf_Cut_done,h,e]
end
end K23
namespace K16
open PySem L2 Mr Z
end K16
--ZQ3 --ZQ4 --ZQ5 --ZQ6 --ZQ8 --ZQ9
namespace K51
open PySem L2 Mr Z Xe Zl
def rot (r:List Int):List Int:=r.drop 1++r.take 1
def nextRow (r:List Int):List (Key×Int):=(r.zip (rot r)).map fun p=>(.inl p.1,p.2)
def nextP (rs:List (List Int)):List (Key×Int):=(rs.map nextRow).flatten
def asD (ps:List (Key×Int)):List (Key×D):=ps.map fun p=>(p.1,D.int p.2)
theorem rot_len (r:List Int):(rot r).length=r.length:=by
 unfold rot
 rw [lAq,aU,lTq]
 lia
theorem rot_perm (r:List Int):(rot r).Perm r:=by
 unfold rot
 refine bS.trans ?_
 rw [bt]
theorem nextRow_len (r:List Int):(nextRow r).length=r.length:=by
 unfold nextRow
 rw [lMq,List.length_zip,rot_len,Nat.min_self]
theorem nextRow_keys (r:List Int):(nextRow r).map (·.1)=r.map aO:=by
 unfold nextRow
 rw [mPq]
 have:r.map aO=((r.zip (rot r)).map Prod.fst).map (aO:Int->Key):=by rw [fA (by rw [rot_len];exact af _)]
 rw [this,mPq]
 rfl
theorem nextRow_vals (r:List Int):(nextRow r).map (·.2)=rot r:=by
 unfold nextRow
 rw [mPq]
 have:rot r=(r.zip (rot r)).map Prod.snd:=by rw [List.map_snd_zip (by rw [rot_len];exact af _)]
 exact this.symm
theorem nextP_keys:∀ (rs:List (List Int)),(nextP rs).map (·.1)=rs.flatten.map aO
 | []=>rfl
 | r::rs=>by
  show (nextRow r++nextP rs).map (·.1)=_
  rw [mBq,nextRow_keys,nextP_keys rs,fCq,mBq]
theorem nextP_vals:∀ (rs:List (List Int)),((nextP rs).map (·.2)).Perm rs.flatten
 | []=>.nil
 | r::rs=>by
  show ((nextRow r++nextP rs).map (·.2)).Perm _
  rw [mBq,nextRow_vals,fCq]
  exact (rot_perm r).append (nextP_vals rs)
theorem nextP_len (rs:List (List Int)):(nextP rs).length=rs.flatten.length:=by
 have:=congrArg bY (nextP_keys rs)
 rwa [lMq,lMq] at this
theorem nextP_snoc (rs:List (List Int)) (r:List Int):nextP (rs++[r])=nextP rs++nextRow r:=by
 unfold nextP
 rw [mBq,fAq]
 simp
theorem asD_len (ps:List (Key×Int)):(asD ps).length=ps.length:=lMq _
theorem asD_app (a b:List (Key×Int)):asD (a++b)=asD a++asD b:=mBq
theorem asD_keys (ps:List (Key×Int)):(asD ps).map (·.1)=ps.map (·.1):=by
 unfold asD
 rw [mPq]
 rfl
theorem nextRow_at {r:List Int}{j:Nat}{z y:Int}(h:r[j]?=some z) (h2:(rot r)[j]?=some y):(nextRow r)[j]?=some (.inl z,y):=by
 unfold nextRow
 rw [gMq,cH (z:=(z,y)).mpr ⟨h,h2⟩]
 rfl
theorem put_next {rs:List (List Int)}{i j:Nat}{r:List Int}{z y:Int}(hn:rs.flatten.Nodup) (hr:rs[i]?=some r) (hz:r[j]?=some z) (hy:(rot r)[j]?=some y) :
  putD (asD (nextP (rs.take i)++(nextRow r).take j)) (.inl z) (.int y)=asD (nextP (rs.take i)++(nextRow r).take (j+1)):=by
 have hfl:=flatten_take_succ hr
 have hnd:((rs.take i).flatten++r).Nodup:=by
  rw [← hfl]
  have e0:rs.flatten=(rs.take (i+1)).flatten++(rs.drop (i+1)).flatten:=by rw [← fAq,bt]
  rw [e0] at hn
  exact (nAq.mp hn).1
 rw [putD_new]
 .rw [take_snoc (nextRow_at hz hy),← ak,asD_app (_++_) [_]]
  rfl
 .rw [asD_keys,mBq,nextP_keys,gc,nextRow_keys,← gc]
  intro m
  rcases mAq.mp m with m|m
  .obtain ⟨x,hx,e2⟩:=mMq.mp m
   cases e2
   exact (nAq.mp hnd).2.2 _ hx _ (mGq hz) rfl
  .obtain ⟨x,hx,e2⟩:=mMq.mp m
   cases e2
   have:=aR.sublist (bj (j+1) r) (nAq.mp hnd).2.1
   rw [take_snoc hz] at this
   exact (nAq.mp this).2.2 _ hx _ (by simp) rfl
theorem room_next {rs:List (List Int)}{i j:Nat}{r:List Int}(hl:rs.flatten.length<=1000) (hr:rs[i]?=some r):(asD (nextP (rs.take i)++(nextRow r).take j)).length<LIM:=by
 refine lt_lim ?_
 have h1:=flatten_take_le rs (i+1)
 rw [flatten_take_succ hr,lAq] at h1
 rw [asD_len,lAq,nextP_len,lTq,nextRow_len]
 lia
theorem cut1 (r:List Int):cutG (r.map D.int) (some 1) none=(r.drop 1).map D.int:=by
 rw [cutG_map]
 cases r with
 | nil=>rfl
 | cons x r=>rw [show (some 1:Option Int)=some ((1:Nat):Int) from rfl,cutG_from _ _ (by simp)]
theorem cut2 (r:List Int):cutG (r.map D.int) none (some 1)=(r.take 1).map D.int:=by
 rw [cutG_map]
 cases r with
 | nil=>rfl
 | cons x r=>rw [show (some 1:Option Int)=some ((1:Nat):Int) from rfl,cutG_to _ _ (by simp)]
theorem nexts_ok {rs:List (List Int)}(hn:rs.flatten.Nodup) (hl:rs.flatten.length<=1000):f_nexts [dM rs]=some (.owd (asD (nextP rs))):=by
 have key:=forL0 (x:=2) (body:=mb_nexts_1) (fun i S=>∃ v2 v3 v4,S=[some (.sh (dM rs)),some (.owd (asD (nextP (rs.take i)))),v2,v3,v4]) (ds:=rs.map dI) (S:=[some (.sh (dM rs)),some (.owd []),none,none,none]) ⟨none,none,none,rfl⟩ (by
  rintro i d S hd ⟨v2,v3,v4,rfl⟩
  obtain ⟨r,hr,rfl⟩:=getD_ok hd
  have hrl:r.length<=1000:=by
   have h1:=flatten_take_le rs (i+1)
   rw [flatten_take_succ hr,lAq] at h1
   lia
  have hlen:(r.map D.int).length=((rot r).map D.int).length:=by rw [lMq,lMq,rot_len]
  have k2:=forZ0 (x:=3) (y:=4) (k:=0) (body:=mb_nexts_0) (fun j S=>∃ v3 v4,S=[some (.sh (dM rs)),some (.owd (asD (nextP (rs.take i)++(nextRow r).take j))),some (.sh (dI r)),v3,v4]) (ds:=r.map D.int) (es:=(rot r).map D.int) (S:=[some (.sh (dM rs)),some (.owd (asD (nextP (rs.take i)))),some (.sh (dI r)),v3,v4]) hlen ⟨v3,v4,by simp⟩ (by
   rintro j d e S hd he ⟨v3,v4,rfl⟩
   obtain ⟨z,hz,rfl⟩:=getI_ok hd
   obtain ⟨y,hy,rfl⟩:=getI_ok he
   rw [bI] at *
   have h3:=room_next (j:=j) hl hr
   have hput:=put_next hn hr hz hy
   refine ⟨_,?_,some (.sh (.int z)),some (.sh (.int y)),rfl⟩
   simp_arith [mb_nexts_0,h3,hput])
  obtain ⟨S2,e2,w3,w4,rfl⟩:=k2
  rw [bI,lMq,← nextRow_len,bu] at e2
  refine ⟨_,?_,some (.sh (dI r)),w3,w4,rfl⟩
  rw [take_snoc hr,nextP_snoc]
  have hll:(r.drop 1).length+(r.take 1).length<=LIM:=le_lim (by rw [aU,lTq];lia)
  have hrot:(r.drop 1).map D.int++(r.take 1).map D.int=(rot r).map D.int:=by unfold rot;rw [mBq]
  have hlen2:r.length=(rot r).length:=(rot_len r).symm
  simp_arith [mb_nexts_1,cut1,cut2,hll,hrot,hlen2,e2])
 obtain ⟨S',e,v2,v3,v4,rfl⟩:=key
 rw [lMq,bu] at e
 simp_arith [f_nexts,mf_nexts,e]
end K51
--ZQ3 --ZQ4 --ZQ5 --ZQ6 --ZQ8 --ZQ9 --ZQB --ZQC --ZQD --ZQE --ZQF
namespace K15
open PySem L2 Mr Z Xe Zl
theorem find_key {ps:List (Key×Int)}{k:Key}{n:Int}(hn:(ps.map (·.1)).Nodup) (h:(k,n)∈ps):Z.getD (K51.asD ps) k=some (.int n):=by
 induction ps with
 | nil=>cases h
 | cons p ps ih =>
  rw [aq,aL] at hn
  unfold Z.getD
  show (((p.1,D.int p.2)::K51.asD ps).find? _).map _=_
  rcases ai.mp h with e|e
  .rw [← e,dm (by simp)]
   rfl
  .rw [cg (by
    intro z
    have z':p.1=k:=by simpa using z
    exact hn.1 (by rw [z'];exact mMq.mpr ⟨_,e,rfl⟩))]
   exact ih hn.2 e
theorem vals_one {ps:List (Key×Int)}{k k':Key}{n:Int}(hn:(ps.map (·.2)).Nodup) (h:(k,n)∈ps) (h':(k',n)∈ps):k=k':=by
 induction ps with
 | nil=>cases h
 | cons p ps ih =>
  rw [aq,aL] at hn
  rcases ai.mp h with e|e
  .rcases ai.mp h' with e'|e'
   .rw [← e] at e';exact (congrArg Prod.fst e').symm
   .exact absurd (mMq.mpr ⟨_,e',by rw [← e]⟩) hn.1
  .rcases ai.mp h' with e'|e'
   .exact absurd (mMq.mpr ⟨_,e,by rw [← e']⟩) hn.1
   .exact ih hn.2 e e'
def nx (rs:List (List Int)) (e:Int):Int:=match Z.getD (K51.asD (K51.nextP rs)) (.inl e) with
 | some (.int n)=>n
 | _=>0
def fw (rs:List (List Int)) (e:Int):Int:=nx rs (-e)
section
variable {rs:List (List Int)}
theorem keys_nd (hn:rs.flatten.Nodup):((K51.nextP rs).map (·.1)).Nodup:=by
 rw [K51.nextP_keys,aH,aY]
 exact aR.imp (fun h e=>h (aO.inj e)) (aH.mp hn)
theorem nx_pair (hn:rs.flatten.Nodup) {e:Int}(he:e∈rs.flatten):(aO e,nx rs e)∈K51.nextP rs:=by
 have hk:(aO e:Key)∈(K51.nextP rs).map (·.1):=by rw [K51.nextP_keys];exact mMq.mpr ⟨e,he,rfl⟩
 obtain ⟨⟨k,n⟩,hp,rfl⟩:=mMq.mp hk
 have:=find_key (keys_nd hn) hp
 unfold nx
 rw [this]
 exact hp
theorem nx_get (hn:rs.flatten.Nodup) {e:Int}(he:e∈rs.flatten):Z.getD (K51.asD (K51.nextP rs)) (.inl e)=some (.int (nx rs e)):=find_key (keys_nd hn) (nx_pair hn he)
theorem nx_mem (hn:rs.flatten.Nodup) {e:Int}(he:e∈rs.flatten):nx rs e∈rs.flatten:=(K51.nextP_vals rs).mem_iff.mp (mMq.mpr ⟨_,nx_pair hn he,rfl⟩)
theorem nx_inj (hn:rs.flatten.Nodup) {a b:Int}(ha:a∈rs.flatten) (hb:b∈rs.flatten) (h:nx rs a=nx rs b):a=b:=by
 have h1:=nx_pair hn ha
 have h2:=nx_pair hn hb
 rw [h] at h1
 exact aO.inj (vals_one ((K51.nextP_vals rs).symm.nodup hn) h1 h2)
theorem fw_one (hm:Mp rs):One (fw rs) rs.flatten:=⟨hm.hn,fun e he=>nx_mem hm.hn (hm.hneg e he),fun a ha b hb h=>by
 have:=nx_inj hm.hn (hm.hneg a ha) (hm.hneg b hb) h
 omega⟩
def stp (rs:List (List Int)) (E:List Int):List (Key×D):=E.map fun e=>(aO e,.int (fw rs e))
theorem stp_get (hn:rs.flatten.Nodup) {e:Int}(he:e∈rs.flatten):Z.getD (stp rs rs.flatten) (.inl e)=some (.int (fw rs e)):=by
 have h:=find_key (ps:=rs.flatten.map fun e=>(aO e,fw rs e)) (k:=.inl e) (n:=fw rs e) (by
  rw [mPq,aH,aY]
  exact aR.imp (fun h e=>h (aO.inj e)) (aH.mp hn)) (mMq.mpr ⟨e,he,rfl⟩)
 unfold K51.asD at h
 rw [mPq] at h
 exact h
theorem keysD (rs:List (List Int)):(K51.asD (K51.nextP rs)).map (fun p=>kD p.1)=rs.flatten.map D.int:=by
 have:(K51.asD (K51.nextP rs)).map (fun p=>kD p.1)=((K51.nextP rs).map (·.1)).map kD:=by
  unfold K51.asD
  rw [mPq,mPq]
  rfl
 rw [this,K51.nextP_keys,mPq]
 rfl
theorem onwards_ok (hm:Mp rs):f_onwards [dM rs]=some (.owd (stp rs rs.flatten)):=by
 have nk:=K51.nexts_ok hm.hn hm.hl
 have hl:=hm.hl
 have key:=forL0 (x:=3) (body:=mb_onwards_0) (fun i S=>∃ v3,S=[some (.sh (dM rs)),some (.sh (.fd (K51.asD (K51.nextP rs)))),some (.owd (stp rs (rs.flatten.take i))),v3]) (ds:=rs.flatten.map D.int) (S:=[some (.sh (dM rs)),some (.sh (.fd (K51.asD (K51.nextP rs)))),some (.owd []),none]) ⟨none,rfl⟩ (by
  rintro i d S hd ⟨v3,rfl⟩
  rw [gMq] at hd
  obtain ⟨e,he,rfl⟩:=oMq.mp hd
  have hi:=(gSq.mp he).1
  have hme:=mGq he
  have hg:=nx_get hm.hn (hm.hneg e hme)
  have l1:(stp rs (rs.flatten.take i)).length<LIM:=by unfold stp;rw [lMq,lTq];show _<16777216;omega
  have hp:putD (stp rs (rs.flatten.take i)) (.inl e) (.int (nx rs (-e)))=stp rs (rs.flatten.take (i+1)):=by
   rw [putD_new]
   .unfold stp
    rw [take_snoc he,mBq]
    rfl
   .intro m
    obtain ⟨p,hp,e1⟩:=mMq.mp m
    obtain ⟨x,hx,rfl⟩:=mMq.mp hp
    have e2:x=e:=aO.inj e1
    subst e2
    have:=aR.sublist (bj (i+1) rs.flatten) hm.hn
    rw [take_snoc he] at this
    exact (nAq.mp this).2.2 x hx x (by simp) rfl
  refine ⟨_,?_,some (.sh (.int e)),rfl⟩
  simp_arith [mb_onwards_0,hg,l1,hp])
 obtain ⟨S',e,v3,rfl⟩:=key
 rw [lMq,bu] at e
 have kk:=keysD rs
 have q31:((3:Nat)≠1)=True:=by simp
 simp_arith [f_onwards,mf_onwards,nk,q31,kk,e]
def mu (N:Nat):AS->Nat
 | [_,_,some (.ow l),_]=>N+1-l.length
 | _=>0
theorem cyc_pre (f:Int->Int) (e:Int) (n:Nat):((bf n).map fun k=>itr f k e)++[itr f n e]=(bf (n+1)).map fun k=>itr f k e:=by rw [List.range_succ,mBq];rfl
theorem gone_ok (hm:Mp rs) {e:Int}(he:e∈rs.flatten):∃ l,Cy (fw rs) e l/\l.length<=rs.flatten.length/\f_gone_round [.dict (stp rs rs.flatten),.int e]=some (aI l):=by
 have one:=fw_one hm
 obtain ⟨l,cy,hle,hmin⟩:=one.cy he
 have hl:=hm.hl
 refine ⟨l,cy,hle,?_⟩
 have hst:∀ n,Z.getD (stp rs rs.flatten) (.inl (itr (fw rs) n e))=some (.int (itr (fw rs) (n+1) e)):=fun n=>stp_get hm.hn (one.itr_mem he n)
 have key:=while_ok (c:=tOf (rOp dNe (rVar 3) (rVar 1))) (body:=mb_gone_round_0) (fun S=>∃ n,1<=n/\n<=l.length/\S=[some (.sh (.dict (stp rs rs.flatten))),some (.sh (.int e)),some (aI ((bf n).map fun k=>itr (fw rs) k e)),some (.sh (.int (itr (fw rs) n e)))]) (mu l.length) (fun S=>∃ v3,S=[some (.sh (.dict (stp rs rs.flatten))),some (.sh (.int e)),some (aI l),v3]) (by
  rintro S ⟨n,h1,h2,rfl⟩
  by_cases hn:n<l.length
  .have hne:¬ itr (fw rs) n e=e:=hmin n (by omega) hn
   have hs:=hst n
   have l1:n<LIM:=by show _<16777216;omega
   have ap:((bf n).map fun k=>itr (fw rs) k e).map (fun n=>AV.sh (.int n))++[.sh (.int (itr (fw rs) n e))]=((bf (n+1)).map fun k=>itr (fw rs) k e).map fun n=>.sh (.int n):=by rw [← cyc_pre,mBq];rfl
   refine ⟨true,[some (.sh (.dict (stp rs rs.flatten))),some (.sh (.int e)),some (aI ((bf n).map fun k=>itr (fw rs) k e)),some (.sh (.int (itr (fw rs) n e)))],?_,fun _=>⟨[some (.sh (.dict (stp rs rs.flatten))),some (.sh (.int e)),some (aI ((bf (n+1)).map fun k=>itr (fw rs) k e)),some (.sh (.int (itr (fw rs) (n+1) e)))],?_,⟨n+1,by omega,by omega,rfl⟩,?_⟩,fun q=>(nomatch q)⟩
   .simp_arith [hne]
   .simp_arith [mb_gone_round_0,aZ,l1,ap,hs]
   .show l.length+1-_<l.length+1-_
    simp only [lMq,aZ]
    omega
  .have en:n=l.length:=by omega
   subst en
   have hb:=cy.back
   have hg:=cy.get
   refine ⟨false,[some (.sh (.dict (stp rs rs.flatten))),some (.sh (.int e)),some (aI ((bf l.length).map fun k=>itr (fw rs) k e)),some (.sh (.int (itr (fw rs) l.length e)))],?_,fun q=>(nomatch q),fun _=>⟨some (.sh (.int (itr (fw rs) l.length e))),by rw [← hg]⟩⟩
   simp_arith [hb])
 have h0:=hst 0
 have e0:[AV.sh (.int e)]=((bf 1).map fun k=>itr (fw rs) k e).map fun n=>.sh (.int n):=rfl
 obtain ⟨S',ew,v3,rfl⟩:=key 100000 [some (.sh (.dict (stp rs rs.flatten))),some (.sh (.int e)),some (.ow [.sh (.int e)]),some (.sh (.int (itr (fw rs) (0+1) e)))] ⟨1,af _,cy.len,rfl⟩ (by
  show l.length+1-1<100000
  omega)
 have h0':Z.getD (stp rs rs.flatten) (.inl e)=some (.int (itr (fw rs) (0+1) e)):=h0
 simp_arith [f_gone_round,mf_gone_round,h0',ew]
end
end K15
--ZQ3 --ZQ4 --ZQ5 --ZQ6 --ZQ8 --ZQ9 --ZQB --ZQC --ZQD --ZQE --ZQF
namespace K15
open PySem L2 Mr Z Xe Zl
def kI (ks:List Int):List (Key×D):=ks.map fun k=>((aO k:Key),D.bl true)
theorem kI_any (ks:List Int) (t:Int):(kI ks).any (fun kv=>decide (kv.1=(aO t:Key)))=decide (t∈ks):=by
 induction ks with
 | nil=>simp [kI]
 | cons k ks ih =>
  unfold kI at ih ⊢
  rw [aq,cF,ih]
  by_cases h:t=k
  .subst h;simp
  .have h':¬ (aO k:Key)=aO t:=fun q=>h (aO.inj q).symm
   simp [h',h]
theorem kI_get (ks:List Int) (t:Int):(Z.getD (kI ks) (aO t)).isSome=decide (t∈ks):=by
 unfold Z.getD
 rw [dX,← kI_any,bx,gu,fB]
theorem kI_new {ks:List Int}{t:Int}(h:t∉ks):putD (kI ks) (aO t) (.bl true)=kI (ks++[t]):=by
 unfold putD
 rw [kI_any,decide_eq_false h,if_neg (by simp)]
 simp [kI]
theorem kI_len (ks:List Int):(kI ks).length=ks.length:=by unfold kI;rw [lMq]
section
variable {rs:List (List Int)}
structure Rd (f:Int->Int) (E:List Int) (kn:List Int) (L:List (List Int)):Prop where
 cy:∀ l∈L,∃ e,Cy f e l
 fl:L.flatten=kn
 nd:kn.Nodup
 sub:∀ x∈kn,x∈E
 cl:∀ x∈kn,f x∈kn
theorem Rd.itr {f:Int->Int}{E kn:List Int}{L:List (List Int)}(h:Rd f E kn L) {x:Int}(hx:x∈kn):∀ n,itr f n x∈kn
 | 0=>hx
 | n+1=>h.cl _ (h.itr hx n)
theorem Rd.out {f:Int->Int}{E kn:List Int}{L:List (List Int)}(h:Rd f E kn L) {e:Int}{l:List Int}(c:Cy f e l) (he:e∉kn):∀ x∈l,x∉kn:=by
 intro x hx hk
 obtain ⟨j,hj⟩:=bJ.mp hx
 have hlt:=(gSq.mp hj).1
 rw [c.at hlt] at hj
 have e1:=aT.inj hj
 subst e1
 have:=h.itr hk (l.length-j)
 rw [← itr_add,show l.length-j+j=l.length by omega,c.back] at this
 exact he this
theorem Rd.add {f:Int->Int}{E kn:List Int}{L:List (List Int)}(hf:One f E) (h:Rd f E kn L) {e:Int}{l:List Int}(c:Cy f e l) (heE:e∈E) (he:e∉kn):Rd f E (kn++l) (L++[l]):=by
 have ho:=h.out c he
 refine ⟨fun m hm=>?_,by rw [fAq,h.fl,bF],?_,fun x hx=>?_,fun x hx=>?_⟩
 .rcases mAq.mp hm with q|q
  .exact h.cy m q
  .rw [mSq.mp q];exact ⟨e,c⟩
 .rw [nAq]
  exact ⟨h.nd,c.nd,fun a ha b hb q=>ho b hb (q ▸ ha)⟩
 .rcases mAq.mp hx with q|q
  .exact h.sub x q
  .rw [c.get] at q
   obtain ⟨n,_,rfl⟩:=mMq.mp q
   exact hf.itr_mem heE n
 .rcases mAq.mp hx with q|q
  .exact mAq.mpr (.inl (h.cl x q))
  .refine mAq.mpr (.inr ?_)
   obtain ⟨j,hj⟩:=bJ.mp q
   have hlt:=(gSq.mp hj).1
   rw [c.at hlt] at hj
   rw [← aT.inj hj]
   show Zl.itr f (j+1) e∈l
   by_cases hj2:j+1<l.length
   .exact mGq (c.at hj2)
   .rw [show j+1=l.length by omega,c.back]
    exact c.self
theorem Rd.orb {f:Int->Int}{E kn:List Int}{L:List (List Int)}(h:Rd f E kn L) (hall:∀ x∈E,x∈kn):Orb f E L:=⟨h.cy,by rw [h.fl];exact h.nd,fun x=>by rw [h.fl];exact ⟨h.sub x,hall x⟩⟩
def bar (rs:List (List Int)):List (List Int):=(rs.filter fun r=>decide (r=[])).map fun _=>[]
theorem bar_comp (rs:List (List Int)):mCompL (tOf (rOp dEq (rCB fLen (arCons (rVar 0) arNil)) (rC (.int 0)))) (kLst aNil) [] (rs.map dI)=some ((bar rs).map aI):=by
 rw [Z.comp_filter (fun d=>decide (undI d=[])) (fun _=>.ow [])]
 .unfold bar
  rw [dJ,mPq,mPq]
  have:(fun d=>decide (undI d=[]))∘dI=fun r=>decide (r=[]):=by funext r;show decide (undI (dI r)=[])=_;rw [undI_dI]
  rw [this]
  rfl
 .intro d hd
  obtain ⟨r,hr,rfl⟩:=mem_dM hd
  rw [undI_dI]
  refine ⟨[some (.sh (dI r))],?_,fun _=>⟨[some (.sh (dI r))],?_⟩⟩
  .by_cases h:r=[]
   .subst h
    have z:((0:Nat):Int)=0:=rfl
    simp_arith [dI,z]
   .have h':¬ ((r.length:Nat):Int)=0:=fun q=>h (bD.mp (by omega))
    simp_arith [dI,h',h]
  .simp_arith []
theorem mark_loop {kn l:List Int}{v0 v1 v3 v4 v5 v6:Option AV}(hn:(kn++l).Nodup) (hl:kn.length+l.length<500000):∃ v6',mForL 6 mb_lands_0 (l.map D.int) [v0,v1,some (.owd (kI kn)),v3,v4,v5,v6]=some (.nx [v0,v1,some (.owd (kI (kn++l))),v3,v4,v5,v6']):=by
 have key:=forL0 (x:=6) (body:=mb_lands_0) (fun i S=>∃ v6',S=[v0,v1,some (.owd (kI (kn++l.take i))),v3,v4,v5,v6']) (ds:=l.map D.int) (S:=[v0,v1,some (.owd (kI kn)),v3,v4,v5,v6]) ⟨v6,by simp⟩ (by
  rintro i d S hd ⟨v6',rfl⟩
  rw [gMq] at hd
  obtain ⟨e,he,rfl⟩:=oMq.mp hd
  have hi:=(gSq.mp he).1
  have hnew:e∉kn++l.take i:=fun m=>by
   have h2:(kn++l.take (i+1)).Nodup:=aR.sublist (eQ.append (eQ.refl kn) (bj (i+1) l)) hn
   rw [take_snoc he,← ak] at h2
   exact (nAq.mp h2).2.2 e m e (by simp) rfl
  have hp:=kI_new hnew
  rw [ak,← take_snoc he] at hp
  have l1:(kI (kn++l.take i)).length<LIM:=by rw [kI_len,lAq,lTq];show _<16777216;omega
  refine ⟨_,?_,some (.sh (.int e)),rfl⟩
  simp_arith [mb_lands_0,l1,hp])
 obtain ⟨S',e,v6',rfl⟩:=key
 rw [lMq,bu] at e
 exact ⟨v6',e⟩
def fnd (B L:List (List Int)):AV:=.ow (B.map aI++L.map fun l=>.sh (dI l))
theorem lands_loop (hm:Mp rs):∃ v1 v2 v4 v5 v6 L,mForL 4 mb_lands_1 ((srtI rs.flatten).map D.int) [some (.sh (dM rs)),some (.owd (stp rs rs.flatten)),some (.owd []),some (fnd (bar rs) []),none,none,none]=some (.nx [some (.sh (dM rs)),v1,v2,some (fnd (bar rs) L),v4,v5,v6])/\Orb (fw rs) rs.flatten L:=by
 have one:=fw_one hm
 have hl:=hm.hl
 have h1000:=hm.hr
 have pS:=srtI_perm rs.flatten
 have key:=forL0 (x:=4) (body:=mb_lands_1) (fun i S=>∃ kn L v1 v4 v5 v6,S=[some (.sh (dM rs)),some v1,some (.owd (kI kn)),some (fnd (bar rs) L),v4,v5,v6]/\strip v1 = .dict (stp rs rs.flatten)/\(∀ x,v1=x->(x = .owd (stp rs rs.flatten)∨x = .sh (.dict (stp rs rs.flatten))))/\Rd (fw rs) rs.flatten kn L/\L.length<=i/\∀ j x,j<i->(srtI rs.flatten)[j]?=some x->x∈kn) (ds:=(srtI rs.flatten).map D.int) (S:=[some (.sh (dM rs)),some (.owd (stp rs rs.flatten)),some (.owd []),some (fnd (bar rs) []),none,none,none]) ⟨[],[],.owd (stp rs rs.flatten),none,none,none,rfl,rfl,fun x h=>.inl h.symm,⟨by simp,rfl,bh,by simp,by simp⟩,af _,fun j x h=>absurd h (cD _)⟩ (by
  rintro i d S hd ⟨kn,L,v1,v4,v5,v6,rfl,hv1,hv1',hr,hLl,hall⟩
  rw [gMq] at hd
  obtain ⟨e,he,rfl⟩:=oMq.mp hd
  have hiS:=(gSq.mp he).1
  rw [pS.length_eq] at hiS
  have heE:e∈rs.flatten:=pS.mem_iff.mp (mGq he)
  have hg:=kI_get kn e
  by_cases c:e∈kn
  .rw [decide_eq_true c] at hg
   refine ⟨[some (.sh (dM rs)),some v1,some (.owd (kI kn)),some (fnd (bar rs) L),some (.sh (.int e)),v5,v6],?_,kn,L,v1,_,_,_,rfl,hv1,hv1',hr,by omega,fun j x hj hx=>?_⟩
   .simp_arith [mb_lands_1,hg]
   .rcases cP.mp hj with q|rfl
    .exact hall j x q hx
    .rw [he] at hx;cases hx;exact c
  .rw [decide_eq_false c] at hg
   obtain ⟨l,cy,hle,eg⟩:=gone_ok hm heE
   have hr2:=hr.add one cy heE c
   have knl:=pigE _ _ hr.nd hr.sub
   obtain ⟨v6',em⟩:=mark_loop (kn:=kn) (l:=l) (v0:=some (.sh (dM rs))) (v1:=some (.sh (.dict (stp rs rs.flatten)))) (v3:=some (fnd (bar rs) L)) (v4:=some (.sh (.int e))) (v5:=some (.sh (dI l))) (v6:=v6) hr2.nd (by omega)
   have sl:=strip_aI l
   have lb:(bar rs).length<=rs.length:=by unfold bar;rw [lMq];exact bK _ _
   have l1:((bar rs).map aI++L.map fun l=>AV.sh (dI l)).length<LIM:=by rw [lAq,lMq,lMq];show _<16777216;omega
   have ea:((bar rs).map aI++L.map fun l=>AV.sh (dI l))++[.sh (dI l)]=(bar rs).map aI++(L++[l]).map fun l=>.sh (dI l):=by rw [ak,mBq];rfl
   refine ⟨[some (.sh (dM rs)),some (.sh (.dict (stp rs rs.flatten))),some (.owd (kI (kn++l))),some (fnd (bar rs) (L++[l])),some (.sh (.int e)),some (.sh (dI l)),v6'],?_,kn++l,L++[l],.sh (.dict (stp rs rs.flatten)),_,_,_,rfl,rfl,fun x h=>.inr h.symm,hr2,by rw [lAq,lSq];omega,fun j x hj hx=>?_⟩
   .unfold fnd at em ⊢
    simp_arith [mb_lands_1,hg,hv1,eg,sl,em,l1,ea]
   .rcases cP.mp hj with q|rfl
    .exact mAq.mpr (.inl (hall j x q hx))
    .rw [he] at hx;cases hx;exact mAq.mpr (.inr cy.self))
 obtain ⟨S',e,kn,L,v1,v4,v5,v6,rfl,_,_,hr,_,hall⟩:=key
 refine ⟨_,_,_,_,_,L,e,hr.orb fun x hx=>?_⟩
 obtain ⟨j,hj⟩:=bJ.mp (pS.mem_iff.mpr hx)
 exact hall j x (by rw [lMq];exact (gSq.mp hj).1) hj
theorem bar_le (rs:List (List Int)):(bar rs).length<=rs.length:=by unfold bar;rw [lMq];exact bK _ _
theorem strip_fnd (B L:List (List Int)):strip (fnd B L)=dM (B++L):=by
 unfold fnd
 rw [strip_ow,mBq,mPq,mPq]
 show D.list _=D.list ((B++L).map dI)
 rw [mBq]
 congr 2
 .exact mCq fun r _=>strip_aI r
theorem orb_len (hm:Mp rs) {L:List (List Int)}(h:Orb (fw rs) rs.flatten L):(∀ l∈L,l.length<=1000)/\L.length<=1000:=by
 have p:L.flatten.Perm rs.flatten:=(List.perm_ext_iff_of_nodup h.dj hm.hn).mpr h.all
 have hl:=hm.hl
 refine ⟨fun l hl'=>?_,?_⟩
 .have:=eQ.length_le (bB hl')
  rw [p.length_eq] at this
  omega
 .have:∀ {L:List (List Int)},(∀ l∈L,1<=l.length)->L.length<=L.flatten.length:=fun {L} h=>by
   induction L with
   | nil=>exact af _
   | cons a L ih =>
    have h1:=h a (bb ..)
    have h2:=ih fun l hl=>h l (mCo _ hl)
    rw [lCq,fCq,lAq]
    omega
  have:=this (L:=L) fun l hl=>by obtain ⟨e,c⟩:=h.cy l hl;exact c.len
  rw [p.length_eq] at this
  omega
theorem lands_ok (hm:Mp rs):∃ L,Orb (fw rs) rs.flatten L/\f_lands [dM rs]=some (.ow ((srt ((bar rs++L).map good)).map aI)):=by
 obtain ⟨v1,v2,v4,v5,v6,L,e,ho⟩:=lands_loop hm
 have hl:=hm.hl
 have h1000:=hm.hr
 have ow:=onwards_ok hm
 have bc:=bar_comp rs
 have en:=ends_ok (rs:=rs) (by omega)
 have lr:rs.length<=LIM:=by show _<=16777216;omega
 have e0:AV.ow ((bar rs).map aI)=fnd (bar rs) []:=by unfold fnd;rw [eN,aNq]
 have st:=strip_fnd (bar rs) L
 obtain ⟨o1,o2⟩:=orb_len hm ho
 have bl:=bar_le rs
 have ig:=in_good_order_ok (rs:=bar rs++L) (fun r hr=>by
  rcases mAq.mp hr with q|q
  .unfold bar at q
   obtain ⟨x,_,rfl⟩:=mMq.mp q
   exact ba _
  .have:=o1 r q;omega) (by rw [lAq];show _<=16777216;omega)
 refine ⟨L,ho,?_⟩
 have sE:=strip_aI (srtI rs.flatten)
 simp_arith [f_lands,mf_lands,ow,dM,bc,lr,e0,en,sE,dI,e,st,ig]
end
end K15
--ZQ3 --ZQ4 --ZQ5 --ZQ6 --ZQ8 --ZQ9 --ZQB --ZQC --ZQD --ZQE --ZQF
namespace K15
open PySem L2 Mr Z Xe Zl
end K15
--ZQ3 --ZQ4 --ZQ5 --ZQ6 --ZQ8 --ZQ9 --ZQB --ZQC --ZQD --ZQE --ZQF
namespace K16
open PySem L2 Mr Z Xe Zl
def pm (l:List Int):List Int:=l.flatMap fun x=>[x, -x]
end K16
--ZQ3 --ZQ4 --ZQ5 --ZQ6 --ZQ8 --ZQ9 --ZQB --ZQC --ZQD --ZQE --ZQF
namespace K16
open PySem L2 Mr Z Xe Zl
def above (kn:List Int) (n:Int):Nat:=kn.countP fun k=>decide (n<=k)
end K16
namespace K16
open PySem L2 Mr Z Xe Zl K15
section
variable {rs:List (List Int)}
def ne (rs:List (List Int)):List (List Int):=rs.filter fun r=>!decide (r=[])
end
end K16
namespace K25
open PySem L2 Mr Z Xe Zl K15 K16
section
variable {rs:List (List Int)}
def pz (z e:Int):Bool:=!decide (e∈[z, -z])
def rest (z:Int) (rs:List (List Int)):List (List Int):=rs.filter fun r=>!decide (z∈r) && !decide (-z∈r)
end
section
variable {rs:List (List Int)}
theorem bare_cnt (rs:List (List Int)):bare rs=rs.count []:=by
 unfold bare
 rw [List.count]
 congr 1
 funext r
 cases r <;> rfl
theorem good_nil_iff {r:List Int}:good r=[]↔r=[]:=by
 rw [← bD,good_length,bD]
theorem bare_good:∀ rs:List (List Int),bare (rs.map good)=bare rs
 | []=>rfl
 | r::rs=>by
  have ih:=bare_good rs
  unfold bare at ih ⊢
  rw [aq,gI,gI,ih]
  simp only [good_nil_iff]
theorem bare_srt (rs:List (List Int)):bare (srt (rs.map good))=bare rs:=by
 rw [bare_cnt,(srt_perm _).count_eq,← bare_cnt,bare_good]
end
end K25
namespace K43
open PySem L2 Mr Z Xe Zl
open K51 (Rch Ps Pc)
section
variable {rs A B:List (List Int)}
theorem mpK (h:Mp rs):K51.Mp rs:=⟨h.hn,h.hl,h.hr,h.hneg⟩
theorem plcK (e:Int):K51.plc rs e=plc rs e:=rfl
structure Ind (rs:List (List Int)) (l:List Nat):Prop where
 lt:∀ k∈l,k<rs.length
 pw:l.Pairwise fun a b=>¬ Rch rs a b
theorem Ind.nd {l:List Nat}(h:Ind rs l):l.Nodup:=by
 rw [aH]
 exact h.pw.imp (fun {a b} n (e:a=b)=>n (e ▸ (.base:Rch rs a a)))
theorem find_mem {PS:List (List Nat)}{k:Nat}(h:∃ ps∈PS,k∈ps):∃ ps,PS[PS.findIdx fun p=>decide (k∈p)]?=some ps/\k∈ps:=by
 obtain ⟨ps,h1,h2⟩:=h
 have hl:PS.findIdx (fun p=>decide (k∈p))<PS.length:=cJ ⟨ps,h1,decide_eq_true h2⟩
 have h3:=eJ (xs:=PS) (p:=fun p=>decide (k∈p)) (w:=hl)
 exact ⟨_,gEg hl,of_decide_eq_true h3⟩
theorem ind_le (hm:Mp rs) {kn:List Nat}{PS:List (List Nat)}(hp:Ps rs rs.length kn PS) {l:List Nat}(h:Ind rs l):l.length<=PS.length:=by
 have hf:∀ k∈l,∃ ps,PS[PS.findIdx fun p=>decide (k∈p)]?=some ps/\k∈ps:=fun k hk=>find_mem (hp.mem k (hp.all k (h.lt k hk)))
 have:=K51.pig PS.length (l.map fun k=>PS.findIdx fun p=>decide (k∈p)) (by
  rw [aH,aY]
  refine aR.imp_of_mem (fun {a b} ha hb n e=>n ?_) h.pw
  obtain ⟨p,p1,p2⟩:=hf a ha
  obtain ⟨q,q1,q2⟩:=hf b hb
  rw [e,q1] at p1
  have epq:=aT.inj p1
  subst epq
  obtain ⟨s,_,pc⟩:=hp.pc q (mGq q1)
  exact (K51.Rch.symm (mpK hm) ((pc.iff a).mp p2)).trans ((pc.iff b).mp q2)) (fun x hx=>by
  obtain ⟨k,hk,rfl⟩:=mMq.mp hx
  obtain ⟨p,p1,_⟩:=hf k hk
  exact (gSq.mp p1).1)
 rwa [lMq] at this
theorem hd_mem {ps:List Nat}(h:ps≠[]):ps.headD 0∈ps:=by
 cases ps with
 | nil=>exact absurd rfl h
 | cons a ps=>exact bb ..
theorem ind_ex (hm:Mp rs) {kn:List Nat}{PS:List (List Nat)}(hp:Ps rs rs.length kn PS):∃ l,Ind rs l/\l.length=PS.length/\∀ k,k<rs.length->∃ r∈l,Rch rs k r:=by
 have hne:∀ ps∈PS,ps.headD 0∈ps:=fun ps h=>hd_mem fun e=>by
  obtain ⟨s,_,pc⟩:=hp.pc ps h
  have:=(pc.iff s).mpr .base
  rw [e] at this
  cases this
 have cls:∀ ps∈PS,∀ a∈ps,∀ b,Rch rs a b->b∈ps:=fun ps h a ha b hab=>by
  obtain ⟨s,_,pc⟩:=hp.pc ps h
  exact (pc.iff b).mpr (((pc.iff a).mp ha).trans hab)
 refine ⟨PS.map fun ps=>ps.headD 0,⟨fun k hk=>?_,?_⟩,lMq _,fun k hk=>?_⟩
 .obtain ⟨ps,h,rfl⟩:=mMq.mp hk
  exact hp.lt _ (hp.sub ps h _ (hne ps h))
 .rw [aY]
  refine aR.imp_of_mem (fun {a b} ha hb d r=>?_) hp.dj
  exact d _ (cls a ha _ (hne a ha) _ r) (hne b hb)
 .obtain ⟨ps,h1,h2⟩:=hp.mem k (hp.all k hk)
  refine ⟨_,mMq.mpr ⟨ps,h1,rfl⟩,?_⟩
  obtain ⟨s,_,pc⟩:=hp.pc ps h1
  exact (K51.Rch.symm (mpK hm) ((pc.iff k).mp h2)).trans ((pc.iff _).mp (hne ps h1))
theorem pw_all {R:Nat->Nat->Prop}(sy:∀ {a b:Nat},R a b->R b a):∀ {l:List Nat},l.Pairwise R->∀ {a b:Nat},a∈l->b∈l->a≠b->R a b
 | [],_,a,b,ha,_,_=>by cases ha
 | x::l,h,a,b,ha,hb,n=>by
  obtain ⟨h1,h2⟩:=cX.mp h
  rcases ai.mp ha with e1|ha1
  .rcases ai.mp hb with e2|hb1
   .exact absurd (e1.trans e2.symm) n
   .rw [e1];exact h1 b hb1
  .rcases ai.mp hb with e2|hb1
   .rw [e2];exact sy (h1 a ha1)
   .exact pw_all sy h2 ha1 hb1 n
section
variable {M:List (List Int)}{z:Int}
theorem W_at {k:Nat}{r:List Int}(h:M[k]?=some r):(K23.C z M)[k]?=some (K23.cutP z r):=by
 unfold K23.C
 rw [gMq,h]
 rfl
theorem mem_cut {r:List Int}{e:Int}:e∈K23.cutP z r↔e∈r/\e≠z/\e ≠ -z:=by
 unfold K23.cutP
 rw [bg]
 simp
theorem mem_W {e:Int}:e∈(K23.C z M).flatten↔e∈M.flatten/\e≠z/\e ≠ -z:=by
 rw [K23.C_flat]
 exact mem_cut
theorem W_mp (hm:Mp M):Mp (K23.C z M):=by
 have hs:(K23.C z M).flatten.length<=M.flatten.length:=by rw [K23.C_flat];exact bK _ _
 refine ⟨by rw [K23.C_flat];exact aR.sublist bH hm.hn,by have:=hm.hl;omega,by unfold K23.C;rw [lMq];exact hm.hr,fun e he=>?_⟩
 have h:=mem_W.mp he
 exact mem_W.mpr ⟨hm.hneg e h.1,by omega,by omega⟩
theorem W_plc (hm:Mp M) {e:Int}(h:e∈(K23.C z M).flatten):plc (K23.C z M) e=plc M e:=by
 obtain ⟨r,h1,h2⟩:=hm.at (mem_W.mp h).1
 exact plc_eq (W_mp hm).hn (W_at h1) (mem_cut.mpr ⟨h2,(mem_W.mp h).2⟩)
theorem W_len:(K23.C z M).length=M.length:=by unfold K23.C;rw [lMq]
theorem W_sub (hm:Mp M) {i j:Nat}(h:Rch (K23.C z M) i j):Rch M i j:=by
 induction h with
 | base=>exact .base
 | @step k r e _ h1 h2 ih =>
  have hk:k<M.length:=by rw [← W_len (z:=z)];exact (gSq.mp h1).1
  have hr:M[k]?=some M[k]:=gEg hk
  rw [W_at hr] at h1
  cases h1
  have he:e∈(K23.C z M).flatten:=mFq.mpr ⟨_,mGq (W_at hr),h2⟩
  have hn:=(W_mp hm).hneg e he
  have:K51.plc (K23.C z M) (-e)=K51.plc M (-e):=W_plc hm hn
  rw [this]
  exact .step ih hr (mem_cut.mp h2).1
theorem W_or (hm:Mp M) (hz:z∈M.flatten) {i j:Nat}(h:Rch M i j):Rch (K23.C z M) i j∨(Rch (K23.C z M) i (plc M z)/\Rch (K23.C z M) (plc M (-z)) j)∨(Rch (K23.C z M) i (plc M (-z))/\Rch (K23.C z M) (plc M z) j):=by
 have hw:=mpK (W_mp (z:=z) hm)
 induction h with
 | base=>exact .inl .base
 | @step k r e _ h1 h2 ih =>
  by_cases e1:e=z
  .subst e1
   have hk:plc M e=k:=plc_eq hm.hn h1 h2
   show _∨_∨_
   rw [plcK]
   rcases ih with q|⟨q1,q2⟩|⟨q1,q2⟩
   .exact .inr (.inl ⟨hk ▸ q,.base⟩)
   .rw [← hk] at q2
    exact .inl (q1.trans (q2.symm hw))
   .exact .inl q1
  .by_cases e2:e = -z
   .subst e2
    have hk:plc M (-z)=k:=plc_eq hm.hn h1 h2
    rw [plcK,gH]
    rcases ih with q|⟨q1,q2⟩|⟨q1,q2⟩
    .exact .inr (.inr ⟨hk ▸ q,.base⟩)
    .exact .inl q1
    .rw [← hk] at q2
     exact .inl (q1.trans (q2.symm hw))
   .have he:e∈K23.cutP z r:=mem_cut.mpr ⟨h2,e1,e2⟩
    have hf:e∈(K23.C z M).flatten:=mFq.mpr ⟨_,mGq (W_at h1),he⟩
    have hp:plc (K23.C z M) (-e)=plc M (-e):=W_plc hm ((W_mp hm).hneg e hf)
    rw [plcK,← hp]
    rcases ih with q|⟨q1,q2⟩|⟨q1,q2⟩
    .exact .inl (.step q (W_at h1) he)
    .exact .inr (.inl ⟨q1,.step q2 (W_at h1) he⟩)
    .exact .inr (.inr ⟨q1,.step q2 (W_at h1) he⟩)
theorem pieces_same (hm:Mp M) (hz:z∈M.flatten) (hb:Rch (K23.C z M) (plc M z) (plc M (-z))) {kn kn':List Nat}{PS PS':List (List Nat)}(hp:Ps M M.length kn PS) (hp':Ps (K23.C z M) (K23.C z M).length kn' PS'):PS'.length=PS.length:=by
 have hw:=mpK (W_mp (z:=z) hm)
 have key:∀ {i j},Rch M i j->Rch (K23.C z M) i j:=fun {i j} h=>by
  rcases W_or hm hz h with q|⟨q1,q2⟩|⟨q1,q2⟩
  .exact q
  .exact (q1.trans hb).trans q2
  .exact (q1.trans (hb.symm hw)).trans q2
 obtain ⟨l,i1,l1,_⟩:=ind_ex hm hp
 obtain ⟨l',i2,l2,_⟩:=ind_ex (W_mp hm) hp'
 have a:=ind_le (W_mp hm) hp' (l:=l) ⟨fun k hk=>by rw [W_len];exact i1.lt k hk,i1.pw.imp fun n h=>n (W_sub hm h)⟩
 have b:=ind_le hm hp (l:=l') ⟨fun k hk=>by rw [← W_len (z:=z)];exact i2.lt k hk,i2.pw.imp fun n h=>n (key h)⟩
 omega
theorem pieces_more (hm:Mp M) (hz:z∈M.flatten) (hb:¬ Rch (K23.C z M) (plc M z) (plc M (-z))) {kn kn':List Nat}{PS PS':List (List Nat)}(hp:Ps M M.length kn PS) (hp':Ps (K23.C z M) (K23.C z M).length kn' PS'):PS'.length=PS.length+1:=by
 have hw:=mpK (W_mp (z:=z) hm)
 have hkm:=mpK hm
 have hz':=hm.hneg z hz
 have zm:Rch M (plc M z) (plc M (-z)):=by
  obtain ⟨r,h1,h2⟩:=hm.at hz
  exact .step .base h1 h2
 obtain ⟨l,i1,l1,c1⟩:=ind_ex hm hp
 obtain ⟨l',i2,l2,_⟩:=ind_ex (W_mp hm) hp'
 have b:=ind_le hm hp (l:=l'.filter fun k=>!@decide (Rch (K23.C z M) (plc M (-z)) k) (aS _)) ⟨fun k hk=>by rw [← W_len (z:=z)];exact i2.lt k (bg.mp hk).1,by
  have hs:=i2.pw.sublist (bH (p:=fun k=>!@decide (Rch (K23.C z M) (plc M (-z)) k) (aS _)))
  refine aR.imp_of_mem (fun {x y} hx hy n h=>?_) hs
  have nx:¬ Rch (K23.C z M) (plc M (-z)) x:=by simpa using (bg.mp hx).2
  have ny:¬ Rch (K23.C z M) (plc M (-z)) y:=by simpa using (bg.mp hy).2
  rcases W_or hm hz h with q|⟨q1,q2⟩|⟨q1,q2⟩
  .exact n q
  .exact ny q2
  .exact nx (q1.symm hw)⟩
 have few:(l'.filter fun k=>@decide (Rch (K23.C z M) (plc M (-z)) k) (aS _)).length<=1:=by
  have hs:=i2.pw.sublist (bH (p:=fun k=>@decide (Rch (K23.C z M) (plc M (-z)) k) (aS _)))
  have hm':∀ x∈l'.filter fun k=>@decide (Rch (K23.C z M) (plc M (-z)) k) (aS _),Rch (K23.C z M) (plc M (-z)) x:=fun x hx=>by simpa using (bg.mp hx).2
  generalize (l'.filter fun k=>@decide (Rch (K23.C z M) (plc M (-z)) k) (aS _))=L at hs hm'
  match L,hs,hm' with
  | [],_,_=>exact ba _
  | [x],_,_=>exact af _
  | x::y::L,hs,hm' =>
   exact absurd (((hm' x (by simp)).symm hw).trans (hm' y (by simp))) ((cX.mp hs).1 y (by simp))
 have tot:=eh (p:=fun k=>@decide (Rch (K23.C z M) (plc M (-z)) k) (aS _)) (l:=l')
 rw [bL,bL] at tot
 have e1:(l'.filter fun a=>decide ¬ (@decide (Rch (K23.C z M) (plc M (-z)) a) (aS _))=true)=l'.filter fun k=>!@decide (Rch (K23.C z M) (plc M (-z)) k) (aS _):=by
  congr 1
  funext k
  rw [bx]
  simp
 obtain ⟨r,hr,ra⟩:=c1 (plc M z) (hm.lt hz)
 have a:=ind_le (W_mp hm) hp' (l:=plc M z::plc M (-z)::l.erase r) ⟨fun k hk=>by
   rw [W_len]
   rcases ai.mp hk with rfl|hk
   .exact hm.lt hz
   .rcases ai.mp hk with rfl|hk
    .exact hm.lt hz'
    .exact i1.lt k (fQ hk),by
  have out:∀ k∈l.erase r,¬ Rch M r k:=fun k hk h=>by
   have hne:r≠k:=fun e=>by
    subst e
    exact (List.Nodup.not_mem_erase i1.nd) hk
   have hin:=fQ hk
   exact pw_all (R:=fun a b=>¬ Rch M a b) (fun n c=>n (c.symm hkm)) i1.pw hr hin hne h
  refine cX.mpr ⟨fun k hk q=>?_,cX.mpr ⟨fun k hk q=>?_,(i1.pw.sublist List.erase_sublist).imp fun n h=>n (W_sub hm h)⟩⟩
  .rcases ai.mp hk with rfl|hk
   .exact hb q
   .exact out k hk ((ra.symm hkm).trans (W_sub hm q))
  .exact out k hk ((ra.symm hkm).trans (zm.trans (W_sub hm q)))⟩
 have le:=fo hr
 have lp:=ee hr
 rw [lCq,lCq,le] at a
 rw [e1] at tot
 omega
end
structure Tog (A B:List (List Int)):Prop where
 sub:∀ e∈A.flatten,e∈B.flatten
 row:∀ r∈A,∀ e∈r,∀ e'∈r,plc B e=plc B e'
theorem tog_rch (ha:Mp A) (hb:Mp B) (t:Tog A B) {s j:Nat}(h:Rch A s j) {r r':List Int}(hs:A[s]?=some r) (hj:A[j]?=some r') {e e':Int}(he:e∈r) (he':e'∈r'):Rch B (plc B e) (plc B e'):=by
 induction h generalizing r' e' with
 | base =>
  rw [hs] at hj
  cases hj
  rw [t.row r (mGq hs) e he e' he']
  exact .base
 | @step k q x h1 h2 h3 ih =>
  have i1:=ih h2 h3
  have hx:x∈A.flatten:=mFq.mpr ⟨q,mGq h2,h3⟩
  obtain ⟨p,p1,p2⟩:=hb.at (t.sub x hx)
  have i2:=Rch.step i1 p1 p2
  obtain ⟨u,u1,u2⟩:=ha.at (ha.hneg x hx)
  rw [plcK] at hj i2
  have eu:u=r':=aT.inj (u1.symm.trans hj)
  subst eu
  rw [← t.row u (mGq u1) (-x) u2 e' he']
  exact i2
def emp (B:List (List Int)):List Nat:=(bf B.length).filter fun k=>decide (B.getD k []=[])
theorem getD_some {k:Nat}(h:k<B.length):B[k]?=some (B.getD k []):=by rw [gDq,gEg h];rfl
theorem range_getD (B:List (List Int)):(bf B.length).map (fun k=>B.getD k [])=B:=by
 refine gq fun i=>?_
 rw [gMq]
 by_cases h:i<B.length
 .rw [eS h,getD_some h]
  rfl
 .rw [cw (by rw [aZ];omega),cw (by omega)]
  rfl
theorem emp_len (B:List (List Int)):(emp B).length=bare B:=by
 unfold emp bare
 rw [← bL]
 have:B.countP (fun r=>decide (r=[]))=((bf B.length).map (fun k=>B.getD k [])).countP (fun r=>decide (r=[])):=by rw [range_getD]
 rw [this,dH]
 rfl
theorem emp_mem {k:Nat}:k∈emp B↔k<B.length/\B.getD k []=[]:=by
 unfold emp
 rw [bg,cj]
 simp
theorem emp_rch {k j:Nat}(h:Rch B k j) (he:B.getD k []=[]):j=k:=by
 induction h with
 | base=>rfl
 | @step k' r e h1 h2 h3 ih =>
  have:=ih
  subst this
  rw [gDq,h2] at he
  rw [show r=[] from he] at h3
  cases h3
theorem pieces_le (ha:Mp A) (hb:Mp B) (t:Tog A B) (t':Tog B A) (hbare:bare A=bare B) {kn kn':List Nat}{PS PS':List (List Nat)}(hp:Ps A A.length kn PS) (hp':Ps B B.length kn' PS'):PS.length<=PS'.length:=by
 obtain ⟨l,i1,l1,_⟩:=ind_ex ha hp
 let f:Nat->Nat:=fun k=>plc B ((A.getD k []).headD 0)
 have hd:∀ k∈l.filter (fun k=>!decide (A.getD k []=[])),A[k]?=some (A.getD k [])/\(A.getD k []).headD 0∈A.getD k []/\(A.getD k []).headD 0∈A.flatten:=fun k hk=>by
  obtain ⟨h1,h2⟩:=bg.mp hk
  have g:=getD_some (i1.lt k h1)
  have h3:A.getD k []≠[]:=by simpa using h2
  have h4:(A.getD k []).headD 0∈A.getD k []:=by
   generalize A.getD k []=r at h3
   cases r with
   | nil=>exact absurd rfl h3
   | cons x r=>exact bb ..
  exact ⟨g,h4,mFq.mpr ⟨_,mGq g,h4⟩⟩
 have key:=ind_le hb hp' (l:=(l.filter fun k=>!decide (A.getD k []=[])).map f++emp B) ⟨fun k hk=>by
   rcases mAq.mp hk with q|q
   .obtain ⟨k0,hk0,rfl⟩:=mMq.mp q
    exact hb.lt (t.sub _ (hd k0 hk0).2.2)
   .exact (emp_mem.mp q).1,by
  refine aD.mpr ⟨?_,?_,fun a ha' b hb' h=>?_⟩
  .rw [aY]
   refine aR.imp_of_mem (fun {x y} hx hy n h=>n ?_) (i1.pw.sublist bH)
   obtain ⟨x1,x2,x3⟩:=hd x hx
   obtain ⟨y1,y2,y3⟩:=hd y hy
   obtain ⟨p,p1,p2⟩:=hb.at (t.sub _ x3)
   obtain ⟨q,q1,q2⟩:=hb.at (t.sub _ y3)
   have:=tog_rch hb ha t' h p1 q1 p2 q2
   rwa [plc_eq ha.hn x1 x2,plc_eq ha.hn y1 y2] at this
  .have nd:(emp B).Nodup:=aR.sublist bH gJ
   refine aR.imp_of_mem (fun {x y} hx hy n h=>n ?_) (aH.mp nd)
   exact (emp_rch h (emp_mem.mp hx).2).symm
  .obtain ⟨k,hk,rfl⟩:=mMq.mp ha'
   have e:=emp_rch (h.symm (mpK hb)) (emp_mem.mp hb').2
   obtain ⟨p,p1,p2⟩:=hb.at (t.sub _ (hd k hk).2.2)
   have:=(emp_mem.mp hb').2
   rw [← e,gDq] at this
   rw [show B[f k]?=some p from p1] at this
   rw [show p=[] from this] at p2
   cases p2⟩
 rw [lAq,lMq,emp_len] at key
 have few:(l.filter fun k=>decide (A.getD k []=[])).length<=bare A:=by
  rw [← emp_len]
  have hs:=i1.nd.sublist (bH (p:=fun k=>decide (A.getD k []=[])))
  have hsub:∀ x∈l.filter fun k=>decide (A.getD k []=[]),x∈emp A:=fun x hx=>by
   obtain ⟨h1,h2⟩:=bg.mp hx
   exact emp_mem.mpr ⟨i1.lt x h1,of_decide_eq_true h2⟩
  have:=pigE ((l.filter fun k=>decide (A.getD k []=[])).map fun k:Nat=>(k:Int)) ((emp A).map fun k:Nat=>(k:Int)) (by
   rw [aH,aY]
   exact (aH.mp hs).imp (fun {a b} n e=>n (by omega))) (fun x hx=>by
   obtain ⟨k,hk,rfl⟩:=mMq.mp hx
   exact mMq.mpr ⟨k,hsub k hk,rfl⟩)
  rwa [lMq,lMq] at this
 have tot:=eh (p:=fun k=>decide (A.getD k []=[])) (l:=l)
 rw [bL,bL] at tot
 have e1:(l.filter fun a=>decide ¬ (decide (A.getD a []=[])=true))=l.filter fun k=>!decide (A.getD k []=[]):=by
  congr 1
  funext k
  rw [bx]
  simp
 rw [e1] at tot
 omega
theorem tog_good {T:List (List Int)}(hn:T.flatten.Nodup):Tog T (srt (T.map good))/\Tog (srt (T.map good)) T:=by
 have pf:=flat_good T
 have hn':(srt (T.map good)).flatten.Nodup:=pf.nodup_iff.mpr hn
 refine ⟨⟨fun e he=>pf.mem_iff.mpr he,fun r hr e he e' he'=>?_⟩,⟨fun e he=>pf.mem_iff.mp he,fun r hr e he e' he'=>?_⟩⟩
 .have hg:good r∈srt (T.map good):=(srt_perm _).mem_iff.mpr (mMq.mpr ⟨r,hr,rfl⟩)
  obtain ⟨i,hi⟩:=bJ.mp hg
  rw [plc_eq hn' hi ((good_perm r).mem_iff.mpr he),plc_eq hn' hi ((good_perm r).mem_iff.mpr he')]
 .obtain ⟨q,hq,rfl⟩:=mMq.mp ((srt_perm _).mem_iff.mp hr)
  obtain ⟨i,hi⟩:=bJ.mp hq
  rw [plc_eq hn hi ((good_perm q).mem_iff.mp he),plc_eq hn hi ((good_perm q).mem_iff.mp he')]
end
end K43
namespace K11
open PySem L2 Mr Z
end K11
--ZQ3 --ZQ4 --ZQ5 --ZQ6 --ZQ8 --ZQ9 --ZQB --ZQC --ZQD --ZQE --ZQF
namespace K11
open PySem L2 Mr Z Xe Zl K12
def Tree (p:List (List Int)):Prop:=∀ k,0<k->k<p.length->∃ j e,j<k/\e∈p.getD j []/\-e∈p.getD k []
theorem getD_set_mem {l:List (List Int)}{h:Nat}{r x:List Int}(hr:l[h]?=some r) {k:Nat}{e:Int}(he:e∈l.getD k []):e∈(l.set h (r++x)).getD k []:=by
 rw [gDq] at he ⊢
 by_cases q:h=k
 .subst q
  have hlt:=(gSq.mp hr).1
  rw [aF hlt]
  rw [hr] at he
  exact bM _ he
 .rw [au q]
  exact he
theorem getD_set_new {l:List (List Int)}{h:Nat}{r x:List Int}(hr:l[h]?=some r) {e:Int}(he:e∈x):e∈(l.set h (r++x)).getD h []:=by
 have hlt:=(gSq.mp hr).1
 rw [gDq,aF hlt]
 exact ar _ he
theorem Tree.set {l:List (List Int)}{h:Nat}{r x:List Int}(t:Tree l) (hr:l[h]?=some r):Tree (l.set h (r++x)):=fun k h0 hk=>by
 rw [lZq] at hk
 obtain ⟨j,e,h1,h2,h3⟩:=t k h0 hk
 exact ⟨j,e,h1,getD_set_mem hr h2,getD_set_mem hr h3⟩
theorem getD_app {l:List (List Int)}{x:List Int}{k:Nat}(h:k<l.length):(l++[x]).getD k []=l.getD k []:=by
 rw [gDq,gDq,gZq h]
theorem getD_end {l:List (List Int)}{x:List Int}:(l++[x]).getD l.length []=x:=by
 rw [gDq,gYq (af _),cV]
 rfl
theorem Tree.add {l:List (List Int)}{h:Nat}{e:Int}(t:Tree l) (hh:h<l.length) (he:e∈l.getD h []):Tree (l++[[-e]]):=fun k h0 hk=>by
 rw [lAq,lSq] at hk
 by_cases q:k<l.length
 .obtain ⟨j,e',h1,h2,h3⟩:=t k h0 q
  exact ⟨j,e',h1,by rw [getD_app (by omega)];exact h2,by rw [getD_app q];exact h3⟩
 .have ek:k=l.length:=by omega
  subst ek
  exact ⟨h,e,hh,by rw [getD_app hh];exact he,by rw [getD_end];simp⟩
theorem tree_one (r:List Int):Tree [r]:=fun k h0 hk=>by
 rw [lSq] at hk
 omega
end K11
--ZQ3 --ZQ4 --ZQ5 --ZQ6 --ZQ8 --ZQ9 --ZQB --ZQC --ZQD --ZQE --ZQF --ZQG
namespace K31
open PySem L2 Mr Z Xe Zl K12
theorem name_ok (one two:Int):∃ st sh a b:Int,1<=st/\st<=10 ^ 40/\0<=sh/\sh<10 ^ 40/\1<=a/\a<=66/\∀ k:Nat,f_L_name [.int one,.int two,.int (k:Int)]=some (.sh (.int (nmk st sh a b k))):=by
 have a1:0<=two % 66:=bq _ (by decide)
 have a2:two % 66<66:=bp _ (by decide)
 have s1:0<=one / 3 % 10 ^ 40:=bq _ (by decide)
 have s2:one / 3 % 10 ^ 40<10 ^ 40:=bp _ (by decide)
 have s3:0<=two / 66 % 10 ^ 40:=bq _ (by decide)
 have s4:two / 66 % 10 ^ 40<10 ^ 40:=bp _ (by decide)
 have m3:=fun i:Int=>mod_ok (i:=i) (j:=3) (by decide)
 have m66:=fun i:Int=>mod_ok (i:=i) (j:=66) (by decide)
 have m67:=fun i:Int=>mod_ok (i:=i) (j:=67) (by decide)
 have m40:=fun i:Int=>mod_ok (i:=i) (j:=10 ^ 40) (by decide)
 have d3:=fun i:Int=>div_ok (i:=i) (j:=3) (by decide) (by decide)
 have d66:=fun i:Int=>div_ok (i:=i) (j:=66) (by decide) (by decide)
 have c1:=fun k:Nat=>mul_l (i:=1+two % 66) (j:=(k:Int)) (by lia) (by lia)
 by_cases h0:0<one % 3
 .refine ⟨1+one / 3 % 10 ^ 40,two / 66 % 10 ^ 40,1+two % 66,one,by lia,by lia,s3,s4,by lia,by lia,fun k=>?_⟩
  have b1:0<=((1+two % 66)*(k:Int)+one) % 67:=bq _ (by decide)
  have b2:((1+two % 66)*(k:Int)+one) % 67<67:=bp _ (by decide)
  have c2:=mul_r (i:=1+one / 3 % 10 ^ 40) (j:=((1+two % 66)*(k:Int)+one) % 67+1) (by lia) (by lia)
  simp_arith [f_L_name,mf_L_name,h0,m3,m66,m67,m40,d3,d66,c1,c2,p40,nmk]
 .refine ⟨1,0,1+two % 66,one,by decide,by decide,by decide,by decide,by lia,by lia,fun k=>?_⟩
  have b1:0<=((1+two % 66)*(k:Int)+one) % 67:=bq _ (by decide)
  have b2:((1+two % 66)*(k:Int)+one) % 67<67:=bp _ (by decide)
  have c2:=mul_r (i:=1) (j:=((1+two % 66)*(k:Int)+one) % 67+1) (by lia) (by lia)
  simp_arith [f_L_name,mf_L_name,h0,m3,m66,m67,c1,c2,nmk]
theorem nodeT {T:List (List Int)}{h:Nat}{r:List Int}(hr:T[h]?=some r):nodeAt (.ow (T.map aI)) [h]=some (r.map fun n=>.sh (.int n)):=by
 rw [nodeAt_cons,gMq,hr]
 rfl
theorem putT {T:List (List Int)}{h:Nat}{r r':List Int}(hr:T[h]?=some r):putAt (.ow (T.map aI)) [h] (r'.map fun n=>.sh (.int n)) = .ow ((T.set h r').map aI):=by
 rw [putAt_cons (a:=aI r) (by rw [gMq,hr];rfl)]
 show AV.ow ((T.map aI).set h (aI r'))=_
 rw [map_set']
structure Wd where
 T:List (List Int)
 t0:List Nat
 h:Nat
 loose:List Int
 left:List Int
def atL (wild:Bool) (c:Int) (loose:List Int):Nat:=if wild then (c / 8 % loose.length).toNat else loose.length-1
def sg (c x:Int):Int:=x*(1-2*(c / 4 % 2))
def wstep (wild:Bool) (w:Wd) (c:Int):Wd :=
 let r:=w.T.getD w.h []
 if c % 4=1/\w.t0≠[] then { w with t0:=w.t0.dropLast,h:=w.t0.getLast?.getD 0 }
 else if c % 4=2/\w.loose≠[] then { w with T:=w.T.set w.h (r++[w.loose.getD (atL wild c w.loose) 0]),loose:=w.loose.eraseIdx (atL wild c w.loose) }
 else match w.left with
  | []=>w
  | x::left=>if c % 4=0 then { w with T:=w.T.set w.h (r++[sg c x])++[[-(sg c x)]],t0:=w.t0++[w.h],h:=w.T.length,left:=left }
   else { w with T:=w.T.set w.h (r++[sg c x]),loose:=w.loose++[-(sg c x)],left:=left }
def st (v0 v1:Option AV) (wild:Bool) (w:Wd) (v7 v8 v9 v10:Option AV):AS:=[v0,v1,some (.sh (.bl wild)),some (.ow (w.T.map aI)),some (aI (cN (w.t0++[w.h]))),some (aI w.loose),some (aI w.left),v7,v8,v9,v10]
section
variable {T:List (List Int)}{t0:List Nat}{hd:Nat}{loose left r:List Int}{c:Int}{wild:Bool}{v0 v1 v8 v9 v10:Option AV}
theorem at_way:atI ((cN (t0++[hd])).map D.int) (((t0++[hd]).length:Int)-1)=some (.int (hd:Int)):=by
 have:((t0++[hd]).length:Int)-1=(t0.length:Int):=by rw [lAq,lSq];omega
 rw [this]
 refine atI_nat ?_
 unfold cN
 rw [mBq,mBq,gYq (by simp)]
 simp
theorem cN_len (l:List Nat):(cN l).length=l.length:=lMq ..
def brL:List Nat->MS:=(mIfA 3 (tOf (rOp dGt (rCB fLen (arCons (rVar 6) arNil)) (rC (.int 0)))) (mMid 3 (mAsgM 10 (rMOp dMul (rPopAt' 6 (rC (.int 0))) (rOp dSub (rC (.int 1)) (rOp dMul (rC (.int 2)) (rOp dMod (rOp dDiv (rVar 7) (rC (.int 4))) (rC (.int 2))))))) (fun path=>mSeq ((mAppA 3 (kVar 10)) path) (mIf (tOf (rOp dEq (rOp dMod (rVar 7) (rC (.int 4))) (rC (.int 0)))) (mSeq (mApp 3 (kLst (aCons (kSc (rUn dNeg (rVar 10))) aNil))) (mApp 4 (kSc (rOp dSub (rCB fLen (arCons (rVar 3) arNil)) (rC (.int 1)))))) (mApp 5 (kSc (rUn dNeg (rVar 10))))))) (fun _=>mNext))
def brT:List Nat->MS:=(mIfA 3 (tAndM (tOf (rOp dEq (rOp dMod (rVar 7) (rC (.int 4))) (rC (.int 1)))) (tOf (rOp dGt (rCB fLen (arCons (rVar 4) arNil)) (rC (.int 1))))) (fun _=>(mDropM (rPop' 4))) (mIfA 3 (tAndM (tOf (rOp dEq (rOp dMod (rVar 7) (rC (.int 4))) (rC (.int 2)))) (tOf (rOp dGt (rCB fLen (arCons (rVar 5) arNil)) (rC (.int 0))))) (mMid 3 (mAsg 9 (kSc (rOp dSub (rCB fLen (arCons (rVar 5) arNil)) (rC (.int 1))))) (mMid 3 (mIf (tOf (rVar 2)) (mAsg 9 (kSc (rOp dMod (rOp dDiv (rVar 7) (rC (.int 8))) (rCB fLen (arCons (rVar 5) arNil))))) mNext) (mAppMA 3 (rPopAt' 5 (rVar 9))))) brL))
theorem body_eq:mb_L_turns_0=(mAls 8 3 (pIx 3 (pVar 3) (rOp dIx (rVar 4) (rOp dSub (rCB fLen (arCons (rVar 4) arNil)) (rC (.int 1))))) brT):=rfl
theorem word_pre (hr:T[hd]?=some r):mb_L_turns_0 (st v0 v1 wild ⟨T,t0,hd,loose,left⟩ (some (.sh (.int c))) v8 v9 v10)=brT [hd] (st v0 v1 wild ⟨T,t0,hd,loose,left⟩ (some (.sh (.int c))) none v9 v10):=by
 have hh:hd<T.length:=(gSq.mp hr).1
 have n1:=nodeT hr
 have iL:ixN T.length (hd:Int)=some hd:=ixN_pos hh
 have sl:=strip_aI (cN (t0++[hd]))
 have at4:=at_way (t0:=t0) (hd:=hd)
 have cl:=cN_len (t0++[hd])
 have q:((8:Nat)≠3/\8<11)=True:=by simp
 rw [body_eq]
 simp_arith [st,n1,iL,sl,dI,at4,cl,q]
theorem br_back {t:List Nat}{h':Nat}(hr:T[hd]?=some r) (h1:c % 4=1):brT [hd] (st v0 v1 wild ⟨T,t++[h'],hd,loose,left⟩ (some (.sh (.int c))) v8 v9 v10)=some (.nx (st v0 v1 wild ⟨T,t,h',loose,left⟩ (some (.sh (.int c))) v8 v9 v10)):=by
 have m4:=mod_ok (i:=c) (j:=4) (by decide)
 have n1:=nodeT hr
 have sl:=strip_aI (cN (t++[h']++[hd]))
 have cl:=cN_len (t++[h']++[hd])
 have k1:(1:Int)<((t++[h']++[hd]).length:Int):=by simp;omega
 have ec:(cN (t++[h']++[hd])).map (fun n=>AV.sh (.int n))=(cN (t++[h'])).map (fun n=>AV.sh (.int n))++[.sh (.int (hd:Int))]:=(ap_cN (t++[h']) hd).symm
 have p1:((cN (t++[h'])).map (fun n=>AV.sh (.int n))++[AV.sh (.int (hd:Int))])[((cN (t++[h'])).map (fun n=>AV.sh (.int n))++[AV.sh (.int (hd:Int))]).length-1]?=some (.sh (.int (hd:Int))):=by
  rw [lAq,lSq,gYq (by omega)]
  simp
 have p2:((cN (t++[h'])).map (fun n=>AV.sh (.int n))++[AV.sh (.int (hd:Int))]).dropLast=(cN (t++[h'])).map (fun n=>AV.sh (.int n)):=cI
 simp_arith [brT,st,m4,h1,n1,sl,dI,cl,k1,eq_self,ec,p1,p2]
theorem br_home (hr:T[hd]?=some r) (hrl:r.length<500000) (hll:loose.length<500000) (h1:¬ c % 4=1) (h2:c % 4=2) (hne:loose≠[]):brT [hd] (st v0 v1 wild ⟨T,t0,hd,loose,left⟩ (some (.sh (.int c))) v8 v9 v10)=some (.nx (st v0 v1 wild ⟨T.set hd (r++[loose.getD (atL wild c loose) 0]),t0,hd,loose.eraseIdx (atL wild c loose),left⟩ (some (.sh (.int c))) v8 (some (.sh (.int (atL wild c loose:Nat)))) v10)):=by
 have m4:=mod_ok (i:=c) (j:=4) (by decide)
 have d8:=div_ok (i:=c) (j:=8) (by decide) (by decide)
 have hpos:0<loose.length:=gd.mpr hne
 have ml:=mod_ok (i:=c / 8) (j:=(loose.length:Int)) (by omega)
 have n1:=nodeT hr
 have l1:r.length<LIM:=by show _<16777216;omega
 have sl:=strip_aI loose
 have k0:(0:Int)<(loose.length:Int):=by omega
 have hlt:atL wild c loose<loose.length:=by
  unfold atL
  have b0:0<=c / 8 % (loose.length:Int):=bq _ (by omega)
  have b1:c / 8 % (loose.length:Int)<(loose.length:Int):=bp _ (by omega)
  split <;> omega
 have ll:loose.length<=LIM:=by show _<=16777216;omega
 have g1:(loose.map fun n=>AV.sh (.int n))[atL wild c loose]?=some (.sh (.int (loose.getD (atL wild c loose) 0))):=by
  rw [gMq,gEg hlt,gDq,gEg hlt]
  rfl
 have g2:(loose.map fun n=>AV.sh (.int n)).eraseIdx (atL wild c loose)=(loose.eraseIdx (atL wild c loose)).map fun n=>.sh (.int n):=er_map _ _ _
 have p2:=putT (r':=r++[loose.getD (atL wild c loose) 0]) hr
 have a1:=ap_row r (loose.getD (atL wild c loose) 0)
 have q:(0<=((atL wild c loose:Nat):Int)/\((atL wild c loose:Nat):Int)<(loose.length:Int)/\loose.length<=LIM)=True:=by simp [ll,hlt]
 have tn:((atL wild c loose:Nat):Int).toNat=atL wild c loose:=cE _
 have h21:¬ (2:Int)=1:=by decide
 cases wild with
 | true =>
  have ea:c / 8 % (loose.length:Int)=((atL true c loose:Nat):Int):=by
   have b0:0<=c / 8 % (loose.length:Int):=bq _ (by omega)
   show _=(((c / 8 % (loose.length:Int)).toNat:Nat):Int)
   omega
  simp_arith [brT,st,m4,h2,h21,n1,sl,dI,k0,eq_self,d8,ml,ea,q,tn,g1,g2,l1,a1,p2,true_and]
 | false =>
  have ea:(loose.length:Int)-1=((atL false c loose:Nat):Int):=by
   show _=((loose.length-1:Nat):Int)
   omega
  simp_arith [brT,st,m4,h2,h21,n1,sl,dI,k0,eq_self,ea,q,tn,g1,g2,l1,a1,p2,true_and]
theorem br_third (hr:T[hd]?=some r) (h1:¬ (c % 4=1/\t0≠[])) (h2:¬ (c % 4=2/\loose≠[])):brT [hd] (st v0 v1 wild ⟨T,t0,hd,loose,left⟩ (some (.sh (.int c))) v8 v9 v10)=brL [hd] (st v0 v1 wild ⟨T,t0,hd,loose,left⟩ (some (.sh (.int c))) v8 v9 v10):=by
 have m4:=mod_ok (i:=c) (j:=4) (by decide)
 have n1:=nodeT hr
 have sl:=strip_aI loose
 have sw:=strip_aI (cN (t0++[hd]))
 have cl:=cN_len (t0++[hd])
 have q1:c % 4=1->decide ((1:Int)<((t0++[hd]).length:Int))=false:=fun h=>by
  by_cases hn:t0=[]
  .subst hn;simp
  .exact absurd ⟨h,hn⟩ h1
 have q2:c % 4=2->decide ((0:Int)<(loose.length:Int))=false:=fun h=>by
  by_cases hn:loose=[]
  .subst hn;simp
  .exact absurd ⟨h,hn⟩ h2
 have h21:¬ (2:Int)=1:=by decide
 have h12:¬ (1:Int)=2:=by decide
 by_cases e1:c % 4=1
 .have q1':=q1 e1
  simp_arith [brT,brL,st,m4,e1,h12,n1,sl,sw,cl,dI,q1',eq_self]
 .by_cases e2:c % 4=2
  .have q2':=q2 e2
   simp_arith [brT,brL,st,m4,e2,h21,n1,sl,sw,cl,dI,q2',eq_self]
  .simp_arith [brT,brL,st,m4,e1,e2,n1,sl,sw,cl,dI,eq_self]
theorem br_none (hr:T[hd]?=some r):brL [hd] (st v0 v1 wild ⟨T,t0,hd,loose,[]⟩ (some (.sh (.int c))) v8 v9 v10)=some (.nx (st v0 v1 wild ⟨T,t0,hd,loose,[]⟩ (some (.sh (.int c))) v8 v9 v10)):=by
 have n1:=nodeT hr
 have k0:decide ((0:Int)<((0:Nat):Int))=false:=by decide
 have sl:=strip_aI []
 simp_arith [brL,st,n1,sl,dI,k0]
theorem br_new {x:Int}(hr:T[hd]?=some r) (hrl:r.length<500000) (hTl:T.length<500000) (htl:t0.length<500000) (hll:left.length<500000) (h0:c % 4=0):brL [hd] (st v0 v1 wild ⟨T,t0,hd,loose,x::left⟩ (some (.sh (.int c))) v8 v9 v10)=some (.nx (st v0 v1 wild ⟨T.set hd (r++[sg c x])++[[-(sg c x)]],t0++[hd],T.length,loose,left⟩ (some (.sh (.int c))) v8 v9 (some (.sh (.int (sg c x)))))):=by
 have m4:=mod_ok (i:=c) (j:=4) (by decide)
 have d4:=div_ok (i:=c) (j:=4) (by decide) (by decide)
 have m2:=mod_ok (i:=c / 4) (j:=2) (by decide)
 have b0:0<=c / 4 % 2:=bq _ (by decide)
 have b1:c / 4 % 2<2:=bp _ (by decide)
 have c1:=mul_l (i:=2) (j:=c / 4 % 2) (by lia) (by lia)
 have c2:=mul_r (i:=x) (j:=1-2*(c / 4 % 2)) (by lia) (by lia)
 have n1:=nodeT hr
 have sl:=strip_aI (x::left)
 have k0:(0:Int)<((x::left).length:Int):=by rw [lCq];omega
 have k00:(0:Int)<((left.length+1:Nat):Int):=by omega
 have l1:r.length<LIM:=by show _<16777216;omega
 have q:(0:Int)<=0:=fN _
 have lL:left.length+1<=LIM:=by show _<=16777216;omega
 have t0':(0:Int).toNat=0:=rfl
 have es:x*(1-2*(c / 4 % 2))=sg c x:=rfl
 have a1:=ap_row r (sg c x)
 have p2:=putT (r':=r++[sg c x]) hr
 have lT:(T.set hd (r++[sg c x])).length=T.length:=lZq
 have l2:T.length<LIM:=by show _<16777216;omega
 have a3:=ap_turn (T.set hd (r++[sg c x])) (-(sg c x))
 have lenT:((T.set hd (r++[sg c x])++[[-(sg c x)]]).length:Int)-1=(T.length:Int):=by rw [lAq,lT,lSq];omega
 have lw:(t0++[hd]).length<LIM:=by rw [lAq,lSq];show t0.length+1<16777216;omega
 have a2:=ap_cN (t0++[hd]) T.length
 have cl:=cN_len (t0++[hd])
 simp_arith [brL,st,m4,h0,d4,m2,c1,c2,n1,sl,dI,k0,k00,q,lL,true_and,t0',es,eq_self,l1,a1,p2,lT,l2,a3,lenT,cl,lw,a2,dS]
theorem br_loose {x:Int}(hr:T[hd]?=some r) (hrl:r.length<500000) (hll:loose.length<500000) (hfl:left.length<500000) (h0:¬ c % 4=0):brL [hd] (st v0 v1 wild ⟨T,t0,hd,loose,x::left⟩ (some (.sh (.int c))) v8 v9 v10)=some (.nx (st v0 v1 wild ⟨T.set hd (r++[sg c x]),t0,hd,loose++[-(sg c x)],left⟩ (some (.sh (.int c))) v8 v9 (some (.sh (.int (sg c x)))))):=by
 have m4:=mod_ok (i:=c) (j:=4) (by decide)
 have d4:=div_ok (i:=c) (j:=4) (by decide) (by decide)
 have m2:=mod_ok (i:=c / 4) (j:=2) (by decide)
 have b0:0<=c / 4 % 2:=bq _ (by decide)
 have b1:c / 4 % 2<2:=bp _ (by decide)
 have c1:=mul_l (i:=2) (j:=c / 4 % 2) (by lia) (by lia)
 have c2:=mul_r (i:=x) (j:=1-2*(c / 4 % 2)) (by lia) (by lia)
 have n1:=nodeT hr
 have sl:=strip_aI (x::left)
 have k0:(0:Int)<((x::left).length:Int):=by rw [lCq];omega
 have k00:(0:Int)<((left.length+1:Nat):Int):=by omega
 have l1:r.length<LIM:=by show _<16777216;omega
 have q:(0:Int)<=0:=fN _
 have lL:left.length+1<=LIM:=by show _<=16777216;omega
 have t0':(0:Int).toNat=0:=rfl
 have es:x*(1-2*(c / 4 % 2))=sg c x:=rfl
 have a1:=ap_row r (sg c x)
 have p2:=putT (r':=r++[sg c x]) hr
 have l2:loose.length<LIM:=by show _<16777216;omega
 have a2:=ap_row loose (-(sg c x))
 simp_arith [brL,st,m4,h0,d4,m2,c1,c2,n1,sl,dI,k0,k00,q,lL,true_and,t0',es,eq_self,l1,a1,p2,l2,a2,dS]
end
end K31
--ZQ3 --ZQ4 --ZQ5 --ZQ6 --ZQ8 --ZQ9 --ZQB --ZQC --ZQD --ZQE --ZQF --ZQG
namespace K31
open PySem L2 Mr Z Xe Zl K12
def bth (l:List Int):List Int:=l.flatMap fun x=>[x, -x]
theorem bth_cons (x:Int) (l:List Int) (a:Int):(bth (x::l)).count a=[x, -x].count a+(bth l).count a:=by
 unfold bth
 rw [fh,cAq]
theorem bth_len:∀ l:List Int,(bth l).length=2*l.length
 | []=>rfl
 | x::l=>by
  unfold bth
  have:=bth_len l
  unfold bth at this
  rw [fh,lAq,this]
  show 2+2*l.length=2*(l.length+1)
  omega
theorem bth_mem {l:List Int}{z:Int}:z∈bth l↔∃ x∈l,z=x∨z = -x:=by
 unfold bth
 rw [gG]
 simp
theorem cnt_sg (a c x:Int):[sg c x].count a+[-(sg c x)].count a=[x, -x].count a:=by
 have b0:0<=c / 4 % 2:=bq _ (by decide)
 have b1:c / 4 % 2<2:=bp _ (by decide)
 rw [show [x, -x]=[x]++[-x] from rfl,cAq]
 unfold sg
 have h:c / 4 % 2=0∨c / 4 % 2=1:=by omega
 rcases h with h|h
 .rw [h,show (1:Int)-2*0=1 from rfl,gv]
 .rw [h,show (1:Int)-2*1 = -1 from rfl,Int.mul_neg,gv,gH]
  omega
structure WOk (nm:List Int) (w:Wd) (n:Nat):Prop where
 hh:w.h<w.T.length
 ht:∀ k∈w.t0,k<w.T.length
 lw:w.t0.length<=n
 lT:w.T.length<=n+1
 lf:w.left.length<=nm.length
 cnt:∀ a,w.T.flatten.count a+w.loose.count a+(bth w.left).count a=(bth nm).count a
 tr:K11.Tree w.T
theorem WOk.len {nm:List Int}{w:Wd}{n:Nat}(h:WOk nm w n):w.T.flatten.length+w.loose.length+(bth w.left).length=2*nm.length:=by
 have:(w.T.flatten++w.loose++bth w.left).Perm (bth nm):=by
  rw [gf]
  intro a
  rw [cAq,cAq]
  exact h.cnt a
 have:=this.length_eq
 rw [lAq,lAq,bth_len nm] at this
 exact this
theorem WOk.step {nm:List Int}{w:Wd}{n:Nat}{wild:Bool}(h:WOk nm w n) (c:Int):WOk nm (wstep wild w c) (n+1):=by
 obtain ⟨T,t0,hd,loose,left⟩:=w
 obtain ⟨hh,ht,lw,lT,lf,cnt,tr⟩:=h
 simp only at hh ht lw lT lf cnt tr
 have hr:T[hd]?=some (T.getD hd []):=by rw [gDq,gEg hh];rfl
 unfold wstep
 simp only
 split
 .rename_i q
  rcases du t0 with z|⟨t,h',z⟩
  .exact absurd z q.2
  .subst z
   rw [dw] at ht lw ⊢
   rw [cI,fV]
   simp only [fH,gQ,fu]
   rw [lAq,lSq] at lw
   exact ⟨ht _ (by simp),fun k hk=>ht k (by simp [hk]),(by simp only;omega),(by simp only;omega),lf,cnt,tr⟩
 .split
  .rename_i q
   have hpos:0<loose.length:=gd.mpr q.2
   have hlt:atL wild c loose<loose.length:=by
    unfold atL
    have b0:0<=c / 8 % (loose.length:Int):=bq _ (by omega)
    have b1:c / 8 % (loose.length:Int)<(loose.length:Int):=bp _ (by omega)
    split <;> omega
   refine ⟨?_,?_,?_,?_,lf,fun a=>?_,?_⟩
   .simp only [lZq];exact hh
   .simp only [lZq];exact ht
   .simp only;omega
   .simp only [lZq];omega
   .simp only
    rw [cnt_set a hr,← cnt a,← cnt_erase a hlt]
    omega
   .exact tr.set hr
  .cases left with
   | nil=>exact ⟨hh,ht,(by simp only;omega),(by simp only;omega),lf,cnt,tr⟩
   | cons x left =>
    simp only
    rw [lCq] at lf
    have cx:=fun a=>bth_cons x left a
    split
    .refine ⟨?_,?_,?_,?_,(by simp only;omega),fun a=>?_,?_⟩
     .simp only [lAq,lZq,lSq];omega
     .intro k hk
      simp only [lAq,lZq,lSq] at hk ⊢
      rcases mAq.mp hk with hk|hk
      .have:=ht k hk;omega
      .rw [mSq.mp hk];omega
     .simp only [lAq,lSq];omega
     .simp only [lAq,lZq,lSq];omega
     .simp only
      rw [fAq,bF,cAq,cnt_set a hr]
      have:=cnt a
      rw [cx a,← cnt_sg a c x] at this
      omega
     .exact (tr.set hr).add (by rw [lZq];exact hh) (K11.getD_set_new hr (by simp))
    .refine ⟨?_,?_,?_,?_,(by simp only;omega),fun a=>?_,?_⟩
     .simp only [lZq];exact hh
     .simp only [lZq];exact ht
     .simp only;omega
     .simp only [lZq];omega
     .simp only
      rw [cnt_set a hr,cAq]
      have:=cnt a
      rw [cx a,← cnt_sg a c x] at this
      omega
     .exact tr.set hr
theorem word_step {nm:List Int}{w:Wd}{n:Nat}{wild:Bool}{c:Int}{v0 v1 v8 v9 v10:Option AV}(h:WOk nm w n) (hn:n<1000) (hm:nm.length<=1000):∃ v8' v9' v10',mb_L_turns_0 (st v0 v1 wild w (some (.sh (.int c))) v8 v9 v10)=some (.nx (st v0 v1 wild (wstep wild w c) (some (.sh (.int c))) v8' v9' v10')):=by
 have hlen:=h.len
 obtain ⟨T,t0,hd,loose,left⟩:=w
 obtain ⟨hh,ht,lw,lT,lf,cnt,tr⟩:=h
 simp only at hh ht lw lT lf cnt tr hlen
 have hr:T[hd]?=some (T.getD hd []):=by rw [gDq,gEg hh];rfl
 have hrl:=row_len hr
 rw [word_pre hr]
 unfold wstep
 simp only
 by_cases q1:c % 4=1/\t0≠[]
 .rw [if_pos q1]
  rcases du t0 with z|⟨t,h',z⟩
  .exact absurd z q1.2
  .subst z
   rw [dw,cI,fV]
   simp only [fH,gQ,fu]
   exact ⟨_,_,_,br_back hr q1.1⟩
 .rw [if_neg q1]
  by_cases q2:c % 4=2/\loose≠[]
  .rw [if_pos q2]
   exact ⟨_,_,_,br_home hr (by omega) (by omega) (by have:=q2.1;omega) q2.1 q2.2⟩
  .rw [if_neg q2,br_third hr q1 q2]
   cases left with
   | nil=>exact ⟨_,_,_,br_none hr⟩
   | cons x left =>
    simp only
    rw [lCq] at lf
    by_cases q0:c % 4=0
    .rw [if_pos q0]
     exact ⟨_,_,_,br_new hr (by omega) (by omega) (by omega) (by omega) q0⟩
    .rw [if_neg q0]
     exact ⟨_,_,_,br_loose hr (by omega) (by omega) (by omega) q0⟩
def w0 (nm:List Int):Wd:=⟨[[]],[],0,[],nm⟩
theorem w0_ok (nm:List Int):WOk nm (w0 nm) 0:=⟨by simp [w0],(fun k h=>by cases h),af _,af _,af _,(fun a=>by simp [w0]),K11.tree_one _⟩
theorem words_ok {nm:List Int}{wild:Bool}:∀ (cs:List Int) {w:Wd}{n:Nat},WOk nm w n->WOk nm (cs.foldl (wstep wild) w) (n+cs.length)
 | [],w,n,h=>h
 | c::cs,w,n,h=>by
  have:=words_ok (wild:=wild) cs (h.step (wild:=wild) c)
  rw [bP,lCq,show n+(cs.length+1)=n+1+cs.length by omega]
  exact this
theorem turns_loop {nm cs:List Int}{wild:Bool}{v7 v8 v9 v10:Option AV}(hc:cs.length<=63) (hn:nm.length<=1000):∃ v7' v8' v9' v10',mForL 7 mb_L_turns_0 (cs.map D.int) (st (some (.sh (dI cs))) (some (.sh (dI nm))) wild (w0 nm) v7 v8 v9 v10)=some (.nx (st (some (.sh (dI cs))) (some (.sh (dI nm))) wild (cs.foldl (wstep wild) (w0 nm)) v7' v8' v9' v10')):=by
 have key:=forL0 (x:=7) (body:=mb_L_turns_0) (fun i S=>∃ v7 v8 v9 v10,S=st (some (.sh (dI cs))) (some (.sh (dI nm))) wild ((cs.take i).foldl (wstep wild) (w0 nm)) v7 v8 v9 v10) (ds:=cs.map D.int) (S:=st (some (.sh (dI cs))) (some (.sh (dI nm))) wild (w0 nm) v7 v8 v9 v10) ⟨v7,v8,v9,v10,rfl⟩ (by
  rintro i d S hd ⟨v7,v8,v9,v10,rfl⟩
  rw [gMq] at hd
  obtain ⟨c,hc',rfl⟩:=oMq.mp hd
  have hi:i<cs.length:=(gSq.mp hc').1
  have ok:=words_ok (nm:=nm) (wild:=wild) (cs.take i) (w0_ok nm)
  rw [lTq] at ok
  obtain ⟨v8',v9',v10',e⟩:=word_step (wild:=wild) (c:=c) (v0:=some (.sh (dI cs))) (v1:=some (.sh (dI nm))) (v8:=v8) (v9:=v9) (v10:=v10) ok (by omega) hn
  refine ⟨_,e,some (.sh (.int c)),v8',v9',v10',?_⟩
  rw [fold_take hc'])
 obtain ⟨S',e,v7',v8',v9',v10',rfl⟩:=key
 rw [lMq,bu] at e
 exact ⟨v7',v8',v9',v10',e⟩
theorem home_loop {T:List (List Int)}{t0:List Nat}{hd:Nat}{loose left r:List Int}{wild:Bool}{v0 v1 v7 v8 v9 v10:Option AV}(hr:T[hd]?=some r) (hl:r.length+loose.length<=10000) :
  mWhile (tOf (rOp dGt (rCB fLen (arCons (rVar 5) arNil)) (rC (.int 0)))) mb_L_turns_1 100000 (st v0 v1 wild ⟨T,t0,hd,loose,left⟩ v7 v8 v9 v10)=some (.nx (st v0 v1 wild ⟨T.set hd (r++loose.reverse),t0,hd,[],left⟩ v7 v8 v9 v10)):=by
 have hh:hd<T.length:=(gSq.mp hr).1
 obtain ⟨S',e,l2,rfl,z⟩:=while_ok (c:=tOf (rOp dGt (rCB fLen (arCons (rVar 5) arNil)) (rC (.int 0)))) (body:=mb_L_turns_1)
  (fun S=>∃ l1 l2,S=st v0 v1 wild ⟨T.set hd (r++l2),t0,hd,l1,left⟩ v7 v8 v9 v10/\loose=l1++l2.reverse)
  (fun S=>match S with|[_,_,_,_,_,some (.ow l),_,_,_,_,_]=>l.length|_=>0)
  (fun S'=>∃ l2,S'=st v0 v1 wild ⟨T.set hd (r++l2),t0,hd,[],left⟩ v7 v8 v9 v10/\loose=l2.reverse) (by
   rintro S ⟨l1,l2,rfl,hz⟩
   have hzl:=congrArg bY hz
   rw [lAq,List.length_reverse] at hzl
   rcases du l1 with rfl|⟨l,x,rfl⟩
   .refine ⟨false,_,?_,fun q=>(nomatch q),fun _=>⟨l2,rfl,by rw [hz];rfl⟩⟩
    have k0:decide ((0:Int)<((0:Nat):Int))=false:=by decide
    have sl:=strip_aI []
    simp_arith [st,sl,dI,k0]
   .rw [dw] at hz hzl ⊢
    have hr2:(T.set hd (r++l2))[hd]?=some (r++l2):=aF hh
    have n1:=nodeT hr2
    have iL:ixN T.length (hd:Int)=some hd:=ixN_pos hh
    have lT:(T.set hd (r++l2)).length=T.length:=lZq
    have sw:=strip_aI (cN (t0++[hd]))
    have at4:=at_way (t0:=t0) (hd:=hd)
    have cl:=cN_len (t0++[hd])
    have sl:=strip_aI (l++[x])
    have k0:(0:Int)<((l++[x]).length:Int):=by rw [lAq,lSq];omega
    have ex:(l++[x]).map (fun n=>AV.sh (.int n))=l.map (fun n=>AV.sh (.int n))++[.sh (.int x)]:=by rw [mBq];rfl
    have p1:(l.map (fun n=>AV.sh (.int n))++[AV.sh (.int x)])[(l.map (fun n=>AV.sh (.int n))++[AV.sh (.int x)]).length-1]?=some (.sh (.int x)):=by
     rw [lAq,lSq,gYq (by omega)]
     simp
    have p2:(l.map (fun n=>AV.sh (.int n))++[AV.sh (.int x)]).dropLast=l.map (fun n=>AV.sh (.int n)):=cI
    have pp:=putT (r':=r++l2++[x]) hr2
    have a1:=ap_row (r++l2) x
    have l1':(r++l2).length<LIM:=by
     rw [lAq,lSq] at hzl
     rw [lAq]
     show _<16777216
     omega
    have ess:(T.set hd (r++l2)).set hd (r++l2++[x])=T.set hd (r++(l2++[x])):=by rw [eP,ak]
    refine ⟨true,st v0 v1 wild ⟨T.set hd (r++l2),t0,hd,l++[x],left⟩ v7 v8 v9 v10,?_,fun _=>⟨st v0 v1 wild ⟨T.set hd (r++(l2++[x])),t0,hd,l,left⟩ v7 v8 v9 v10,?_,⟨l,l2++[x],rfl,by rw [hz];simp⟩,?_⟩,fun q=>(nomatch q)⟩
    .simp_arith [st,sl,dI,k0]
    .simp_arith [mb_L_turns_1,st,n1,iL,lT,sw,dI,at4,cl,ex,p1,p2,l1',a1,pp,ess,eq_self,true_and]
    .show (l.map _).length<((l++[x]).map _).length
     rw [lMq,lMq,lAq,lSq]
     omega) 100000 (st v0 v1 wild ⟨T,t0,hd,loose,left⟩ v7 v8 v9 v10) ⟨loose,[],by rw [aNq,Z.set_eq hr],by simp⟩ (by
   show (loose.map _).length<100000
   rw [lMq]
   omega)
 rw [e,z,eI]
theorem turns_ok {nm cs:List Int}{wild:Bool}(hc:cs.length<=63) (hn:nm.length<=100):∃ (T:List (List Int)) (left:List Int),f_L_turns [dI cs,dI nm,.bl wild]=some (.ow (T.map aI))/\(∀ a,T.flatten.count a+(bth left).count a=(bth nm).count a)/\K11.Tree T/\0<T.length/\T.length<=64:=by
 obtain ⟨v7,v8,v9,v10,e⟩:=turns_loop (nm:=nm) (wild:=wild) (v7:=none) (v8:=none) (v9:=none) (v10:=none) hc (by omega)
 have ok:=words_ok (nm:=nm) (wild:=wild) cs (w0_ok nm)
 rw [bI] at ok
 generalize cs.foldl (wstep wild) (w0 nm)=w at e ok
 have hlen:=ok.len
 obtain ⟨T,t0,hd,loose,left⟩:=w
 obtain ⟨hh,ht,lw,lT,lf,cnt,tr⟩:=ok
 simp only at hh ht lw lT lf cnt tr hlen
 have hr:T[hd]?=some (T.getD hd []):=by rw [gDq,gEg hh];rfl
 have hrl:=row_len hr
 generalize T.getD hd []=r at hr hrl
 have e2:=home_loop (t0:=t0) (loose:=loose) (left:=left) (wild:=wild) (v0:=some (.sh (dI cs))) (v1:=some (.sh (dI nm))) (v7:=v7) (v8:=v8) (v9:=v9) (v10:=v10) hr (by omega)
 have e':mForL 7 mb_L_turns_0 (cs.map D.int) [some (.sh (dI cs)),some (.sh (dI nm)),some (.sh (.bl wild)),some (.ow [.ow []]),some (.ow [.sh (.int 0)]),some (.ow []),some (aI nm),none,none,none,none]=some (.nx (st (some (.sh (dI cs))) (some (.sh (dI nm))) wild ⟨T,t0,hd,loose,left⟩ v7 v8 v9 v10)):=e
 refine ⟨T.set hd (r++loose.reverse),left,?_,fun a=>?_,tr.set hr,by rw [lZq];omega,by rw [lZq];omega⟩
 .have e3:((nm.map D.int).map AV.sh)=nm.map fun n=>AV.sh (.int n):=by rw [mPq];rfl
  simp_arith [f_L_turns,mf_L_turns,dI,e3]
  simp -implicitDefEqProofs only [Z.zqa,gS,gT,gD,gE,fU,↓reduceIte,reduceCtorEq,dI] at e'
  rw [e']
  simp_arith [e2]
  simp_arith [st]
 .rw [cnt_set a hr,List.count_reverse,cnt a]
end K31
--ZQ3 --ZQ4 --ZQ5 --ZQ6 --ZQ8 --ZQ9 --ZQB --ZQC --ZQD --ZQE --ZQF --ZQG
namespace K31
open PySem L2 Mr Z Xe Zl
end K31
--ZQ3 --ZQ4 --ZQ5 --ZQ6 --ZQ8 --ZQ9 --ZQB --ZQC --ZQD --ZQE --ZQF --ZQG
namespace K31
open PySem L2 Mr Z Xe Zl
structure Nm (nm:List Int):Prop where
 len:nm.length<=100
 nd:nm.Nodup
 lo:∀ x∈nm,1<=x
structure Wm (nm:List Int) (T:List (List Int)):Prop where
 cnt:∃ left,∀ a,T.flatten.count a+(bth left).count a=(bth nm).count a
 tr:K11.Tree T
 pos:0<T.length
 len:T.length<=64
theorem bth_nodup {nm:List Int}(h:Nm nm):(bth nm).Nodup:=K12.pm_nodup h.nd h.lo
theorem bth_neg (l:List Int) (a:Int):(bth l).count (-a)=(bth l).count a:=by
 induction l with
 | nil=>rfl
 | cons x l ih =>
  rw [bth_cons,bth_cons,ih]
  congr 1
  rw [show [x, -x]=[x]++[-x] from rfl,cAq,cAq]
  simp only [List.count_singleton]
  have e1:(x == -a)=(-x == a):=by rw [bx];simp <;> omega
  have e2:(-x == -a)=(x == a):=by rw [bx];simp <;> omega
  rw [e1,e2]
  omega
theorem Wm.nodup {nm:List Int}{T:List (List Int)}(hn:Nm nm) (h:Wm nm T):T.flatten.Nodup:=by
 obtain ⟨left,hc⟩:=h.cnt
 rw [dA]
 intro a
 have h1:=dA.mp (bth_nodup hn) a
 have:=hc a
 omega
theorem Wm.sub {nm:List Int}{T:List (List Int)}(h:Wm nm T) {z:Int}(hz:z∈T.flatten):z∈bth nm:=by
 obtain ⟨left,hc⟩:=h.cnt
 have h1:=dc.mpr hz
 have:=hc z
 exact dc.mp (by omega)
theorem Wm.neg {nm:List Int}{T:List (List Int)}(hn:Nm nm) (h:Wm nm T) {z:Int}(hz:z∈T.flatten):-z∈T.flatten:=by
 obtain ⟨left,hc⟩:=h.cnt
 have h1:=dc.mpr hz
 have h2:=dA.mp (bth_nodup hn) z
 have e1:=hc z
 have e2:=hc (-z)
 rw [bth_neg,bth_neg] at e2
 exact dc.mp (by omega)
theorem Wm.le {nm:List Int}{T:List (List Int)}(h:Wm nm T):T.flatten.length<=2*nm.length:=by
 obtain ⟨left,hc⟩:=h.cnt
 have:(T.flatten++bth left).Perm (bth nm):=by
  rw [gf]
  intro a
  rw [cAq]
  exact hc a
 have:=this.length_eq
 rw [lAq,bth_len nm] at this
 omega
end K31
--ZQ3 --ZQ4 --ZQ5 --ZQ6 --ZQ8 --ZQ9 --ZQB --ZQC --ZQD --ZQE --ZQF --ZQG
namespace K31
open PySem L2 Mr Z Xe Zl
open K12 (nmk nmk_inj)
def nmN (st sh a b:Int) (n:Nat):List Int:=(bf n).map fun k:Nat=>nmk st sh a b k
theorem nmk_pos {st sh a b:Int}(h1:1<=st) (h2:0<=sh) (k:Nat):1<=nmk st sh a b k:=by
 have b1:0<=(a*(k:Int)+b) % 67:=bq _ (by decide)
 have l1:1*1<=st*((a*(k:Int)+b) % 67+1):=Int.mul_le_mul h1 (by omega) (by decide) (by omega)
 show 1<=st*((a*(k:Int)+b) % 67+1)+sh
 omega
theorem nmN_nm {st sh a b:Int}{n:Nat}(hn:n<=67) (h1:1<=st) (h2:0<=sh) (h3:1<=a) (h4:a<=66):Nm (nmN st sh a b n):=by
 refine ⟨by unfold nmN;rw [lMq,aZ];omega,?_,fun x h=>?_⟩
 .unfold nmN
  rw [aH,aY]
  refine aR.imp_of_mem (fun {x y} hx hy hne e=>hne (nmk_inj h1 h3 h4 (by have:=cj.mp hx;omega) (by have:=cj.mp hy;omega) e)) (aH.mp gJ)
 .obtain ⟨k,_,rfl⟩:=mMq.mp h
  exact nmk_pos h1 h2 k
theorem names_comp {one two st sh a b:Int}{n:Nat}(h:∀ k:Nat,f_L_name [.int one,.int two,.int (k:Int)]=some (.sh (.int (nmk st sh a b k)))):mCompL tAllM (kSc (rCall K31.f_L_name (arCons (rVar 1) (arCons (rVar 2) (arCons (rVar 0) arNil))))) [some (.sh (.int one)),some (.sh (.int two))] (rangeD 0 n)=some ((nmN st sh a b n).map fun z=>.sh (.int z)):=by
 have key:=comp_map (te:=kSc (rCall K31.f_L_name (arCons (rVar 1) (arCons (rVar 2) (arCons (rVar 0) arNil))))) (cap:=[some (.sh (.int one)),some (.sh (.int two))])
  (fun d=>match d with|.int k=>.sh (.int (nmk st sh a b k))|_=>.sh .non) (ds:=rangeD 0 n) (by
  intro d hd
  rw [rangeD_zero] at hd
  obtain ⟨k,_,rfl⟩:=mMq.mp hd
  have hk:=h k
  refine ⟨[some (.sh (.int (k:Int))),some (.sh (.int one)),some (.sh (.int two))],?_⟩
  simp_arith [hk])
 rw [key,rangeD_zero,mPq]
 unfold nmN
 rw [mPq]
 rfl
end K31
--ZQ3 --ZQ4 --ZQ5 --ZQ6 --ZQ8 --ZQ9 --ZQB --ZQC --ZQD --ZQE --ZQF --ZQG
namespace K43
open PySem L2 Mr Z Xe Zl
open K51 (Rch Ps Pc)
section
variable {M:List (List Int)}{z:Int}
theorem inL (i z:Int):dInL true (.int i) (.list [.int z,.int (-z)])=some (.bl (!decide (i∈[z, -z]))):=dInL_I true i [z, -z]
theorem th_comp (z:Int) (t:List Int):mCompL (tOf (rOp (dInL true) (rVar 0) (rVar 1))) (kVar 0) [some (.sh (.list [.int z,.int (-z)]))] (t.map D.int)=some ((K23.cutP z t).map fun n=>.sh (.int n)):=by
 rw [Z.comp_filter (fun d=>match d with|.int e=>!decide (e∈[z, -z])|_=>false) (fun d=>.sh d)]
 .rw [dJ,mPq]
  rfl
 .intro d hd
  obtain ⟨e,_,rfl⟩:=mMq.mp hd
  have h:=inL e z
  refine ⟨[some (.sh (.int e)),some (.sh (.list [.int z,.int (-z)]))],?_,fun _=>⟨[some (.sh (.int e)),some (.sh (.list [.int z,.int (-z)]))],?_⟩⟩
  .simp_arith [h]
  .simp_arith []
theorem thin_ok (z:Int) (t:List Int) (ht:t.length<=1000):K23.f_thinned [dI t,.list [.int z,.int (-z)]]=some (aI (K23.cutP z t)):=by
 have h:=th_comp z t
 have hl2:t.length<=LIM:=le_lim (by omega)
 simp_arith [K23.f_thinned,K23.mf_thinned,dI,h,hl2]
theorem wo_comp (z:Int) {rs:List (List Int)}(hr:∀ r∈rs,r.length<=1000):mCompL tAllM (kCall K23.f_thinned (aCons (kVar 0) (aCons (kVar 1) aNil))) [some (.sh (.list [.int z,.int (-z)]))] (rs.map dI)=some ((K23.C z rs).map aI):=by
 rw [Z.comp_map fun d=>aI (K23.cutP z (undI d))]
 .rw [map_undI fun r=>aI (K23.cutP z r)]
  unfold K23.C
  rw [mPq]
  rfl
 .intro d hd
  obtain ⟨r,hr',rfl⟩:=mem_dM hd
  refine ⟨[some (.sh (dI r)),some (.sh (.list [.int z,.int (-z)]))],?_⟩
  simp_arith [thin_ok z r (hr r hr'),undI_dI]
theorem neg1_comp (z:Int):mCompL tAllM (kSc (rUn dNeg (rVar 0))) [] [D.int z]=some [.sh (.int (-z))]:=by
 have:=Z.comp_map (te:=kSc (rUn dNeg (rVar 0))) (cap:=[]) (fun d=>match d with|.int i=>AV.sh (.int (-i))|_=>.sh .non) (ds:=[D.int z]) (by
  intro d hd
  rw [mSq.mp hd]
  refine ⟨[some (.sh (.int z))],?_⟩
  simp_arith [])
 exact this
theorem without_ok (hm:Mp M):f_without_roads [dM M,.list [.int z]]=some (.ow ((K23.C z M).map aI)):=by
 have nc:=neg1_comp z
 have wc:=wo_comp z (rs:=M) fun r hr=>by have:=row_le hr;have:=hm.hl;omega
 have l1:M.length<=LIM:=le_lim (by have:=hm.hr;omega)
 have l2:1<=LIM:=by decide
 simp_arith [f_without_roads,mf_without_roads,nc,wc,l1,l2]
def isB (M:List (List Int)) (z:Int):Bool:=@decide (¬ Rch (K23.C z M) (plc M z) (plc M (-z))) (aS _)
theorem is_bridge_ok (hm:Mp M) (hz:z∈M.flatten):f_is_bridge [dM M,.int z]=some (.sh (.bl (isB M z))):=by
 have hl:=hm.hl
 have pa:=places_at_ok (rs:=M) hm.hn (by omega)
 have g1:=hm.kv hz
 have g2:=hm.kv (hm.hneg z hz)
 have wo:=without_ok (z:=z) hm
 have sW:((K23.C z M).map aI).map strip=(K23.C z M).map dI:=by rw [mPq];exact mCq fun r _=>strip_aI r
 obtain ⟨ps,pc,re⟩:=K51.reached_pc (mpK (W_mp (z:=z) hm)) (s:=plc M z) (by rw [W_len];exact hm.lt hz)
 have sP:=strip_aI (ps.map fun k:Nat=>(k:Int))
 have hin:=dInL_I true (plc M (-z):Int) (ps.map fun k:Nat=>(k:Int))
 have e:(!decide ((plc M (-z):Int)∈ps.map fun k:Nat=>(k:Int)))=isB M z:=by
  unfold isB
  rw [bx]
  simp only [fe,decide_eq_false_iff_not,decide_eq_true_eq]
  rw [← pc.iff]
  constructor
  .intro h q
   exact h (mMq.mpr ⟨_,q,rfl⟩)
  .intro h q
   obtain ⟨k,hk,ek⟩:=mMq.mp q
   have:k=plc M (-z):=by omega
   exact h (this ▸ hk)
 rw [if_pos rfl,e] at hin
 simp_arith [f_is_bridge,mf_is_bridge,pa,g1,g2,wo,sW,re,sP,dI,hin]
theorem br_comp (hm:Mp M) {R:List Int}(hR:∀ z∈R,z∈M.flatten):mCompL (tOf (rCall K43.f_is_bridge (arCons (rVar 1) (arCons (rVar 0) arNil)))) (kVar 0) [some (.sh (dM M))] (R.map D.int)=some ((R.filter (isB M)).map fun n=>.sh (.int n)):=by
 rw [Z.comp_filter (fun d=>match d with|.int e=>isB M e|_=>false) (fun d=>.sh d)]
 .rw [dJ,mPq]
  rfl
 .intro d hd
  obtain ⟨e,he,rfl⟩:=mMq.mp hd
  have h:=is_bridge_ok hm (hR e he)
  refine ⟨[some (.sh (.int e)),some (.sh (dM M))],?_,fun _=>⟨[some (.sh (.int e)),some (.sh (dM M))],?_⟩⟩
  .simp_arith [h]
  .simp_arith []
def rds (M:List (List Int)):List Int:=(srtI M.flatten).filter fun z=>decide (0<z)
theorem mem_rds {x:Int}:x∈rds M↔x∈M.flatten/\0<x:=by
 unfold rds
 rw [bg,(srtI_perm _).mem_iff]
 simp
theorem bridges_ok (hm:Mp M):f_bridges [dM M]=some (aI ((rds M).filter (isB M))):=by
 have hl:=hm.hl
 have ro:f_roads_of [dM M]=some (aI (rds M)):=roads_ok (rs:=M) (by omega)
 have bc:=br_comp hm (R:=rds M) fun z h=>(mem_rds.mp h).1
 have sR:=strip_aI (rds M)
 have lR:(rds M).length<=LIM:=le_lim (by
  have:(rds M).length<=(srtI M.flatten).length:=bK _ _
  rw [(srtI_perm _).length_eq] at this
  omega)
 simp_arith [f_bridges,mf_bridges,ro,sR,dI,bc,lR]
theorem counts_ok (hm:Mp M):∃ kn PS,Ps M M.length kn PS/\∃ a b c d:Int,f_counts [dM M]=some (.sh (.tup [.int a,.int b,.int c,.int ((PS.length:Nat):Int),.int d])):=by
 obtain ⟨kn,PS,hp,ep⟩:=K51.pieces_ok (mpK hm)
 obtain ⟨L,ho,el⟩:=K15.lands_ok hm
 have hl:=hm.hl
 have ro:f_roads_of [dM M]=some (aI (rds M)):=roads_ok (rs:=M) (by omega)
 have sR:=strip_aI (rds M)
 generalize srt ((K15.bar M++L).map good)=G at el
 have mu:∀ i:Int,dMul (.int 2) (.int i)=some (.int (2*i)):=fun i=>mul_l (by decide) (by decide)
 have dv:=fun i:Int=>div_ok (i:=i) (j:=2) (by decide) (by decide)
 refine ⟨kn,PS,hp,(M.length:Int),((rds M).length:Int),(G.length:Int),(2*((PS.length:Nat):Int)-(M.length:Int)+((rds M).length:Int)-(G.length:Int)) / 2,?_⟩
 simp_arith [f_counts,mf_counts,ro,sR,dI,el,ep,mu,dv]
theorem cut_pieces (hm:Mp M) (hf:M.flatten.length<=128) (hl:M.length<=100) (hz:z∈M.flatten) {kn:List Nat}{PS:List (List Nat)}(hp:Ps M M.length kn PS):∃ G:List (List Int),K23.f_Cut_done [K23.cz z,dM M]=some (.ok (.ow (G.map aI)))/\∃ a b c d:Int,f_counts [dM G]=some (.sh (.tup [.int a,.int b,.int c,.int ((PS.length:Nat)+(if isB M z=true then 1 else 0:Nat):Int),.int d])):=by
 have hw:=W_mp (z:=z) hm
 have bl:bare (K23.C z M)<=(K23.C z M).length:=List.countP_le_length
 rw [W_len] at bl
 have e1:=K23.road_in (rs:=M) (z:=z) hf (by omega) hz
 rw [if_pos (by omega)] at e1
 have pf:=flat_good (K23.C z M)
 have mpB:Mp (srt ((K23.C z M).map good)):=⟨pf.nodup_iff.mpr hw.hn,by rw [pf.length_eq];exact hw.hl,by rw [srt_length,lMq];exact hw.hr,fun e he=>pf.mem_iff.mpr (hw.hneg e (pf.mem_iff.mp he))⟩
 refine ⟨_,(K23.done_eq (dM M)).trans e1,?_⟩
 obtain ⟨kB,PB,hB,a,b,c,d,ec⟩:=counts_ok mpB
 obtain ⟨kW,PW,hW,_⟩:=K51.pieces_ok (mpK hw)
 obtain ⟨t1,t2⟩:=tog_good hw.hn
 have hb:=K25.bare_srt (K23.C z M)
 have x1:=pieces_le hw mpB t1 t2 hb.symm hW hB
 have x2:=pieces_le mpB hw t2 t1 hb hB hW
 have x3:PW.length=PS.length+(if isB M z=true then 1 else 0):=by
  unfold isB
  by_cases q:Rch (K23.C z M) (plc M z) (plc M (-z))
  .rw [pieces_same hm hz q hp hW,if_neg (by simp [q])]
   rfl
  .rw [pieces_more hm hz q hp hW,if_pos (by simp [q])]
 refine ⟨a,b,c,d,?_⟩
 rw [ec]
 have:((PB.length:Nat):Int)=((PS.length:Nat)+(if isB M z=true then 1 else 0:Nat):Int):=by omega
 rw [this]
theorem cnt_br (hm:Mp M) (hz:z∈M.flatten) (hp:0<z):((rds M).filter (isB M)).count z=if isB M z=true then 1 else 0:=by
 have nd:((rds M).filter (isB M)).Nodup:=by
  refine aR.sublist bH (aR.sublist bH ?_)
  exact (srtI_perm _).nodup_iff.mpr hm.hn
 by_cases q:isB M z=true
 .rw [if_pos q]
  have hin:z∈(rds M).filter (isB M):=bg.mpr ⟨mem_rds.mpr ⟨hz,hp⟩,q⟩
  have h1:=dA.mp nd z
  have h2:=dc.mpr hin
  omega
 .rw [if_neg q]
  exact List.count_eq_zero_of_not_mem fun h=>q (bg.mp h).2
end
end K43
--ZQ3 --ZQ4 --ZQ5 --ZQ6 --ZQ8 --ZQ9 --ZQB --ZQC --ZQD --ZQE --ZQF --ZQG
namespace K43
open PySem L2 Mr Z Xe Zl K31
open K51 (Rch Ps Pc)
theorem each_ok {M:List (List Int)}(hm:Mp M) (hf:M.flatten.length<=128) (hl:M.length<=100) {kn:List Nat}{PS:List (List Nat)}(hp:Ps M M.length kn PS) {v0 v1 v2 v3 v4:Option AV}{a5 a6:AV}(h5:strip a5=dM M) (h6:strip a6=dI ((rds M).filter (isB M))):∃ a5' v8,mForL 8 mb_law_0 (M.flatten.map D.int) [v0,v1,v2,v3,v4,some a5,some a6,some (.sh (.int ((PS.length:Nat):Int))),none]=some (.nx [v0,v1,v2,v3,v4,a5',some a6,some (.sh (.int ((PS.length:Nat):Int))),v8]):=by
 have key:=forL0 (x:=8) (body:=mb_law_0) (fun i S=>∃ a5 v8,S=[v0,v1,v2,v3,v4,some a5,some a6,some (.sh (.int ((PS.length:Nat):Int))),v8]/\strip a5=dM M) (ds:=M.flatten.map D.int) (S:=[v0,v1,v2,v3,v4,some a5,some a6,some (.sh (.int ((PS.length:Nat):Int))),none]) ⟨a5,none,rfl,h5⟩ (by
  rintro i d S hd ⟨a5,v8,rfl,h5⟩
  rw [gMq] at hd
  obtain ⟨e,he,rfl⟩:=oMq.mp hd
  have heM:e∈M.flatten:=mGq he
  by_cases c:(0:Int)<e
  .obtain ⟨G,e1,a,b,c',d,e2⟩:=cut_pieces hm hf hl heM hp
   have cb:=cnt_br hm heM c
   have sG:(G.map aI).map strip=G.map dI:=by rw [mPq];exact mCq fun r _=>strip_aI r
   have i1:=K23.in1 e
   have mk:∀ S:AS,S[8]?.join=some (.sh (.int e))->kMkI "Cut" ["road"] (arCons (rVar 8) arNil) S=some (.sh (K23.cz e),S):=fun S h=>by
    simp_arith [kMkI_,h]
    rfl
   have ct:fCntI (dI ((rds M).filter (isB M))) [.int e]=some (.int ((if isB M e=true then 1 else 0:Nat):Int)):=by rw [← cb];exact fCntI_ _ _
   have ix:∀ n:Int,dIxT (.tup [D.int a,.int b,.int c',.int n,.int d]) (.int 3)=some (.int n):=fun n=>rfl
   have ty:tyD "list" (dI ((rds M).filter (isB M)))=true:=rfl
   generalize (if isB M e=true then 1 else 0:Nat)=q at ct e2
   refine ⟨[v0,v1,v2,v3,v4,some (.sh (dM M)),some a6,some (.sh (.int ((PS.length:Nat):Int))),some (.sh (.int e))],?_,_,_,rfl,by simp⟩
   simp_arith [mb_law_0,c,mk,aObj_,i1,h5,e1,sG,e2,ix,h6,ty,ct,ne_eq,not_true]
  .refine ⟨[v0,v1,v2,v3,v4,some a5,some a6,some (.sh (.int ((PS.length:Nat):Int))),some (.sh (.int e))],?_,_,_,rfl,h5⟩
   simp_arith [mb_law_0,c])
 obtain ⟨S',e,a5',v8,rfl,_⟩:=key
 exact ⟨_,_,e⟩
theorem in_comp {nm R:List Int}(h:∀ x∈R,x∈nm):mCompL tAllM (kSc (rOp (dInL false) (rVar 0) (rVar 1))) [some (.sh (.list (nm.map D.int)))] (R.map D.int)=some ((R.map fun _=>D.bl true).map .sh):=by
 rw [Z.comp_map fun _=>AV.sh (.bl true)]
 .rw [mPq,mPq]
  rfl
 .intro d hd
  obtain ⟨x,hx,rfl⟩:=mMq.mp hd
  have hi:=dInL_I false x nm
  rw [if_neg (by simp),decide_eq_true (h x hx)] at hi
  refine ⟨[some (.sh (.int x)),some (.sh (.list (nm.map D.int)))],?_⟩
  simp_arith [hi]
theorem all_bl (R:List Int):fAll [.list (R.map fun _=>D.bl true)]=some (.bl true):=by
 rw [fAll_]
 induction R with
 | nil=>rfl
 | cons x R ih =>
  show (boolsOf (D.bl true::R.map fun _=>D.bl true)).map _=_
  cases e:boolsOf (R.map fun _=>D.bl true) with
  | none=>rw [e] at ih;cases ih
  | some bs =>
   rw [e] at ih
   have:boolsOf (D.bl true::R.map fun _=>D.bl true)=some (true::bs):=by
    show (boolsOf (R.map fun _=>D.bl true)).map (true :: ·)=_
    rw [e]
    rfl
   rw [this]
   exact ih
theorem none_comp (k:Nat):mCompL tAllM (kLst aNil) [] (rangeD 0 k)=some ((aB k ([]:List Int)).map aI):=by
 rw [Z.comp_map fun _=>AV.ow []]
 .rw [List.map_replicate,List.map_const',rangeD_len]
  rfl
 .intro d hd
  refine ⟨[some (.sh d)],?_⟩
  simp_arith []
theorem law_ok {ns:List Int}(hns:ns.length<=63):f_law [.scr ns]=some (.sh (.bl true)):=by
 obtain ⟨st,sh,a,b,h1,h1',h2,h2',h3,h4,en⟩:=name_ok (cell ns 0) (cell ns 1)
 have hnm:=nmN_nm (b:=b) (n:=12) (by decide) h1 h2 h3 h4
 have nc:=names_comp (n:=12) en
 have hnl:(nmN st sh a b 12).length=12:=by unfold nmN;rw [lMq,aZ]
 generalize nmN st sh a b 12=nm at hnm nc hnl
 have hcs:cutG ns (some 3) (some 66)=(ns.drop 3).take 63:=cutG_mid ns 3 66
 have hl:((ns.drop 3).take 63).length<=63:=by rw [lTq];exact Nat.min_le_left ..
 generalize (ns.drop 3).take 63=cs at hcs hl
 obtain ⟨T,left,et,cnt,tr,tp,tl⟩:=turns_ok (nm:=nm) (cs:=cs) (wild:=decide (cell ns 2 % 2=1)) hl hnm.len
 have hw:Wm nm T:=⟨⟨left,cnt⟩,tr,tp,tl⟩
 have tnd:=hw.nodup hnm
 have tle:=hw.le
 have tsub:=fun {z:Int}(h:z∈T.flatten)=>hw.sub h
 have tneg:=fun {z:Int}(h:z∈T.flatten)=>hw.neg hnm h
 have sT:(T.map aI).map strip=T.map dI:=by rw [mPq];exact mCq fun r _=>strip_aI r
 have m2:=mod_ok (i:=cell ns 2) (j:=2) (by decide)
 have d2:=div_ok (i:=cell ns 2) (j:=2) (by decide) (by decide)
 have m3:=mod_ok (i:=cell ns 2 / 2) (j:=3) (by decide)
 have b0:=bq (cell ns 2 / 2) (b:=3) (by decide)
 have b1:=bp (cell ns 2 / 2) (b:=3) (by decide)
 obtain ⟨k,hk⟩:∃ k:Nat,cell ns 2 / 2 % 3=(k:Int):=⟨(cell ns 2 / 2 % 3).toNat,by omega⟩
 rw [hk] at m3 b1
 have rg:=rng1_ok (n:=k) (by omega)
 have nk:=none_comp k
 have rd:=rangeD_len 0 k
 have lk:k<=LIM:=le_lim (by omega)
 have sK:((aB k ([]:List Int)).map aI).map strip=(aB k ([]:List Int)).map dI:=by rw [mPq];exact mCq fun r _=>strip_aI r
 have lR:(aB k ([]:List Int)).length=k:=ez
 have q2:T.map dI++(aB k ([]:List Int)).map dI=(T++aB k []).map dI:=by rw [mBq]
 have l5:T.length+k<=LIM:=le_lim (by omega)
 have fR:(T++aB k ([]:List Int)).flatten=T.flatten:=by simp
 have lW:(T++aB k ([]:List Int)).length=T.length+k:=by rw [lAq,lR]
 rw [← fR] at tnd tle
 have wsub:∀ z∈(T++aB k ([]:List Int)).flatten,z∈bth nm:=fun z h=>tsub (fR ▸ h)
 have wneg:∀ z∈(T++aB k ([]:List Int)).flatten, -z∈(T++aB k ([]:List Int)).flatten:=fun z h=>by rw [fR] at h ⊢;exact tneg h
 generalize T++aB k ([]:List Int)=W at q2 tnd tle lW wsub wneg
 have ig:=in_good_order_ok (rs:=W) (fun r hr=>by have:=row_le hr;omega) (le_lim (by omega))
 have pf:=flat_good W
 have lM:(srt (W.map good)).length=T.length+k:=by rw [srt_length,lMq,lW]
 have mp:Mp (srt (W.map good)):=⟨pf.nodup_iff.mpr tnd,by rw [pf.length_eq];omega,by omega,fun e he=>pf.mem_iff.mpr (wneg e (pf.mem_iff.mp he))⟩
 have hf:(srt (W.map good)).flatten.length<=128:=by rw [pf.length_eq];omega
 have msub:∀ z∈(srt (W.map good)).flatten,z∈bth nm:=fun z h=>wsub z (pf.mem_iff.mp h)
 generalize srt (W.map good)=M at ig pf lM mp hf msub
 have sM:(M.map aI).map strip=M.map dI:=by rw [mPq];exact mCq fun r _=>strip_aI r
 have cM:=K12.copy_comp M
 have lM':M.length<=LIM:=le_lim (by omega)
 have cp:K51.f_L_copy [dM M]=some (.ow (M.map aI)):=by
  simp_arith [K51.f_L_copy,K51.mf_L_copy,cM,lM']
 have br:=bridges_ok mp
 obtain ⟨kn,PS,hp,x1,x2,x3,x4,co⟩:=counts_ok mp
 have ix:dIxT (.tup [D.int x1,.int x2,.int x3,.int ((PS.length:Nat):Int),.int x4]) (.int 3)=some (.int ((PS.length:Nat):Int)):=rfl
 have fl:=told_ok (rs:=M) (by omega)
 have sF:=strip_aI M.flatten
 have hin:∀ x∈(rds M).filter (isB M),x∈nm:=fun x h=>by
  obtain ⟨h1,h2⟩:=mem_rds.mp (bg.mp h).1
  obtain ⟨y,hy,q⟩:=bth_mem.mp (msub x h1)
  have:=hnm.lo y hy
  have:x=y:=by omega
  exact this ▸ hy
 have ic:=in_comp hin
 have ab:=all_bl ((rds M).filter (isB M))
 have lB:((rds M).filter (isB M)).length<=LIM:=le_lim (by
  have h1:((rds M).filter (isB M)).length<=(rds M).length:=bK _ _
  have h2:(rds M).length<=(srtI M.flatten).length:=bK _ _
  rw [(srtI_perm _).length_eq] at h2
  omega)
 have sB:=strip_aI ((rds M).filter (isB M))
 have ea:=fun v0 v1 v2 v3 v4 a5 a6 h5 h6=>@each_ok M mp hf (by omega) kn PS hp v0 v1 v2 v3 v4 a5 a6 h5 h6
 have r12:rng1 [.int 12]=some (rangeD 0 12):=rng1_ok (n:=12) (by decide)
 have l12:(rangeD 0 12).length<=LIM:=by rw [rangeD_len];show 12<=16777216;decide
 have sn:=strip_aI nm
 have c0:f_L_cell_at [.scr ns,.int 0]=some (.sh (.int (cell ns 0))):=cell_ok ns (by decide)
 have c1:f_L_cell_at [.scr ns,.int 1]=some (.sh (.int (cell ns 1))):=cell_ok ns (by decide)
 have c2:f_L_cell_at [.scr ns,.int 2]=some (.sh (.int (cell ns 2))):=cell_ok ns (by decide)
 generalize (rds M).filter (isB M)=R at br ic ab lB sB ea
 obtain ⟨a5',v8,e1⟩:=ea (some (.sh (.scr ns))) (some (.sh (.int (cell ns 0)))) (some (.sh (.int (cell ns 1)))) (some (.sh (.int (cell ns 2)))) (some (.sh (.list (nm.map D.int)))) (.sh (.list (M.map dI))) (aI R) (by simp) (strip_aI R)
 simp_arith [f_law,mf_law,c0,c1,c2,r12,l12,nc,cutG_map,hcs,sn,m2,et,sT,d2,m3,rg,nk,rd,lk,sK,lR,l5,q2,ig,sM,cp,br,co,ix,sB,dI,fl,sF,e1,ic,ab,lB]
end K43
namespace K43
open PySem L2 Mr Z Xe
theorem all_mk {l:W.OpenLaw}{w:World}{K:W.Frag}{h:Heap}{mg:Str->Option Value}{fa:Addr}(X:K.In h) (G:h.Ns mainGlobals mg) (hfa:mg "law" = some (.ref fa))
  {M:Addr}
  {K_NotThere:Addr}
  {K_TooMany:Addr}
  {O_Cut:Addr}
  {oj_Cut:Addr}{p1_Cut p2_Cut p3_Cut p4_Cut p5_Cut p6_Cut:Value}{p7_Cut p8_Cut:Option Addr}{p9_Cut:Array (Option Value)}
  (a0:W.nsIn K mainGlobals "turned" = some (some (.ref f0))) (l0:K.lookup f0=some ⟨oc0,od0,.func (W.fnOf "turned" "turned" (defArgs s_turned) (defBody s_turned) (defScope s_turned) .none kV0 dc0 pm0 an0 cd0 ct0),sl0⟩) (c0:W.codeIn K cd0 "turned" = true) (k0:W.keepIn K (.ref f0)=true)
  (a1:W.nsIn K mainGlobals "told_ends" = some (some (.ref f1))) (l1:K.lookup f1=some ⟨oc1,od1,.func (W.fnOf "told_ends" "told_ends" (defArgs s_told_ends) (defBody s_told_ends) (defScope s_told_ends) .none kV1 dc1 pm1 an1 cd1 ct1),sl1⟩) (c1:W.codeIn K cd1 "told_ends" = true) (k1:W.keepIn K (.ref f1)=true)
  (a2:W.nsIn K mainGlobals "refuse_too_many" = some (some (.ref f2))) (l2:K.lookup f2=some ⟨oc2,od2,.func (W.fnOf "refuse_too_many" "refuse_too_many" (defArgs s_refuse_too_many) (defBody s_refuse_too_many) (defScope s_refuse_too_many) .none kV2 dc2 pm2 an2 cd2 ct2),sl2⟩) (c2:W.codeIn K cd2 "refuse_too_many" = true) (k2:W.keepIn K (.ref f2)=true)
  (a3:W.nsIn K mainGlobals "in_good_order" = some (some (.ref f3))) (l3:K.lookup f3=some ⟨oc3,od3,.func (W.fnOf "in_good_order" "in_good_order" (defArgs s_in_good_order) (defBody s_in_good_order) (defScope s_in_good_order) .none kV3 dc3 pm3 an3 cd3 ct3),sl3⟩) (c3:W.codeIn K cd3 "in_good_order" = true) (k3:W.keepIn K (.ref f3)=true)
  (a4:W.nsIn K mainGlobals "ends_of" = some (some (.ref f4))) (l4:K.lookup f4=some ⟨oc4,od4,.func (W.fnOf "ends_of" "ends_of" (defArgs s_ends_of) (defBody s_ends_of) (defScope s_ends_of) .none kV4 dc4 pm4 an4 cd4 ct4),sl4⟩) (c4:W.codeIn K cd4 "ends_of" = true) (k4:W.keepIn K (.ref f4)=true)
  (a5:W.nsIn K mainGlobals "roads_of" = some (some (.ref f5))) (l5:K.lookup f5=some ⟨oc5,od5,.func (W.fnOf "roads_of" "roads_of" (defArgs s_roads_of) (defBody s_roads_of) (defScope s_roads_of) .none kV5 dc5 pm5 an5 cd5 ct5),sl5⟩) (c5:W.codeIn K cd5 "roads_of" = true) (k5:W.keepIn K (.ref f5)=true)
  (a6:W.nsIn K mainGlobals "places_at" = some (some (.ref f6))) (l6:K.lookup f6=some ⟨oc6,od6,.func (W.fnOf "places_at" "places_at" (defArgs s_places_at) (defBody s_places_at) (defScope s_places_at) .none kV6 dc6 pm6 an6 cd6 ct6),sl6⟩) (c6:W.codeIn K cd6 "places_at" = true) (k6:W.keepIn K (.ref f6)=true)
  (a7:W.nsIn K mainGlobals "nexts" = some (some (.ref f7))) (l7:K.lookup f7=some ⟨oc7,od7,.func (W.fnOf "nexts" "nexts" (defArgs s_nexts) (defBody s_nexts) (defScope s_nexts) .none kV7 dc7 pm7 an7 cd7 ct7),sl7⟩) (c7:W.codeIn K cd7 "nexts" = true) (k7:W.keepIn K (.ref f7)=true)
  (a8:W.nsIn K mainGlobals "settled" = some (some (.ref f8))) (l8:K.lookup f8=some ⟨oc8,od8,.func (W.fnOf "settled" "settled" (defArgs s_settled) (defBody s_settled) (defScope s_settled) .none kV8 dc8 pm8 an8 cd8 ct8),sl8⟩) (c8:W.codeIn K cd8 "settled" = true) (k8:W.keepIn K (.ref f8)=true)
  (a9:W.nsIn K mainGlobals "thinned" = some (some (.ref f9))) (l9:K.lookup f9=some ⟨oc9,od9,.func (W.fnOf "thinned" "thinned" (defArgs s_thinned) (defBody s_thinned) (defScope s_thinned) .none kV9 dc9 pm9 an9 cd9 ct9),sl9⟩) (c9:W.codeIn K cd9 "thinned" = true) (k9:W.keepIn K (.ref f9)=true)
  (a10:W.nsIn K mainGlobals "without_road" = some (some (.ref f10))) (l10:K.lookup f10=some ⟨oc10,od10,.func (W.fnOf "without_road" "without_road" (defArgs s_without_road) (defBody s_without_road) (defScope s_without_road) .none kV10 dc10 pm10 an10 cd10 ct10),sl10⟩) (c10:W.codeIn K cd10 "without_road" = true) (k10:W.keepIn K (.ref f10)=true)
  (a11:W.nsIn K mainGlobals "reached" = some (some (.ref f11))) (l11:K.lookup f11=some ⟨oc11,od11,.func (W.fnOf "reached" "reached" (defArgs s_reached) (defBody s_reached) (defScope s_reached) .none kV11 dc11 pm11 an11 cd11 ct11),sl11⟩) (c11:W.codeIn K cd11 "reached" = true) (k11:W.keepIn K (.ref f11)=true)
  (a12:W.nsIn K mainGlobals "pieces" = some (some (.ref f12))) (l12:K.lookup f12=some ⟨oc12,od12,.func (W.fnOf "pieces" "pieces" (defArgs s_pieces) (defBody s_pieces) (defScope s_pieces) .none kV12 dc12 pm12 an12 cd12 ct12),sl12⟩) (c12:W.codeIn K cd12 "pieces" = true) (k12:W.keepIn K (.ref f12)=true)
  (a13:W.nsIn K mainGlobals "without_roads" = some (some (.ref f13))) (l13:K.lookup f13=some ⟨oc13,od13,.func (W.fnOf "without_roads" "without_roads" (defArgs s_without_roads) (defBody s_without_roads) (defScope s_without_roads) .none kV13 dc13 pm13 an13 cd13 ct13),sl13⟩) (c13:W.codeIn K cd13 "without_roads" = true) (k13:W.keepIn K (.ref f13)=true)
  (a14:W.nsIn K mainGlobals "is_bridge" = some (some (.ref f14))) (l14:K.lookup f14=some ⟨oc14,od14,.func (W.fnOf "is_bridge" "is_bridge" (defArgs s_is_bridge) (defBody s_is_bridge) (defScope s_is_bridge) .none kV14 dc14 pm14 an14 cd14 ct14),sl14⟩) (c14:W.codeIn K cd14 "is_bridge" = true) (k14:W.keepIn K (.ref f14)=true)
  (a15:W.nsIn K mainGlobals "bridges" = some (some (.ref f15))) (l15:K.lookup f15=some ⟨oc15,od15,.func (W.fnOf "bridges" "bridges" (defArgs s_bridges) (defBody s_bridges) (defScope s_bridges) .none kV15 dc15 pm15 an15 cd15 ct15),sl15⟩) (c15:W.codeIn K cd15 "bridges" = true) (k15:W.keepIn K (.ref f15)=true)
  (a16:W.nsIn K mainGlobals "onwards" = some (some (.ref f16))) (l16:K.lookup f16=some ⟨oc16,od16,.func (W.fnOf "onwards" "onwards" (defArgs s_onwards) (defBody s_onwards) (defScope s_onwards) .none kV16 dc16 pm16 an16 cd16 ct16),sl16⟩) (c16:W.codeIn K cd16 "onwards" = true) (k16:W.keepIn K (.ref f16)=true)
  (a17:W.nsIn K mainGlobals "gone_round" = some (some (.ref f17))) (l17:K.lookup f17=some ⟨oc17,od17,.func (W.fnOf "gone_round" "gone_round" (defArgs s_gone_round) (defBody s_gone_round) (defScope s_gone_round) .none kV17 dc17 pm17 an17 cd17 ct17),sl17⟩) (c17:W.codeIn K cd17 "gone_round" = true) (k17:W.keepIn K (.ref f17)=true)
  (a18:W.nsIn K mainGlobals "lands" = some (some (.ref f18))) (l18:K.lookup f18=some ⟨oc18,od18,.func (W.fnOf "lands" "lands" (defArgs s_lands) (defBody s_lands) (defScope s_lands) .none kV18 dc18 pm18 an18 cd18 ct18),sl18⟩) (c18:W.codeIn K cd18 "lands" = true) (k18:W.keepIn K (.ref f18)=true)
  (a19:W.nsIn K mainGlobals "counts" = some (some (.ref f19))) (l19:K.lookup f19=some ⟨oc19,od19,.func (W.fnOf "counts" "counts" (defArgs s_counts) (defBody s_counts) (defScope s_counts) .none kV19 dc19 pm19 an19 cd19 ct19),sl19⟩) (c19:W.codeIn K cd19 "counts" = true) (k19:W.keepIn K (.ref f19)=true)
  (a20:W.nsIn K mainGlobals "_law_cell" = some (some (.ref f20))) (l20:K.lookup f20=some ⟨oc20,od20,.func (W.fnOf "_law_cell" "_law_cell" (defArgs s_L_cell) (defBody s_L_cell) (defScope s_L_cell) .none kV20 dc20 pm20 an20 cd20 ct20),sl20⟩) (c20:W.codeIn K cd20 "_law_cell" = true) (k20:W.keepIn K (.ref f20)=true)
  (a21:W.nsIn K mainGlobals "_law_name" = some (some (.ref f21))) (l21:K.lookup f21=some ⟨oc21,od21,.func (W.fnOf "_law_name" "_law_name" (defArgs s_L_name) (defBody s_L_name) (defScope s_L_name) .none kV21 dc21 pm21 an21 cd21 ct21),sl21⟩) (c21:W.codeIn K cd21 "_law_name" = true) (k21:W.keepIn K (.ref f21)=true)
  (a22:W.nsIn K mainGlobals "_law_turns" = some (some (.ref f22))) (l22:K.lookup f22=some ⟨oc22,od22,.func (W.fnOf "_law_turns" "_law_turns" (defArgs s_L_turns) (defBody s_L_turns) (defScope s_L_turns) .none kV22 dc22 pm22 an22 cd22 ct22),sl22⟩) (c22:W.codeIn K cd22 "_law_turns" = true) (k22:W.keepIn K (.ref f22)=true)
  (a23:W.nsIn K mainGlobals "_law_turned" = some (some (.ref f23))) (l23:K.lookup f23=some ⟨oc23,od23,.func (W.fnOf "_law_turned" "_law_turned" (defArgs s_L_turned) (defBody s_L_turned) (defScope s_L_turned) .none kV23 dc23 pm23 an23 cd23 ct23),sl23⟩) (c23:W.codeIn K cd23 "_law_turned" = true) (k23:W.keepIn K (.ref f23)=true)
  (a24:W.nsIn K mainGlobals "_law_good" = some (some (.ref f24))) (l24:K.lookup f24=some ⟨oc24,od24,.func (W.fnOf "_law_good" "_law_good" (defArgs s_L_good) (defBody s_L_good) (defScope s_L_good) .none kV24 dc24 pm24 an24 cd24 ct24),sl24⟩) (c24:W.codeIn K cd24 "_law_good" = true) (k24:W.keepIn K (.ref f24)=true)
  (a25:W.nsIn K mainGlobals "_law_copy" = some (some (.ref f25))) (l25:K.lookup f25=some ⟨oc25,od25,.func (W.fnOf "_law_copy" "_law_copy" (defArgs s_L_copy) (defBody s_L_copy) (defScope s_L_copy) .none kV25 dc25 pm25 an25 cd25 ct25),sl25⟩) (c25:W.codeIn K cd25 "_law_copy" = true) (k25:W.keepIn K (.ref f25)=true)
  (a26:W.nsIn K mainGlobals "_law_flat" = some (some (.ref f26))) (l26:K.lookup f26=some ⟨oc26,od26,.func (W.fnOf "_law_flat" "_law_flat" (defArgs s_L_flat) (defBody s_L_flat) (defScope s_L_flat) .none kV26 dc26 pm26 an26 cd26 ct26),sl26⟩) (c26:W.codeIn K cd26 "_law_flat" = true) (k26:W.keepIn K (.ref f26)=true)
  (a28:W.nsIn K mainGlobals "law" = some (some (.ref f28))) (l28:K.lookup f28=some ⟨oc28,od28,.func (W.fnOf "law" "law" (defArgs s_law) (defBody s_law) (defScope s_law) .none kV28 dc28 pm28 an28 cd28 ct28),sl28⟩) (c28:W.codeIn K cd28 "law" = true) (k28:W.keepIn K (.ref f28)=true)
  (aM:W.nsIn K mainGlobals "MapError" = some (some (.ref M))) (xM:xcIn K "MapError" M VEm=true)
  (rM:W.readsIn K M (.type "type")=true) (sM:W.specialIn K (.ref M) "__getattribute__" = some (some (.builtin "type.__getattribute__"))) (fM:W.findCls K (.ref M) (.type "type") "__init__" = some (.val (.builtin "ValueError.__init__")))
  (a_NotThere:W.nsIn K mainGlobals "NotThere" = some (some (.ref K_NotThere))) (x_NotThere:xcIn K "NotThere" K_NotThere (.ref M::VEm)=true) (l_NotThere:lk0 K K_NotThere=true)
  (n_NotThere:W.findIn K (.ref K_NotThere) "__init__" = some (some (.ref j_NotThere))) (e_NotThere:K.lookup j_NotThere=some ⟨oc_NotThere,od_NotThere,.func (W.fnOf "__init__" "NotThere.__init__" (defArgs si_NotThere) (defBody si_NotThere) (defScope si_NotThere) .none kV_NotThere dc_NotThere pm_NotThere an_NotThere cd_NotThere ct_NotThere),sl_NotThere⟩) (d_NotThere:W.codeIn K cd_NotThere "NotThere.__init__" = true) (k_NotThere:W.keepIn K (.ref j_NotThere)=true) (fn_NotThere:W.isFn K (.ref j_NotThere)=true) (kp_NotThere:W.keepIn K (.ref K_NotThere)=true) (nf_NotThere:W.findIn K (.ref K_NotThere) "end" = some none)
  (a_TooMany:W.nsIn K mainGlobals "TooMany" = some (some (.ref K_TooMany))) (x_TooMany:xcIn K "TooMany" K_TooMany (.ref M::VEm)=true) (l_TooMany:lk0 K K_TooMany=true)
  (n_TooMany:W.findIn K (.ref K_TooMany) "__init__" = some (some (.builtin "ValueError.__init__"))) (kp_TooMany:W.keepIn K (.ref K_TooMany)=true)
  (oa_Cut:W.nsIn K mainGlobals "Cut" = some (some (.ref O_Cut))) (og_Cut:W.plainGet K O_Cut Str.empty=true) (oh_Cut:W.hasDictIn K O_Cut=true) (oo_Cut:W.plainOver K O_Cut=true) (os_Cut:W.findIn K (.ref O_Cut) "__setattr__" = some (some (.builtin "object.__setattr__")))
  (on_Cut_road:W.findIn K (.ref O_Cut) "road" = some none)
  (om_Cut:W.makesIn K O_Cut=true) (oi_Cut:W.findIn K (.ref O_Cut) "__init__" = some (some (.ref oj_Cut))) (of_Cut:W.isFn K (.ref oj_Cut)=true) (ok_Cut:W.keepIn K (.ref O_Cut)=true)
  (ol_Cut:K.lookup oj_Cut=some ⟨p1_Cut,p7_Cut,.func (W.fnOf "__init__" "Cut.__init__" (defArgs sj_Cut) (defBody sj_Cut) (defScope sj_Cut) .none p2_Cut p3_Cut p4_Cut p8_Cut p5_Cut p6_Cut),p9_Cut⟩) (oc_Cut:W.codeIn K p5_Cut "Cut.__init__" = true) (ob_Cut:W.keepIn K (.ref oj_Cut)=true)
  (a27:W.findIn K (.ref O_Cut) "done" = some (some (.ref f27))) (l27:K.lookup f27=some ⟨oc27,od27,.func (W.fnOf "done" "Cut.done" (defArgs s_Cut_done) (defBody s_Cut_done) (defScope s_Cut_done) .none kV27 dc27 pm27 an27 cd27 ct27),sl27⟩) (c27:W.codeIn K cd27 "Cut.done" = true) (k27:W.keepIn K (.ref f27)=true) (i27:W.isFn K (.ref f27)=true)
  {t_MOST_ENDS:Tok}(q_MOST_ENDS:W.nsIn K mainGlobals "MOST_ENDS" = some (some (.int 128 t_MOST_ENDS))) {t_MOST_BARE_PLACES:Tok}(q_MOST_BARE_PLACES:W.nsIn K mainGlobals "MOST_BARE_PLACES" = some (some (.int 128 t_MOST_BARE_PLACES)))
  (z0:W.nsIn K mainGlobals "len" = some none) (z1:W.nsIn K mainGlobals "min" = some none) (z2:W.nsIn K mainGlobals "max" = some none) (z3:W.nsIn K mainGlobals "abs" = some none) (z4:W.nsIn K mainGlobals "all" = some none) (z5:W.nsIn K mainGlobals "sorted" = some none) (z6:W.nsIn K mainGlobals "isinstance" = some none) (z7:W.nsIn K mainGlobals "list" = some none) (z8:W.nsIn K mainGlobals "int" = some none) (z9:W.nsIn K mainGlobals "bool" = some none) (z10:W.nsIn K mainGlobals "str" = some none) (z11:W.nsIn K mainGlobals "dict" = some none) (z12:W.nsIn K mainGlobals "zip" = some none) (z13:W.nsIn K mainGlobals "enumerate" = some none) (z14:W.nsIn K mainGlobals "range" = some none) (z15:W.nsIn K mainGlobals "reversed" = some none) :
  ∃ fd:FuncData,(∀ (s:Shared) (v:Value),BindsTo s fd ⟨[v],[]⟩ [("_law_script", v)])/\∀ base:Heap,K.In base->base.Ns mainGlobals mg->FnOk l.prog w K mg base CX0 6 fa fd ["_law_script"] (spLaw K):=by
 have e:=hfa.symm.trans (W.mg_of X G a28)
 cases e
 have B:Bt mg:=⟨W.mg_none_of X G z0,W.mg_none_of X G z1,W.mg_none_of X G z2,W.mg_none_of X G z3,W.mg_none_of X G z4,W.mg_none_of X G z5,W.mg_none_of X G z6,W.mg_none_of X G z7,W.mg_none_of X G z8,W.mg_none_of X G z9,W.mg_none_of X G z10,W.mg_none_of X G z11,W.mg_none_of X G z12,W.mg_none_of X G z13,W.mg_none_of X G z14,W.mg_none_of X G z15⟩
 have D0:Def K mg "turned" s_turned ["ends"] _ _:=⟨fun_mk l0 c0 k0,W.mg_of X G a0,(fun_mk l0 c0 k0).binds fun _ _ _ _ _ _ us hl=>match us,hl with|[_],_=>rfl⟩
 have D1:Def K mg "told_ends" s_told_ends ["turns"] _ _:=⟨fun_mk l1 c1 k1,W.mg_of X G a1,(fun_mk l1 c1 k1).binds fun _ _ _ _ _ _ us hl=>match us,hl with|[_],_=>rfl⟩
 have D2:Def K mg "refuse_too_many" s_refuse_too_many ["turns"] _ _:=⟨fun_mk l2 c2 k2,W.mg_of X G a2,(fun_mk l2 c2 k2).binds fun _ _ _ _ _ _ us hl=>match us,hl with|[_],_=>rfl⟩
 have D3:Def K mg "in_good_order" s_in_good_order ["turns"] _ _:=⟨fun_mk l3 c3 k3,W.mg_of X G a3,(fun_mk l3 c3 k3).binds fun _ _ _ _ _ _ us hl=>match us,hl with|[_],_=>rfl⟩
 have D4:Def K mg "ends_of" s_ends_of ["m"] _ _:=⟨fun_mk l4 c4 k4,W.mg_of X G a4,(fun_mk l4 c4 k4).binds fun _ _ _ _ _ _ us hl=>match us,hl with|[_],_=>rfl⟩
 have D5:Def K mg "roads_of" s_roads_of ["m"] _ _:=⟨fun_mk l5 c5 k5,W.mg_of X G a5,(fun_mk l5 c5 k5).binds fun _ _ _ _ _ _ us hl=>match us,hl with|[_],_=>rfl⟩
 have D6:Def K mg "places_at" s_places_at ["m"] _ _:=⟨fun_mk l6 c6 k6,W.mg_of X G a6,(fun_mk l6 c6 k6).binds fun _ _ _ _ _ _ us hl=>match us,hl with|[_],_=>rfl⟩
 have D7:Def K mg "nexts" s_nexts ["m"] _ _:=⟨fun_mk l7 c7 k7,W.mg_of X G a7,(fun_mk l7 c7 k7).binds fun _ _ _ _ _ _ us hl=>match us,hl with|[_],_=>rfl⟩
 have D8:Def K mg "settled" s_settled ["turns"] _ _:=⟨fun_mk l8 c8 k8,W.mg_of X G a8,(fun_mk l8 c8 k8).binds fun _ _ _ _ _ _ us hl=>match us,hl with|[_],_=>rfl⟩
 have D9:Def K mg "thinned" s_thinned ["turn", "gone"] _ _:=⟨fun_mk l9 c9 k9,W.mg_of X G a9,(fun_mk l9 c9 k9).binds fun _ _ _ _ _ _ us hl=>match us,hl with|[_,_],_=>rfl⟩
 have D10:Def K mg "without_road" s_without_road ["m", "road"] _ _:=⟨fun_mk l10 c10 k10,W.mg_of X G a10,(fun_mk l10 c10 k10).binds fun _ _ _ _ _ _ us hl=>match us,hl with|[_,_],_=>rfl⟩
 have D11:Def K mg "reached" s_reached ["m", "start"] _ _:=⟨fun_mk l11 c11 k11,W.mg_of X G a11,(fun_mk l11 c11 k11).binds fun _ _ _ _ _ _ us hl=>match us,hl with|[_,_],_=>rfl⟩
 have D12:Def K mg "pieces" s_pieces ["m"] _ _:=⟨fun_mk l12 c12 k12,W.mg_of X G a12,(fun_mk l12 c12 k12).binds fun _ _ _ _ _ _ us hl=>match us,hl with|[_],_=>rfl⟩
 have D13:Def K mg "without_roads" s_without_roads ["m", "roads"] _ _:=⟨fun_mk l13 c13 k13,W.mg_of X G a13,(fun_mk l13 c13 k13).binds fun _ _ _ _ _ _ us hl=>match us,hl with|[_,_],_=>rfl⟩
 have D14:Def K mg "is_bridge" s_is_bridge ["m", "road"] _ _:=⟨fun_mk l14 c14 k14,W.mg_of X G a14,(fun_mk l14 c14 k14).binds fun _ _ _ _ _ _ us hl=>match us,hl with|[_,_],_=>rfl⟩
 have D15:Def K mg "bridges" s_bridges ["m"] _ _:=⟨fun_mk l15 c15 k15,W.mg_of X G a15,(fun_mk l15 c15 k15).binds fun _ _ _ _ _ _ us hl=>match us,hl with|[_],_=>rfl⟩
 have D16:Def K mg "onwards" s_onwards ["m"] _ _:=⟨fun_mk l16 c16 k16,W.mg_of X G a16,(fun_mk l16 c16 k16).binds fun _ _ _ _ _ _ us hl=>match us,hl with|[_],_=>rfl⟩
 have D17:Def K mg "gone_round" s_gone_round ["steps", "end"] _ _:=⟨fun_mk l17 c17 k17,W.mg_of X G a17,(fun_mk l17 c17 k17).binds fun _ _ _ _ _ _ us hl=>match us,hl with|[_,_],_=>rfl⟩
 have D18:Def K mg "lands" s_lands ["m"] _ _:=⟨fun_mk l18 c18 k18,W.mg_of X G a18,(fun_mk l18 c18 k18).binds fun _ _ _ _ _ _ us hl=>match us,hl with|[_],_=>rfl⟩
 have D19:Def K mg "counts" s_counts ["m"] _ _:=⟨fun_mk l19 c19 k19,W.mg_of X G a19,(fun_mk l19 c19 k19).binds fun _ _ _ _ _ _ us hl=>match us,hl with|[_],_=>rfl⟩
 have D20:Def K mg "_law_cell" s_L_cell ["_law_script", "_law_k"] _ _:=⟨fun_mk l20 c20 k20,W.mg_of X G a20,(fun_mk l20 c20 k20).binds fun _ _ _ _ _ _ us hl=>match us,hl with|[_,_],_=>rfl⟩
 have D21:Def K mg "_law_name" s_L_name ["_law_one", "_law_two", "_law_k"] _ _:=⟨fun_mk l21 c21 k21,W.mg_of X G a21,(fun_mk l21 c21 k21).binds fun _ _ _ _ _ _ us hl=>match us,hl with|[_,_,_],_=>rfl⟩
 have D22:Def K mg "_law_turns" s_L_turns ["_law_cells", "_law_names", "_law_wild"] _ _:=⟨fun_mk l22 c22 k22,W.mg_of X G a22,(fun_mk l22 c22 k22).binds fun _ _ _ _ _ _ us hl=>match us,hl with|[_,_,_],_=>rfl⟩
 have D23:Def K mg "_law_turned" s_L_turned ["_law_turn"] _ _:=⟨fun_mk l23 c23 k23,W.mg_of X G a23,(fun_mk l23 c23 k23).binds fun _ _ _ _ _ _ us hl=>match us,hl with|[_],_=>rfl⟩
 have D24:Def K mg "_law_good" s_L_good ["_law_turns_here"] _ _:=⟨fun_mk l24 c24 k24,W.mg_of X G a24,(fun_mk l24 c24 k24).binds fun _ _ _ _ _ _ us hl=>match us,hl with|[_],_=>rfl⟩
 have D25:Def K mg "_law_copy" s_L_copy ["_law_m"] _ _:=⟨fun_mk l25 c25 k25,W.mg_of X G a25,(fun_mk l25 c25 k25).binds fun _ _ _ _ _ _ us hl=>match us,hl with|[_],_=>rfl⟩
 have D26:Def K mg "_law_flat" s_L_flat ["_law_turns_here"] _ _:=⟨fun_mk l26 c26 k26,W.mg_of X G a26,(fun_mk l26 c26 k26).binds fun _ _ _ _ _ _ us hl=>match us,hl with|[_],_=>rfl⟩
 have D28:Def K mg "law" s_law ["_law_script"] _ _:=⟨fun_mk l28 c28 k28,W.mg_of X G a28,(fun_mk l28 c28 k28).binds fun _ _ _ _ _ _ us hl=>match us,hl with|[_],_=>rfl⟩
 have g_MOST_ENDS:=W.mg_of X G q_MOST_ENDS
 have g_MOST_BARE_PLACES:=W.mg_of X G q_MOST_BARE_PLACES
 refine ⟨W.fnOf "law" "law" (defArgs s_law) (defBody s_law) (defScope s_law) .none kV28 dc28 pm28 an28 cd28 ct28,fun s v=>.of_eq rfl,fun base kb nb=>?_⟩
 have I_MapError:=clsM_mk X G aM xM
 have R_NotThere:=ref_mk a_NotThere aM x_NotThere xM l_NotThere
 have I_NotThere:=ini_NotThere (P:=l.prog) (w:=w) (base:=base) (fun_mk e_NotThere d_NotThere k_NotThere) ((fun_mk e_NotThere d_NotThere k_NotThere).binds fun _ _ _ _ _ _ us hl=>match us,hl with|[_,_],_=>rfl) R_NotThere (W.mg_of X G aM) rM sM fM n_NotThere fn_NotThere kp_NotThere nf_NotThere (W.mg_of X G a_NotThere)
 have R_TooMany:=ref_mk a_TooMany aM x_TooMany xM l_TooMany
 have I_TooMany:=cls0_mk X G R_TooMany n_TooMany kp_TooMany
 have IC_Cut:InsC K "Cut" O_Cut:=⟨oa_Cut,⟨og_Cut,oh_Cut,oo_Cut,os_Cut⟩⟩
 have M_Cut:=inj_Cut (P:=l.prog) (w:=w) (base:=base) (fun_mk ol_Cut oc_Cut ob_Cut) ((fun_mk ol_Cut oc_Cut ob_Cut).binds fun _ _ _ _ _ _ us hl=>match us,hl with|[_,_],_=>rfl) ⟨om_Cut,oi_Cut,of_Cut,ok_Cut⟩ IC_Cut.cl on_Cut_road (W.mg_of X G oa_Cut)
 have F0:=ok_turned (P:=l.prog) (w:=w) (base:=base) D0 B
 have F1:=ok_told_ends (P:=l.prog) (w:=w) (base:=base) D1 B
 have F2:=ok_refuse_too_many (P:=l.prog) (w:=w) (base:=base) D2 B g_MOST_ENDS g_MOST_BARE_PLACES I_TooMany F1
 have F3:=ok_in_good_order (P:=l.prog) (w:=w) (base:=base) D3 B F0
 have F4:=ok_ends_of (P:=l.prog) (w:=w) (base:=base) D4 B F1
 have F5:=ok_roads_of (P:=l.prog) (w:=w) (base:=base) D5 B F4
 have F6:=ok_places_at (P:=l.prog) (w:=w) (base:=base) D6 B
 have F7:=ok_nexts (P:=l.prog) (w:=w) (base:=base) D7 B
 have F8:=ok_settled (P:=l.prog) (w:=w) (base:=base) D8 B F2 F3
 have F9:=ok_thinned (P:=l.prog) (w:=w) (base:=base) D9 B
 have F10:=ok_without_road (P:=l.prog) (w:=w) (base:=base) D10 B I_NotThere F8 F1 F9
 have F11:=ok_reached (P:=l.prog) (w:=w) (base:=base) D11 B F6
 have F12:=ok_pieces (P:=l.prog) (w:=w) (base:=base) D12 B F11
 have F13:=ok_without_roads (P:=l.prog) (w:=w) (base:=base) D13 B F9
 have F14:=ok_is_bridge (P:=l.prog) (w:=w) (base:=base) D14 B F6 F11 F13
 have F15:=ok_bridges (P:=l.prog) (w:=w) (base:=base) D15 B F5 F14
 have F16:=ok_onwards (P:=l.prog) (w:=w) (base:=base) D16 B F7
 have F17:=ok_gone_round (P:=l.prog) (w:=w) (base:=base) D17 B
 have F18:=ok_lands (P:=l.prog) (w:=w) (base:=base) D18 B F16 F4 F3 F17
 have F19:=ok_counts (P:=l.prog) (w:=w) (base:=base) D19 B F5 F18 F12
 have F20:=ok_L_cell (P:=l.prog) (w:=w) (base:=base) D20 B
 have F21:=ok_L_name (P:=l.prog) (w:=w) (base:=base) D21 B
 have F22:=ok_L_turns (P:=l.prog) (w:=w) (base:=base) D22 B
 have F23:=ok_L_turned (P:=l.prog) (w:=w) (base:=base) D23 B
 have F24:=ok_L_good (P:=l.prog) (w:=w) (base:=base) D24 B F23
 have F25:=ok_L_copy (P:=l.prog) (w:=w) (base:=base) D25 B
 have F26:=ok_L_flat (P:=l.prog) (w:=w) (base:=base) D26 B
 have F27:=ok_Cut_done (P:=l.prog) (w:=w) (base:=base) (fun_mk l27 c27 k27) ⟨a27,i27,k27⟩ ((fun_mk l27 c27 k27).binds fun _ _ _ _ _ _ us hl=>match us,hl with|[_,_],_=>rfl) B F10 IC_Cut on_Cut_road
 have F28:=ok_law (P:=l.prog) (w:=w) (base:=base) D28 B F20 F24 F15 F26 F21 F25 F19 F22 IC_Cut on_Cut_road M_Cut F27
 exact F28.ok.imp (law_imp fun ns h=>law_ok h)
theorem walk {l:W.OpenLaw}{q:Program}{loose:List Str}{XP:(Str->Option Value)->Heap->Prop}{YP:World->Heap->Prop}{d:DefRec}{K:Params->W.Frag}(hn:l.most=some 63) (hdf:d.params.defaults=[])
  (hY:∀ (w:World) (h:Heap),YP w h->(K w.params).In h)
  (F:∀ (w:World) (mg:Str->Option Value) (fa:Addr) (h:Heap),(K w.params).In h->h.Ns mainGlobals mg->mg d.name=some (.ref fa) ->
   ∃ fd:FuncData,(∀ (s:Shared) (u:Value),BindsTo s fd ⟨[u],[]⟩ [("_law_script", u)])/\∀ base:Heap,(K w.params).In base->base.Ns mainGlobals mg->FnOk l.prog w (K w.params) mg base CX0 6 fa fd ["_law_script"] (spLaw (K w.params))) :
  W.WalkO q loose XP YP l.row.toRowW d [] (fun f vs=>PySem.call f vs) :=
 L2.walk_of (n:=63) (k:=6) (x := "_law_script") (CX:=fun _=>CX0) (sp:=fun w=>spLaw (K w.params)) hn (by decide) hdf ⟨rfl,by decide,by decide⟩ hY F (fun _ _ a ns hl _ hS=>⟨a,ns,rfl,hS,hl,fun _=>rfl⟩) fun _ _ _ _ _ z=>z
end K43
namespace PySem.W.Fast
def tw11744846212593470252:=0
def tw3181231300520794017:=0
def tw13129015190947143549:=0
def tw5470871381553724969:=0
def tw5059579554465097587:=0
def tw5330878799519980881:=0
def tw13203567996506689735:=0
def tw14045221087786729463:=0
def tw6934327354661248090:=0
def tw11898554491625496679:=0
def tw5577141191273681636:=0
def tw2349142487640092706:=0
def tw9356285152298646247:=0
def tw1257605572671957662:=0
def tw9593947603570288551:=0
def tw14284190163831279546:=0
def tw16690476098266679052:=0
def tw16428274052220797717:=0
def tw730822004539504046:=0
def tw7839470621317869363:=0
def tw6016697795933975393:=0
def tw14569997745506087223:=0
def tw16038911201853070541:=0
def tw16629345414488799827:=0
def tw8552030559274394175:=0
def tw16444783854490391527:=0
def tw4766501211036643655:=0
def tw7212438308081937802:=0
def tw14822975462007958766:=0
def tw3695020237773632458:=0
def tw17157754416214923413:=0
def tw2509867977277896568:=0
def tw4345500486813872625:=0
def tw2006726602351702758:=0
def tw5401023816227121182:=0
def tw2685543057370353872:=0
def tw17545257245072371260:=0
def tw4106816828678874663:=0
def tw13721375145280472167:=0
def tw7862040254025633300:=0
def tw11915146681018804929:=0
def tw2673709941743603148:=0
def tw1010028819785439201:=0
def tw11793930220839725915:=0
def tw4553105884642098208:=0
def tw5189336804152000325:=0
def tw16757529979151874950:=0
def tw17749708939143888894:=0
def tw6010243147081859160:=0
def tw16314798253457438631:=0
def tw4758950821129883888:=0
def tw5591288618951303117:=0
def tw17743539017829305279:=0
def tw14292515804148418170:=0
def tw8302583081487774910:=0
def tw2388342186012893878:=0
def tw16515313864264719065:=0
def tw17308156943090003630:=0
def tw4780937586845766178:=0
def tw318521452112951992:=0
def tw17094990698132476407:=0
def tw10152368020627703631:=0
def tw5873117933853470033:=0
def tw10599719254961290571:=0
def tw5581274687176982043:=0
def tw12668684369688402749:=0
def tw4948836672546314112:=0
def tw3712853917588891646:=0
def tw15400714932400920396:=0
def tw1964887769732419405:=0
def tw409253288297093934:=0
def tw6932424928744515817:=0
def tw15970513031668961005:=0
def tw6112946734694443303:=0
def tw5631674065289390376:=0
def tw17209310618914341645:=0
def tw4459958411071331636:=0
def tw14904318773931128604:=0
def tw776023326084988734:=0
def tw3428981008426953119:=0
def tw10052041450533328103:=0
def tw10640616858369839501:=0
def tw15514101604872581476:=0
def tw1977614790468047988:=0
def tw2102901234396904217:=0
def tw6718319289629510764:=0
def tw18100091415546870808:=0
def tw922276067151705835:=0
def tw14893776450671752859:=0
def tw4321509998643717646:=0
def tw6188251877124912496:=0
def tw6868986287431809761:=0
def tw4170256687975132897:=0
def tw8883144955835461089:=0
def tw5277823900252970541:=0
def tw1221433234104965222:=0
def tw1957544444558098997:=0
def tw5974373920863136890:=0
def tw12858397231855932248:=0
def tw12214297336380728198:=0
def tw17419740884074301589:=0
def tw17779543474654700326:=0
def tw8605823636417654809:=0
def tw8406719788459199309:=0
def tw6886541575997762198:=0
def tw17023492762972521141:=0
def tw4466981247856628808:=0
def tw5925369728163891579:=0
def tw2238287768217823516:=0
def tw17445896937457781175:=0
def tw5503696454056083005:=0
def tw15544033634898520883:=0
def tw8535046765692284792:=0
def tw4185108573255320490:=0
def tw30462441790402523:=0
def tw12842093276868659663:=0
def tw12400229906715891833:=0
def tw8454574993686956429:=0
def tw11578192349175735768:=0
def tw5196923193890918381:=0
def tw2198533140244319361:=0
def tw16237063410089425931:=0
def tw7560470771068620052:=0
def tw4145567120923360991:=0
def tw12180089620554459489:=0
def tw5490108743495221912:=0
def tw6308245789066367241:=0
def tw12879540169463153377:=0
def tw14291813558536926468:=0
def tw11600941452938642060:=0
def tw1568621781675690913:=0
def tw2667261785842488444:=0
def tw12587474336741560336:=0
def tw2687230482702673713:=0
def tw2597609717873472157:=0
def tw4557545612873123152:=0
def tw7365672750214269856:=0
def tw3931937961493570320:=0
def tw11859975643291700969:=0
def tw12126221087987674286:=0
def tw193268192967367861:=0
def tw3687937036156776074:=0
def tw8241987900486405720:=0
def tw17072196917241272297:=0
def tw8940045473653178597:=0
def tw16416064956162290837:=0
def tw9082958295452802275:=0
def tw6437981811822626817:=0
def tw8445845967729142302:=0
def tw6600921871048428280:=0
def tw11662117979859722938:=0
def tw4528422218323261335:=0
def tw6380346841693863200:=0
def tw4101950342582536718:=0
def tw10697582248448681605:=0
def tw10255508637476415567:=0
def tw8162196293570114597:=0
def tw3924603701221167785:=0
def tw3353288668652485446:=0
def tw5682437833609441675:=0
def tw2749957592220991502:=0
def tw64956220209973633:=0
def tw8516934360576963752:=0
def tw18090963587469710134:=0
def tw579540615870036420:=0
def tw1357573011833590651:=0
def tw3726280490715216969:=0
def tw1219023421396052897:=0
def tw6708822938107765790:=0
def tw1957696321182641580:=0
def tw2896403441715232471:=0
def tw838283274395509484:=0
def tw8875240948903012188:=0
def tw16112750869420464025:=0
def tw14820980618916119161:=0
def tw15950524270786672089:=0
def tw1553612085953283225:=0
def tw15314153258319759100:=0
def tw14914833887189174339:=0
def tw7182409518353673412:=0
def tw2586293523778922242:=0
def tw127575864759415914:=0
def tw7151617185953465051:=0
def tw4572640308943853457:=0
def tw7169487505996430391:=0
def tw13416570045034673210:=0
def tw12884516768997777732:=0
def tw13913993392623461530:=0
def tw7802655050511523856:=0
def tw17711325217715427577:=0
def tw5170304703173102506:=0
def tw2658929855098055746:=0
def tw7489073449024630237:=0
def tw11984656777661450223:=0
def tw956278830409147077:=0
def tw14629743333350345418:=0
def tw15270775644817397691:=0
def tw13566541696604684952:=0
def tw10717397484446426317:=0
def tw5485740364943242081:=0
def tw15657323502423829927:=0
def tw10071509781534016074:=0
def tw16796885082059380994:=0
def tw8877538927190159107:=0
def tw5217217342148212440:=0
def tw3998458496096061727:=0
def tw4201116630891816136:=0
end PySem.W.Fast
open PySem PySem.W PyProof.Rows
set_option maxRecDepth 100000 in
set_option maxHeartbeats 0 in
theorem PySem.Challenge.cw_mapround_k43_bridges_cut_holds : PySem.Challenge.rw_mapround_k43_bridges_cut.Holds := by
 w_on;o_law;k_head;(case hw=>w_witness2)
 k_fill
 refine K43.walk (l:=PySem.Challenge.rw_mapround_k43_bridges_cut) rfl rfl (fun w h Y=>W.kIn_of Y) ?F
 case F =>
  intro w mg fa h KX G hmg
  refine' K43.all_mk KX G hmg ?a0 ?l0 ?c0 ?k0 ?a1 ?l1 ?c1 ?k1 ?a2 ?l2 ?c2 ?k2 ?a3 ?l3 ?c3 ?k3 ?a4 ?l4 ?c4 ?k4 ?a5 ?l5 ?c5 ?k5 ?a6 ?l6 ?c6 ?k6 ?a7 ?l7 ?c7 ?k7 ?a8 ?l8 ?c8 ?k8 ?a9 ?l9 ?c9 ?k9 ?a10 ?l10 ?c10 ?k10 ?a11 ?l11 ?c11 ?k11 ?a12 ?l12 ?c12 ?k12 ?a13 ?l13 ?c13 ?k13 ?a14 ?l14 ?c14 ?k14 ?a15 ?l15 ?c15 ?k15 ?a16 ?l16 ?c16 ?k16 ?a17 ?l17 ?c17 ?k17 ?a18 ?l18 ?c18 ?k18 ?a19 ?l19 ?c19 ?k19 ?a20 ?l20 ?c20 ?k20 ?a21 ?l21 ?c21 ?k21 ?a22 ?l22 ?c22 ?k22 ?a23 ?l23 ?c23 ?k23 ?a24 ?l24 ?c24 ?k24 ?a25 ?l25 ?c25 ?k25 ?a26 ?l26 ?c26 ?k26 ?a28 ?l28 ?c28 ?k28 ?aM ?xM ?rM ?sM ?fM ?a_NotThere ?x_NotThere ?l_NotThere ?n_NotThere ?e_NotThere ?d_NotThere ?k_NotThere ?fn_NotThere ?kp_NotThere ?nf_NotThere ?a_TooMany ?x_TooMany ?l_TooMany ?n_TooMany ?kp_TooMany ?oa_Cut ?og_Cut ?oh_Cut ?oo_Cut ?os_Cut ?on_Cut_road ?om_Cut ?oi_Cut ?of_Cut ?ok_Cut ?ol_Cut ?oc_Cut ?ob_Cut ?a27 ?l27 ?c27 ?k27 ?i27 ?q_MOST_ENDS ?q_MOST_BARE_PLACES ?z0 ?z1 ?z2 ?z3 ?z4 ?z5 ?z6 ?z7 ?z8 ?z9 ?z10 ?z11 ?z12 ?z13 ?z14 ?z15
  (case a0=>k_is);(case l0=>k_is);(case c0=>k_is);(case k0=>k_is)
  (case a1=>k_is);(case l1=>k_is);(case c1=>k_is);(case k1=>k_is)
  (case a2=>k_is);(case l2=>k_is);(case c2=>k_is);(case k2=>k_is)
  (case a3=>k_is);(case l3=>k_is);(case c3=>k_is);(case k3=>k_is)
  (case a4=>k_is);(case l4=>k_is);(case c4=>k_is);(case k4=>k_is)
  (case a5=>k_is);(case l5=>k_is);(case c5=>k_is);(case k5=>k_is)
  (case a6=>k_is);(case l6=>k_is);(case c6=>k_is);(case k6=>k_is)
  (case a7=>k_is);(case l7=>k_is);(case c7=>k_is);(case k7=>k_is)
  (case a8=>k_is);(case l8=>k_is);(case c8=>k_is);(case k8=>k_is)
  (case a9=>k_is);(case l9=>k_is);(case c9=>k_is);(case k9=>k_is)
  (case a10=>k_is);(case l10=>k_is);(case c10=>k_is);(case k10=>k_is)
  (case a11=>k_is);(case l11=>k_is);(case c11=>k_is);(case k11=>k_is)
  (case a12=>k_is);(case l12=>k_is);(case c12=>k_is);(case k12=>k_is)
  (case a13=>k_is);(case l13=>k_is);(case c13=>k_is);(case k13=>k_is)
  (case a14=>k_is);(case l14=>k_is);(case c14=>k_is);(case k14=>k_is)
  (case a15=>k_is);(case l15=>k_is);(case c15=>k_is);(case k15=>k_is)
  (case a16=>k_is);(case l16=>k_is);(case c16=>k_is);(case k16=>k_is)
  (case a17=>k_is);(case l17=>k_is);(case c17=>k_is);(case k17=>k_is)
  (case a18=>k_is);(case l18=>k_is);(case c18=>k_is);(case k18=>k_is)
  (case a19=>k_is);(case l19=>k_is);(case c19=>k_is);(case k19=>k_is)
  (case a20=>k_is);(case l20=>k_is);(case c20=>k_is);(case k20=>k_is)
  (case a21=>k_is);(case l21=>k_is);(case c21=>k_is);(case k21=>k_is)
  (case a22=>k_is);(case l22=>k_is);(case c22=>k_is);(case k22=>k_is)
  (case a23=>k_is);(case l23=>k_is);(case c23=>k_is);(case k23=>k_is)
  (case a24=>k_is);(case l24=>k_is);(case c24=>k_is);(case k24=>k_is)
  (case a25=>k_is);(case l25=>k_is);(case c25=>k_is);(case k25=>k_is)
  (case a26=>k_is);(case l26=>k_is);(case c26=>k_is);(case k26=>k_is)
  (case a28=>k_is);(case l28=>k_is);(case c28=>k_is);(case k28=>k_is)
  (case aM=>k_is);(case xM=>kernel_rfl)
  (case rM=>k_is);(case sM=>k_is);(case fM=>k_is)
  (case a_NotThere=>k_is);(case x_NotThere=>kernel_rfl);(case l_NotThere=>kernel_rfl)
  (case n_NotThere=>k_is);(case e_NotThere=>k_is);(case d_NotThere=>k_is);(case k_NotThere=>k_is);(case fn_NotThere=>k_is);(case kp_NotThere=>k_is);(case nf_NotThere=>k_is)
  (case a_TooMany=>k_is);(case x_TooMany=>kernel_rfl);(case l_TooMany=>kernel_rfl)
  (case n_TooMany=>first|k_is|kernel_rfl);(case kp_TooMany=>k_is)
  (case oa_Cut=>k_is);(case og_Cut=>first|k_is|kernel_rfl);(case oh_Cut=>first|k_is|kernel_rfl);(case oo_Cut=>first|k_is|kernel_rfl);(case os_Cut=>first|k_is|kernel_rfl)
  (case on_Cut_road=>first|k_is|kernel_rfl)
  (case om_Cut=>first|k_is|kernel_rfl);(case oi_Cut=>first|k_is|kernel_rfl);(case of_Cut=>first|k_is|kernel_rfl);(case ok_Cut=>first|k_is|kernel_rfl);(case ol_Cut=>first|k_is|kernel_rfl);(case oc_Cut=>first|k_is|kernel_rfl);(case ob_Cut=>first|k_is|kernel_rfl)
  (case a27=>k_is);(case l27=>k_is);(case c27=>k_is);(case k27=>k_is);(case i27=>k_is)
  (case q_MOST_ENDS=>k_is)
  (case q_MOST_BARE_PLACES=>k_is)
  (case z0=>k_is);(case z1=>k_is);(case z2=>k_is);(case z3=>k_is);(case z4=>k_is);(case z5=>k_is);(case z6=>k_is);(case z7=>k_is);(case z8=>k_is);(case z9=>k_is);(case z10=>k_is);(case z11=>k_is);(case z12=>k_is);(case z13=>k_is);(case z14=>k_is);(case z15=>k_is)

import PyProof.Rows.All
import Wide.All
import OpenK.AllK
import Wide.FinOn
import Lean
import PyProof.EqAt
import PyProof.EqKinds
import PyProof.TupleCall
import KE.KIntText
import PyProof.ConsumeWalk
import PySem.Challenge.RW_mapround_k74_whole_least_told
set_option Elab.async false
set_option linter.all false
set_option maxRecDepth 100000
set_option maxHeartbeats 4000000
open Option renaming bind_eq_some_iff -> oBq, map_eq_some_iff -> oMq
open List renaming getElem?_eq_some_iff -> gSq, getElem?_eq_getElem -> gEg, getD_eq_getElem?_getD -> gDq, length_append -> lAq, length_map -> lMq, mem_append -> mAq, mem_flatten -> mFq, mem_map -> mMq, getElem?_map -> gMq, mem_of_getElem? -> mGq, map_congr_left -> mCq, getElem_mem -> gRq, length_singleton -> lSq, mem_singleton -> mSq, length_take -> lTq, nodup_append -> nAq, append_nil -> aNq, flatten_append -> fAq, getElem?_append_right -> gYq, getElem?_append_left -> gZq, length_cons -> lCq, map_map -> mPq, map_append -> mBq, mem_cons_of_mem -> mCo, length_set -> lZq, flatten_cons -> fCq
open Array renaming mem_of_getElem? -> aQq
namespace L2
open PySem PySem.Spec PyProof.Rows
abbrev bJ:=Sum Int Str
def sZ:bJ->Value->Bool
 | .inl k,v=>Value.isInt k v
 | .inr x,v=>Value.isStrOf x v
def K6 (w:World):bJ->Int
 | .inl k=>hashInt k
 | .inr x=>hashStr w x
theorem cJ:∀ {k:bJ}{v:Value},sZ k v=true->(∃ i t,k=Sum.inl i/\v=Value.int i t)∨(∃ x t,k=Sum.inr x/\v=Value.str x t)
 | .inl i,v,h=>by
  obtain ⟨t,e⟩:=Value.isInt_shape (k:=i) (v:=v) h;exact .inl ⟨i,t,rfl,e⟩
 | .inr x,v,h=>by
  obtain ⟨t,e⟩:=Value.isStrOf_shape (x:=x) (v:=v) h;exact .inr ⟨x,t,rfl,e⟩
theorem zW (i:Int) (t:Tok):sZ (.inl i) (.int i t)=true:=by simp [sZ,Value.isInt]
theorem AC (x:Str) (t:Tok):sZ (.inr x) (.str x t)=true:=by simp [sZ,Value.isStrOf]
theorem Io (a b:Int):decide ((Sum.inl a:bJ)=Sum.inl b)=(a == b):=by
 by_cases e:a=b
 .subst e;simp
 .have h:¬ (Sum.inl a:bJ)=Sum.inl b:=fun q=>e (Sum.inl.inj q)
  rw [decide_eq_false h];exact (beq_eq_false_iff_ne.mpr e).symm
theorem GH (a b:Str):decide ((Sum.inr a:bJ)=Sum.inr b)=decide (a=b):=by
 by_cases e:a=b
 .subst e;simp
 .have h:¬ (Sum.inr a:bJ)=Sum.inr b:=fun q=>e (Sum.inr.inj q)
  rw [decide_eq_false h,decide_eq_false e]
theorem Gy (a:Int) (b:Str):decide ((Sum.inl a:bJ)=Sum.inr b)=false:=decide_eq_false (fun q=>nomatch q)
theorem IB (a:Str) (b:Int):decide ((Sum.inr a:bJ)=Sum.inl b)=false:=decide_eq_false (fun q=>nomatch q)
def cY (prog:Program) (w:World):PySem.KeyKind prog w bJ where
 is:=sZ
 hash:=K6 w
 inj:=fun v a b ha hb=>by
  rcases cJ ha with ⟨i,t,rfl,rfl⟩|⟨x,t,rfl,rfl⟩
  .rcases cJ hb with ⟨j,u,rfl,e⟩|⟨y,u,rfl,e⟩
   .injection e with e1 _;rw [e1]
   .exact nomatch e
  .rcases cJ hb with ⟨j,u,rfl,e⟩|⟨y,u,rfl,e⟩
   .exact nomatch e
   .injection e with e1 _;rw [e1]
 byValue:=fun k v h=>by
  rcases cJ h with ⟨i,t,rfl,rfl⟩|⟨x,t,rfl,rfl⟩ <;> rfl
 pyHash:=fun hv h=>by
  rcases cJ hv with ⟨i,t,rfl,rfl⟩|⟨x,t,rfl,rfl⟩
  .exact wpAny_pyHash_int h
  .exact wpAny_pyHash_str h
 eqBool:=fun hu hv h=>by
  rcases cJ hu with ⟨i,t,rfl,rfl⟩|⟨x,t,rfl,rfl⟩
  .rcases cJ hv with ⟨j,u,rfl,rfl⟩|⟨y,u,rfl,rfl⟩
   .rw [Io] at h;exact wpAny_eqBool_int h
   .rw [Gy] at h;exact SeqAt.EqAt.int_str i t y u _ _ _ _ h
  .rcases cJ hv with ⟨j,u,rfl,rfl⟩|⟨y,u,rfl,rfl⟩
   .rw [IB] at h;exact SeqAt.EqAt.str_int x t j u _ _ _ _ h
   .rw [GH] at h;exact wpAny_eqBool_str h
 «strs»:=fun k x t v h=>by
  rcases cJ h with ⟨i,u,rfl,e⟩|⟨y,u,rfl,e⟩
  .exact nomatch e
  .injection e with e1 _
   subst e1;cases v <;> rfl
theorem wg (prog:Program) (w:World) (i:Int) (t:Tok):(cY prog w).is (.inl i) (.int i t)=true:=zW i t
theorem wR (prog:Program) (w:World) (x:Str) (t:Tok):(cY prog w).is (.inr x) (.str x t)=true:=AC x t
end L2
namespace L2
open PySem PySem.Spec PyProof.Rows
inductive V where
 | non|bl (b:Bool)|int (i:Int)|str (x:Str)|byt (b:Array UInt8)|flt (b:UInt64)|ref (a:Addr)|ty (n:String)
 deriving DecidableEq
def bM:V->Value->Prop
 | .non,u=>u=Value.none
 | .bl b,u=>u=Value.bool b
 | .int i,u=>∃ t,u=Value.int i t
 | .str x,u=>∃ t,u=Value.str x t
 | .byt b,u=>∃ t,u=Value.bytes b t
 | .flt b,u=>∃ t,u=Value.float b t
 | .ref a,u=>u=Value.ref a
 | .ty n,u=>u=Value.type n
abbrev bu:List V->List Value->Prop:=Paired bM
theorem bu.length {xs:List V}{us:List Value}(r:bu xs us):xs.length=us.length:=Paired.length r
theorem bu.get:∀ {xs:List V}{us:List Value}{i:Nat}{x:V},bu xs us->xs[i]?=some x->∃ u,us[i]?=some u/\bM x u
 | _,_,_,_,.nil,e=>by simp at e
 | _,_,0,_,.cons r _,e=>by simp at e;subst e;exact ⟨_,rfl,r⟩
 | _,_,i+1,x,.cons _ t,e=>by
  obtain ⟨u,h1,h2⟩:=bu.get (i:=i) (x:=x) t (by simpa using e)
  exact ⟨u,by simpa using h1,h2⟩
theorem bu.set {x:V}{u:Value}(r:bM x u):∀ {xs:List V}{us:List Value}(i:Nat),bu xs us->bu (xs.set i x) (us.set i u)
 | _,_,_,.nil=>.nil
 | _,_,0,.cons _ t=>.cons r t
 | _,_,i+1,.cons q t=>.cons q (bu.set r i t)
theorem bu.append:∀ {xs ys:List V}{us ws:List Value},bu xs us->bu ys ws->bu (xs++ys) (us++ws)
 | _,_,_,_,.nil,s=>s
 | _,_,_,_,.cons r t,s=>.cons r (bu.append t s)
theorem bu.take:∀ {xs:List V}{us:List Value}(n:Nat),bu xs us->bu (xs.take n) (us.take n)
 | _,_,0,_=>.nil
 | _,_,_+1,.nil=>.nil
 | _,_,n+1,.cons r t=>.cons r (bu.take n t)
theorem bu.drop:∀ {xs:List V}{us:List Value}(n:Nat),bu xs us->bu (xs.drop n) (us.drop n)
 | _,_,0,r=>r
 | _,_,_+1,.nil=>.nil
 | _,_,n+1,.cons _ t=>bu.drop n t
def sF:Option V->Option Value->Prop
 | some v,some u=>bM v u
 | none,none=>True
 | _,_=>False
def KV {κ:Type}:List (κ×V)->List (κ×Value)->Prop:=Paired fun (p:κ×V) (q:κ×Value)=>p.1=q.1/\bM p.2 q.2
def kV:bJ->V
 | .inl i=>.int i
 | .inr x=>.str x
inductive HO where
 /-- a list -/
 | lst (xs:List V)
 /-- a tuple (never changes) -/
 | tup (xs:List V)
 /-- a dict whose keys are ints and texts;one whose keys are tuples of ints and texts (the empty one is both) -/
 | dK (kvs:List (bJ×V))|dT (kvs:List (List bJ×V))
 /-- a set of ints: its members,its size -/
 | set (S:Int->Bool) (n:Nat)
 /-- an instance of the class at C,its dict at dx,its attributes -/
 | ins (C dx:Addr) (fs:List (Str×V))
 /-- the dict of the instance at x -/
 | own (x:Addr)
 /-- the dict of an exception -/
 | xd (fs:List (Str×V))
 /-- a bound method,f of x -/
 | met (f x:Addr)
 /-- a range object lo,lo+1,.. below hi -/
 | rng (lo hi:Int)
 /-- a thing that is known to the object (the script;a dict while a loop walks it): read,never written while it is so -/
 | frz (o:Obj) (u:HO)
 /-- a code object's table -/
 | tbl (ps:Array Value)
 /-- any other thing,by what is true of its one object (a def of one's own: SetO a S n:=HO.ext fun h=>..) -/
 | ext (φ:Heap->Prop)
abbrev Hp:=Addr->Option HO
def cK (H:Hp) (a:Addr) (o:HO):Hp:=fun b=>if b=a then some o else H b
theorem bb {H:Hp}{a:Addr}{o:HO}:cK H a o a=some o:=by unfold cK;rw [if_pos rfl]
theorem aR {H:Hp}{a b:Addr}{o:HO}(h:b≠a):cK H a o b=H b:=by unfold cK;rw [if_neg h]
theorem Jy {H:Hp}{a b:Addr}{o u:HO}(h:H a=some o) (h':H b=some u) (d:o≠u):a≠b:=by
 intro e;subst e;rw [h] at h';exact d (Option.some.inj h')
theorem cO {H:Hp}{a b:Addr}{o:HO}(h:H a=some o) (h':H b=none):a≠b:=by
 intro e;subst e;rw [h] at h';cases h'
section
variable (P:Program) (w:World)
def dJ (H:Hp) (h:Heap) (a:Addr):HO->Prop
 | .lst xs=>xs.length<=sizeLine/\∃ (its:List Value) (n:Nat),bu xs its/\h.get? a=some { cls:=.type "list", data:=.seq its.toArray n }
 | .tup xs=>xs.length<=sizeLine/\∃ its:List Value,bu xs its/\IsTup h a its.toArray
 | .dK kvs=>kvs.length<=sizeLine/\(a == sysModules)=false/\∃ vs,KV kvs vs/\h.DictOf (cY P w) a vs
 | .dT kvs=>kvs.length<=sizeLine/\(a == sysModules)=false/\∃ xs:List (List bJ×Addr×Value),
   Paired (fun (p:List bJ×V) (q:List bJ×Addr×Value)=>p.1=q.1/\H q.2.1=some (.tup (p.1.map kV))/\bM p.2 q.2.2) kvs xs /\
   ∃ o es ep,h.get? a=some o/\o.ExactDict/\o.data = .dict es ep/\es.toList=xs.map (entryOfKey (tupleKind (cY P w)))/\(xs.map (·.1)).Nodup
 | .set S n=>h.SetOf (intKind P w) a S n
 | .ins C dx fs=>H dx=some (.own a)/\fs.length<=1000/\dx≠a/\h.get? a=some (W.instObj C dx) /\
   ∃ mA,h.Ns1 dx mA/\(∀ f,sF (fs.lookup f) (mA f))/\PySem.Within mA (fs.map (·.1))
 | .own _=>∃ o,h.get? a=some o
 | .xd fs=>∃ mA,h.Ns1 a mA/\∀ f,sF (fs.lookup f) (mA f)
 | .rng lo hi=>∃ t u v,h.get? a=some { cls:=.type "range", data:=.fields #[.int lo t,.int hi u,.int 1 v] }
 | .frz o u=>h.get? a=some o/\dJ H h a u
 | .tbl ps=>h.get? a=some { cls:=.none,data:=.fields ps }
 | .met f x=>h.get? a=some (W.methodObj (.ref f) (.ref x))
 | .ext φ=>φ h/\(∃ o,h.get? a=some o)/\∀ h1 h2:Heap,φ h1->(∀ o,h1.get? a=some o->h2.get? a=some o)->φ h2
def mF (H:Hp) (h:Heap):Prop:=∀ a o,H a=some o->dJ P w H h a o
end
section
variable {P:Program}{w:World}{H H':Hp}{h h':Heap}{a:Addr}{o:HO}
theorem dJ.lt (x:dJ P w H h a o):a<h.objs.size:=by
 cases o with
 | lst xs=>obtain ⟨_,_,_,_,e⟩:=x;exact Heap.lt_size e
 | tup xs=>obtain ⟨_,_,_,p⟩:=x;exact p.lt
 | dK kvs=>obtain ⟨_,_,_,_,o,_,_,e,_⟩:=x;exact Heap.lt_size e
 | dT kvs=>obtain ⟨_,_,_,_,o,_,_,e,_⟩:=x;exact Heap.lt_size e
 | set S n=>obtain ⟨o,_,_,_,e,_⟩:=x;exact Heap.lt_size e
 | ins C dx fs=>obtain ⟨_,_,_,e,_⟩:=x;exact Heap.lt_size e
 | own y=>obtain ⟨_,e⟩:=x;exact Heap.lt_size e
 | xd fs=>obtain ⟨_,⟨_,_,_,e,_⟩,_⟩:=x;exact Heap.lt_size e
 | rng lo hi=>obtain ⟨_,_,_,e⟩:=x;exact Heap.lt_size e
 | frz ob u=>obtain ⟨e,_⟩:=x;exact Heap.lt_size e
 | tbl ps=>exact Heap.lt_size (show h.get? a=some _ from x)
 | met f y=>exact Heap.lt_size (show h.get? a=some _ from x)
 | ext φ=>obtain ⟨_,⟨_,e⟩,_⟩:=x;exact Heap.lt_size e
theorem Paired.mapP {α β:Type}{F G:α->β->Prop}:∀ {l₁:List α}{l₂:List β},Paired F l₁ l₂->(∀ a b,F a b->G a b)->Paired G l₁ l₂
 | _,_,.nil,_=>.nil
 | _,_,.cons r t,f=>.cons (f _ _ r) (Paired.mapP t f)
theorem dJ.stay (x:dJ P w H h a o) (k:∀ b u,(b=a∨H b=some (.own a))->h.get? b=some u->h'.get? b=some u)
  (ho:∀ b,H b=some (.own a)->H' b=some (.own a)) (ht:∀ b xs,H b=some (.tup xs)->H' b=some (.tup xs)):dJ P w H' h' a o:=by
 induction o with
 | lst xs=>obtain ⟨z,its,n,r,e⟩:=x;exact ⟨z,its,n,r,k _ _ (.inl rfl) e⟩
 | tup xs=>obtain ⟨z,its,r,ob,e,c⟩:=x;exact ⟨z,its,r,ob,k _ _ (.inl rfl) e,c⟩
 | dK kvs=>obtain ⟨z,y,vs,r,ob,es,ep,e,c⟩:=x;exact ⟨z,y,vs,r,ob,es,ep,k _ _ (.inl rfl) e,c⟩
 | dT kvs =>
  obtain ⟨z,y,xs,r,ob,es,ep,e,c⟩:=x;exact ⟨z,y,xs,Paired.mapP r fun p q z=>⟨z.1,ht _ _ z.2.1,z.2.2⟩,ob,es,ep,k _ _ (.inl rfl) e,c⟩
 | set S n=>obtain ⟨ob,es,ep,t,e,c⟩:=x;exact ⟨ob,es,ep,t,k _ _ (.inl rfl) e,c⟩
 | ins C dx fs =>
  obtain ⟨d,z,ne,e,mA,⟨od,es,ep,e2,c⟩,r⟩:=x;exact ⟨ho _ d,z,ne,k _ _ (.inl rfl) e,mA,⟨od,es,ep,k _ _ (.inr d) e2,c⟩,r⟩
 | own y=>obtain ⟨ob,e⟩:=x;exact ⟨ob,k _ _ (.inl rfl) e⟩
 | xd fs=>obtain ⟨mA,⟨od,es,ep,e,c⟩,r⟩:=x;exact ⟨mA,⟨od,es,ep,k _ _ (.inl rfl) e,c⟩,r⟩
 | rng lo hi=>obtain ⟨t,u,v,e⟩:=x;exact ⟨t,u,v,k _ _ (.inl rfl) e⟩
 | frz ob u ih=>obtain ⟨e,q⟩:=x;exact ⟨k _ _ (.inl rfl) e,ih q⟩
 | tbl ps =>
  have e:h.get? a=some { cls:=.none,data:=.fields ps }:=x;show h'.get? a=some { cls:=.none,data:=.fields ps };exact k a _ (.inl rfl) e
 | met f y =>
  have e:h.get? a=some (W.methodObj (.ref f) (.ref y)):=x;show h'.get? a=some (W.methodObj (.ref f) (.ref y));exact k a _ (.inl rfl) e
 | ext φ=>obtain ⟨p,⟨o,e⟩,st⟩:=x;exact ⟨st _ _ p fun o q=>k _ _ (.inl rfl) q,⟨o,k _ _ (.inl rfl) e⟩,st⟩
theorem mF.lt (x:mF P w H h) (e:H a=some o):a<h.objs.size:=(x a o e).lt
theorem mF.fresh (x:mF P w H h) (e:h.objs.size<=a):H a=none:=by
 cases q:H a with
 | none=>rfl
 | some u=>exact absurd (Nat.lt_of_lt_of_le (x.lt q) e) (Nat.lt_irrefl _)
theorem mF.kept (x:mF P w H h) (k:∀ b u,h.get? b=some u->h'.get? b=some u):mF P w H h':=fun a o e =>
 (x a o e).stay (fun b u _ q=>k b u q) (fun _ q=>q) fun _ _ q=>q
theorem mF.laid (x:mF P w H h) (k:∀ b u,h.get? b=some u->h'.get? b=some u) (hp:h.objs.size<=a) (new:dJ P w (cK H a o) h' a o):mF P w (cK H a o) h':=fun b u e=>by
 have hn:=x.fresh hp
 by_cases hb:b=a
 .subst hb;rw [bb] at e;cases e;exact new
 .rw [aR hb] at e;exact (x b u e).stay (fun c v _ q=>k c v q) (fun c q=>by rw [aR (cO q hn)];exact q) fun c xs q=>by rw [aR (cO q hn)];exact q
end
def Rd (H:Hp) (a:Addr) (u:HO):Prop:=H a=some u∨∃ o,H a=some (.frz o u)
theorem Rd.ok {P:Program}{w:World}{H:Hp}{h:Heap}{a:Addr}{u:HO}(r:Rd H a u) (x:mF P w H h):dJ P w H h a u:=by
 rcases r with r|⟨o,r⟩
 .exact x a u r
 .obtain ⟨_,q⟩:=x a _ r;exact q
def Kf:Option HO->Prop
 | some (.lst _)=>True
 | some (.dK _)=>True
 | some (.dT _)=>True
 | some (.set _ _)=>True
 | some (.ins _ _ _)=>True
 | some (.ext _)=>True
 | _=>False
section
variable {P:Program}{w:World}{H:Hp}{h h':Heap}{x e:Addr}{o':HO}
theorem mF.write (ok:mF P w H h) (mu:Kf (H x)) (he:e=x∨H e=some (.own x)) (k:∀ b u,b≠e->h.get? b=some u->h'.get? b=some u) (heo:∃ u,h'.get? e=some u)
  (new:dJ P w (cK H x o') h' x o'):mF P w (cK H x o') h':=fun b u q=>by
 have nown:∀ c y,H c=some (.own y)->c≠x:=fun c y r z=>by subst z;rw [r] at mu;exact mu
 have ntup:∀ c xs,H c=some (.tup xs)->c≠x:=fun c xs r z=>by subst z;rw [r] at mu;exact mu
 by_cases hb:b=x
 .subst hb;rw [bb] at q;cases q;exact new
 .rw [aR hb] at q
  by_cases hbe:b=e
  .have q':H b=some (.own x):=by
    rcases he with z|z
    .exact absurd (hbe.trans z) hb
    .rw [hbe];exact z
   rw [q] at q';cases q';obtain ⟨v,hv⟩:=heo;exact ⟨v,by rw [hbe];exact hv⟩
  .refine (ok b u q).stay (fun c v hc r=>k c v ?_ r) (fun c r=>by rw [aR (nown c b r)];exact r) fun c xs r=>by rw [aR (ntup c xs r)];exact r
   rcases hc with rfl|hc
   .exact hbe
   .rintro rfl;rcases he with z|z
    .exact nown c b hc z
    .rw [hc] at z;cases z;exact hb rfl
end
structure Un (fs ex:List Addr) (H H':Hp) (h h':Heap):Prop where
 keep:∀ b o,h.get? b=some o->H b=none->b∉fs->b∉ex->h'.get? b=some o
 slot:∀ b o,h.get? b=some o->H b=none->b∈fs->b∉ex->∃ sl,h'.get? b=some { o with slots:=sl }
 free:∀ b o,h.get? b=some o->H b=none->b∉ex->H' b=none
 there:∀ b o,h.get? b=some o->b∉ex->∃ o',h'.get? b=some o'
 tups:∀ b xs,H b=some (.tup xs)->H' b=some (.tup xs)
 frzs:∀ b o u,H b=some (.frz o u)->H' b=some (.frz o u)
 tbls:∀ b ps,H b=some (.tbl ps)->∃ more,H' b=some (.tbl (ps++more))
section
variable {fs fs' ex ex':List Addr}{H H1 H2:Hp}{h h1 h2 h':Heap}{a x e:Addr}{o:HO}
theorem Un.any (u:Un fs ex H H1 h h1) {b:Addr}{ob:Obj}(q:h.get? b=some ob) (n:H b=none) (hx:b∉ex):∃ sl,h1.get? b=some { ob with slots:=sl }:=by
 by_cases hb:b∈fs
 .exact u.slot b ob q n hb hx
 .exact ⟨ob.slots,u.keep b ob q n hb hx⟩
theorem Un.kept (k:∀ b u,h.get? b=some u->h'.get? b=some u):Un fs ex H H h h' :=
 ⟨fun b ob q _ _ _=>k b ob q,fun b ob q _ _ _=>⟨ob.slots,k b ob q⟩,fun _ _ _ n _=>n,fun b ob q _=>⟨ob,k b ob q⟩,fun _ _ q=>q,fun _ _ _ q=>q,fun _ ps q=>⟨#[],by rw [q];simp⟩⟩
theorem Un.refl:Un fs ex H H h h:=Un.kept fun _ _ q=>q
theorem Un.laid (k:∀ b u,h.get? b=some u->h'.get? b=some u) (hp:h.objs.size<=a) (hn:H a=none):Un fs ex H (cK H a o) h h' where
 keep:=fun b u q _ _ _=>k b u q
 slot:=fun b u q _ _ _=>⟨u.slots,k b u q⟩
 free:=fun b u q n _=>by rw [aR (Nat.ne_of_lt (Nat.lt_of_lt_of_le (Heap.lt_size q) hp))];exact n
 there:=fun b u q _=>⟨u,k b u q⟩
 tups:=fun b xs q=>by rw [aR (cO q hn)];exact q
 frzs:=fun b u xs q=>by rw [aR (cO q hn)];exact q
 tbls:=fun b ps q=>⟨#[],by rw [aR (cO q hn),q];simp⟩
theorem Un.write (mu:Kf (H x)) (he:e=x∨H e=some (.own x)) (k:∀ b u,b≠e->h.get? b=some u->h'.get? b=some u) (heo:∃ u,h'.get? e=some u):Un fs ex H (cK H x o) h h':=by
 have hx:∀ b,H b=none->b≠x:=fun b n z=>by subst z;rw [n] at mu;exact mu
 have hb:∀ b,H b=none->b≠e:=fun b n z=>by
  subst z;rcases he with r|r
  .exact hx b n r
  .rw [n] at r;cases r
 have hm:∀ b u,H b=some u->¬ Kf (some u)->b≠x:=fun b u q nm z=>by subst z;rw [q] at mu;exact nm mu
 refine ⟨fun b u q n _ _=>k b u (hb b n) q,fun b u q n _ _=>⟨u.slots,k b u (hb b n) q⟩,fun b u q n _=>by rw [aR (hx b n)];exact n,fun b u q _=>?_,
  fun b xs q=>by rw [aR (hm b _ q fun z=>z)];exact q,fun b u xs q=>by rw [aR (hm b _ q fun z=>z)];exact q,fun b ps q=>⟨#[],by rw [aR (hm b _ q fun z=>z),q];simp⟩⟩
 by_cases hbe:b=e
 .subst hbe;exact heo
 .exact ⟨u,k b u hbe q⟩
end
def KZ (h:Heap) (H:Hp):List Addr:=(List.range h.objs.size).filter fun a=>(H a).isSome
def uI (h:Heap) (H:Hp):Heap:=W.hideAll h (KZ h H)
theorem zZ (h:Heap) (H:Hp):(uI h H).objs.size=h.objs.size:=W.hideAll_size _ _
theorem C7 {h:Heap}{H:Hp}{b:Addr}{o:Obj}(e:h.get? b=some o) (n:H b=none):(uI h H).get? b=some o :=
 W.hideAll_get _ e fun hm=>by
  have q:(H b).isSome=true:=(List.mem_filter.mp hm).2;rw [n] at q;simp at q
theorem Ee {h:Heap}{H:Hp}{b:Addr}{o:Obj}(e:(uI h H).get? b=some o):h.get? b=some o/\H b=none:=by
 have e':h.get? b=some o:=W.of_hideAll (KZ h H) e;refine ⟨e',?_⟩;cases q:H b with
 | none=>rfl
 | some x =>
  have hm:b∈KZ h H:=List.mem_filter.mpr ⟨List.mem_range.mpr (Heap.lt_size e'),by simp [q]⟩
  have z:(uI h H).get? b=none:=W.hideAll_none (KZ h H) hm;rw [z] at e;cases e
def Fc (g h:Heap) (L:Addr):List (Addr×Obj):=(List.range h.objs.size).filterMap fun a=>if a=L∨(g.get? a).isSome=true then none else (h.get? a).map fun o=>(a,o)
def fZ (g h:Heap) (L d:Addr):List (Addr×Obj):=(Fc g h L).filter fun p=>decide (p.1≠d)
end L2
namespace L2
open PySem PySem.Spec PyProof.Rows
structure Mod (K:W.Frag) (mg:Str->Option Value) (base:Heap):Prop where
 kin:K.In base
 glob:base.Ns mainGlobals mg
 blt:∃ mb,base.Ns builtinsNs mb/\∀ x:Str,x ≠ "__name__" -> mb x=bootBuiltins x
 nolimit:base.NoLimit
structure Cx where
 prog:Program
 w:World
 K:W.Frag
 mg:Str->Option Value
 base:Heap
 A:Around
 N:List Str
 s₀:Shared
 H₀:Hp
 env:Env
 outer:List Env
 stack:List Env
 ex:List Addr
 fn:Str->Bool
 calm:Bool
 pn:List (Addr×Obj)
 xe:Value->Shared->Prop
def Cs (l:List Env):List Addr:=l.filterMap (·.frame)
abbrev Cx.fs (X:Cx):List Addr:=Cs X.outer
def KQ (sc:Scope) (x:Str):Prop:=sc.names.lookup x=some .local∨sc.names.lookup x=some .cell∨sc.names.lookup x=some .free
def IM (sc:Scope) (x:Str):Prop:=sc.names.lookup x=some .local∨sc.names.lookup x=some .cell
def Ly (env:Env) (h:Heap) (m:Str->Option Value) (x:Str) (u:Value):Prop :=
 (env.kindOf x=some .local/\m x=some u)∨((env.kindOf x=some .cell∨env.kindOf x=some .free)/\∃ c,env.cells.lookup x=some c/\h.IsCell c (some u))
structure Cx.Ok (X:Cx):Prop where
 mod:Mod X.K X.mg X.base
 kind:X.env.scope.kind = .function
 glob:X.env.globals=mainGlobals
 blt:X.env.builtins=builtinsNs
 above:X.s₀.heap.objs.size<=X.env.locals
 inj:∀ x y c,X.env.cells.lookup x=some c->X.env.cells.lookup y=some c->x=y
 has:∀ x,(X.env.kindOf x=some .cell∨X.env.kindOf x=some .free)->∃ c,X.env.cells.lookup x=some c
 cab:∀ x c,X.fn x=true->X.env.cells.lookup x=some c->X.s₀.heap.objs.size<=c
 hd:X.calm=true->X.A.handled=none
 frames:X.A.frames=some X.stack
 stk:X.stack=X.outer∨(X.stack=X.env::X.outer/\X.env.frame=some X.env.locals)
 exf:∀ b∈X.ex,b≠X.env.locals/\∀ x c,X.env.cells.lookup x=some c->c≠b
 bs:∀ b o,X.base.get? b=some o->X.s₀.heap.get? b=some o/\X.H₀ b=none
 bsz:X.base.objs.size<=X.s₀.heap.objs.size
 noex:∀ b o,X.base.get? b=some o->b∉X.ex
 exfs:∀ b∈X.ex,b∉X.fs
 funs:X.s₀.heap.FunFrames X.base X.outer
 frf:∀ b∈X.fs,X.H₀ b=none
structure aO (X:Cx) (ab:List (Addr×Obj)) (σ:List (Option V)) (H:Hp) (s:Shared):Prop where
 ok:X.Ok
 os:s.os=X.s₀.os
 bare:AllBare s.gens
 base:Un X.fs X.ex X.H₀ H X.s₀.heap s.heap
 loc:∃ m,s.heap.Ns X.env.locals m/\∀ (i:Nat) (x:Str) (v:V),X.N[i]?=some x->σ[i]?=some (some v)->KQ X.env.scope x->∃ u,bM v u/\Ly X.env s.heap m x u
 cell:∀ x c,X.env.cells.lookup x=some c->∃ v,s.heap.IsCell c v
 free:H X.env.locals=none
 freeC:∀ x c,X.env.cells.lookup x=some c->H c=none
 pin:∀ p∈X.pn++ab,s.heap.get? p.1=some p.2/\H p.1=none/\p.1≠X.env.locals/\p.1∉X.fs/\∀ v,p.2.data ≠ .cell v
 hok:mF X.prog X.w H s.heap
 len:σ.length=X.N.length
section
variable {X:Cx}{ab:List (Addr×Obj)}{σ:List (Option V)}{H H':Hp}{s:Shared}{h':Heap}
theorem Cx.Ok.nofr (ok:X.Ok) {b:Addr}{o:Obj}(e:X.base.get? b=some o):b∉X.fs:=fun hb=>by
 have:=(ok.funs.mem hb).1;rw [e] at this;cases this
theorem aO.bs (I:aO X ab σ H s):∀ b o,X.base.get? b=some o->s.heap.get? b=some o/\H b=none:=fun b o e =>
 ⟨I.base.keep b o (I.ok.bs b o e).1 (I.ok.bs b o e).2 (I.ok.nofr e) (I.ok.noex b o e),I.base.free b o (I.ok.bs b o e).1 (I.ok.bs b o e).2 (I.ok.noex b o e)⟩
theorem aO.bk (I:aO X ab σ H s):∀ b o,X.base.get? b=some o->s.heap.get? b=some o:=fun b o e=>(I.bs b o e).1
theorem aO.mod (I:aO X ab σ H s):Mod X.K X.mg X.base:=I.ok.mod
theorem aO.kIn (I:aO X ab σ H s):X.K.In s.heap:=I.ok.mod.kin.keeps I.bk
theorem aO.lt (I:aO X ab σ H s):X.env.locals<s.heap.objs.size:=let ⟨_,hn,_⟩:=I.loc;hn.lt
theorem aO.sz (I:aO X ab σ H s):X.s₀.heap.objs.size<=s.heap.objs.size:=Nat.le_trans I.ok.above (Nat.le_of_lt I.lt)
theorem aO.nofs (I:aO X ab σ H s) {a:Addr}(h:s.heap.objs.size<=a):a∉X.fs:=fun hb=>by
 obtain ⟨_,o,ho,_⟩:=I.ok.funs.mem hb;exact absurd (Nat.lt_of_lt_of_le (Heap.lt_size ho) (Nat.le_trans I.sz h)) (Nat.lt_irrefl _)
theorem aO.cne (I:aO X ab σ H s):∀ x c,X.env.cells.lookup x=some c->c≠X.env.locals:=fun x c e z=>by
 obtain ⟨v,o,ho,hd⟩:=I.cell x c e;obtain ⟨m,⟨o',es,ep,ho',hd',_⟩,_⟩:=I.loc;rw [z,ho'] at ho;cases ho;rw [hd'] at hd;cases hd
theorem aO.funs (I:aO X ab σ H s):s.heap.FunFrames X.base X.outer:=by
 have all:∀ (l:List Env),(∀ b∈Cs l,b∈X.fs)->X.s₀.heap.FunFrames X.base l->s.heap.FunFrames X.base l:=by
  intro l
  induction l with
  | nil=>intro _ _;trivial
  | cons env r ih =>
   intro hs hl;obtain ⟨hk,⟨L,o,hf,hn,ho,hd⟩,hr⟩:=hl;have hL:L∈X.fs:=hs L (by unfold Cs;rw [List.filterMap_cons,hf];exact List.mem_cons_self)
   obtain ⟨sl,e⟩:=I.base.slot L o ho (I.ok.frf L hL) hL fun z=>I.ok.exfs L z hL
   exact ⟨hk,⟨L,_,hf,hn,e,hd⟩,ih (fun b hb=>hs b (by unfold Cs;rw [List.filterMap_cons,hf];exact mCo _ hb)) hr⟩
 exact all X.outer (fun _ hb=>hb) I.ok.funs
theorem aO.stack (I:aO X ab σ H s):s.heap.FunFrames X.base X.stack:=by
 rcases I.ok.stk with e|⟨e,hf⟩
 .rw [e];exact I.funs
 .rw [e];obtain ⟨m,hn,_⟩:=I.loc;refine .cons (by rw [I.ok.kind];decide) hf hn ?_ I.funs
  exact Heap.get?_none_of_le (Nat.le_trans I.ok.bsz I.ok.above)
theorem aO.stkSub (I:aO X ab σ H s):∀ b∈Cs X.stack,b∈X.env.locals::X.fs:=fun b hb=>by
 rcases I.ok.stk with e|⟨e,hf⟩
 .rw [e] at hb;exact mCo _ hb
 .rw [e] at hb;unfold Cs at hb;rw [List.filterMap_cons,hf] at hb;exact hb
theorem aO.stkFree (I:aO X ab σ H s):∀ b∈Cs X.stack,H b=none:=fun b hb=>by
 rcases List.mem_cons.mp (I.stkSub b hb) with e|hb
 .rw [e];exact I.free
 .obtain ⟨_,o,ho,_⟩:=I.ok.funs.mem hb;exact I.base.free b o ho (I.ok.frf b hb) fun z=>I.ok.exfs b z hb
theorem aO.step {g':Array GenState}{t':Nat}{d':Drawn}{ch:List Addr}(I:aO X ab σ H s)
  (hch:∀ b∈ch,(b∈X.ex∨X.s₀.heap.objs.size<=b)/\b≠X.env.locals/\(∀ x c,X.env.cells.lookup x=some c->c≠b)/\∀ p∈X.pn++ab,p.1≠b)
  (keep:∀ b o,b≠X.env.locals->b∉X.fs->b∉ch->s.heap.get? b=some o->H b=none->h'.get? b=some o)
  (slot:∀ b o,b≠X.env.locals->b∈X.fs->b∉ch->s.heap.get? b=some o->H b=none->∃ sl,h'.get? b=some { o with slots:=sl }) (free:∀ b o,b∉ch->s.heap.get? b=some o->H b=none->H' b=none)
  (there:∀ b o,b∉ch->s.heap.get? b=some o->∃ o',h'.get? b=some o')
  (tups:∀ b xs,H b=some (.tup xs)->H' b=some (.tup xs)) (frzs:∀ b o u,H b=some (.frz o u)->H' b=some (.frz o u)) (tbls:∀ b ps,H b=some (.tbl ps)->∃ more,H' b=some (.tbl (ps++more)))
  (ns:∀ m,s.heap.Ns X.env.locals m->h'.Ns X.env.locals m) (hok:mF X.prog X.w H' h') (hg:AllBare g') :
  aO X ab σ H' { s with heap:=h',gens:=g',drawn:=d',toks:=t' }:=by
 have neL:∀ b o,X.s₀.heap.get? b=some o->b≠X.env.locals:=fun b o e=>Nat.ne_of_lt (Nat.lt_of_lt_of_le (Heap.lt_size e) I.ok.above)
 have neC:∀ b o,X.s₀.heap.get? b=some o->b∉X.ex->b∉ch:=fun b o e hx hb=>by
  rcases (hch b hb).1 with z|z
  .exact hx z
  .exact absurd (Nat.lt_of_lt_of_le (Heap.lt_size e) z) (Nat.lt_irrefl _)
 have cellK:∀ x c,X.env.cells.lookup x=some c->∀ v,s.heap.IsCell c v->h'.IsCell c v:=fun x c e v ⟨o,ho,hd⟩=>by
  have nch:c∉ch:=fun z=>(hch c z).2.2.1 x c e rfl
  by_cases hc:c∈X.fs
  .obtain ⟨sl,q⟩:=slot c o (I.cne x c e) hc nch ho (I.freeC x c e);exact ⟨_,q,hd⟩
  .exact ⟨o,keep c o (I.cne x c e) hc nch ho (I.freeC x c e),hd⟩
 refine ⟨I.ok,I.os,hg,⟨fun b o e n hb hx=>?_,fun b o e n hb hx=>?_,fun b o e n hx=>?_,fun b o e hx=>?_,fun b xs e=>tups b xs (I.base.tups b xs e),fun b o xs e=>frzs b o xs (I.base.frzs b o xs e),fun b ps e=>?_⟩,?_,fun x c e=>?_,?_,fun x c e=>?_,fun p hp=>?_,hok,I.len⟩
 .exact keep b o (neL b o e) hb (neC b o e hx) (I.base.keep b o e n hb hx) (I.base.free b o e n hx)
 .obtain ⟨sl,e1⟩:=I.base.slot b o e n hb hx;obtain ⟨sl',e2⟩:=slot b _ (neL b o e) hb (neC b o e hx) e1 (I.base.free b o e n hx);exact ⟨sl',e2⟩
 .obtain ⟨o',e1⟩:=I.base.there b o e hx;exact free b o' (neC b o e hx) e1 (I.base.free b o e n hx)
 .obtain ⟨o',e1⟩:=I.base.there b o e hx;exact there b o' (neC b o e hx) e1
 .obtain ⟨m1,e1⟩:=I.base.tbls b ps e;obtain ⟨m2,e2⟩:=tbls b _ e1;exact ⟨m1++m2,by rw [e2,Array.append_assoc]⟩
 .obtain ⟨m,hn,hl⟩:=I.loc;refine ⟨m,ns m hn,fun i x v e1 e2 e3=>?_⟩
  obtain ⟨u,r,l⟩:=hl i x v e1 e2 e3;refine ⟨u,r,?_⟩;rcases l with l|⟨k,c,e,z⟩
  .exact .inl l
  .exact .inr ⟨k,c,e,cellK x c e _ z⟩
 .obtain ⟨v,z⟩:=I.cell x c e;exact ⟨v,cellK x c e v z⟩
 .obtain ⟨m,⟨o,_,_,ho,_⟩,_⟩:=I.loc;exact free _ o (fun z=>(hch _ z).2.1 rfl) ho I.free
 .obtain ⟨v,o,ho,hd⟩:=I.cell x c e;exact free c o (fun z=>(hch c z).2.2.1 x c e rfl) ho (I.freeC x c e)
 .obtain ⟨e,n,ne,nf,d⟩:=I.pin p hp;have nch:p.1∉ch:=fun z=>(hch p.1 z).2.2.2 p hp rfl
  exact ⟨keep p.1 p.2 ne nf nch e n,free p.1 p.2 nch e n,ne,nf,d⟩
theorem aO.un {t':Nat}(I:aO X ab σ H s) (u:Un X.fs [] H H' s.heap h') (hok:mF X.prog X.w H' h'):aO X ab σ H' { s with heap:=h',toks:=t' }:=by
 obtain ⟨m,⟨o,es,ep,ho,r⟩,_⟩:=id I.loc;obtain ⟨sl,hL⟩:=u.any ho I.free (by simp)
 exact I.step (g':=s.gens) (d':=s.drawn) (ch:=[]) (fun _ z=>nomatch z) (fun b o _ hb _ e n=>u.keep b o e n hb (by simp)) (fun b o _ hb _ e n=>u.slot b o e n hb (by simp)) (fun b o _ e n=>u.free b o e n (by simp)) (fun b o _ e=>u.there b o e (by simp)) u.tups u.frzs u.tbls (fun m' hm=>by
  obtain ⟨o',es',ep',ho',r'⟩:=hm;rw [ho] at ho';cases ho';exact ⟨_,es',ep',hL,r'⟩) hok I.bare
theorem aO.call {g':Array GenState}{t':Nat}{d':Drawn}{ch:List Addr}(I:aO X ab σ H s) (u:Un (Cs X.stack) ch H H' s.heap h') (hok:mF X.prog X.w H' h') (hg:AllBare g')
  (hch:∀ b∈ch,(b∈X.ex∨X.s₀.heap.objs.size<=b)/\b≠X.env.locals/\(∀ x c,X.env.cells.lookup x=some c->c≠b)/\∀ p∈X.pn++ab,p.1≠b) :
  aO X ab σ H' { s with heap:=h',gens:=g',drawn:=d',toks:=t' }:=by
 obtain ⟨m,⟨o,es,ep,ho,r⟩,_⟩:=id I.loc;obtain ⟨sl,hL⟩:=u.any ho I.free fun z=>(hch _ z).2.1 rfl
 exact I.step (ch:=ch) hch (fun b o hL hb hc e n=>u.keep b o e n (fun z=>(List.mem_cons.mp (I.stkSub b z)).elim hL hb) hc) (fun b o _ _ hc e n=>u.any e n hc) (fun b o hc e n=>u.free b o e n hc) (fun b o hc e=>u.there b o e hc) u.tups u.frzs u.tbls (fun m' hm=>by
  obtain ⟨o',es',ep',ho',r'⟩:=hm;rw [ho] at ho';cases ho';exact ⟨_,es',ep',hL,r'⟩) hok hg
theorem aO.turned {t':Nat}{it:Addr}(I:aO X ab σ H s) (k:∀ b o,b≠it->s.heap.get? b=some o->h'.get? b=some o) (hn:H it=none) (hL:it≠X.env.locals)
  (h1:it∈X.ex∨X.s₀.heap.objs.size<=it) (h2:∀ x c,X.env.cells.lookup x=some c->c≠it) (h3:∀ p∈X.pn++ab,p.1≠it):aO X ab σ H { s with heap:=h',toks:=t' }:=by
 have nit:∀ b u,H b=some u->b≠it:=fun b u e z=>by rw [z,hn] at e;cases e
 refine I.step (g':=s.gens) (d':=s.drawn) (ch:=[it]) (fun b hb=>?_) (fun b o _ _ hc e _=>k b o (fun z=>hc (by simp [z])) e) (fun b o _ _ hc e _=>⟨o.slots,k b o (fun z=>hc (by simp [z])) e⟩) (fun _ _ _ _ n=>n)
  (fun b o hc e=>⟨o,k b o (fun z=>hc (by simp [z])) e⟩) (fun _ _ e=>e) (fun _ _ _ e=>e) (fun b ps e=>⟨#[],by rw [e];simp⟩) (fun m hm=>?_) (fun b u e=>?_) I.bare
 .have e:b=it:=by simpa using hb
  subst e;exact ⟨h1,hL,h2,h3⟩
 .obtain ⟨o,es,ep,ho,r⟩:=hm;exact ⟨o,es,ep,k _ o (Ne.symm hL) ho,r⟩
 .refine (I.hok b u e).stay (fun c v hc q=>k c v ?_ q) (fun _ q=>q) fun _ _ q=>q
  rcases hc with z|z
  .rw [z];exact nit b u e
  .exact nit c _ z
theorem aO.tok (I:aO X ab σ H s) (t:Nat):aO X ab σ H { s with toks:=t }:=I.un (h':=s.heap) (t':=t) Un.refl I.hok
theorem aO.kept {t':Nat}(I:aO X ab σ H s) (k:∀ b u,s.heap.get? b=some u->h'.get? b=some u):aO X ab σ H { s with heap:=h',toks:=t' }:=I.un (Un.kept k) (I.hok.kept k)
theorem aO.laid {a:Addr}{o:HO}{t':Nat}(I:aO X ab σ H s) (k:∀ b u,s.heap.get? b=some u->h'.get? b=some u) (hp:s.heap.objs.size<=a) (new:dJ X.prog X.w (cK H a o) h' a o) :
  aO X ab σ (cK H a o) { s with heap:=h',toks:=t' }:=I.un (Un.laid k hp (I.hok.fresh hp)) (I.hok.laid k hp new)
theorem aO.write {x e:Addr}{o:HO}{t':Nat}(I:aO X ab σ H s) (mu:Kf (H x)) (he:e=x∨H e=some (.own x)) (k:∀ b u,b≠e->s.heap.get? b=some u->h'.get? b=some u) (heo:∃ u,h'.get? e=some u)
  (new:dJ X.prog X.w (cK H x o) h' x o):aO X ab σ (cK H x o) { s with heap:=h',toks:=t' }:=I.un (Un.write mu he k heo) (I.hok.write mu he k heo new)
theorem aO.pins_of {pins':List (Addr×Obj)}(I:aO X ab σ H s) (h:∀ p∈pins',s.heap.get? p.1=some p.2/\H p.1=none/\p.1≠X.env.locals/\p.1∉X.fs/\∀ v,p.2.data ≠ .cell v):aO X pins' σ H s :=
 ⟨I.ok,I.os,I.bare,I.base,I.loc,I.cell,I.free,I.freeC,fun p hp=>(mAq.mp hp).elim (fun z=>I.pin p (List.mem_append_left _ z)) (h p),I.hok,I.len⟩
theorem vh {N:List Str}(hN:N.Nodup) {i j:Nat}{x:Str}(a:N[i]?=some x) (b:N[j]?=some x):i=j:=by
 obtain ⟨h1,e1⟩:=gSq.mp a;obtain ⟨h2,e2⟩:=gSq.mp b;exact (List.getElem_inj hN).mp (e1.trans e2.symm)
theorem An {M:Model}{A:Around}{E:Value->Shared->Prop}{i:Nat}{x:Str}{v:V}{u:Value}{Q:Unit->Shared->Prop}(I:aO X ab σ H s) (hN:X.N.Nodup) (hi:X.N[i]?=some x) (hx:IM X.env.scope x) (r:bM v u)
  (h:∀ s',aO X ab (σ.set i (some v)) H s'->(∃ a,Heap.SameBut a s.heap s'.heap/\(a=X.env.locals∨X.env.cells.lookup x=some a))->Q () s') (hf:X.fn x=true∨X.env.scope.names.lookup x=some .local:=by first|exact .inl rfl|exact .inr rfl|assumption):wpAny M A (storeName X.env x u) Q E s:=by
 obtain ⟨m,hn,hl⟩:=id I.loc;have hcls:(X.env.scope.kind == .class || (X.env.scope.kind == .module && X.env.locals != X.env.globals))=false:=by rw [I.ok.kind];rfl
 have hiσ:i<σ.length:=by rw [I.len];exact (gSq.mp hi).1
 have cne:=I.cne;have tracked:∀ {a:Addr}{h':Heap},(∃ o,s.heap.get? a=some o/\H a=none)->Heap.SameBut a s.heap h'->mF X.prog X.w H h':=fun {a h'} ha hs b ob e=>by
  obtain ⟨_,_,hfree⟩:=ha;refine (I.hok b ob e).stay (fun c w' hc q=>(hs.2 c ?_).trans q) (fun _ q=>q) fun _ _ q=>q
  rintro rfl;rcases hc with rfl|hc
  .rw [hfree] at e;cases e
  .rw [hfree] at hc;cases hc
 rcases hx with hk|hk
 .refine wpAny_storeName_local hk hn (fun h' hn' hs=>?_) hcls
  obtain ⟨oL,_,_,hoL,_⟩:=id hn;refine h _ ⟨I.ok,I.os,I.bare,⟨fun b o e n hb hx=>?_,fun b o e n hb hx=>?_,I.base.free,fun b o e hx=>?_,I.base.tups,I.base.frzs,I.base.tbls⟩,⟨_,hn',fun j y v' e1 e2 e3=>?_⟩,fun y c e=>?_,I.free,I.freeC,fun p hp=>?_,tracked ⟨oL,hoL,I.free⟩ hs,by simpa using I.len⟩ ⟨_,hs,.inl rfl⟩
  .exact (hs.2 b (Nat.ne_of_lt (Nat.lt_of_lt_of_le (Heap.lt_size e) I.ok.above))).trans (I.base.keep b o e n hb hx)
  .obtain ⟨sl,e1⟩:=I.base.slot b o e n hb hx;exact ⟨sl,(hs.2 b (Nat.ne_of_lt (Nat.lt_of_lt_of_le (Heap.lt_size e) I.ok.above))).trans e1⟩
  .obtain ⟨o',e1⟩:=I.base.there b o e hx;exact ⟨o',(hs.2 b (Nat.ne_of_lt (Nat.lt_of_lt_of_le (Heap.lt_size e) I.ok.above))).trans e1⟩
  .by_cases hj:j=i
   .subst hj;rw [hi] at e1;cases e1;rw [List.getElem?_set_self hiσ] at e2;cases e2;exact ⟨u,r,.inl ⟨hk,by simp⟩⟩
   .rw [List.getElem?_set_ne (Ne.symm hj)] at e2;obtain ⟨u',r',q⟩:=hl j y v' e1 e2 e3;refine ⟨u',r',?_⟩;rcases q with ⟨k,e⟩|⟨k,c,e,z⟩
    .refine .inl ⟨k,?_⟩;have:y≠x:=fun e=>hj (vh hN e1 (e ▸ hi))
     simp [this,e]
    .exact .inr ⟨k,c,e,z.sameBut hs (cne y c e)⟩
  .obtain ⟨w',z⟩:=I.cell y c e;exact ⟨w',z.sameBut hs (cne y c e)⟩
  .obtain ⟨e,n,ne,nf,d⟩:=I.pin p hp;exact ⟨(hs.2 p.1 ne).trans e,n,ne,nf,d⟩
 .have hfn:X.fn x=true:=by
   rcases hf with z|z
   .exact z
   .rw [z] at hk;cases hk
  obtain ⟨c,hc⟩:=I.ok.has x (.inl hk);obtain ⟨w',z⟩:=I.cell x c hc;refine wpAny_storeName_cell I.ok.kind hk hc z (fun h' hc' hs=>?_)
  obtain ⟨oc,hoc,hocd⟩:=id z;refine h { s with heap:=h' } ⟨I.ok,I.os,I.bare,⟨fun b o e n hb hx=>?_,fun b o e n hb hx=>?_,I.base.free,fun b o e hx=>?_,I.base.tups,I.base.frzs,I.base.tbls⟩,⟨m,hn.sameBut hs (Ne.symm (cne x c hc)),fun j y v' e1 e2 e3=>?_⟩,fun y c' e=>?_,I.free,I.freeC,fun p hp=>?_,tracked ⟨oc,hoc,I.freeC x c hc⟩ hs,by simpa using I.len⟩ ⟨c,hs,.inr hc⟩
  .exact (hs.2 b (Nat.ne_of_lt (Nat.lt_of_lt_of_le (Heap.lt_size e) (I.ok.cab x c hfn hc)))).trans (I.base.keep b o e n hb hx)
  .obtain ⟨sl,e1⟩:=I.base.slot b o e n hb hx;exact ⟨sl,(hs.2 b (Nat.ne_of_lt (Nat.lt_of_lt_of_le (Heap.lt_size e) (I.ok.cab x c hfn hc)))).trans e1⟩
  .obtain ⟨o',e1⟩:=I.base.there b o e hx;exact ⟨o',(hs.2 b (Nat.ne_of_lt (Nat.lt_of_lt_of_le (Heap.lt_size e) (I.ok.cab x c hfn hc)))).trans e1⟩
  .by_cases hj:j=i
   .subst hj;rw [hi] at e1;cases e1;rw [List.getElem?_set_self hiσ] at e2;cases e2;exact ⟨u,r,.inr ⟨.inl hk,c,hc,hc'⟩⟩
   .rw [List.getElem?_set_ne (Ne.symm hj)] at e2;obtain ⟨u',r',q⟩:=hl j y v' e1 e2 e3;refine ⟨u',r',?_⟩;rcases q with q|⟨k,c',e,z'⟩
    .exact .inl q
    .refine .inr ⟨k,c',e,z'.sameBut hs ?_⟩;rintro rfl;exact hj (vh hN e1 (I.ok.inj _ _ _ e hc ▸ hi))
  .by_cases hcc:c'=c
   .subst hcc;exact ⟨_,hc'⟩
   .obtain ⟨w2,z2⟩:=I.cell y c' e;exact ⟨w2,z2.sameBut hs hcc⟩
  .obtain ⟨e,n,ne,nf,d⟩:=I.pin p hp;refine ⟨(hs.2 p.1 ?_).trans e,n,ne,nf,d⟩;intro q;rw [q,hoc] at e;have q':oc=p.2:=Option.some.inj e;exact d w' (by rw [← q'];exact hocd)
theorem rn {M:Model}{A:Around}{E:Value->Shared->Prop}{i:Nat}{x:Str}{v:V}{u:Value}{Q:Unit->Shared->Prop}(I:aO X ab σ H s) (hN:X.N.Nodup) (hi:X.N[i]?=some x) (hx:IM X.env.scope x) (r:bM v u)
  (h:∀ s',aO X ab (σ.set i (some v)) H s'->Q () s') (hf:X.fn x=true∨X.env.scope.names.lookup x=some .local:=by first|exact .inl rfl|exact .inr rfl|assumption):wpAny M A (storeName X.env x u) Q E s :=
 An I hN hi hx r (fun s' I' _=>h s' I') hf
theorem aO.call' {s':Shared}{ch:List Addr}(I:aO X ab σ H s) (ho:s'.os=s.os) (u:Un (Cs X.stack) ch H H' s.heap s'.heap) (hok:mF X.prog X.w H' s'.heap) (hg:AllBare s'.gens)
  (hch:∀ b∈ch,(b∈X.ex∨X.s₀.heap.objs.size<=b)/\b≠X.env.locals/\(∀ x c,X.env.cells.lookup x=some c->c≠b)/\∀ p∈X.pn++ab,p.1≠b):aO X ab σ H' s':=by
 obtain ⟨h',g',d',t',o'⟩:=s';have e:o'=s.os:=ho;subst e;exact I.call (g':=g') (t':=t') (d':=d') u hok hg hch
end
abbrev XK:=Value->Option Addr->Hp->Prop
abbrev St:=List (Option V)
abbrev VK:=V->Hp->Prop
abbrev TE:=St->Hp->VK->Prop
abbrev TT:=St->Hp->(Bool->Hp->Prop)->Prop
abbrev TA:=St->Hp->(List V->Hp->Prop)->Prop
structure pH where
 nx:St->Hp->Prop
 rt:VK
 bk:St->Hp->Prop:=fun _ _=>False
 ct:St->Hp->Prop:=fun _ _=>False
abbrev TS:=pH->St->Hp->Prop
def EP (X:Cx) (ab:List (Addr×Obj)) (σ:St) (Q:VK) (u:Value) (s':Shared):Prop:=∃ v H',aO X ab σ H' s'/\bM v u/\Q v H'
def TP (X:Cx) (ab:List (Addr×Obj)) (σ:St) (Q:Bool->Hp->Prop) (b:Bool) (s':Shared):Prop:=∃ H',aO X ab σ H' s'/\Q b H'
def AP (X:Cx) (ab:List (Addr×Obj)) (σ:St) (Q:List V->Hp->Prop) (us:List Value) (s':Shared):Prop:=∃ vs H',aO X ab σ H' s'/\bu vs us/\Q vs H'
def SP (X:Cx) (ab:List (Addr×Obj)) (D:pH) (f:Flow) (s':Shared):Prop :=
 match f with
 | .next=>∃ σ' H',aO X ab σ' H' s'/\D.nx σ' H'
 | .brk=>∃ σ' H',aO X ab σ' H' s'/\D.bk σ' H'
 | .cont=>∃ σ' H',aO X ab σ' H' s'/\D.ct σ' H'
 | .ret u=>∃ v σ' H',aO X ab σ' H' s'/\bM v u/\D.rt v H'
def PE (X:Cx) (e:Expr) (t:TE):Prop :=
 ∀ (ab:List (Addr×Obj)) (s:Shared) (σ:St) (H:Hp) (Q:VK),aO X ab σ H s->t σ H Q->wpAny (model X.prog X.w) X.A (eval e X.env) (EP X ab σ Q) X.xe s
def PT (X:Cx) (e:Expr) (t:TT):Prop :=
 ∀ (ab:List (Addr×Obj)) (s:Shared) (σ:St) (H:Hp) (Q:Bool->Hp->Prop),aO X ab σ H s->t σ H Q->wpAny (model X.prog X.w) X.A (isTrue e X.env (eval e X.env)) (TP X ab σ Q) X.xe s
def PW (X:Cx) (e:Expr) (t:TT):Prop :=
 ∀ (whole:Sem Value) (ab:List (Addr×Obj)) (s:Shared) (σ:St) (H:Hp) (Q:Bool->Hp->Prop),aO X ab σ H s->t σ H Q->wpAny (model X.prog X.w) X.A (isTrue e X.env whole) (TP X ab σ Q) X.xe s
theorem PW.pt {X:Cx}{e:Expr}{t:TT}(h:PW X e t):PT X e t:=h _
def PA (X:Cx) (es:List Expr) (t:TA):Prop :=
 ∀ (pos:Pos) (ab:List (Addr×Obj)) (s:Shared) (σ:St) (H:Hp) (Q:List V->Hp->Prop),aO X ab σ H s->t σ H Q->wpAny (model X.prog X.w) X.A (spliced (backTo pos (starEach es X.env))) (AP X ab σ Q) X.xe s
def PS (X:Cx) (st:Stmt) (t:TS):Prop :=
 ∀ (ab:List (Addr×Obj)) (s:Shared) (σ:St) (H:Hp) (D:pH),aO X ab σ H s->t D σ H->wpAny (model X.prog X.w) X.A (exec st X.env) (SP X ab D) X.xe s
def Ah (X:Cx) (st:List Stmt) (t:TS):Prop :=
 ∀ (ab:List (Addr×Obj)) (s:Shared) (σ:St) (H:Hp) (D:pH),aO X ab σ H s->t D σ H->wpAny (model X.prog X.w) X.A (execs st X.env) (SP X ab D) X.xe s
theorem cP {α:Type}{t:Sem α}{Q Q':α->Shared->Prop}{M:Model}{A:Around}{E:Value->Shared->Prop}{s:Shared}(h:wpAny M A t Q E s) (hQ:∀ a s,Q a s->Q' a s):wpAny M A t Q' E s:=wpAny_mono h hQ fun _ _ x=>x
end L2
namespace L2
open PySem PySem.Spec PyProof.Rows
section
variable {X:Cx}
def lF (i:Nat):TE:=fun σ H Q=>∃ v,σ[i]?=some (some v)/\Q v H
def tC (v:V):TE:=fun _ H Q=>Q v H
theorem G2 {i:Nat}{x:Str}{pos:Pos}(hN:X.N[i]?=some x) (hv:KQ X.env.scope x) (hd:(x == ("__debug__" : Str))=false:=by decide) (hcd:(x == ("__classdict__" : Str))=false:=by decide):PE X (.Name x pos) (lF i):=by
 intro ab s σ H Q I h;obtain ⟨v,e,h⟩:=h;obtain ⟨m,hn,hl⟩:=I.loc;obtain ⟨u,r,l⟩:=hl i x v hN e hv;have fin:EP X ab σ Q u s:=⟨v,H,I,r,h⟩;rcases l with ⟨hk,hm⟩|⟨hk,c,hc,hcell⟩
 .exact wpAny_Name (wpAny_loadName_local I.ok.kind hk hn hm fin) hd
 .rcases hk with hk|hk
  .exact wpAny_Name (wpAny_loadName_cell I.ok.kind hk hc hcell fin) hd
  .exact wpAny_Name (wpAny_loadName_free I.ok.kind hk hc hcell fin hcd) hd
theorem aq {i j pos}:PE X (.Constant (.int i) j pos) (tC (.int i)):=fun _ _ _ H _ I h=>wpAny_Constant_int ⟨.int i,H,I.tok _,⟨_,rfl⟩,h⟩
theorem fw {b j pos}:PE X (.Constant (.bool b) j pos) (tC (.bl b)):=fun _ _ _ H _ I h=>Constant_bool ⟨.bl b,H,I,rfl,h⟩
theorem qv {j pos}:PE X (.Constant .none j pos) (tC .non):=fun _ _ _ H _ I h=>Constant_none ⟨.non,H,I,rfl,h⟩
theorem mE {x j pos}:PE X (.Constant (.str x) j pos) (tC (.str x)):=fun _ _ _ H _ I h=>Calls.Constant_str ⟨.str x,H,I.tok _,⟨_,rfl⟩,h⟩
def Gl (X:Cx) (x:Str):Prop:=X.env.kindOf x=some .globalImplicit
theorem zE {E:Value->Shared->Prop}{ab:List (Addr×Obj)}{s:Shared}{σ:St}{H:Hp}{x:Str}{u:Value}{pos:Pos}{Q:Value->Shared->Prop}(I:aO X ab σ H s) (hg:Gl X x) (hm:X.mg x=some u) (h:Q u s)
  (hd:(x == ("__debug__" : Str))=false:=by decide):wpAny (model X.prog X.w) X.A (eval (.Name x pos) X.env) Q E s :=
 Calls.Name_function_global I.ok.kind hg (Calls.loadGlobal_global (by rw [I.ok.glob];exact I.mod.glob.keeps I.bk) hm h) hd
theorem gu {E:Value->Shared->Prop}{ab:List (Addr×Obj)}{s:Shared}{σ:St}{H:Hp}{x:Str}{u:Value}{pos:Pos}{Q:Value->Shared->Prop}(I:aO X ab σ H s) (hg:Gl X x) (hm:X.mg x=none) (hv:bootBuiltins x=some u) (h:Q u s)
  (hn:x ≠ "__name__" := by decide) (hd:(x == ("__debug__" : Str))=false:=by decide):wpAny (model X.prog X.w) X.A (eval (.Name x pos) X.env) Q E s:=by
 obtain ⟨mb,h1,h2⟩:=I.mod.blt;exact Calls.Name_function_global I.ok.kind hg (Calls.loadGlobal_builtin (by rw [I.ok.glob];exact I.mod.glob.keeps I.bk) hm (by rw [I.ok.blt];exact h1.keeps I.bk) ((h2 x hn).trans hv) h) hd
theorem Fg {x:Str}{v:V}{u:Value}{pos:Pos}(hg:Gl X x) (hm:X.mg x=some u) (r:bM v u) (hd:(x == ("__debug__" : Str))=false:=by decide):PE X (.Name x pos) (tC v) :=
 fun _ _ _ H _ I h=>zE I hg hm ⟨v,H,I,r,h⟩ hd
theorem gE {x:Str}{v:V}{u:Value}{pos:Pos}(hg:Gl X x) (hm:X.mg x=none) (hv:bootBuiltins x=some u) (r:bM v u) (hn:x ≠ "__name__" := by decide) (hd:(x == ("__debug__" : Str))=false:=by decide):PE X (.Name x pos) (tC v) :=
 fun _ _ _ H _ I h=>gu I hg hm hv ⟨v,H,I,r,h⟩ hn hd
variable {a b:Expr}{ta tb:TE}{pos:Pos}
def PC (X:Cx) (op:CmpOp) (a b:Expr) (t:TE):Prop :=
 ∀ (ab:List (Addr×Obj)) (s:Shared) (σ:St) (H:Hp) (Q:VK),aO X ab σ H s->t σ H Q ->
  wpAny (model X.prog X.w) X.A (eval a X.env) (fun v s₁=>wpAny (model X.prog X.w) X.A (eval b X.env) (fun u s₂=>wpAny (model X.prog X.w) X.A (compareOp op v u) (EP X ab σ Q) X.xe s₂) X.xe s₁) X.xe s
def tB (t:TE):TT:=fun σ H Q=>t σ H fun x H1=>∃ c,x = .bl c/\Q c H1
theorem Hx {op:CmpOp}{t:TE}(h:PC X op a b t) (h1:behindInMarks op b=false:=by first|exact nobehind _ (by decide) (by decide)|rfl):PT X (.Compare a [op] [b] pos) (tB t):=by
 intro ab s σ H Q I hw;refine wpAny_isTrue_Compare1 (cP (h ab s σ H _ I hw) fun v s1 h1=>cP h1 fun u s2 h2=>cP h2 fun c s3 ⟨x,H1,I1,r1,q1⟩=>?_) h1
 obtain ⟨d,rfl,q⟩:=q1;cases r1;exact wpAny_truthy_bool ⟨H1,I1,q⟩
theorem fO {e:Expr}{t:TE}(h:PE X e t) (he:∀ whole,isTrue e X.env whole=(do let v ← whole;standAt e.pos;holding [v] (truthy v)):=by intro _;rfl):PT X e (tB t):=by
 intro ab s σ H Q I hw;refine isTrue_plain (cP (h ab s σ H _ I hw) fun v s1 ⟨x,H1,I1,r1,q1⟩=>?_) (he _)
 obtain ⟨d,rfl,q⟩:=q1;cases r1;exact wpAny_truthy_bool ⟨H1,I1,q⟩
variable {tA tB':TT}{fZ:List Expr}
def Ki (t u:TT):TT:=fun σ H Q=>t σ H fun c H1=>if c=true then u σ H1 Q else Q false H1
def Mf (t u:TT):TT:=fun σ H Q=>t σ H fun c H1=>if c=true then Q true H1 else u σ H1 Q
def Kb (t:TT):TT:=fun σ H Q=>t σ H fun c H1=>Q (!c) H1
theorem qe (ha:PT X a tA):PW X (.BoolOp .And [a] pos) tA:=by
 intro wh ab s σ H Q I h;refine isTrue_and (cP (ha ab s σ H Q I h) fun c s1 e=>?_)
 cases c with
 | true=>exact isTrue_and_nil e
 | false=>exact e
theorem iK (ha:PT X a tA):PW X (.BoolOp .Or [a] pos) tA:=by
 intro wh ab s σ H Q I h;refine isTrue_or (cP (ha ab s σ H Q I h) fun c s1 e=>?_)
 cases c with
 | false=>exact isTrue_or_nil e
 | true=>exact e
theorem tW (ha:PT X a tA) (hb:PW X (.BoolOp .And (b::fZ) pos) tB'):PW X (.BoolOp .And (a::b::fZ) pos) (Ki tA tB'):=by
 intro wh ab s σ H Q I h;refine isTrue_and (cP (ha ab s σ H _ I h) fun c s1 ⟨H1,I1,q1⟩=>?_)
 cases c with
 | true=>exact hb wh ab s1 σ H1 Q I1 q1
 | false=>exact ⟨H1,I1,q1⟩
theorem ie (ha:PT X a tA) (hb:PW X (.BoolOp .Or (b::fZ) pos) tB'):PW X (.BoolOp .Or (a::b::fZ) pos) (Mf tA tB'):=by
 intro wh ab s σ H Q I h;refine isTrue_or (cP (ha ab s σ H _ I h) fun c s1 ⟨H1,I1,q1⟩=>?_)
 cases c with
 | true=>exact ⟨H1,I1,q1⟩
 | false=>exact hb wh ab s1 σ H1 Q I1 q1
theorem eT (ha:PT X a tA):PT X (.UnaryOp .Not a pos) (Kb tA):=by
 intro ab s σ H Q I h;exact isTrue_not (ha ab s σ H (fun c H1=>Q (!c) H1) I h)
def FM (ta tb:TE):TE:=fun σ H Q=>ta σ H fun x H1=>∃ c,x = .bl c/\if c=true then tb σ H1 Q else Q (.bl false) H1
def FU (ta:TE):TE:=fun σ H Q=>ta σ H fun x H1=>∃ c,x = .bl c/\Q (.bl (!c)) H1
theorem xX {op} {t:TE}(h:PE X a t):PE X (.BoolOp op [a] pos) t:=fun ab s σ H Q I hw=>BoolOp_one (h ab s σ H Q I hw)
theorem yc (ha:PE X a ta) (hb:PE X (.BoolOp .And (b::fZ) pos) tb):PE X (.BoolOp .And (a::b::fZ) pos) (FM ta tb):=by
 intro ab s σ H Q I h;refine BoolOp_and (cP (ha ab s σ H _ I h) fun v s1 ⟨x,H1,I1,r1,q1⟩=>?_)
 obtain ⟨c,rfl,q1⟩:=q1;cases r1;refine wpAny_truthy_bool ?_;cases c with
 | true=>exact hb ab s1 σ H1 Q I1 q1
 | false=>exact ⟨.bl false,H1,I1,rfl,q1⟩
theorem HZ (ha:PE X a ta):PE X (.UnaryOp .Not a pos) (FU ta):=by
 intro ab s σ H Q I h;refine UnaryOp_ (cP (ha ab s σ H _ I h) fun v s1 ⟨x,H1,I1,r1,q1⟩=>?_)
 obtain ⟨c,rfl,q1⟩:=q1;cases r1;exact not_of (wpAny_truthy_bool ⟨.bl (!c),H1,I1,rfl,q1⟩)
end
end L2
namespace L2
open PySem PySem.Spec PyProof.Rows
def eJ (K:W.Frag) (H:Hp) (a:Addr) (xs:List V):Prop :=
 Rd H a (.lst xs) ∨
  ∃ (o:Obj) (its:Array Value) (n:Nat),K.lookup a=some o/\o.cls = .type "list" /\ o.dict=none/\o.data = .seq its n/\its.size<=sizeLine/\bu xs its.toList
def oG (K:W.Frag) (H:Hp) (a:Addr) (xs:List V):Prop :=
 Rd H a (.tup xs) ∨
  ∃ (o:Obj) (its:Array Value) (n:Nat),K.lookup a=some o/\o.cls = .type "tuple" /\ o.data = .seq its n/\its.size<=sizeLine/\bu xs its.toList
def K7:Value->Option V
 | .none=>some .non
 | .bool b=>some (.bl b)
 | .int i _=>some (.int i)
 | .str x _=>some (.str x)
 | .bytes b _=>some (.byt b)
 | .float b _=>some (.flt b)
 | .ref a=>some (.ref a)
 | .type n=>some (.ty n)
 | _=>none
theorem bM.abs {x:V}{u:Value}(r:bM x u):K7 u=some x:=by
 cases x with
 | non=>cases r;rfl
 | bl _=>cases r;rfl
 | int _=>obtain ⟨t,rfl⟩:=r;rfl
 | str _=>obtain ⟨t,rfl⟩:=r;rfl
 | byt _=>obtain ⟨t,rfl⟩:=r;rfl
 | flt _=>obtain ⟨t,rfl⟩:=r;rfl
 | ref _=>cases r;rfl
 | ty _=>cases r;rfl
theorem bM.inj {x y:V}{u:Value}(r:bM x u) (q:bM y u):x=y:=Option.some.inj (r.abs.symm.trans q.abs)
theorem bu.inj:∀ {xs ys:List V}{us:List Value},bu xs us->bu ys us->xs=ys
 | _,_,_,.nil,.nil=>rfl
 | _,_,_,.cons r t,.cons r' t'=>by rw [r.inj r',bu.inj t t']
section
variable {X:Cx}{ab:List (Addr×Obj)}{σ:St}{H:Hp}{s:Shared}{a:Addr}{xs ys:List V}
theorem eJ.of {K:W.Frag}(h:H a=some (.lst xs)):eJ K H a xs:=.inl (.inl h)
theorem oG.of {K:W.Frag}(h:H a=some (.tup xs)):oG K H a xs:=.inl (.inl h)
theorem aO.list (I:aO X ab σ H s) (h:eJ X.K H a xs):∃ its:List Value,bu xs its/\PlainL s.heap a its.toArray/\xs.length<=sizeLine:=by
 rcases h with h|⟨o,its,n,hk,hc,hd,hs,hz,r⟩
 .obtain ⟨z,its,n,r,e⟩:=h.ok I.hok;exact ⟨its,r,⟨_,n,e,rfl,rfl,rfl⟩,z⟩
 .refine ⟨its.toList,r,⟨o,n,I.kIn a o hk,hc,hd,by simpa using hs⟩,?_⟩
  have e:=r.length;simp only [Array.length_toList] at e;lia
theorem aO.tuple (I:aO X ab σ H s) (h:oG X.K H a xs):∃ its:List Value,bu xs its/\IsTup s.heap a its.toArray/\xs.length<=sizeLine:=by
 rcases h with h|⟨o,its,n,hk,hc,hs,hz,r⟩
 .obtain ⟨z,its,r,p⟩:=h.ok I.hok;exact ⟨its,r,p,z⟩
 .refine ⟨its.toList,r,⟨o,I.kIn a o hk,hc,n,by simpa using hs⟩,?_⟩
  have e:=r.length;simp only [Array.length_toList] at e;lia
theorem aO.list_inj (I:aO X ab σ H s) (h:eJ X.K H a xs) (h':eJ X.K H a ys):xs=ys:=by
 obtain ⟨its,r,⟨o,n,e,_,_,d⟩,_⟩:=I.list h;obtain ⟨its',r',⟨o',n',e',_,_,d'⟩,_⟩:=I.list h';rw [e] at e';cases e';rw [d] at d';injection d' with d1 _
 have:its=its':=by simpa using congrArg Array.toList d1
 subst this;exact r.inj r'
end
abbrev Cx.wish (X:Cx) (E:Value->Shared->Prop):Cx:={ X with xe:=E }
abbrev Cx.nox (X:Cx):Cx:=X.wish fun _ _=>False
theorem Cx.Ok.wish {X:Cx}(ok:X.Ok) (E:Value->Shared->Prop):(X.wish E).Ok :=
 ⟨ok.mod,ok.kind,ok.glob,ok.blt,ok.above,ok.inj,ok.has,ok.cab,ok.hd,ok.frames,ok.stk,ok.exf,ok.bs,ok.bsz,ok.noex,ok.exfs,ok.funs,ok.frf⟩
theorem Cx.Ok.unwish {X:Cx}{E:Value->Shared->Prop}(ok:(X.wish E).Ok):X.Ok :=
 ⟨ok.mod,ok.kind,ok.glob,ok.blt,ok.above,ok.inj,ok.has,ok.cab,ok.hd,ok.frames,ok.stk,ok.exf,ok.bs,ok.bsz,ok.noex,ok.exfs,ok.funs,ok.frf⟩
section
variable {X:Cx}{ab:List (Addr×Obj)}{σ:St}{H:Hp}{s:Shared}{E:Value->Shared->Prop}
theorem aO.wish (I:aO X ab σ H s) (E:Value->Shared->Prop):aO (X.wish E) ab σ H s:=⟨I.ok.wish E,I.os,I.bare,I.base,I.loc,I.cell,I.free,I.freeC,I.pin,I.hok,I.len⟩
theorem aO.unwish (I:aO (X.wish E) ab σ H s):aO X ab σ H s:=⟨I.ok.unwish,I.os,I.bare,I.base,I.loc,I.cell,I.free,I.freeC,I.pin,I.hok,I.len⟩
theorem SP.unwish {D:pH}{f:Flow}{s':Shared}(h:SP (X.wish E) ab D f s'):SP X ab D f s':=by
 cases f with
 | next=>obtain ⟨σ',H',I,q⟩:=h;exact ⟨σ',H',I.unwish,q⟩
 | brk=>obtain ⟨σ',H',I,q⟩:=h;exact ⟨σ',H',I.unwish,q⟩
 | cont=>obtain ⟨σ',H',I,q⟩:=h;exact ⟨σ',H',I.unwish,q⟩
 | ret u=>obtain ⟨v,σ',H',I,r,q⟩:=h;exact ⟨v,σ',H',I.unwish,r,q⟩
theorem Ah.nox {st:List Stmt}{t:TS}(h:Ah X.nox st t):Ah X st t:=fun ab s σ H D I hw =>
 wpAny_mono (h ab s σ H D (I.wish _) hw) (fun _ _ q=>q.unwish) fun _ _ z=>False.elim z
end
section
variable {X:Cx}{st:Stmt}{fZ:List Stmt}{t u:TS}{e:Expr}{te:TE}{pos:Pos}
def FD:TS:=fun D σ H=>D.nx σ H
def Je (t u:TS):TS:=fun D σ H=>t { D with nx:=u D } σ H
theorem bp:Ah X [] FD:=fun _ _ σ H _ I h=>wpAny_execs_nil ⟨σ,H,I,h⟩
theorem af (h1:PS X st t) (h2:Ah X fZ u):Ah X (st::fZ) (Je t u):=by
 intro ab s σ H D I h;refine wpAny_execs_cons (cP (h1 ab s σ H { D with nx:=u D } I h) fun f s1 q=>?_)
 cases f with
 | next =>
  obtain ⟨σ',H',I',q⟩:=q;exact h2 ab s1 σ' H' D I' q
 | ret v=>exact q
 | brk=>exact q
 | cont=>exact q
theorem ar (h1:PS X st t):Ah X [st] t:=by
 intro ab s σ H D I h;refine wpAny_execs_cons (cP (h1 ab s σ H D I h) fun f s1 q=>?_)
 cases f with
 | next=>exact wpAny_execs_nil q
 | ret v=>exact q
 | brk=>exact q
 | cont=>exact q
theorem aO.quiet {ab:List (Addr×Obj)}{σ:St}{H:Hp}{s:Shared}(I:aO X ab σ H s):interactive X.env=false:=by simp [interactive,I.ok.kind]
def vk (te:TE):TS:=fun D σ H=>te σ H fun _ H1=>D.nx σ H1
theorem eV (he:PE X e te) (hs:swapsWith e none pos.line X.env=pure false:=by rfl):PS X (.Expr e pos) (vk te):=by
 intro ab s σ H D I h;exact wpAny_Expr_any (cP (he ab s σ H _ I h) fun v s1 ⟨x,H1,I1,r1,q1⟩=>⟨σ,H1,I1,q1⟩) I.quiet hs
def JN (te:TE):TS:=fun D σ H=>te σ H D.rt
theorem aW (he:PE X e te):PS X (.Return (some e) pos) (JN te):=by
 intro ab s σ H D I h;exact wpAny_Return_some (cP (he ab s σ H _ I h) fun v s1 ⟨x,H1,I1,r1,q1⟩=>⟨x,σ,H1,I1,r1,q1⟩)
def Jj (c:TT) (t u:TS):TS:=fun D σ H=>c σ H fun b H1=>if b=true then t D σ H1 else u D σ H1
theorem cH {c:Expr}{a b:List Stmt}{tc:TT}(hc:PT X c tc) (ha:Ah X a t) (hb:Ah X b u):PS X (.If c a b pos) (Jj tc t u):=by
 intro ab s σ H D I h;refine wpAny_If (cP (hc ab s σ H _ I h) fun d s1 ⟨H1,I1,q1⟩=>?_)
 cases d with
 | true=>exact ha ab s1 σ H1 D I1 q1
 | false=>exact hb ab s1 σ H1 D I1 q1
def Cv:TS:=fun _ _ _=>False
theorem C2:PS X st Cv:=fun _ _ _ _ _ _ h=>h.elim
end
abbrev TG:=V->St->Hp->(St->Hp->Prop)->Prop
abbrev He:=List V->St->Hp->(St->Hp->Prop)->Prop
def PG (X:Cx) (target:Expr) (t:TG):Prop :=
 ∀ (ab:List (Addr×Obj)) (s:Shared) (σ:St) (H:Hp) (v:V) (u:Value) (Q:St->Hp->Prop),aO X ab σ H s->bM v u->t v σ H Q ->
  wpAny (model X.prog X.w) X.A (assign target X.env u) (fun _ s'=>∃ σ' H',aO X ab σ' H' s'/\Q σ' H') X.xe s
def KH (X:Cx) (ts:List Expr) (t:He):Prop :=
 ∀ (ab:List (Addr×Obj)) (s:Shared) (σ:St) (H:Hp) (vs:List V) (us:List Value) (Q:St->Hp->Prop),aO X ab σ H s->bu vs us->t vs σ H Q ->
  wpAny (model X.prog X.w) X.A (assignInOrder ((assignEach ts X.env).map (·.2)) us) (fun _ s'=>∃ σ' H',aO X ab σ' H' s'/\Q σ' H') X.xe s
abbrev Gq:=V->V->V->Hp->(Hp->Prop)->Prop
def Jl (X:Cx) (t:Gq):Prop :=
 ∀ (ab:List (Addr×Obj)) (s:Shared) (σ:St) (H:Hp) (o i v:V) (ov iv u:Value) (Q:Hp->Prop),aO X ab σ H s->bM o ov->bM i iv->bM v u->t o i v H Q ->
  wpAny (model X.prog X.w) X.A (setItem ov iv u) (fun _ s'=>∃ H',aO X ab σ H' s'/\Q H') X.xe s
abbrev KC:=V->V->Hp->VK->Prop
def Me (X:Cx) (op:Operator) (t:KC):Prop :=
 ∀ (ab:List (Addr×Obj)) (s:Shared) (σ:St) (H:Hp) (x y:V) (v u:Value) (Q:VK),aO X ab σ H s->bM x v->bM y u->t x y H Q ->
  wpAny (model X.prog X.w) X.A (inplaceOp op v u) (EP X ab σ Q) X.xe s
section
variable {X:Cx}{pos:Pos}
def gQ (i:Nat):TG:=fun v σ H Q=>Q (σ.set i (some v)) H
theorem aZ {i:Nat}{x:Str}(hN:X.N.Nodup) (hi:X.N[i]?=some x) (hx:IM X.env.scope x) (hf:X.fn x=true∨X.env.scope.names.lookup x=some .local:=by first|exact .inl rfl|exact .inr rfl|assumption):PG X (.Name x pos) (gQ i):=by
 intro ab s σ H v u Q I r h;exact wpAny_assign_Name (rn I hN hi hx r (fun s' I'=>⟨_,H,I',h⟩) hf)
def Ed:He:=fun vs σ H Q=>vs=[]/\Q σ H
def qP (t:TG) (u:He):He:=fun vs σ H Q=>∃ v r,vs=v::r/\t v σ H fun σ' H'=>u r σ' H' Q
theorem iG:KH X [] Ed:=by
 intro ab s σ H vs us Q I r h;obtain ⟨e,h⟩:=h;subst e;cases r;exact assignInOrder_nil ⟨σ,H,I,h⟩
theorem cE {e:Expr}{es:List Expr}{t:TG}{u:He}(h1:PG X e t) (h2:KH X es u)
  (hs:(assignEach (e::es) X.env).map (·.2)=assign e X.env::(assignEach es X.env).map (·.2):=by rfl):KH X (e::es) (qP t u):=by
 intro ab s σ H vs us Q I r h;obtain ⟨v,vr,e1,h⟩:=h;subst e1;cases r with
 | cons r rr =>
  rw [hs];refine assignInOrder_cons (cP (h1 ab s σ H _ _ _ I r h) fun _ s1 ⟨σ1,H1,I1,q1⟩=>?_)
  exact h2 ab s1 σ1 H1 _ _ Q I1 rr q1
def EJ (K:W.Frag) (n:Nat) (t:He):TG:=fun v σ H Q=>∃ a xs,v = .ref a/\oG K H a xs/\xs.length=n/\t xs σ H Q
theorem ku {es:List Expr}{k:Nat}{t:He}{n:Nat}(hc:X.calm=true) (h:KH X es t)
  (hn:(assignEach es X.env).length=n:=by rfl) (mK:(assignEach es X.env).findIdx? (·.1)=none:=by rfl):PG X (.Tuple es k pos) (EJ X.K n t):=by
 intro ab s σ H v u Q I r hw;obtain ⟨a,xs,e1,hq,hl,hw⟩:=hw;subst e1;cases r;obtain ⟨its,rv,ht,hz⟩:=I.tuple hq;refine assign_Tuple_tuple (I.ok.hd hc) ht (by simp [hn,← hl,rv.length]) mK fun h' hx=>?_
 have I1:aO X ab σ H { s with heap:=h' }:=I.kept (t':=s.toks) fun b o e=>hx b o (Nat.ne_of_lt (Heap.lt_size e)) e
 exact h ab _ σ H xs _ Q I1 (by simpa using rv) hw
def J9 (to ti:TE) (t:Gq):TG:=fun v σ H Q=>to σ H fun o H1=>ti σ H1 fun i H2=>t o i v H2 fun H3=>Q σ H3
theorem GJ {o i:Expr}{to ti:TE}{t:Gq}(ho:PE X o to) (hi:PE X i ti) (hs:Jl X t)
  (ha:∀ v,assign (.Subscript o i pos) X.env v=(do
   let ov ← holding [v] (eval o X.env)
   let iv ← holding [v,ov] (eval i X.env)
   standAt pos
   holding [v,ov,iv] (setItem ov iv v)
   release [v,ov,iv] []):=by intro _;rfl):PG X (.Subscript o i pos) (J9 to ti t):=by
 intro ab s σ H v u Q I r h;rw [ha];refine wpAny_bind (wpAny_holding (cP (ho ab s σ H _ I h) fun ov s1 ⟨x,H1,I1,r1,q1⟩=>?_))
 refine wpAny_bind (wpAny_holding (cP (hi ab s1 σ H1 _ I1 q1) fun iv s2 ⟨y,H2,I2,r2,q2⟩=>?_))
 refine wpAny_bind (wpAny_standAt (wpAny_bind (wpAny_holding (cP (hs ab s2 σ H2 x y v ov iv u _ I2 r1 r2 r q2) fun _ s3 ⟨H3,I3,q3⟩=>?_))))
 exact wpAny_release ⟨σ,H3,I3,q3⟩
def zU (te:TE) (g:TG):TS:=fun D σ H=>te σ H fun x H1=>g x σ H1 D.nx
theorem HR {tg e:Expr}{te:TE}{g:TG}(he:PE X e te) (hg:PG X tg g) (hs:swapsWithSole [tg] e pos.line X.env=pure false:=by rfl) (hw:swappedStores [tg] e X.env=pure none:=by rfl)
  (h1:(assignEach [tg] X.env).map (·.2)=[assign tg X.env]:=by rfl):PS X (.Assign [tg] e pos) (zU te g):=by
 intro ab s σ H D I h;refine wpAny_Assign_stores (cP (he ab s σ H _ I h) fun v s1 ⟨x,H1,I1,r1,q1⟩=>?_) hs hw
 rw [h1];exact cP (hg ab s1 σ H1 x v _ I1 r1 q1) fun _ s2 q=>q
theorem aF {i:Nat}{x:Str}{e:Expr}{te:TE}{pos':Pos}(hN:X.N.Nodup) (hi:X.N[i]?=some x) (hx:IM X.env.scope x) (he:PE X e te) (hs:swapsWith e (some (.Name x pos')) pos.line X.env=pure false:=by rfl) (hf:X.fn x=true∨X.env.scope.names.lookup x=some .local:=by first|exact .inl rfl|exact .inr rfl|assumption) :
  PS X (.Assign [.Name x pos'] e pos) (zU te (gQ i)):=by
 intro ab s σ H D I h;refine wpAny_Assign_Name (cP (he ab s σ H _ I h) fun v s1 ⟨y,H1,I1,r1,q1⟩=>?_) hs
 exact rn I1 hN hi hx r1 (fun s2 I2=>⟨_,H1,I2,q1⟩) hf
def Kv (i:Nat) (te:TE) (ti:KC):TS:=fun D σ H=>∃ x,σ[i]?=some (some x)/\te σ H fun y H1=>ti x y H1 fun z H2=>D.nx (σ.set i (some z)) H2
theorem Ik {i:Nat}{x:Str}{e:Expr}{te:TE}{op:Operator}{ti:KC}{pos':Pos}(hN:X.N.Nodup) (hi:X.N[i]?=some x) (hx:IM X.env.scope x) (he:PE X e te) (ho:Me X op ti) (hf:X.fn x=true∨X.env.scope.names.lookup x=some .local:=by first|exact .inl rfl|exact .inr rfl|assumption) :
  PS X (.AugAssign (.Name x pos') op e pos) (Kv i te ti):=by
 intro ab s σ H D I h;obtain ⟨v,e1,h⟩:=h;obtain ⟨m,hn,hl⟩:=I.loc;have vis:KQ X.env.scope x:=by rcases hx with k|k;exact .inl k;exact .inr (.inl k)
 obtain ⟨u,r,l⟩:=hl i x v hi e1 vis;refine wpAny_AugAssign_Name ?_;have go:wpAny (model X.prog X.w) X.A (eval e X.env) (fun w s₂=>wpAny (model X.prog X.w) X.A (inplaceOp op u w) (fun r s₃=>wpAny (model X.prog X.w) X.A (storeName X.env x r) (fun _=>SP X ab D .next) X.xe s₃) X.xe s₂) X.xe s:=by
  refine cP (he ab s σ H _ I h) fun w s1 ⟨y,H1,I1,r1,q1⟩=>?_
  refine cP (ho ab s1 σ H1 v y u w _ I1 r r1 q1) fun z s2 ⟨zv,H2,I2,r2,q2⟩=>?_
  exact rn I2 hN hi hx r2 (fun s3 I3=>⟨_,H2,I3,q2⟩) hf
 rcases l with ⟨hk,hm⟩|⟨hk,c,hc,hcell⟩
 .exact wpAny_loadName_local I.ok.kind hk hn hm go
 .rcases hk with hk|hk
  .exact wpAny_loadName_cell I.ok.kind hk hc hcell go
  .rcases hx with k|k
   .have:X.env.scope.names.lookup x=some .free:=hk;rw [k] at this;cases this
   .have:X.env.scope.names.lookup x=some .free:=hk;rw [k] at this;cases this
def Lz (f:Int->Int->Int):KC:=fun x y H Q=>∃ i j,x = .int i/\y = .int j/\Q (.int (f i j)) H
theorem HF:Me X .Add (Lz fun i j=>i+j):=by
 intro ab s σ H x y v u Q I r1 r2 h;obtain ⟨i,j,e1,e2,q⟩:=h;subst e1;subst e2;obtain ⟨t,rfl⟩:=r1;obtain ⟨t',rfl⟩:=r2;exact iadd_int ⟨.int _,H,I.tok _,⟨_,rfl⟩,q⟩
end
section
variable {X:Cx}{pos:Pos}
def CC (c:TT) (tb:TS):TS:=fun D σ H=>∃ W:Nat->St->Hp->Prop,(∃ m,W m σ H)/\∀ m σ H,W m σ H ->
 c σ H fun b H1=>if b=true then ∃ N:St->Hp->Prop,(∀ σ' H',N σ' H'->∃ m',m'<m/\W m' σ' H')/\tb { D with nx:=N,ct:=N,bk:=D.nx } σ H1 else D.nx σ H1
theorem vP {c:Expr}{body:List Stmt}{tc:TT}{tb:TS}(hp:PassesOwn (model X.prog X.w) X.A X.env X.xe) (hc:PT X c tc) (hb:Ah X body tb):PS X (.While c body [] pos) (CC tc tb):=by
 intro ab s σ H D I h;obtain ⟨W,⟨m0,w0⟩,turn⟩:=h;refine wpAny_While (codeAny_whileLoop (fun n s'=>∃ σ' H',aO X ab σ' H' s'/\W n σ' H') ?_ m0 ⟨σ,H,I,w0⟩)
 rintro n s1 ⟨σ1,H1,I1,w1⟩;refine wpAny_passesOwn hp (cP (hc ab s1 σ1 H1 _ I1 (turn n σ1 H1 w1)) fun b s2 ⟨H2,I2,q2⟩=>?_)
 cases b with
 | true =>
  obtain ⟨N,hN,q2⟩:=q2;rw [if_pos rfl];refine wpAny_passesOwn hp (cP (hb ab s2 σ1 H2 _ I2 q2) fun f s3 q3=>?_)
  cases f with
  | next =>
   obtain ⟨σ3,H3,I3,n3⟩:=q3;obtain ⟨m',hm,w3⟩:=hN σ3 H3 n3;exact ⟨m',hm,σ3,H3,I3,w3⟩
  | cont =>
   obtain ⟨σ3,H3,I3,n3⟩:=q3;obtain ⟨m',hm,w3⟩:=hN σ3 H3 n3;exact ⟨m',hm,σ3,H3,I3,w3⟩
  | brk=>exact q3
  | ret v=>exact q3
 | false =>
  rw [if_neg Bool.false_ne_true];exact wpAny_execs_nil ⟨σ1,H2,I2,q2⟩
end
structure It where
 go:Nat->Hp->Prop
 yld:Nat->Hp->V->Hp->Prop
 stop:Nat->Hp->Prop
def mU (X:Cx) (ab:List (Addr×Obj)) (H:Hp) (b:Addr):Prop :=
 H b=none/\b≠X.env.locals/\b∉X.fs/\(b∈X.ex∨X.s₀.heap.objs.size<=b)/\(∀ x c,X.env.cells.lookup x=some c->c≠b)/\∀ p∈X.pn++ab,p.1≠b
theorem aO.fpOk {X:Cx}{ab:List (Addr×Obj)}{σ:St}{H H':Hp}{s:Shared}{b:Addr}(I:aO X ab σ H s) (hb:s.heap.objs.size<=b) (hn:H' b=none):mU X ab H' b:=by
 refine ⟨hn,Nat.ne_of_gt (Nat.lt_of_lt_of_le I.lt hb),I.nofs hb,.inr (Nat.le_trans I.sz hb),fun x c e z=>?_,fun p hp z=>?_⟩
 .obtain ⟨v,q⟩:=I.cell x c e;exact absurd (Nat.lt_of_lt_of_le q.lt (by rw [z];exact hb)) (Nat.lt_irrefl _)
 .exact absurd (Nat.lt_of_lt_of_le (Heap.lt_size (I.pin p hp).1) (by rw [z];exact hb)) (Nat.lt_irrefl _)
structure Am (P:Program) (w:World) (K:W.Frag) (tg:Expr) (J:It) (fp:List Addr) (it:Addr) (tn:Nat->Heap->Prop):Prop where
 mem:it∈fp
 obj:∀ i h,tn i h->∀ b∈fp,∃ o,h.get? b=some o/\∀ v,o.data ≠ .cell v
 keep:∀ i h h',tn i h->(∀ b∈fp,∀ o,h.get? b=some o->h'.get? b=some o)->tn i h'
 item:∀ (X:Cx),X.prog=P->X.w=w->X.K=K->X.calm=true->∀ (i:Nat) (ab:List (Addr×Obj)) (s:Shared) (σ:St) (H:Hp) (E:Value->Shared->Prop),aO X ab σ H s->(∀ b∈fp,mU X ab H b)->tn i s.heap->J.go i H ->
  wpAny (model P w) X.A (pyNext (.ref it)) (fun r s1=>∃ u,r=some u /\
   wpAny (model P w) X.A (letOwnedTupleGo tg (.ref it) u) (fun _ s2=>∃ x H',aO X ab σ H' s2/\bM x u/\J.yld i H x H'/\tn (i+1) s2.heap/\∀ b∈fp,H' b=none) E s1) E s
 done:∀ (X:Cx),X.prog=P->X.w=w->X.K=K->X.calm=true->∀ (i:Nat) (ab:List (Addr×Obj)) (s:Shared) (σ:St) (H:Hp) (E:Value->Shared->Prop),aO X ab σ H s->(∀ b∈fp,mU X ab H b)->tn i s.heap->J.stop i H ->
  wpAny (model P w) X.A (pyNext (.ref it)) (fun r s1=>r=none/\aO X ab σ H s1) E s
 self:∀ (A:Around) (i:Nat) (s:Shared) (Q:Value->Shared->Prop) (E:Value->Shared->Prop),tn i s.heap->Q (.ref it) s->wpAny (model P w) A (pyIter (.ref it)) Q E s
abbrev TI:=St->Hp->(It->Hp->Prop)->Prop
def Md (X:Cx) (ab:List (Addr×Obj)) (σ:St) (tg:Expr) (R:It->Hp->Prop) (itv:Value) (s2:Shared):Prop :=
 ∃ (it:Addr) (fp:List Addr) (tn:Nat->Heap->Prop) (J:It) (H':Hp),itv = .ref it/\aO X ab σ H' s2/\Am X.prog X.w X.K tg J fp it tn/\tn 0 s2.heap/\(∀ b∈fp,mU X ab H' b)/\R J H'
def PI (X:Cx) (tg iter:Expr) (wi:TI):Prop :=
 ∀ (ab:List (Addr×Obj)) (s:Shared) (σ:St) (H:Hp) (R:It->Hp->Prop),aO X ab σ H s->wi σ H R ->
  wpAny (model X.prog X.w) X.A (eval iter X.env) (fun v s1=>wpAny (model X.prog X.w) X.A (pyIter v) (Md X ab σ tg R) X.xe s1) X.xe s
theorem FY {M:Model}{A:Around}{E:Value->Shared->Prop}{s:Shared}{tg:Expr}{it:Addr}{u:Value}{o:Obj}{n:String}{vs:Array Value}{Q:Unit->Shared->Prop}(ho:s.heap.get? it=some o) (hc:o.cls = .type n) (hd:o.data = .fields vs)
    (hn:["enumerate", "zip", "dict_itemiterator", "dict_reverseitemiterator", "odict_iterator", "itertools.zip_longest", "itertools.pairwise"].contains n=false) (hQ:Q () s):wpAny M A (letOwnedTupleGo tg (.ref it) u) Q E s:=by
  unfold letOwnedTupleGo;cases tg <;> first
    | exact wpAny_pure hQ
    | (cases u <;> first
        | exact wpAny_pure hQ
        | (refine wpAny_bind (wpAny_load ho ?_)
           rw [hc,hd];show wpAny M A (if (["enumerate", "zip", "dict_itemiterator", "dict_reverseitemiterator", "odict_iterator", "itertools.zip_longest", "itertools.pairwise"].contains n && vs[0]? == some (rawInt _))=true then _ else _) Q E s
           rw [if_neg (by intro h;rw [hn,Bool.false_and] at h;cases h)]
           exact wpAny_pure hQ))
def JJ (K:W.Frag) (a:Addr):It :=
 ⟨fun i H=>∃ xs x,eJ K H a xs/\xs[i]?=some x,fun i H x H'=>H'=H/\∀ xs,eJ K H a xs->xs[i]?=some x,fun i H=>∃ xs,eJ K H a xs/\xs.length<=i⟩
def Fe (lo:Int) (n:Nat):It:=⟨fun i _=>i<n,fun i H x H'=>H'=H/\x = .int (lo+i),fun i _=>n<=i⟩
theorem AM {P:Program}{w:World}{K:W.Frag}{tg:Expr}(a it:Addr):Am P w K tg (JJ K a) [it] it (fun i h=>h.IsListIter it a i) where
 mem:=by simp
 obj:=fun i h st b hb=>by
  have e:b=it:=by simpa using hb
  subst e;obtain ⟨o,e,c,d⟩:=st;exact ⟨o,e,fun v z=>by rw [d] at z;cases z⟩
 keep:=fun i h h' st k=>st.at fun o e=>k it (by simp) o e
 item:=by
  intro X hP hw hK hc i ab s σ H E I hf st hg;subst hP hw hK;obtain ⟨xs,x,hq,hx⟩:=hg;obtain ⟨its,rv,p,hz⟩:=I.list hq;obtain ⟨u,hu,ru⟩:=rv.get hx;obtain ⟨f0,f1,f2,f3,f4,f5⟩:=hf it (by simp)
  refine wpAny_pyNext_list_item st p.isList (x:=u) (by simpa using hu) fun h' st' sb=>?_
  have I1:aO X ab σ H { s with heap:=h' }:=I.turned (t':=s.toks) (fun b o hb e=>(sb.2 b hb).trans e) f0 f1 f3 f4 f5
  obtain ⟨o,e,c,d⟩:=id st';exact ⟨u,rfl,FY (s:={ s with heap:=h' }) e c d (by decide) ⟨x,H,I1,ru,⟨rfl,fun ys hy=>by rw [I.list_inj hy hq];exact hx⟩,st',fun b hb=>(hf b hb).1⟩⟩
 done:=by
  intro X hP hw hK hc i ab s σ H E I hf st hg;subst hP hw hK;obtain ⟨xs,hq,hx⟩:=hg;obtain ⟨its,rv,p,hz⟩:=I.list hq;obtain ⟨f0,f1,f2,f3,f4,f5⟩:=hf it (by simp)
  have hl:=rv.length;exact wpAny_pyNext_list_end (I.ok.hd hc) st p.isList (by simp;lia) fun h' eb=>⟨rfl,I.turned (t':=s.toks) (fun b o hb e=>eb b o hb e) f0 f1 f3 f4 f5⟩
 self:=fun _ _ _ _ _ st h=>wpAny_pyIter_listiter st h
theorem xl {P:Program}{w:World}{K:W.Frag}{tg:Expr}(it:Addr) (lo:Int) (n:Nat):Am P w K tg (Fe lo n) [it] it (fun i h=>IsRangeIter h it (lo+(i:Nat)*1) ((n:Int)-(i:Nat)) 1) where
 mem:=by simp
 obj:=fun i h st b hb=>by
  have e:b=it:=by simpa using hb
  subst e;exact ⟨_,st,fun v z=>by
   have z':Data.fields _=Data.cell v:=z;cases z'⟩
 keep:=fun i h h' st k=>k it (by simp) _ st
 item:=by
  intro X hP hw hK hc i ab s σ H E I hf st hg;subst hP hw hK;obtain ⟨f0,f1,f2,f3,f4,f5⟩:=hf it (by simp)
  have W:=Walks.range (prog:=X.prog) (w:=X.w) (I.ok.hd hc) it lo 1 n;refine W.item i s _ _ hg st fun v h' tk hv st' kk=>?_
  obtain ⟨t,rfl⟩:=hv;have I1:aO X ab σ H { s with heap:=h',toks:=tk }:=I.turned (fun b o hb e=>kk b o (by simpa using hb) e) f0 f1 f3 f4 f5
  refine ⟨_,rfl,FY (s:={ s with heap:=h',toks:=tk }) (n := "range_iterator") st' rfl rfl (by decide) ⟨.int (lo+i),H,I1,⟨t,?_⟩,⟨rfl,rfl⟩,st',fun b hb=>(hf b hb).1⟩⟩
  rw [Int.mul_one]
 done:=by
  intro X hP hw hK hc i ab s σ H E I hf st hg;subst hP hw hK;obtain ⟨f0,f1,f2,f3,f4,f5⟩:=hf it (by simp)
  exact wpAny_pyNext_range_end (I.ok.hd hc) st (by have:n<=i:=hg;lia) fun h' eb=>⟨rfl,I.turned (t':=s.toks) (fun b o hb e=>eb b o hb e) f0 f1 f3 f4 f5⟩
 self:=fun _ _ _ _ _ st h=>wpAny_pyIter_rangeiter st h
end L2
namespace L2
open PySem PySem.Spec PyProof.Rows
section
variable {X:Cx}{tg:Expr}
def DQ (K:W.Frag) (tl:TE):TI:=fun σ H R=>tl σ H fun x H1=>∃ a,x = .ref a/\(∃ xs,eJ K H1 a xs)/\R (JJ K a) H1
theorem dU {l:Expr}{tl:TE}(hl:PE X l tl):PI X tg l (DQ X.K tl):=by
 intro ab s σ H R I h;refine cP (hl ab s σ H _ I h) fun v s1 ⟨x,H1,I1,r1,q1⟩=>?_
 obtain ⟨a,e,⟨xs,hq⟩,q⟩:=q1;subst e;cases r1;obtain ⟨its,rv,p,hz⟩:=I1.list hq;refine wpAny_pyIter_list p.isList ?_;refine ⟨s1.heap.objs.size,[s1.heap.objs.size],_,_,H1,rfl,I1.kept (t':=s1.toks) fun b o e=>Heap.get?_push_of_some _ e,AM a _,⟨_,Heap.get?_push_size _ rfl,rfl,rfl⟩,fun b hb=>?_,q⟩
 have e:b=s1.heap.objs.size:=by simpa using hb
 subst e;exact I1.fpOk (Nat.le_refl _) (I1.hok.fresh (Nat.le_refl _))
theorem BD {ab:List (Addr×Obj)}{σ:St}{H:Hp}{s:Shared}{R:It->Hp->Prop}{E:Value->Shared->Prop}{lo hi:Int}{t u v:Tok}{tk:Nat}(I:aO X ab σ H s) (h1:-(2 ^ 62)<=lo) (h2:lo<2 ^ 62) (h3:-(2 ^ 62)<=hi) (h4:hi<2 ^ 62)
  (q:R (Fe lo (hi-lo).toNat) H):wpAny (model X.prog X.w) X.A (pyIter (.ref s.heap.objs.size)) (Md X ab σ tg R) E { s with heap:=s.heap.push { cls:=.type "range", data:=.fields #[.int lo t,.int hi u,.int 1 v] },toks:=tk }:=by
 refine wpAny_pyIter_range (IsRange.new ..) (small_one h1 h2 h3 h4) ?_;have I1:aO X ab σ H { s with heap:=s.heap.push { cls:=.type "range", data:=.fields #[.int lo t,.int hi u,.int 1 v] },toks:=tk }:=I.kept fun b o e=>Heap.get?_push_of_some _ e
 refine ⟨(s.heap.push { cls:=.type "range", data:=.fields #[.int lo t,.int hi u,.int 1 v] }).objs.size,[(s.heap.push { cls:=.type "range", data:=.fields #[.int lo t,.int hi u,.int 1 v] }).objs.size],_,_,H,rfl,
  I1.kept (t':=tk) fun b o e=>Heap.get?_push_of_some _ e,xl _ lo (hi-lo).toNat,?_,fun b hb=>?_,q⟩
 .have e1:lo+((0:Nat):Int)*1=lo:=by simp
  have e2:(((hi-lo).toNat:Nat):Int)-((0:Nat):Int)=Builtin.Range.rangeSize lo hi 1:=by rw [rangeSize_one];split <;> lia
  show IsRangeIter _ _ (lo+((0:Nat):Int)*1) ((((hi-lo).toNat:Nat):Int)-((0:Nat):Int)) 1;rw [e1,e2];exact Heap.get?_push_size _ rfl
 .have e:b=(s.heap.push { cls:=.type "range", data:=.fields #[.int lo t,.int hi u,.int 1 v] }).objs.size:=by simpa using hb
  subst e;exact I1.fpOk (Nat.le_refl _) (I1.hok.fresh (Nat.le_refl _))
def DE (ta:TA):TI:=fun σ H R=>ta σ H fun vs H1=>∃ j:Int,vs=[.int j]/\-(2 ^ 62)<=j/\j<2 ^ 62/\R (Fe 0 j.toNat) H1
theorem fg {a:Expr}{ta:TA}{p pos:Pos}(hg:Gl X "range") (hm:X.mg "range" = none) (ha:PA X [a] ta) (hs:starEach [a] X.env=[(false,eval a X.env)]:=by rfl):PI X tg (.Call (.Name "range" p) [a] [] pos) (DE ta):=by
 intro ab s σ H R I h;refine Call_ (gu I hg hm boot_range (PyProof.Rows.callWith_type1 (cP (ha pos ab s σ H _ I h) fun us s1 ⟨vs,H1,I1,r1,q1⟩=>?_) hs rfl))
 obtain ⟨j,e,q1,q2,q⟩:=q1;subst e;cases r1 with
 | cons r rr =>
  cases rr;obtain ⟨t,rfl⟩:=r;exact call_range_1 (BD I1 (by lia) (by lia) q1 q2 (by simpa using q))
def Eu (wi:TI) (g:TG) (tb:TS):TS:=fun D σ H=>wi σ H fun J H1=>∃ W:Nat->Nat->St->Hp->Prop,(∃ m,W 0 m σ H1)/\∀ i m σ H,W i m σ H ->
 (J.stop i H/\D.nx σ H)∨(J.go i H/\∃ N:St->Hp->Prop,(∀ σ' H',N σ' H'->∃ m',m'<m/\W (i+1) m' σ' H')/\∀ x H',J.yld i H x H'->g x σ H' fun σ2 H2=>tb { D with nx:=N,ct:=N,bk:=D.nx } σ2 H2)
def nR (fp:List Addr) (h:Heap):List (Addr×Obj):=fp.filterMap fun b=>(h.get? b).map fun o=>(b,o)
theorem fX {fp:List Addr}{h:Heap}{b:Addr}{o:Obj}(hb:b∈fp) (e:h.get? b=some o):(b,o)∈nR fp h:=List.mem_filterMap.mpr ⟨b,hb,by rw [e];rfl⟩
theorem A1 {fp:List Addr}{h:Heap}{p:Addr×Obj}(hp:p∈nR fp h):p.1∈fp/\h.get? p.1=some p.2:=by
 obtain ⟨b,hb,e⟩:=List.mem_filterMap.mp hp;cases q:h.get? b with
 | none=>rw [q] at e;cases e
 | some o =>
  rw [q] at e;have e':(b,o)=p:=Option.some.inj e;subst e';exact ⟨hb,q⟩
theorem aO.pinned {ab:List (Addr×Obj)}{σ:St}{H:Hp}{s:Shared}{fp:List Addr}(I:aO X ab σ H s) (hf:∀ b∈fp,mU X ab H b) (ho:∀ b∈fp,∃ o,s.heap.get? b=some o/\∀ v,o.data ≠ .cell v):aO X (ab++nR fp s.heap) σ H s :=
 I.pins_of fun p hp=>(mAq.mp hp).elim (fun z=>I.pin p (List.mem_append_right _ z)) fun z=>by
  obtain ⟨hb,e⟩:=A1 z;obtain ⟨f0,f1,f2,_⟩:=hf p.1 hb;obtain ⟨o,e',d⟩:=ho p.1 hb;rw [e] at e';cases e';exact ⟨e,f0,f1,f2,d⟩
theorem aO.unpinned {ab pl:List (Addr×Obj)}{σ:St}{H:Hp}{s:Shared}(I:aO X (ab++pl) σ H s):aO X ab σ H s:=I.pins_of fun p hp=>I.pin p (List.mem_append_right _ (List.mem_append_left _ hp))
theorem cR {iter:Expr}{body:List Stmt}{wi:TI}{g:TG}{tb:TS}{pos:Pos}(hp:PassesOwn (model X.prog X.w) X.A X.env X.xe) (hc:X.calm=true) (hi:PI X tg iter wi) (hg:PG X tg g) (hb:Ah X body tb)
  (hs:∀ x,foldedSetIterable iter X.env x=pure x:=by intro _;rfl):PS X (.For tg iter body [] pos) (Eu wi g tb):=by
 intro ab s σ H D I h;refine wpAny_For (cP (hi ab s σ H _ I h) fun v s1 h1=>cP h1 fun itv s2 h2=>?_) hs
 obtain ⟨it,fp,tn,J,H2,e,I2,T,mI,f2,W,⟨m0,w0⟩,turn⟩:=h2;subst e;have stat:∀ {H':Hp},(∀ b∈fp,H' b=none)->∀ b∈fp,mU X ab H' b:=fun hn b hb=>⟨hn b hb,(f2 b hb).2⟩
 refine codeAny_forLoop_any (fun n s'=>∃ i σ' H',aO X ab σ' H' s'/\tn i s'.heap/\(∀ b∈fp,H' b=none)/\W i n σ' H') ?_ m0 ⟨0,σ,H2,I2,mI,fun b hb=>(f2 b hb).1,w0⟩
 rintro n s3 ⟨i,σ3,H3,I3,KW,fr3,w3⟩;rcases turn i n σ3 H3 w3 with ⟨stop,qn⟩|⟨go,N,hN,step⟩
 .refine wpAny_passesOwn hp (cP (T.done X rfl rfl rfl hc i ab s3 σ3 H3 X.xe I3 (stat fr3) KW stop) fun r s4 ⟨hr,I4⟩=>?_)
  subst hr;exact wpAny_execs_nil ⟨σ3,H3,I4,qn⟩
 .refine wpAny_passesOwn hp (cP (T.item X rfl rfl rfl hc i ab s3 σ3 H3 X.xe I3 (stat fr3) KW go) fun r s4 ⟨u,hr,h4⟩=>?_)
  subst hr;refine wpAny_passesOwn hp (cP h4 fun _ s5 ⟨x,H5,I5,r5,y5,st5,fr5⟩=>?_)
  have I5':=I5.pinned (stat fr5) (T.obj _ _ st5);refine wpAny_passesOwn hp (cP (hg _ s5 σ3 H5 x u _ I5' r5 (step x H5 y5)) fun _ s6 ⟨σ6,H6,I6,q6⟩=>?_)
  refine wpAny_passesOwn hp (cP (hb _ s6 σ6 H6 _ I6 q6) fun f s7 q7=>?_)
  have again:∀ {σ7:St}{H7:Hp},aO X (ab++nR fp s5.heap) σ7 H7 s7->N σ7 H7->∃ m,m<n/\∃ i σ' H',aO X ab σ' H' s7/\tn i s7.heap/\(∀ b∈fp,H' b=none)/\W i m σ' H':=fun {σ7 H7} I7 n7=>by
   obtain ⟨m',hm,w7⟩:=hN σ7 H7 n7;refine ⟨m',hm,i+1,σ7,H7,I7.unpinned,T.keep _ _ _ st5 fun b hb o e=>(I7.pin (b,o) (List.mem_append_right _ (List.mem_append_right _ (fX hb e)))).1,fun b hb=>?_,w7⟩
   obtain ⟨o,e,d⟩:=T.obj _ _ st5 b hb;exact (I7.pin (b,o) (List.mem_append_right _ (List.mem_append_right _ (fX hb e)))).2.1
  cases f with
  | next=>obtain ⟨σ7,H7,I7,n7⟩:=q7;exact again I7 n7
  | cont=>obtain ⟨σ7,H7,I7,n7⟩:=q7;exact again I7 n7
  | brk=>obtain ⟨σ7,H7,I7,q7⟩:=q7;exact ⟨σ7,H7,I7.unpinned,q7⟩
  | ret v=>obtain ⟨x7,σ7,H7,I7,r7,q7⟩:=q7;exact ⟨x7,σ7,H7,I7.unpinned,r7,q7⟩
end
theorem Bp {K:W.Frag}{a:Addr}{xs:List V}{g:TG}{tb:TS}{D:pH}{σ:St}{H:Hp}(Pv:Nat->St->Hp->Prop) (h0:Pv 0 σ H) (hl:∀ i σ H,i<=xs.length->Pv i σ H->eJ K H a xs)
  (hs:∀ i x σ H,xs[i]?=some x->Pv i σ H->g x σ H fun σ2 H2=>tb { D with nx:=Pv (i+1),ct:=Pv (i+1),bk:=D.nx } σ2 H2) (hd:∀ σ H,Pv xs.length σ H->D.nx σ H) :
  ∃ W:Nat->Nat->St->Hp->Prop,(∃ m,W 0 m σ H)/\∀ i m σ H,W i m σ H ->
   ((JJ K a).stop i H/\D.nx σ H)∨((JJ K a).go i H/\∃ N:St->Hp->Prop,(∀ σ' H',N σ' H'->∃ m',m'<m/\W (i+1) m' σ' H')/\∀ x H',(JJ K a).yld i H x H'->g x σ H' fun σ2 H2=>tb { D with nx:=N,ct:=N,bk:=D.nx } σ2 H2):=by
 refine ⟨fun i m σ H=>m=xs.length-i/\i<=xs.length/\Pv i σ H,⟨xs.length,by simp,Nat.zero_le _,h0⟩,?_⟩
 rintro i m σ H ⟨rfl,hi,p⟩;have q:=hl i σ H hi p
 by_cases hlt:i<xs.length
 .refine .inr ⟨⟨xs,xs[i],q,by simp [hlt]⟩,Pv (i+1),fun σ' H' p'=>⟨xs.length-(i+1),by lia,rfl,hlt,p'⟩,fun x H' y=>?_⟩
  obtain ⟨e,y⟩:=y;subst e;exact hs i x σ _ (y xs q) p
 .have e:i=xs.length:=by lia
  subst e;exact .inl ⟨⟨xs,q,Nat.le_refl _⟩,hd σ H p⟩
theorem Au {lo:Int}{n:Nat}{g:TG}{tb:TS}{D:pH}{σ:St}{H:Hp}(Pv:Nat->St->Hp->Prop) (h0:Pv 0 σ H)
  (hs:∀ i σ H,i<n->Pv i σ H->g (.int (lo+i)) σ H fun σ2 H2=>tb { D with nx:=Pv (i+1),ct:=Pv (i+1),bk:=D.nx } σ2 H2) (hd:∀ σ H,Pv n σ H->D.nx σ H) :
  ∃ W:Nat->Nat->St->Hp->Prop,(∃ m,W 0 m σ H)/\∀ i m σ H,W i m σ H ->
   ((Fe lo n).stop i H/\D.nx σ H)∨((Fe lo n).go i H/\∃ N:St->Hp->Prop,(∀ σ' H',N σ' H'->∃ m',m'<m/\W (i+1) m' σ' H')/\∀ x H',(Fe lo n).yld i H x H'->g x σ H' fun σ2 H2=>tb { D with nx:=N,ct:=N,bk:=D.nx } σ2 H2):=by
 refine ⟨fun i m σ H=>m=n-i/\i<=n/\Pv i σ H,⟨n,by simp,Nat.zero_le _,h0⟩,?_⟩
 rintro i m σ H ⟨rfl,hi,p⟩
 by_cases hlt:i<n
 .refine .inr ⟨hlt,Pv (i+1),fun σ' H' p'=>⟨n-(i+1),by lia,rfl,hlt,p'⟩,fun x H' y=>?_⟩
  obtain ⟨e,y⟩:=y;subst e y;exact hs i σ _ hlt p
 .have e:i=n:=by lia
  subst e;exact .inl ⟨Nat.le_refl _,hd σ H p⟩
end L2
namespace L2
open PySem PySem.Spec PyProof.Rows
abbrev R2:=V->V->Hp->VK->Prop
def oj (X:Cx) (f:Value->Value->Sem Value) (r:R2):Prop :=
 ∀ (ab:List (Addr×Obj)) (s:Shared) (σ:St) (H:Hp) (x y:V) (v u:Value) (Q:VK),aO X ab σ H s->bM x v->bM y u->r x y H Q ->
  wpAny (model X.prog X.w) X.A (f v u) (EP X ab σ Q) X.xe s
def LA (X:Cx) (f:Value->Sem Value) (r:V->Hp->VK->Prop):Prop :=
 ∀ (ab:List (Addr×Obj)) (s:Shared) (σ:St) (H:Hp) (x:V) (v:Value) (Q:VK),aO X ab σ H s->bM x v->r x H Q ->
  wpAny (model X.prog X.w) X.A (f v) (EP X ab σ Q) X.xe s
def fq (X:Cx) (f:Value) (r:List V->Hp->VK->Prop):Prop :=
 ∀ (ab:List (Addr×Obj)) (s:Shared) (σ:St) (H:Hp) (xs:List V) (us:List Value) (Q:VK),aO X ab σ H s->bu xs us->r xs H Q ->
  wpAny (model X.prog X.w) X.A (call f us) (EP X ab σ Q) X.xe s
def Ll (X:Cx) (r:V->Hp->(Bool->Hp->Prop)->Prop):Prop :=
 ∀ (ab:List (Addr×Obj)) (s:Shared) (σ:St) (H:Hp) (x:V) (v:Value) (Q:Bool->Hp->Prop),aO X ab σ H s->bM x v->r x H Q ->
  wpAny (model X.prog X.w) X.A (truthy v) (TP X ab σ Q) X.xe s
def DY (r:R2) (ta tb:TE):TE:=fun σ H Q=>ta σ H fun x H1=>tb σ H1 fun y H2=>r x y H2 Q
def LU (r:V->Hp->VK->Prop) (ta:TE):TE:=fun σ H Q=>ta σ H fun x H1=>r x H1 Q
def rI (C:Int->Int->Prop) (g:Int->Int->V):R2:=fun x y H Q=>∃ i j,x = .int i/\y = .int j/\C i j/\Q (g i j) H
def zH (g:Int->Int->V):R2:=fun x y H Q=>∃ i j,x = .int i/\y = .int j/\Q (g i j) H
def rU (g:Int->V):V->Hp->VK->Prop:=fun x H Q=>∃ i,x = .int i/\Q (g i) H
section
variable {X:Cx}{a b c:Expr}{ta tb tc:TE}{pos:Pos}
theorem Iu (ha:PE X a ta) (hb:PE X b tb) {ab:List (Addr×Obj)}{s:Shared}{σ:St}{H:Hp}{R:V->V->Hp->Prop}(I:aO X ab σ H s)
  (h:ta σ H fun x H1=>tb σ H1 fun y H2=>R x y H2) {Q:Value->Shared->Prop}{f:Value->Value->Sem Value}
  (hf:∀ v u s2 x y H2,aO X ab σ H2 s2->bM x v->bM y u->R x y H2->wpAny (model X.prog X.w) X.A (f v u) Q X.xe s2) :
  wpAny (model X.prog X.w) X.A (eval a X.env) (fun v s₁=>wpAny (model X.prog X.w) X.A (eval b X.env) (fun u s₂=>wpAny (model X.prog X.w) X.A (f v u) Q X.xe s₂) X.xe s₁) X.xe s:=by
 refine cP (ha ab s σ H _ I h) fun v s1 ⟨x,H1,I1,r1,q1⟩=>?_
 refine cP (hb ab s1 σ H1 _ I1 q1) fun u s2 ⟨y,H2,I2,r2,q2⟩=>?_
 exact hf v u s2 x y H2 I2 r1 r2 q2
theorem aP {op:Operator}{r:R2}(ho:oj X (binaryOp op) r) (ha:PE X a ta) (hb:PE X b tb):PE X (.BinOp a op b pos) (DY r ta tb):=by
 intro ab s σ H Q I h;exact wpAny_BinOp (Iu ha hb I h fun v u s2 x y H2 I2 rx ry q=>ho ab s2 σ H2 x y v u Q I2 rx ry q)
theorem yZ {op:UnaryOp}{r:V->Hp->VK->Prop}(ho:LA X (unaryOp op) r) (ha:PE X a ta):PE X (.UnaryOp op a pos) (LU r ta):=by
 intro ab s σ H Q I h;exact UnaryOp_ (cP (ha ab s σ H _ I h) fun v s1 ⟨x,H1,I1,r1,q1⟩=>ho ab s1 σ H1 x v Q I1 r1 q1)
theorem J5 {f:Value->Value->Sem Value}{C:Int->Int->Prop}{g:Int->Int->Int}
  (rule:∀ (i j:Int) (t u:Tok) (s:Shared) (Q:Value->Shared->Prop) (E:Value->Shared->Prop),C i j->Q (.int (g i j) s.toks) { s with toks:=s.toks+1 }->wpAny (model X.prog X.w) X.A (f (.int i t) (.int j u)) Q E s) :
  oj X f (rI C fun i j=>.int (g i j)):=by
 intro ab s σ H x y v u Q I rx ry h;obtain ⟨i,j,rfl,rfl,hc,q⟩:=h;obtain ⟨t,rfl⟩:=rx;obtain ⟨t',rfl⟩:=ry;exact rule i j t t' s _ _ hc ⟨.int (g i j),H,I.tok _,⟨_,rfl⟩,q⟩
theorem Kc {f:Value->Value->Sem Value}{g:Int->Int->Int}
  (rule:∀ (i j:Int) (t u:Tok) (s:Shared) (Q:Value->Shared->Prop) (E:Value->Shared->Prop),Q (.int (g i j) s.toks) { s with toks:=s.toks+1 }->wpAny (model X.prog X.w) X.A (f (.int i t) (.int j u)) Q E s) :
  oj X f (zH fun i j=>.int (g i j)):=by
 intro ab s σ H x y v u Q I rx ry h;obtain ⟨i,j,rfl,rfl,q⟩:=h;obtain ⟨t,rfl⟩:=rx;obtain ⟨t',rfl⟩:=ry;exact rule i j t t' s _ _ ⟨.int (g i j),H,I.tok _,⟨_,rfl⟩,q⟩
theorem GM {f:Value->Value->Sem Value}{g:Int->Int->Bool}
  (rule:∀ (i j:Int) (t u:Tok) (s:Shared) (Q:Value->Shared->Prop) (E:Value->Shared->Prop),Q (.bool (g i j)) s->wpAny (model X.prog X.w) X.A (f (.int i t) (.int j u)) Q E s) :
  oj X f (zH fun i j=>.bl (g i j)):=by
 intro ab s σ H x y v u Q I rx ry h;obtain ⟨i,j,rfl,rfl,q⟩:=h;obtain ⟨t,rfl⟩:=rx;obtain ⟨t',rfl⟩:=ry;exact rule i j t t' s _ _ ⟨.bl (g i j),H,I,rfl,q⟩
def Ic (i j:Int):Prop:=0<j/\j<1073741824
def HJ (i j:Int):Prop:=0<=j/\j<=1000000/\i.natAbs<2 ^ 64
def Ci (i j:Int):Prop:=(-(2 ^ 64)<i/\i<2 ^ 64)∨(-(2 ^ 64)<j/\j<2 ^ 64)
theorem Ci.ok {i j:Int}(h:Ci i j):IntMulOk i j:=by
 rcases h with ⟨h1,h2⟩|⟨h1,h2⟩
 .exact .of_left (intBits_le_64 h1 h2)
 .exact .of_right (intBits_le_64 h1 h2)
theorem eR:oj X (binaryOp .Add) (zH fun i j=>.int (i+j)):=Kc fun _ _ _ _ _ _ _ q=>add_int q
theorem mz:oj X (binaryOp .Sub) (zH fun i j=>.int (i-j)):=Kc fun _ _ _ _ _ _ _ q=>sub_int q
theorem uX:oj X (binaryOp .Mult) (rI Ci fun i j=>.int (i*j)):=J5 fun _ _ _ _ _ _ _ hc q=>mul_int q hc.ok
theorem iE:oj X (binaryOp .FloorDiv) (rI Ic fun i j=>.int (i / j)):=J5 fun i j _ _ _ _ _ hc q=>by
 have h1:(0:Int)<j:=hc.1;have h2:j<1073741824:=hc.2;exact floordiv_int (by lia) (by rw [Int.fdiv_eq_ediv_of_nonneg i (by lia)];exact q) (.inl (PyProof.noPylong_small (by lia)))
theorem dr:oj X (binaryOp .Mod) (rI (fun _ j=>0<j) fun i j=>.int (i % j)):=J5 fun i j _ _ _ _ _ hc q=>by
 have h1:(0:Int)<j:=hc;exact mod_int' (by lia) (by rw [Int.fmod_eq_emod_of_nonneg i (by lia)];exact q)
theorem xh:oj X (binaryOp .Pow) (rI HJ fun i j=>.int (i ^ j.toNat)):=J5 fun _ _ _ _ _ _ _ hc q=>pow_int_small hc.1 hc.2.1 hc.2.2 q
theorem MM {f:Value->Sem Value}{g:Int->Int}
  (rule:∀ (i:Int) (t:Tok) (s:Shared) (Q:Value->Shared->Prop) (E:Value->Shared->Prop),Q (.int (g i) s.toks) { s with toks:=s.toks+1 }->wpAny (model X.prog X.w) X.A (f (.int i t)) Q E s) :
  LA X f (rU fun i=>.int (g i)):=by
 intro ab s σ H x v Q I rx h;obtain ⟨i,rfl,q⟩:=h;obtain ⟨t,rfl⟩:=rx;exact rule i t s _ _ ⟨.int (g i),H,I.tok _,⟨_,rfl⟩,q⟩
theorem uZ:LA X (unaryOp .USub) (rU fun i=>.int (-i)):=MM fun _ _ _ _ _ q=>neg_int q
end
def scal:V->V->Bool
 | .non,.non=>true|.non,.int _=>true|.int _,.non=>true|.non,.bl _=>true|.bl _,.non=>true|.non,.str _=>true|.str _,.non=>true
 | .int _,.int _=>true|.bl _,.bl _=>true|.str _,.str _=>true|.byt _,.byt _=>true
 | .int _,.str _=>true|.str _,.int _=>true|.bl _,.str _=>true|.str _,.bl _=>true
 | _,_=>false
def Mw:R2:=fun x y H Q=>scal x y=true/\Q (.bl (decide (x=y))) H
def Mc:R2:=fun x y H Q=>scal x y=true/\Q (.bl (!decide (x=y))) H
theorem yP {i j:Int}:decide (V.int i=V.int j)=(i == j):=by
 rw [Bool.eq_iff_iff];simp
theorem Cd {i j:Bool}:decide (V.bl i=V.bl j)=(i == j):=by
 rw [Bool.eq_iff_iff];simp
theorem zl {i j:Str}:decide (V.str i=V.str j)=(i == j):=by
 rw [Bool.eq_iff_iff];simp
theorem zD {i j:Array UInt8}:decide (V.byt i=V.byt j)=(i.toList == j.toList):=by
 rw [Bool.eq_iff_iff];cases i;cases j;simp
section
variable {X:Cx}{a b c:Expr}{ta tb tc:TE}{pos:Pos}
theorem bE {ab:List (Addr×Obj)}{σ:St}{H:Hp}{s:Shared}{Q:VK}{k k':Bool}(I:aO X ab σ H s) (q:Q (.bl k) H) (e:k=k'):EP X ab σ Q (.bool k') s:=by
 subst e;exact ⟨.bl k,H,I,rfl,q⟩
theorem mV:oj X (compareOp .Eq) Mw:=by
 intro ab s σ H x y v u Q I rx ry h;obtain ⟨hs,q⟩:=h;cases x with
 | non =>
  cases rx;cases y with
  | non=>cases ry;exact PySem.EqNone.eq_none_none (bE I q (by simp))
  | bl j=>cases ry;exact PySem.EqNone.eq_none_bool (bE I q (by simp))
  | int j=>obtain ⟨t',rfl⟩:=ry;exact PySem.EqNone.eq_none_int (bE I q (by simp))
  | str j=>obtain ⟨t',rfl⟩:=ry;exact PySem.EqNone.eq_none_str (bE I q (by simp))
  | _=>exact absurd (show false=true from hs) Bool.false_ne_true
 | bl i =>
  cases rx;cases y with
  | non=>cases ry;exact PySem.EqNone.eq_bool_none (bE I q (by simp))
  | bl j=>cases ry;exact eq_bool (bE I q Cd)
  | str j=>obtain ⟨t',rfl⟩:=ry;exact PySem.EqMixed.eq_bool_str (bE I q (by simp))
  | _=>exact absurd (show false=true from hs) Bool.false_ne_true
 | int i =>
  obtain ⟨t,rfl⟩:=rx;cases y with
  | non=>cases ry;exact PySem.EqNone.eq_int_none (bE I q (by simp))
  | int j=>obtain ⟨t',rfl⟩:=ry;exact eq_int (bE I q yP)
  | str j=>obtain ⟨t',rfl⟩:=ry;exact PySem.EqMixed.eq_int_str (bE I q (by simp))
  | _=>exact absurd (show false=true from hs) Bool.false_ne_true
 | str i =>
  obtain ⟨t,rfl⟩:=rx;cases y with
  | non=>cases ry;exact PySem.EqNone.eq_str_none (bE I q (by simp))
  | bl j=>cases ry;exact PySem.EqMixed.eq_str_bool (bE I q (by simp))
  | int j=>obtain ⟨t',rfl⟩:=ry;exact PySem.EqMixed.eq_str_int (bE I q (by simp))
  | str j=>obtain ⟨t',rfl⟩:=ry;exact eq_str (bE I q zl)
  | _=>exact absurd (show false=true from hs) Bool.false_ne_true
 | byt i =>
  obtain ⟨t,rfl⟩:=rx;cases y with
  | byt j=>obtain ⟨t',rfl⟩:=ry;exact W.eq_bytes (bE I q zD)
  | _=>exact absurd (show false=true from hs) Bool.false_ne_true
 | _=>cases y <;> exact absurd (show false=true from hs) Bool.false_ne_true
theorem kG:oj X (compareOp .NotEq) Mc:=by
 intro ab s σ H x y v u Q I rx ry h;obtain ⟨hs,q⟩:=h;cases x with
 | non =>
  cases rx;cases y with
  | non=>cases ry;exact PySem.EqNone.ne_none_none (bE I q (by simp))
  | bl j=>cases ry;exact PySem.EqNone.ne_none_bool (bE I q (by simp))
  | int j=>obtain ⟨t',rfl⟩:=ry;exact PySem.EqNone.ne_none_int (bE I q (by simp))
  | str j=>obtain ⟨t',rfl⟩:=ry;exact PySem.EqNone.ne_none_str (bE I q (by simp))
  | _=>exact absurd (show false=true from hs) Bool.false_ne_true
 | bl i =>
  cases rx;cases y with
  | non=>cases ry;exact PySem.EqNone.ne_bool_none (bE I q (by simp))
  | bl j=>cases ry;exact ne_bool (bE I q (congrArg not Cd))
  | str j=>obtain ⟨t',rfl⟩:=ry;exact PySem.EqMixed.ne_bool_str (bE I q (by simp))
  | _=>exact absurd (show false=true from hs) Bool.false_ne_true
 | int i =>
  obtain ⟨t,rfl⟩:=rx;cases y with
  | non=>cases ry;exact PySem.EqNone.ne_int_none (bE I q (by simp))
  | int j=>obtain ⟨t',rfl⟩:=ry;exact ne_int (bE I q (congrArg not yP))
  | str j=>obtain ⟨t',rfl⟩:=ry;exact PySem.EqMixed.ne_int_str (bE I q (by simp))
  | _=>exact absurd (show false=true from hs) Bool.false_ne_true
 | str i =>
  obtain ⟨t,rfl⟩:=rx;cases y with
  | non=>cases ry;exact PySem.EqNone.ne_str_none (bE I q (by simp))
  | bl j=>cases ry;exact PySem.EqMixed.ne_str_bool (bE I q (by simp))
  | int j=>obtain ⟨t',rfl⟩:=ry;exact PySem.EqMixed.ne_str_int (bE I q (by simp))
  | str j=>obtain ⟨t',rfl⟩:=ry;exact ne_str (bE I q (congrArg not zl))
  | _=>exact absurd (show false=true from hs) Bool.false_ne_true
 | byt i =>
  obtain ⟨t,rfl⟩:=rx;cases y with
  | byt j=>obtain ⟨t',rfl⟩:=ry;exact W.ne_bytes (bE I q (congrArg not zD))
  | _=>exact absurd (show false=true from hs) Bool.false_ne_true
 | _=>cases y <;> exact absurd (show false=true from hs) Bool.false_ne_true
theorem tq:oj X (compareOp .Lt) (zH fun i j=>.bl (decide (i<j))):=GM fun _ _ _ _ _ _ _ q=>lt_int q
theorem Kn:oj X (compareOp .LtE) (zH fun i j=>.bl (decide (i<=j))):=GM fun _ _ _ _ _ _ _ q=>le_int q
theorem vH:oj X (compareOp .Gt) (zH fun i j=>.bl (decide (j<i))):=GM fun _ _ _ _ _ _ _ q=>gt_int q
theorem C3:oj X (compareOp .Is) (fun x y H Q=>y = .non/\Q (.bl (decide (x = .non))) H):=by
 intro ab s σ H x y v u Q I rx ry h;obtain ⟨rfl,q⟩:=h;cases ry;refine is_none_gen (bE I q ?_);cases x <;> first
  | (cases rx;rfl)
  | (obtain ⟨t,rfl⟩:=rx;rfl)
theorem ze:oj X (compareOp .IsNot) (fun x y H Q=>y = .non/\Q (.bl (!decide (x = .non))) H):=by
 intro ab s σ H x y v u Q I rx ry h;obtain ⟨rfl,q⟩:=h;cases ry;refine isnot_none_gen (bE I q ?_);cases x <;> first
  | (cases rx;rfl)
  | (obtain ⟨t,rfl⟩:=rx;rfl)
theorem bq (b:Expr) {op:CmpOp}(h:op ≠ .In:=by decide) (h2:op ≠ .NotIn:=by decide):behindInMarks op b=false:=by
 have e1:(op == CmpOp.In)=false:=by cases op <;> first|rfl|exact absurd rfl h
 have e2:(op == CmpOp.NotIn)=false:=by cases op <;> first|rfl|exact absurd rfl h2
 cases b <;> simp [behindInMarks,e1,e2]
theorem uN {op:CmpOp}{r:R2}(ho:oj X (compareOp op) r) (ha:PE X a ta) (hb:PE X b tb) (hm:behindInMarks op b=false):PE X (.Compare a [op] [b] pos) (DY r ta tb):=by
 intro ab s σ H Q I h;exact wpAny_Compare1 (Iu ha hb I h fun v u s2 x y H2 I2 rx ry q=>ho ab s2 σ H2 x y v u Q I2 rx ry q) hm
def CW (t:TE):TT:=fun σ H Q=>t σ H fun x H'=>∃ k,x = .bl k/\Q k H'
theorem aX {op:CmpOp}{r:R2}(ho:oj X (compareOp op) r) (ha:PE X a ta) (hb:PE X b tb) (hm:behindInMarks op b=false):PT X (.Compare a [op] [b] pos) (CW (DY r ta tb)):=by
 intro ab s σ H Q I h;refine wpAny_isTrue_Compare1 (cP (ha ab s σ H _ I h) fun v s1 ⟨x,H1,I1,r1,q1⟩=>cP (hb ab s1 σ H1 _ I1 q1) fun u s2 ⟨y,H2,I2,r2,q2⟩ =>
  cP (ho ab s2 σ H2 x y v u _ I2 r1 r2 q2) fun c s3 ⟨z,H3,I3,r3,k,e,q3⟩=>?_) hm
 subst e;cases r3;exact wpAny_truthy_bool ⟨H3,I3,q3⟩
def BH (r r':R2) (ta tb tc:TE):TE:=fun σ H Q=>ta σ H fun x H1=>tb σ H1 fun y H2=>r x y H2 fun z H3=>∃ k,z = .bl k /\
 (if k=true then tc σ H3 fun w' H4=>r' y w' H4 Q else Q (.bl false) H3)
theorem CF {op op':CmpOp}{r r':R2}(ho:oj X (compareOp op) r) (ho':oj X (compareOp op') r') (ha:PE X a ta) (hb:PE X b tb) (hc:PE X c tc)
  (hm:lastMarks [op,op'] [b,c]=false:=by with_unfolding_all rfl):PT X (.Compare a [op,op'] [b,c] pos) (CW (BH r r' ta tb tc)):=by
 intro ab s σ H Q I h;refine isTrue_chain (cP (ha ab s σ H _ I h) fun v s1 ⟨x,H1,I1,r1,q1⟩=>test_link (cP (hb ab s1 σ H1 _ I1 q1) fun u s2 ⟨y,H2,I2,r2,q2⟩ =>
  cP (ho ab s2 σ H2 x y v u _ I2 r1 r2 q2) fun d s3 ⟨z,H3,I3,r3,k,e,q3⟩=>?_)) hm
 subst e;cases r3;refine wpAny_truthy_bool ?_;cases k with
 | false =>
  obtain ⟨k',e',q'⟩:=q3;cases e';exact ite_ff ⟨H3,I3,q'⟩
 | true =>
  refine ite_tt (test_last (cP (hc ab s3 σ H3 _ I3 q3) fun w' s4 ⟨z',H4,I4,r4,q4⟩=>cP (ho' ab s4 σ H4 y z' u w' _ I4 r2 r4 q4) fun d' s5 ⟨z2,H5,I5,r5,k2,e2,q5⟩=>?_))
  subst e2;cases r5;exact wpAny_truthy_bool ⟨H5,I5,q5⟩
def HM (K:W.Frag) (x:V) (H:Hp) (k:Bool):Prop :=
 match x with
 | .non=>k=false
 | .bl b=>k=b
 | .int i=>k=(i != 0)
 | .str y=>y.length<=sizeLine/\k=((y.length:Int) != 0)
 | .byt y=>y.size<=sizeLine/\k=((y.size:Int) != 0)
 | .ref p=>(∃ xs,eJ K H p xs/\k = !xs.isEmpty)∨(∃ xs,oG K H p xs/\k = !xs.isEmpty)∨∃ kvs,H p=some (.dK kvs)/\k = !kvs.isEmpty
 | _=>False
theorem wZ {κ:Type}{kvs:List (κ×V)}{vs:List (κ×Value)}(r:KV kvs vs):(!vs.isEmpty) = !kvs.isEmpty:=by
 cases r <;> rfl
theorem qC {xs:List V}{its:List Value}(r:bu xs its):(!its.toArray.isEmpty) = !xs.isEmpty:=by
 cases r <;> simp
theorem rL:(sizeLine:Nat)<2 ^ 63:=by rw [sizeLine_eq];decide
theorem GR:Ll X (fun x H Q=>∃ k,HM X.K x H k/\Q k H):=by
 intro ab s σ H x v Q I rx h;obtain ⟨k,e,q⟩:=h;have hl:=rL;have hs:sizeLine=16777216:=sizeLine_eq;cases x with
 | non =>
  cases rx;have e':k=false:=e;subst e';exact truthy_none ⟨H,I,q⟩
 | bl b =>
  cases rx;have e':k=b:=e;subst e';exact wpAny_truthy_bool ⟨H,I,q⟩
 | int i =>
  obtain ⟨t,rfl⟩:=rx;have e':k=(i != 0):=e;subst e';exact PySem.P.truthy_int ⟨H,I,q⟩
 | str y =>
  obtain ⟨t,rfl⟩:=rx;obtain ⟨hy,e'⟩:y.length<=sizeLine/\k=((y.length:Int) != 0):=e;subst e';exact PySem.P.truthy_str (by lia) ⟨H,I.tok _,q⟩
 | byt y =>
  obtain ⟨t,rfl⟩:=rx;obtain ⟨hy,e'⟩:y.size<=sizeLine/\k=((y.size:Int) != 0):=e;subst e';exact W.truthy_bytes (by lia) ⟨H,I.tok _,q⟩
 | ref p =>
  cases rx;have e':(∃ xs,eJ X.K H p xs/\k = !xs.isEmpty)∨(∃ xs,oG X.K H p xs/\k = !xs.isEmpty)∨∃ kvs,H p=some (.dK kvs)/\k = !kvs.isEmpty:=e;rcases e' with ⟨xs,hx,e'⟩|⟨xs,hx,e'⟩|⟨kvs,hx,e'⟩
  .subst e';obtain ⟨its,r,pl,hz⟩:=I.list hx;have hlen:=r.length;exact wpAny_truthy_list pl.isList (by simp only [List.size_toArray];lia) ⟨H,I.tok _,by rw [qC r];exact q⟩
  .subst e';obtain ⟨its,r,pl,hz⟩:=I.tuple hx;have hlen:=r.length;exact truthy_tuple pl (by simp only [List.size_toArray];lia) ⟨H,I.tok _,by rw [qC r];exact q⟩
  .subst e';obtain ⟨hz,hS,vs,r,m⟩:kvs.length<=sizeLine/\(p == sysModules)=false/\∃ vs,KV kvs vs/\s.heap.DictOf (cY X.prog X.w) p vs:=I.hok p _ hx;have hlen:kvs.length=vs.length:=Paired.length r;exact wpAny_truthy_dict hS m (by lia) ⟨H,I.tok _,by rw [wZ r];exact q⟩
 | _=>exact (show False from e).elim
theorem mR (ha:PE X a ta) (he:∀ whole,isTrue a X.env whole=(do let v ← whole;standAt a.pos;holding [v] (truthy v))) :
  PT X a (fun σ H Q=>ta σ H fun x H'=>∃ k,HM X.K x H' k/\Q k H'):=by
 intro ab s σ H Q I h;exact isTrue_plain (cP (ha ab s σ H _ I h) fun v s1 ⟨x,H1,I1,r1,q1⟩=>GR ab s1 σ H1 x v Q I1 r1 q1) (he _)
theorem kx {x:V}{us:List Value}(r:bu [x] us):∃ u,us=[u]/\bM x u:=by
 cases r with
 | cons r1 r2=>cases r2;exact ⟨_,rfl,r1⟩
theorem zB {x y:V}{us:List Value}(r:bu [x,y] us):∃ u w',us=[u,w']/\bM x u/\bM y w':=by
 cases r with
 | cons r1 r2 =>
  cases r2 with
  | cons r3 r4=>cases r4;exact ⟨_,_,rfl,r1,r3⟩
theorem og (hc:X.calm=true):fq X (.builtin "min") (fun xs H Q=>∃ i j,xs=[.int i,.int j]/\Q (.int (if j<i then j else i)) H):=by
 intro ab s σ H xs us Q I r h;obtain ⟨i,j,rfl,q⟩:=h;obtain ⟨u,w',rfl,⟨t,rfl⟩,⟨t',rfl⟩⟩:=zB r;refine min_two_ints (I.ok.hd hc) fun h' tk k=>⟨_,H,I.kept k,?_,q⟩
 by_cases hj:j<i
 .rw [if_pos hj,if_pos hj];exact ⟨_,rfl⟩
 .rw [if_neg hj,if_neg hj];exact ⟨_,rfl⟩
def JE (K:W.Frag) (x:V) (H:Hp) (n:Nat):Prop :=
 match x with
 | .str y=>y.length<=sizeLine/\n=y.length
 | .byt y=>y.size<=sizeLine/\n=y.size
 | .ref p=>(∃ xs,eJ K H p xs/\n=xs.length)∨∃ xs,oG K H p xs/\n=xs.length
 | _=>False
theorem bR:fq X (.builtin "len") (fun xs H Q=>∃ x n,xs=[x]/\JE X.K x H n/\Q (.int n) H):=by
 intro ab s σ H xs us Q I r h;obtain ⟨x,n,rfl,e,q⟩:=h;obtain ⟨u,rfl,rx⟩:=kx r;have hl:=rL;have hs:sizeLine=16777216:=sizeLine_eq;cases x with
 | str y =>
  obtain ⟨t,rfl⟩:=rx;obtain ⟨hy,e'⟩:y.length<=sizeLine/\n=y.length:=e;subst e';exact len_str (by lia) ⟨.int _,H,I.tok _,⟨_,rfl⟩,q⟩
 | byt y =>
  obtain ⟨t,rfl⟩:=rx;obtain ⟨hy,e'⟩:y.size<=sizeLine/\n=y.size:=e;subst e';exact W.len_bytes (by lia) ⟨.int _,H,I.tok _,⟨_,rfl⟩,q⟩
 | ref p =>
  cases rx;have e':(∃ xs,eJ X.K H p xs/\n=xs.length)∨∃ xs,oG X.K H p xs/\n=xs.length:=e;rcases e' with ⟨xs,hx,e'⟩|⟨xs,hx,e'⟩
  .subst e';obtain ⟨its,r',pl,hz⟩:=I.list hx;have hlen:=r'.length;exact Calls.call_len_list pl.isList (by simp only [List.size_toArray];lia) ⟨.int xs.length,H,I.tok _,⟨_,by simp only [List.size_toArray];rw [hlen]⟩,q⟩
  .subst e';obtain ⟨its,r',pl,hz⟩:=I.tuple hx;have hlen:=r'.length;exact len_tuple pl (by simp only [List.size_toArray];lia) ⟨.int xs.length,H,I.tok _,⟨_,by simp only [List.size_toArray];rw [hlen]⟩,q⟩
 | _=>exact (show False from e).elim
end
end L2
namespace L2
open PySem PySem.Spec PyProof.Rows
theorem sF.some_of {v:V}{o:Option Value}(r:sF (some v) o):∃ u,o=some u/\bM v u:=by
 cases o with
 | none=>exact (show False from r).elim
 | some u=>exact ⟨u,rfl,r⟩
end L2
namespace L2
open PySem PySem.Spec PyProof.Rows
structure iO (k:Nat) (A:Around):Prop where
 hd:A.handled=none
 dp:A.depth+3*k+5<recursionLimit
 un:A.units+16*k+200<cLine
theorem iO.mono {j k:Nat}{A:Around}(r:iO k A) (h:j<=k):iO j A:=⟨r.hd,by have:=r.dp;lia,by have:=r.un;lia⟩
theorem iO.deeper {k:Nat}{A:Around}(r:iO (k+1) A) (env:Env):iO k (A.deeper env) :=
 ⟨r.hd,by have:=r.dp;show A.depth+1+3*k+5<_;lia,by have:=r.un;show A.units+3+16*k+200<_;lia⟩
theorem iO.depth {k:Nat}{A:Around}(r:iO k A):A.depth<recursionLimit:=by have:=r.dp;lia
theorem iO.units {k:Nat}{A:Around}(r:iO k A):A.units+64<cLine:=by have:=r.un;lia
def ka:TA:=fun _ H Q=>Q [] H
def gi (ta:TE) (tr:TA):TA:=fun σ H Q=>ta σ H fun x H1=>tr σ H1 fun xs H2=>Q (x::xs) H2
section
variable {X:Cx}{e:Expr}{es:List Expr}{te:TE}{t:TA}{pos:Pos}
theorem ag:PA X [] ka:=fun _ _ _ _ H Q I h=>Calls.spliced_nil ⟨[],H,I,.nil,h⟩
theorem aa (ha:PE X e te) (hr:PA X es t) (hs:starEach (e::es) X.env=(false,eval e X.env)::starEach es X.env:=by rfl):PA X (e::es) (gi te t):=by
 intro pos ab s σ H Q I h;rw [hs];show wpAny _ _ (spliced ((false,eval e X.env)::backTo pos (starEach es X.env))) _ _ s;refine Calls.spliced_cons (cP (ha ab s σ H _ I h) fun u s1 ⟨x,H1,I1,r1,q1⟩=>?_)
 exact cP (hr pos ab s1 σ H1 _ I1 q1) fun us s2 ⟨xs,H2,I2,r2,q2⟩=>⟨x::xs,H2,I2,.cons r1 r2,q2⟩
def JW (t:TA):TE:=fun σ H Q=>t σ H fun xs H1=>xs.length<=sizeLine/\∀ p,H1 p=none->Q (.ref p) (cK H1 p (.tup xs))
def JY (t:TA):TE:=fun σ H Q=>t σ H fun xs H1=>xs.length<=sizeLine/\∀ p,H1 p=none->Q (.ref p) (cK H1 p (.lst xs))
theorem kK {x1} (h:PA X es t):PE X (.Tuple es x1 pos) (JW t):=by
 intro ab s σ H Q I hq;refine wpAny_Tuple_spliced (cP (h pos ab s σ H _ I hq) fun us s1 ⟨xs,H1,I1,r,z,q⟩=>⟨by rw [← r.length];exact z,?_⟩)
 have hf:H1 s1.heap.objs.size=none:=I1.hok.fresh (Nat.le_refl _);refine ⟨.ref s1.heap.objs.size,cK H1 s1.heap.objs.size (.tup xs),I1.laid (t':=s1.toks) (fun b u e=>Heap.get?_push_of_some _ e) (Nat.le_refl _) ?_,rfl,q _ hf⟩
 exact ⟨z,us,r,⟨_,Heap.get?_push_size _ rfl,rfl,_,rfl⟩⟩
theorem du (h:PA X es t):PE X (.List es pos) (JY t):=by
 intro ab s σ H Q I hq;refine wpAny_List_spliced (cP (h pos ab s σ H _ I hq) fun us s1 ⟨xs,H1,I1,r,z,q⟩=>⟨by rw [← r.length];exact z,?_⟩)
 have hf:H1 s1.heap.objs.size=none:=I1.hok.fresh (Nat.le_refl _);refine ⟨.ref s1.heap.objs.size,cK H1 s1.heap.objs.size (.lst xs),I1.laid (t':=s1.toks) (fun b u e=>Heap.get?_push_of_some _ e) (Nat.le_refl _) ?_,rfl,q _ hf⟩
 exact ⟨z,us,0,r,Heap.get?_push_size _ rfl⟩
end
abbrev Sp:=List V->Hp->VK->XK->Prop
abbrev Cy:=List Env->Hp->Shared->XK->Value->Shared->Prop
structure EK (P:Program) (w:World) (K:W.Frag) (mg:Str->Option Value) (base:Heap) (A:Around) (outer:List Env) (s:Shared) (H:Hp):Prop where
 frames:A.frames=some outer
 mod:Mod K mg base
 bs:∀ b o,base.get? b=some o->s.heap.get? b=some o/\H b=none
 bsz:base.objs.size<=s.heap.objs.size
 funs:s.heap.FunFrames base outer
 frf:∀ b∈Cs outer,H b=none
 hok:mF P w H s.heap
 bare:AllBare s.gens
def CE (outer:List Env) (P:Program) (w:World) (H:Hp) (s:Shared) (Q:VK) (u:Value) (s':Shared):Prop :=
 ∃ v H',s'.os=s.os/\AllBare s'.gens/\Un (Cs outer) [] H H' s.heap s'.heap/\mF P w H' s'.heap/\bM v u/\Q v H'
def CR (CX:Cy) (outer:List Env) (P:Program) (w:World) (H:Hp) (s:Shared) (Q:VK) (E:XK) (r:Result) (s':Shared):Prop :=
 match r with
 | .ok (.ret u)=>CE outer P w H s Q u s'
 | .ok _=>False
 | .error e=>CX outer H s E e s'
structure pG (P:Program) (w:World) (K:W.Frag) (mg:Str->Option Value) (base:Heap) (CX:Cy) (k:Nat) (f:Addr) (fd:FuncData) (ps:List Str) (sp:Sp):Prop where
 len:∀ vs H Q E,sp vs H Q E->vs.length=ps.length
 run:∀ (A:Around) (outer:List Env) (s:Shared) (H:Hp) (args:Args) (us:List Value) (vs:List V) (Q:VK) (E:XK),iO k A->EK P w K mg base A outer s H->BindsTo s fd args (ps.zip us)->bu vs us->sp vs H Q E ->
  codeAny (model P w) A (.call (.ref f) args) (CR CX outer P w H s Q E) s
theorem pG.imp {P:Program}{w:World}{K:W.Frag}{mg:Str->Option Value}{base:Heap}{CX:Cy}{k:Nat}{f:Addr}{fd:FuncData}{ps:List Str}{sp sp':Sp}(F:pG P w K mg base CX k f fd ps sp)
  (h:∀ vs H Q E,sp' vs H Q E->sp vs H Q E):pG P w K mg base CX k f fd ps sp' :=
 ⟨fun vs H Q E q=>F.len vs H Q E (h _ _ _ _ q),fun A outer s H args us vs Q E hr he hb hv hs=>F.run A outer s H args us vs Q E hr he hb hv (h _ _ _ _ hs)⟩
section
variable {X:Cx}{ab:List (Addr×Obj)}{σ:St}{H:Hp}{s s':Shared}
theorem aO.env0 (I:aO X ab σ H s):EK X.prog X.w X.K X.mg X.base X.A X.stack s H :=
 ⟨I.ok.frames,I.ok.mod,I.bs,Nat.le_trans I.ok.bsz I.sz,I.stack,I.stkFree,I.hok,I.bare⟩
theorem aO.after {Q:VK}{u:Value}(I:aO X ab σ H s) (h:CE X.stack X.prog X.w H s Q u s'):EP X ab σ Q u s':=by
 obtain ⟨v,H',os,bare,un,hok,r,q⟩:=h;obtain ⟨hh,g,d,t,os'⟩:=s';obtain rfl:os'=s.os:=os;exact ⟨v,H',I.call (h':=hh) (g':=g) (d':=d) (t':=t) (ch:=[]) un hok bare (fun b z=>absurd z (by simp)),r,q⟩
end
def yT (sp:Sp) (dvs:List V) (E:XK) (t:TA):TE:=fun σ H Q=>t σ H fun vs H1=>sp (vs++dvs) H1 Q E
def jY (K:W.Frag) (fd:FuncData) (ps:List Str) (ds:List Value):Prop :=
 ∀ (s:Shared) (us:List Value),K.In s.heap->(us++ds).length=ps.length->BindsTo s fd ⟨us,[]⟩ (ps.zip (us++ds))
theorem jY.all {K:W.Frag}{fd:FuncData}{ps:List Str}(h:∀ us:List Value,us.length=ps.length->bindArgs fd ⟨us,[]⟩=pure (ps.zip us)):jY K fd ps []:=fun s us _ hl=>by
 rw [aNq] at hl ⊢;exact .of_eq (h us hl)
def xy (CX:Cy) (X:Cx) (E:XK):Prop:=∀ (ab:List (Addr×Obj)) (σ:St) (H:Hp) (s:Shared) (e:Value) (s':Shared),aO X ab σ H s->CX X.stack H s E e s'->X.xe e s'
section
variable {X:Cx}{CX:Cy}{k:Nat}{f C:Addr}{fd:FuncData}{ps:List Str}{sp:Sp}{dvs:List V}{ds:List Value}{E:XK}{x m:Str}{p pos apos:Pos}{e o:Expr}{es:List Expr}{ta:TE}{t:TA}
theorem Iw {ab:List (Addr×Obj)}{σ:St}{H:Hp}{s:Shared}{Q:VK}{us:List Value}{vs:List V}(F:pG X.prog X.w X.K X.mg X.base CX k f fd ps sp) (hr:iO k X.A) (hb:jY X.K fd ps ds) (hd:bu dvs ds) (hx:xy CX X E)
  (I:aO X ab σ H s) (r:bu vs us) (h:sp (vs++dvs) H Q E):wpAny (model X.prog X.w) X.A (call (.ref f) us) (EP X ab σ Q) X.xe s:=by
 have r2:bu (vs++dvs) (us++ds):=r.append hd;have hl:(us++ds).length=ps.length:=by rw [← r2.length];exact F.len _ _ _ _ h
 refine wpAny_call (codeAny_mono (F.run X.A X.stack s H ⟨us,[]⟩ (us++ds) (vs++dvs) Q E hr I.env0 (hb s us I.kIn hl) r2 h) fun r s' hq=>?_)
 cases r with
 | error e=>exact hx ab σ H s e s' I hq
 | ok fl =>
  cases fl with
  | ret u=>exact I.after hq
  | next=>exact False.elim hq
  | brk=>exact False.elim hq
  | cont=>exact False.elim hq
theorem Em (F:pG X.prog X.w X.K X.mg X.base CX k f fd ps sp) (hr:iO k X.A) (hg:Gl X x) (hm:X.mg x=some (.ref f)) (hk:W.keepIn X.K (.ref f)=true) (hb:jY X.K fd ps ds) (hd:bu dvs ds) (hx:xy CX X E)
  (ha:PA X (e::es) t) (hdb:(x == ("__debug__" : Str))=false:=by decide) (he:starEach (e::es) X.env=(false,eval e X.env)::starEach es X.env:=by rfl) (hpl:(backTo pos (starEach es X.env)).any (·.1)=false:=by rfl) :
  PE X (.Call (.Name x p) (e::es) [] pos) (yT sp dvs E t):=by
 intro ab s σ H Q I h;refine wpAny_Call_Name_kw (zE I hg hm ?_ hdb);refine W.callWith_K (h₀:=X.base) I.ok.mod.kin hk (cP (ha pos ab s σ H _ I h) fun us s1 ⟨vs,H1,I1,r,q⟩=>⟨I1.kIn,?_⟩) he hpl
 exact Iw F hr hb hd hx I1 r q
end
structure bw (N P:List Str) (sc:Scope):Prop where
 kind:sc.kind = .function
 co:sc.isCoroutine=false
 gen:sc.isGenerator=false
 nd:N.Nodup
 pre:N.take P.length=P
 par:∀ x∈P,sc.names.lookup x=some .local∨sc.names.lookup x=some .cell
 nofree:∀ y∈sc.names,y.2 ≠ .free
theorem tm {kindOf:Str->Option NameKind}{x:Str}:∀ {binds:List (Str×Value)}{m:Str->Option Value},(∀ v,(x,v)∉binds)->bindL kindOf binds m x=m x
 | [],_,_=>rfl
 | (n,v)::r,m,h=>by
  unfold bindL;rw [tm fun w hw=>h w (mCo _ hw)]
  split
  .have:x≠n:=by rintro rfl;exact h v List.mem_cons_self
   simp [this]
  .rfl
theorem tu {kindOf:Str->Option NameKind}{x:Str}:∀ {binds:List (Str×Value)}{m:Str->Option Value},(∀ v,(x,v)∉binds)->bindC kindOf binds m x=m x
 | [],_,_=>rfl
 | (n,v)::r,m,h=>by
  unfold bindC;rw [tu fun w hw=>h w (mCo _ hw)]
  split
  .rfl
  .have:x≠n:=by rintro rfl;exact h v List.mem_cons_self
   simp [this]
theorem sY {kindOf:Str->Option NameKind}{x:Str}{v:Value}:∀ {P:List Str}{vs:List Value}{i:Nat}{m:Str->Option Value},P.Nodup->P[i]?=some x->vs[i]?=some v->kindOf x=some .local ->
  bindL kindOf (P.zip vs) m x=some v
 | [],_,_,_,_,h,_,_=>by simp at h
 | _::_,[],_,_,_,_,h,_=>by simp at h
 | p::P,w::vs,0,m,nd,h1,h2,hk=>by
  simp at h1 h2;subst h1;subst h2;show bindL kindOf ((p,w)::P.zip vs) m p=_;unfold bindL;rw [tm fun v hv=>(List.nodup_cons.mp nd).1 (List.of_mem_zip hv).1,if_pos hk]
  simp
 | p::P,w::vs,i+1,m,nd,h1,h2,hk=>by
  show bindL kindOf ((p,w)::P.zip vs) m x=_;unfold bindL;exact sY (i:=i) (List.nodup_cons.mp nd).2 (by simpa using h1) (by simpa using h2) hk
theorem tQ {kindOf:Str->Option NameKind}{x:Str}{v:Value}:∀ {P:List Str}{vs:List Value}{i:Nat}{m:Str->Option Value},P.Nodup->P[i]?=some x->vs[i]?=some v->kindOf x≠some .local ->
  bindC kindOf (P.zip vs) m x=some v
 | [],_,_,_,_,h,_,_=>by simp at h
 | _::_,[],_,_,_,_,h,_=>by simp at h
 | p::P,w::vs,0,m,nd,h1,h2,hk=>by
  simp at h1 h2;subst h1;subst h2;show bindC kindOf ((p,w)::P.zip vs) m p=_;unfold bindC;rw [tu fun v hv=>(List.nodup_cons.mp nd).1 (List.of_mem_zip hv).1,if_neg hk]
  simp
 | p::P,w::vs,i+1,m,nd,h1,h2,hk=>by
  show bindC kindOf ((p,w)::P.zip vs) m x=_;unfold bindC;exact tQ (i:=i) (List.nodup_cons.mp nd).2 (by simpa using h1) (by simpa using h2) hk
def jQ (N:List Str) (vs:List V):St:=vs.map some++List.replicate (N.length-vs.length) none
def AX (CX:Cy) (P:Program) (w:World) (K:W.Frag) (mg:Str->Option Value) (base:Heap) (N:List Str) (qual:Str) (scope:Scope) (f:Addr) (cd:Value) (A:Around) (outer:List Env) (s:Shared) (H:Hp) (E:XK):Cx where
 prog:=P
 w:=w
 K:=K
 mg:=mg
 base:=base
 A:=A.deeper (envOfC qual scope s.heap.objs.size f cd)
 N:=N
 s₀:=s
 H₀:=H
 env:=envOfC qual scope s.heap.objs.size f cd
 outer:=outer
 stack:=envOfC qual scope s.heap.objs.size f cd::outer
 ex:=[]
 calm:=true
 fn:=fun _=>true
 pn:=[]
 xe:=fun e s'=>wpAny (model P w) (A.deeper (envOfC qual scope s.heap.objs.size f cd)) (leaving (envOfC qual scope s.heap.objs.size f cd) e) (fun _ s''=>CX outer H s E e s'') (fun e' s''=>CX outer H s E e' s'') s'
theorem wM {sc:Scope}{n:Nat}{x:Str}(h:sc.names.lookup x=some .cell):∃ c,(cellsFrom n sc.names []).lookup x=some c:=by
 have q:=W.cellsFrom_some sc.names n [] (.inl h);exact Option.isSome_iff_exists.mp q
theorem zQ {CX:Cy}{P:Program}{w:World}{K:W.Frag}{mg:Str->Option Value}{base:Heap}{N ps:List Str}{qual:Str}{scope:Scope}{f:Addr}{cd:Value}{A:Around}{outer:List Env}{s s1:Shared}{H:Hp}{E:XK}{us:List Value}{vs:List V}
  (S:bw N ps scope) (hd:A.handled=none) (e0:EK P w K mg base A outer s H) (hl:vs.length=ps.length) (r:bu vs us)
  (x:InCallC s s.heap.objs.size (bindL (envOfC qual scope s.heap.objs.size f cd).kindOf (ps.zip us) fun _=>none) (cellsFrom (s.heap.objs.size+1) scope.names []) (bindC (envOfC qual scope s.heap.objs.size f cd).kindOf (ps.zip us) fun _=>none) s1) :
  aO (AX CX P w K mg base N qual scope f cd A outer s H E) [] (jQ N vs) H s1:=by
 have hpl:ps.length<=N.length:=by have:=congrArg List.length S.pre;rw [lTq] at this;lia
 obtain ⟨h1,tk,rfl,hk⟩:=x.done;have noA:∀ b:Addr,b∉(AX CX P w K mg base N qual scope f cd A outer s H E).ex:=fun b z=>absurd (show b∈([]:List Addr) from z) (by simp)
 refine ⟨⟨e0.mod,S.kind,rfl,rfl,Nat.le_refl _,fun y z c h1 h2=>?_,fun y hy=>?_,fun y c _ h=>?_,fun _=>hd,Around.frames_deeper e0.frames,.inr ⟨rfl,rfl⟩,fun b z=>absurd z (noA b),e0.bs,e0.bsz,fun b _ _=>noA b,fun b z=>absurd z (noA b),e0.funs,e0.frf⟩,
  rfl,e0.bare,Un.kept hk,⟨_,x.toInCall.ns,fun i y v h1 h2 h3=>?_⟩,fun y c h=>⟨_,x.cell y c h⟩,e0.hok.fresh (Nat.le_refl _),fun y c h=>?_,fun p hp=>absurd (show p∈([]:List (Addr×Obj)) from hp) (by simp),e0.hok.kept hk,?_⟩
 .exact name_of_addr x.apart (PySem.mem_of_lookup h1) (PySem.mem_of_lookup h2)
 .have hy:scope.names.lookup y=some .cell∨scope.names.lookup y=some .free:=hy;rcases hy with hy|hy
  .exact wM hy
  .exact absurd rfl (S.nofree _ (PySem.mem_of_lookup hy))
 .exact Nat.le_of_lt (x.above y c (PySem.mem_of_lookup h))
 .have hi:i<vs.length:=by
   unfold jQ at h2
   by_cases hi:i<vs.length
   .exact hi
   .rw [gYq (by simpa using hi)] at h2
    rw [List.getElem?_replicate] at h2;split at h2 <;> cases h2
  have ha:vs[i]?=some v:=by
   unfold jQ at h2;rw [gZq (by simpa using hi),gMq] at h2
   cases e:vs[i]? with
   | none=>rw [e] at h2;cases h2
   | some a=>rw [e] at h2;cases h2;rfl
  obtain ⟨u,hu,rv⟩:=r.get ha;have hp:ps[i]?=some y:=by
   rw [← S.pre,List.getElem?_take_of_lt (by lia)];exact h1
  have ndP:ps.Nodup:=by rw [← S.pre];exact S.nd.sublist (List.take_sublist _ _)
  refine ⟨u,rv,?_⟩;rcases S.par y (mGq hp) with k|k
  .exact .inl ⟨k,sY ndP hp hu k⟩
  .obtain ⟨c,e⟩:=wM (n:=s.heap.objs.size+1) k;refine .inr ⟨.inl k,c,e,?_⟩;have q:=x.cell y c e;rw [tQ ndP hp hu (by show scope.names.lookup y≠_;rw [k];decide)] at q
   exact q
 .exact e0.hok.fresh (Nat.le_of_lt (x.above y c (PySem.mem_of_lookup h)))
 .unfold jQ;show _=N.length;rw [lAq,lMq,List.length_replicate];lia
theorem Ju {CX:Cy}{P:Program}{w:World}{K:W.Frag}{mg:Str->Option Value}{base:Heap}{k:Nat}{f:Addr}{name qual:Str}{params:Arguments}{body:List Stmt}{scope:Scope}{dV kV doc pm fT ct oc:Value}{an od:Option Addr}
  {osl:Array (Option Value)}{N ps:List Str}{sp:Sp}(lk:K.lookup f=some ⟨oc,od,.func (W.fnOf name qual params body scope dV kV doc pm an fT ct),osl⟩) (hcd:W.codeIn K fT qual=true) (S:bw N ps scope)
  (len:∀ vs H Q E,sp vs H Q E->vs.length=ps.length)
  (hbody:∀ (A:Around) (outer:List Env) (s:Shared) (H:Hp) (vs:List V) (Q:VK) (E:XK),iO k (A.deeper (envOfC qual scope s.heap.objs.size f fT))->sp vs H Q E ->
   ∃ t,Ah (AX CX P w K mg base N qual scope f fT A outer s H E) body t/\t { nx:=fun _ H'=>Q .non H',rt:=Q } (jQ N vs) H) :
  pG P w K mg base CX (k+1) f (W.fnOf name qual params body scope dV kV doc pm an fT ct) ps sp:=by
 refine ⟨len,fun A outer s H args us vs Q E hr e0 hb r hsp=>?_⟩
 have hl:=len _ _ _ _ hsp;have KX:K.In s.heap:=e0.mod.kin.keeps fun b o e=>(e0.bs b o e).1
 have lim:s.heap.NoLimit:=e0.mod.nolimit.keeps fun b o e=>(e0.bs b o e).1
 have hkind:∀ y∈ps.zip us,scope.names.lookup y.1=some .local∨(scope.names.lookup y.1=some .cell/\((cellsFrom (s.heap.objs.size+1) scope.names []).lookup y.1).isSome=true):=fun ⟨n,v⟩ hy=>by
  rcases S.par n (List.of_mem_zip hy).1 with q|q
  .exact .inl q
  .exact .inr ⟨q,W.cellsFrom_some _ _ _ (.inl q)⟩
 refine codeAny_call_function hr.depth (KX _ _ lk) rfl S.co S.gen rfl (W.codeRec_of KX hcd) (hb _ _ _ _ ?_);refine wpAny_newFunctionEnv_cells S.kind hkind fun env he s1 x=>?_
 subst he;refine ⟨lim.keeps x.toInCall.keep,codeAny_func ?_⟩;obtain ⟨t,ht,hq⟩:=hbody A outer s H vs Q E (hr.deeper _) hsp;have I:aO (AX CX P w K mg base N qual scope f fT A outer s H E) [] (jQ N vs) H s1:=zQ S hr.hd e0 hl r x;refine wpAny_mono (ht [] s1 (jQ N vs) H _ I hq) (fun fl s' hs=>?_) fun e s' hs=>hs
 have fin:∀ {σ':St}{H':Hp}{v:V}{u:Value},aO (AX CX P w K mg base N qual scope f fT A outer s H E) [] σ' H' s'->bM v u->Q v H'->CE outer P w H s Q u s' :=
  fun {σ' H' v u} J rv q=>⟨v,H',J.os,J.bare,J.base,J.hok,rv,q⟩
 cases fl with
 | ret u =>
  obtain ⟨v,σ',H',J,rv,q⟩:=hs;exact fin J rv q
 | next =>
  obtain ⟨σ',H',J,q⟩:=hs;exact fin (v:=V.non) (u:=Value.none) J rfl q
 | brk =>
  obtain ⟨_,_,_,q⟩:=hs;exact False.elim q
 | cont =>
  obtain ⟨_,_,_,q⟩:=hs;exact False.elim q
end L2
namespace L2
open PySem PySem.Spec PyProof.Rows
section
variable {X:Cx}{x:Str}{p pos:Pos}{e:Expr}{es:List Expr}{t:TA}{id T:String}{r:List V->Hp->VK->Prop}
def Bk (r:List V->Hp->VK->Prop) (t:TA):TE:=fun σ H Q=>t σ H fun vs H1=>r vs H1 Q
theorem aK (hc:fq X (.builtin id) r) (hg:Gl X x) (hm:X.mg x=none) (hv:bootBuiltins x=some (.builtin id)) (ha:PA X (e::es) t) (hn:x ≠ "__name__" := by decide) (hdb:(x == ("__debug__" : Str))=false:=by decide)
  (he:starEach (e::es) X.env=(false,eval e X.env)::starEach es X.env:=by rfl) (hpl:(backTo pos (starEach es X.env)).any (·.1)=false:=by rfl):PE X (.Call (.Name x p) (e::es) [] pos) (Bk r t):=by
 intro ab s σ H Q I h;refine wpAny_Call_Name_kw (gu I hg hm hv ?_ hn hdb);exact PyProof.Rows.callWith_builtin1 (cP (ha pos ab s σ H _ I h) fun us s1 ⟨vs,H1,I1,r1,q1⟩=>hc ab s1 σ H1 vs us Q I1 r1 q1) he hpl
theorem sV (hc:fq X (.type T) r) (hg:Gl X x) (hm:X.mg x=none) (hv:bootBuiltins x=some (.type T)) (ha:PA X (e::es) t) (hn:x ≠ "__name__" := by decide) (hdb:(x == ("__debug__" : Str))=false:=by decide)
  (he:starEach (e::es) X.env=(false,eval e X.env)::starEach es X.env:=by rfl) (hpl:(backTo pos (starEach es X.env)).any (·.1)=false:=by rfl):PE X (.Call (.Name x p) (e::es) [] pos) (Bk r t):=by
 intro ab s σ H Q I h;refine wpAny_Call_Name_kw (gu I hg hm hv ?_ hn hdb);exact PyProof.Rows.callWith_type1 (cP (ha pos ab s σ H _ I h) fun us s1 ⟨vs,H1,I1,r1,q1⟩=>hc ab s1 σ H1 vs us Q I1 r1 q1) he hpl
end
end L2
namespace HT
open PySem PyProof.Rows
def ef:List Int->List Int->Bool
 | [],[]=>false
 | [],_::_=>true
 | _::_,[]=>false
 | x::xs,y::ys=>if x=y then ef xs ys else decide (x<y)
theorem jG (x y:Int) (xs ys:List Int):ef (x::xs) (y::ys)=if x=y then ef xs ys else decide (x<y):=rfl
theorem sk:ef [] []=false:=rfl
theorem qM (y:Int) (ys:List Int):ef [] (y::ys)=true:=rfl
theorem qL (x:Int) (xs:List Int):ef (x::xs) []=false:=rfl
theorem DB (A:Around) (s:Shared) (a:Int) (t:Tok) (c:Int) (u:Tok):∃ e,SeqAt.EqAt A s (.int a t) (.int c u) e/\(e=true↔a=c) :=
 ⟨(a == c),SeqAt.EqAt.int_int a t c u,by simp⟩
theorem DH (A:Around) (s:Shared) (a:Int) (t:Tok) (c:Int) (u:Tok) (prog:Program) (w:World) (E:Value->Shared->Prop) (Q:Value->Shared->Prop) (h:Q (.bool (decide (a<c))) s) :
  wpAny (model prog w) A (richCompare .Lt (.int a t) (.int c u)) Q E s :=
 (PyProof.Rows.lt_int h:wpAny (model prog w) A (compareOp .Lt (.int a t) (.int c u)) Q E s)
section
open PySem.SeqAt
open PySem.AutoSeq1 (wpAny_loadPart')
open PySem.MeetsSeq PySem.MeetsSeq2 PySem.MeetsSeq3
end
section
variable {prog:Program}{w:World}{A:Around}{E:Value->Shared->Prop}{s:Shared}
def sG (n d:Nat):Option Int->Nat
 | none=>d
 | some v=>if v<0 then (v+(n:Int)).toNat else min v.toNat n
theorem nt (n d:Nat):sG n d none=d:=rfl
theorem kY (n d k:Nat):sG n d (some (k:Int))=min k n:=by
 show (if (k:Int)<0 then ((k:Int)+(n:Int)).toNat else min (k:Int).toNat n)=min k n
 rw [if_neg (by lia),Int.toNat_natCast]
end
end HT
namespace L2
open PySem PySem.Spec PyProof.Rows
abbrev TO:=St->Hp->(Option Int->Hp->Prop)->Prop
def PO (X:Cx) (e:Option Expr) (t:TO):Prop :=
 ∀ (ab:List (Addr×Obj)) (s:Shared) (σ:St) (H:Hp) (Q:Option Int->Hp->Prop),aO X ab σ H s->t σ H Q ->
  wpAny (model X.prog X.w) X.A (evalPart e X.env) (fun u s'=>∃ o H',aO X ab σ H' s'/\IsPart u o/\Q o H') X.xe s
def yO:TO:=fun _ H Q=>Q none H
def FX (t:TE):TO:=fun σ H Q=>t σ H fun x H1=>∃ i,x = .int i/\Q (some i) H1
theorem mB {ns:List Int}:∀ {us:List Value},bu (ns.map V.int) us->IntsAre us ns:=by
 induction ns with
 | nil=>intro us r;rw [List.map_nil] at r;cases r;exact .nil
 | cons n ns ih =>
  intro us r;rw [List.map_cons] at r;cases r with
  | cons r1 r2 =>
   obtain ⟨t,e⟩:=r1;subst e;exact .cons n t (ih r2)
section
variable {X:Cx}{e:Expr}{te:TE}{lo hi:Option Expr}{tl th:TO}{pos p2:Pos}
theorem nj:PO X none yO:=by
 intro ab s σ H Q I h;rw [evalPart_none];exact wpAny_pure ⟨none,H,I,.none,h⟩
theorem jt (h:PE X e te):PO X (some e) (FX te):=by
 intro ab s σ H Q I hw;rw [evalPart_some];refine cP (h ab s σ H _ I hw) fun u s1 ⟨x,H1,I1,r1,q1⟩=>?_
 obtain ⟨i,rfl,q⟩:=q1;obtain ⟨t,rfl⟩:=r1;exact ⟨some i,H1,I1,.int i t,q⟩
def Mk (X:Cx) (r:V->Option Int->Option Int->Hp->VK->Prop):Prop :=
 ∀ (ab:List (Addr×Obj)) (s:Shared) (σ:St) (H:Hp) (x:V) (v vl vu:Value) (lo hi:Option Int) (sl:Addr) (Q:VK),aO X ab σ H s->bM x v->s.heap.IsSliceOf sl vl vu .none->IsPart vl lo->IsPart vu hi->r x lo hi H Q ->
  ∃ T id,typeLookup (.type T) "__getitem__" = pure (some (.builtin id))/\s.TypeIs v T/\wpAny (model X.prog X.w) X.A (getItem v (.ref sl)) (EP X ab σ Q) X.xe s
def Mh (r:V->Option Int->Option Int->Hp->VK->Prop) (te:TE) (tl th:TO):TE:=fun σ H Q=>te σ H fun x H1=>tl σ H1 fun l H2=>th σ H2 fun u H3=>r x l u H3 Q
theorem jh {r:V->Option Int->Option Int->Hp->VK->Prop}(hr:Mk X r) (he:PE X e te) (hl:PO X lo tl) (hu:PO X hi th):PE X (.Subscript e (.Slice lo hi none p2) pos) (Mh r te tl th):=by
 intro ab s σ H Q I h;refine Subscript_ (cP (he ab s σ H _ I h) fun v s1 ⟨x,H1,I1,r1,q1⟩=>?_)
 refine wpAny_Slice (cP (hl ab s1 σ H1 _ I1 q1) fun vl s2 ⟨l,H2,I2,pl,q2⟩=>cP (hu ab s2 σ H2 _ I2 q2) fun vu s3 ⟨u,H3,I3,pu,q3⟩=>?_)
 rw [evalPart_none];refine wpAny_pure ?_;have I4:aO X ab σ H3 { s3 with heap:=s3.heap.push { cls:=.type "slice", data:=.fields #[vl,vu,.none] } }:=I3.kept (t':=s3.toks) fun b ob q=>Heap.get?_push_of_some _ q
 obtain ⟨T,id,hT,ht,hg⟩:=hr ab { s3 with heap:=s3.heap.push { cls:=.type "slice", data:=.fields #[vl,vu,.none] } } σ H3 x v vl vu l u s3.heap.objs.size Q I4 r1 (Heap.IsSliceOf.new ..) pl pu q3
 show wpAny (model X.prog X.w) X.A (subscriptTail e (.Slice lo hi none p2) v (.ref s3.heap.objs.size)) (EP X ab σ Q) X.xe { s3 with heap:=s3.heap.push { cls:=.type "slice", data:=.fields #[vl,vu,.none] } }
 exact tail_any (ops:=[.ref s3.heap.objs.size,v]) ht hT hg (by with_unfolding_all rfl)
def xk (xs:List V) (lo hi:Option Int):List V:=(xs.drop (HT.sG xs.length 0 lo)).take (HT.sG xs.length xs.length hi-HT.sG xs.length 0 lo)
theorem vJ (xs:List V) (lo hi:Option Int):(xk xs lo hi).length<=xs.length:=by
 unfold xk;rw [lTq,List.length_drop];lia
end
end L2
namespace L2
open PySem PySem.Spec PyProof.Rows
def uq (n:Nat) (i:Int):Option Nat:=if 0<=i then (if i<n then some i.toNat else none) else if -(n:Int)<=i then some (i+n).toNat else none
def atI {α:Type}(xs:List α) (i:Int):Option α:=(uq xs.length i).bind fun j=>xs[j]?
theorem uJ {n:Nat}{i:Int}{j:Nat}(h:uq n i=some j):seqIndex? i n=some j/\j<n/\-(n:Int)<=i/\i<n:=by
 unfold uq at h
 by_cases h0:0<=i
 .rw [if_pos h0] at h
  by_cases h1:i<n
  .rw [if_pos h1] at h;have e:i.toNat=j:=Option.some.inj h;exact ⟨by rw [seqIndex_of h0 h1,e],by lia,by lia,h1⟩
  .rw [if_neg h1] at h;cases h
 .rw [if_neg h0] at h
  by_cases h1:-(n:Int)<=i
  .rw [if_pos h1] at h;have e:(i+n).toNat=j:=Option.some.inj h;exact ⟨by rw [seqIndex_neg (by lia) h1,e],by lia,h1,by lia⟩
  .rw [if_neg h1] at h;cases h
theorem yX {α:Type}{xs:List α}{i:Int}{v:α}(h:atI xs i=some v):∃ j,seqIndex? i xs.length=some j/\xs[j]?=some v/\j<xs.length/\-(xs.length:Int)<=i/\i<xs.length:=by
 unfold atI at h;cases e:uq xs.length i with
 | none=>rw [e] at h;cases h
 | some j =>
  rw [e] at h;obtain ⟨h1,h2,h3,h4⟩:=uJ e;exact ⟨j,h1,h,h2,h3,h4⟩
theorem fM {α:Type}{xs:List α}{j:Nat}{v:α}(h:xs[j]?=some v):atI xs (j:Int)=some v:=by
 have hj:j<xs.length:=(gSq.mp h).1;have e:uq xs.length (j:Int)=some j:=by
  unfold uq;rw [if_pos (by lia),if_pos (by lia)];simp
 unfold atI;rw [e];exact h
def EF (b:Expr):Prop:=∀ o i,subscripted b false o i=operate [o,i] (getItem o i)
def LO (X:Cx) (r:R2):Prop :=
 ∀ (value slice:Expr) (ab:List (Addr×Obj)) (s:Shared) (σ:St) (H:Hp) (x y:V) (v u:Value) (Q:VK),aO X ab σ H s->bM x v->bM y u->r x y H Q ->
  subscripted slice false v u=operate [v,u] (getItem v u)->wpAny (model X.prog X.w) X.A (subscriptTail value slice v u) (EP X ab σ Q) X.xe s
def KG (X:Cx) (id:String) (r:V->List V->Hp->VK->Prop):Prop :=
 ∀ (ab:List (Addr×Obj)) (s:Shared) (σ:St) (H:Hp) (x:V) (xs:List V) (v:Value) (us:List Value) (Q:VK),aO X ab σ H s->bM x v->bu xs us->r x xs H Q ->
  wpAny (model X.prog X.w) X.A (call (.builtin id) (v::us)) (EP X ab σ Q) X.xe s
section
variable {X:Cx}{a b:Expr}{ta tb:TE}{pos:Pos}
theorem bB {r:R2}(hr:LO X r) (ha:PE X a ta) (hb:PE X b tb) (hs:EF b):PE X (.Subscript a b pos) (DY r ta tb):=by
 intro ab s σ H Q I h;exact Subscript_ (Iu ha hb I h fun v u s2 x y H2 I2 rx ry q=>hr a b ab s2 σ H2 x y v u Q I2 rx ry q (hs _ _))
def Fo (K:W.Frag):R2:=fun x y H Q=>∃ p xs i v,x = .ref p/\y = .int i/\eJ K H p xs/\atI xs i=some v/\Q v H
def Hu (K:W.Frag):R2:=fun x y H Q=>∃ p xs i v,x = .ref p/\y = .int i/\oG K H p xs/\atI xs i=some v/\Q v H
theorem dc:LO X (Fo X.K):=by
 intro value slice ab s σ H x y v u Q I rx ry h hs;obtain ⟨p,xs,i,z,rfl,rfl,hq,he,q⟩:=h;cases rx;obtain ⟨t,rfl⟩:=ry;obtain ⟨its,r,pl,hz⟩:=I.list hq;obtain ⟨j,h1,h2,h3,h4,h5⟩:=yX he;obtain ⟨w,ew,rw'⟩:=r.get h2;have hl:=r.length;have hn:=rL;have fin:EP X ab σ Q w s:=⟨z,H,I,rw',q⟩
 by_cases h0:0<=i
 .have hj:i.toNat=j:=by
   rw [seqIndex_of h0 h5] at h1;exact Option.some.inj h1
  exact item_listR pl.isList h0 (by lia) (by rw [hj];simpa using ew) fin hs
 .have hj:(i+(its.toArray.size:Int)).toNat=j:=by
   rw [seqIndex_neg (by lia) h4] at h1
   rw [List.size_toArray,← hl];exact Option.some.inj h1
  exact subscriptTail_builtinR (x:=w) pl.isList.typeIs slot_list_getitem.lookup
   (wpAny_getItem_list_neg (Q:=fun r s'=>r=w/\EP X ab σ Q r s') pl.isList (by lia) (by rw [List.size_toArray] <;> lia) (by lia) (by rw [hj];simpa using ew) ⟨rfl,fin⟩) hs
theorem bQ:LO X (Hu X.K):=by
 intro value slice ab s σ H x y v u Q I rx ry h hs;obtain ⟨p,xs,i,z,rfl,rfl,hq,he,q⟩:=h;cases rx;obtain ⟨t,rfl⟩:=ry;obtain ⟨its,r,pl,hz⟩:=I.tuple hq;obtain ⟨j,h1,h2,h3,h4,h5⟩:=yX he;obtain ⟨w,ew,rw'⟩:=r.get h2;have hl:=r.length;have hn:=rL;have fin:EP X ab σ Q w s:=⟨z,H,I,rw',q⟩;exact subscriptTail_builtinR (x:=w) pl.typeIs slot_tuple_getitem.lookup
  (getItem_tuple (j:=j) (Q:=fun r s'=>r=w/\EP X ab σ Q r s') pl (by lia) (by lia) (by rw [List.size_toArray,← hl];exact h1) (by simpa using ew) ⟨rfl,fin⟩) hs
theorem xv (its:List Value) (n j:Nat) (u:Value):Obj.mapSeq (·.setIfInBounds j u) { cls:=.type "list", data:=.seq its.toArray n }={ cls:=.type "list", data:=.seq (its.set j u).toArray n }:=by
 simp [Obj.mapSeq]
theorem aO.lst {ab:List (Addr×Obj)}{σ:St}{H:Hp}{s:Shared}{p:Addr}{xs:List V}(I:aO X ab σ H s) (h:H p=some (.lst xs)) :
  ∃ (its:List Value) (n:Nat),bu xs its/\s.heap.get? p=some { cls:=.type "list", data:=.seq its.toArray n }/\xs.length<=sizeLine:=by
 obtain ⟨z,its,n,r,e⟩:=I.hok p _ h;exact ⟨its,n,r,e,z⟩
theorem aO.lstUpd {ab:List (Addr×Obj)}{σ:St}{H:Hp}{s:Shared}{p:Addr}{xs ys:List V}{its its':List Value}{n n':Nat}{f:Obj->Obj}(I:aO X ab σ H s) (h:H p=some (.lst xs))
  (ho:s.heap.get? p=some { cls:=.type "list", data:=.seq its.toArray n }) (hf:f { cls:=.type "list", data:=.seq its.toArray n }={ cls:=.type "list", data:=.seq its'.toArray n' }) (r:bu ys its') (hz:ys.length<=sizeLine) (t:Nat) :
  aO X ab σ (cK H p (.lst ys)) { s with heap:=s.heap.update p f,toks:=t }:=by
 have e:(s.heap.update p f).get? p=some { cls:=.type "list", data:=.seq its'.toArray n' }:=by
  rw [Heap.get?_update_self f ho (by rw [hf] <;> rfl),hf]
 refine I.write (x:=p) (e:=p) (by rw [h];trivial) (.inl rfl) (fun b u hb q=>(Heap.get?_update_other _ _ (Ne.symm hb)).trans q) ⟨_,e⟩ ?_
 exact ⟨hz,its',n',r,e⟩
def Ga:V->V->V->Hp->(Hp->Prop)->Prop:=fun o i v H Q=>∃ p xs k j,o = .ref p/\i = .int k/\H p=some (.lst xs)/\uq xs.length k=some j/\Q (cK H p (.lst (xs.set j v)))
theorem Dp:Jl X Ga:=by
 intro ab s σ H o i v ov iv u Q I ro ri rv h;obtain ⟨p,xs,k,j,rfl,rfl,hp,hj,q⟩:=h;cases ro;obtain ⟨t,rfl⟩:=ri;obtain ⟨its,n,r,ho,hz⟩:=I.lst hp;obtain ⟨h1,h2,h3,h4⟩:=uJ hj;have hl:=r.length;have hn:=rL;have I':aO X ab σ (cK H p (.lst (xs.set j v))) { s with heap:=s.heap.update p (Obj.mapSeq (·.setIfInBounds j u)) } :=
  I.lstUpd hp ho (xv its n j u) (r.set rv j) (by rw [lZq];exact hz) s.toks
 by_cases h0:0<=k
 .have hk:k.toNat=j:=by
   rw [seqIndex_of h0 h4] at h1;exact Option.some.inj h1
  exact W.ki_setAt ho h0 (by lia) (by rw [List.size_toArray,← hl];exact h4) (by rw [hk];exact ⟨_,I',q⟩)
 .have hk:(k+(its.toArray.size:Int)).toNat=j:=by
   rw [seqIndex_neg (by lia) h3] at h1
   rw [List.size_toArray,← hl];exact Option.some.inj h1
  exact W.ki_setBack ho (by lia) (by rw [List.size_toArray,← hl];exact h3) (by lia) (by rw [hk];exact ⟨_,I',q⟩)
theorem uB (lo hi:Option Int) (n:Nat):(sliceBounds lo hi none n).1=((HT.sG n 0 lo:Nat):Int)/\(sliceBounds lo hi none n).2.1=((HT.sG n n hi:Nat):Int)/\(sliceBounds lo hi none n).2.2=1:=by
 refine ⟨?_,?_,rfl⟩
 .cases lo with
  | none=>simp [sliceBounds,HT.sG]
  | some i =>
   simp only [sliceBounds,HT.sG,Option.getD_none,show (1:Int)>0 by decide,if_true]
   by_cases h:i<0
   .simp only [h,if_true] <;> lia
   .simp only [h,if_false] <;> lia
 .cases hi with
  | none=>simp [sliceBounds,HT.sG]
  | some i =>
   simp only [sliceBounds,HT.sG,Option.getD_none,show (1:Int)>0 by decide,if_true]
   by_cases h:i<0
   .simp only [h,if_true] <;> lia
   .simp only [h,if_false] <;> lia
theorem rV (its:List Value) (lo hi:Option Int):slicePick its.toArray lo hi none=((its.drop (HT.sG its.length 0 lo)).take (HT.sG its.length its.length hi-HT.sG its.length 0 lo)).toArray:=by
 obtain ⟨h1,h2,h3⟩:=uB lo hi its.toArray.size;unfold slicePick;rw [h1,h2,h3];simp only [sliceRange_one,pick_run,List.size_toArray] <;> rfl
def J6 (K:W.Frag):V->Option Int->Option Int->Hp->VK->Prop:=fun x lo hi H Q=>∃ a xs,x = .ref a/\eJ K H a xs/\∀ p,H p=none->Q (.ref p) (cK H p (.lst (xk xs lo hi)))
theorem kT:Mk X (J6 X.K):=by
 intro ab s σ H x v vl vu lo hi sl Q I rx hs pl pu h;obtain ⟨a,xs,rfl,hx,q⟩:=h;cases rx;obtain ⟨its,r,ht,hz⟩:=I.list hx;have hlen:=r.length;refine ⟨"list", _,slot_list_getitem.lookup,ht.isList.typeIs,?_⟩;refine wpAny_getItem_list_slice ht.isList hs pl pu .none (by simp) ?_ (by rw [List.size_toArray] <;> lia)
 rw [rV,← hlen];refine ⟨.ref s.heap.objs.size,_,I.laid (t':=s.toks) (o:=.lst (xk xs lo hi)) (fun b ob q=>Heap.get?_push_of_some _ q) (Nat.le_refl _) ?_,rfl,q _ (I.hok.fresh (Nat.le_refl _))⟩
 exact ⟨Nat.le_trans (vJ xs lo hi) hz,_,0,(r.drop (HT.sG xs.length 0 lo)).take (HT.sG xs.length xs.length hi-HT.sG xs.length 0 lo),Heap.get?_push_size _ rfl⟩
def lQ:V->Bool
 | .non=>true
 | .bl _=>true
 | .int _=>true
 | .str _=>true
 | _=>false
def FK:V->V->Bool
 | .non,.non=>true
 | .bl a,.bl b=>a == b
 | .bl a,.int b=>(if a then 1 else 0) == b
 | .int a,.bl b=>a == (if b then 1 else 0)
 | .int a,.int b=>a == b
 | .str a,.str b=>a == b
 | _,_=>false
theorem GC {A:Around}{s:Shared}{y x:V}{u v:Value}(ry:bM y u) (rx:bM x v) (fy:lQ y=true) (fx:lQ x=true):SeqAt.EqAt A s u v (FK y x):=by
 cases y with
 | non =>
  cases ry;cases x with
  | non=>cases rx;exact SeqAt.EqAt.same _
  | bl b=>cases rx;exact SeqAt.EqAt.none_bool b
  | int b=>obtain ⟨t,rfl⟩:=rx;exact SeqAt.EqAt.none_int b t
  | str b=>obtain ⟨t,rfl⟩:=rx;exact SeqAt.EqAt.none_str b t
  | _=>exact absurd (show false=true from fx) Bool.false_ne_true
 | bl a =>
  cases ry;cases x with
  | non=>cases rx;exact SeqAt.EqAt.bool_none a
  | bl b=>cases rx;exact SeqAt.EqAt.bool_bool a b
  | int b=>obtain ⟨t,rfl⟩:=rx;exact SeqAt.EqAt.bool_int a b t
  | str b=>obtain ⟨t,rfl⟩:=rx;exact SeqAt.EqAt.bool_str a b t
  | _=>exact absurd (show false=true from fx) Bool.false_ne_true
 | int a =>
  obtain ⟨t',rfl⟩:=ry;cases x with
  | non=>cases rx;exact SeqAt.EqAt.int_none a t'
  | bl b=>cases rx;exact SeqAt.EqAt.int_bool a t' b
  | int b=>obtain ⟨t,rfl⟩:=rx;exact SeqAt.EqAt.int_int a t' b t
  | str b=>obtain ⟨t,rfl⟩:=rx;exact SeqAt.EqAt.int_str a t' b t
  | _=>exact absurd (show false=true from fx) Bool.false_ne_true
 | str a =>
  obtain ⟨t',rfl⟩:=ry;cases x with
  | non=>cases rx;exact SeqAt.EqAt.str_none a t'
  | bl b=>cases rx;exact SeqAt.EqAt.str_bool a t' b
  | int b=>obtain ⟨t,rfl⟩:=rx;exact SeqAt.EqAt.str_int a t' b t
  | str b=>obtain ⟨t,rfl⟩:=rx;exact SeqAt.EqAt.str_str a t' b t
  | _=>exact absurd (show false=true from fx) Bool.false_ne_true
 | _=>exact absurd (show false=true from fy) Bool.false_ne_true
def EZ (x:V) (u:Value):Bool:=match u with
 | .none=>FK .non x
 | .bool b=>FK (.bl b) x
 | .int i _=>FK (.int i) x
 | .str z _=>FK (.str z) x
 | _=>false
theorem Di {x y:V}{u:Value}(r:bM y u) (f:lQ y=true):EZ x u=FK y x:=by
 cases y with
 | non=>cases r;rfl
 | bl b=>cases r;rfl
 | int i=>obtain ⟨t,rfl⟩:=r;rfl
 | str z=>obtain ⟨t,rfl⟩:=r;rfl
 | _=>exact absurd (show false=true from f) Bool.false_ne_true
theorem ux {x:V}:∀ {xs:List V}{us:List Value},bu xs us->xs.all lQ=true->us.any (EZ x)=xs.any fun y=>FK y x
 | _,_,.nil,_=>rfl
 | y::xs,u::us,.cons r t,f=>by
  rw [List.all_cons,Bool.and_eq_true] at f;rw [List.any_cons,List.any_cons,Di r f.1,ux t f.2]
theorem rN {A:Around}{s:Shared}{x:V}{v:Value}(rx:bM x v) (fx:lQ x=true):∀ {xs:List V}{us:List Value},bu xs us->xs.all lQ=true->∀ u∈us,SeqAt.EqAt A s u v (EZ x u)
 | _,_,.nil,_=>fun u hu=>by cases hu
 | y::xs,u::us,.cons r t,f=>fun u' hu=>by
  rw [List.all_cons,Bool.and_eq_true] at f;rcases List.mem_cons.mp hu with rfl|hu
  .rw [Di r f.1];exact GC r rx f.1 fx
  .exact rN rx fx t f.2 u' hu
def IP (x:V) (xs:List V):Bool:=xs.any fun y=>FK y x
def L3 (K:W.Frag) (neg:Bool):R2:=fun x y H Q=>∃ p xs,y = .ref p/\(eJ K H p xs∨oG K H p xs)/\lQ x=true/\xs.all lQ=true/\Q (.bl (if neg then !IP x xs else IP x xs)) H
theorem zR:oj X (compareOp .In) (L3 X.K false):=by
 intro ab s σ H x y v u Q I rx ry h;obtain ⟨p,xs,rfl,hq,fx,fs,q⟩:=h;cases ry;rcases hq with hq|hq
 .obtain ⟨its,r,pl,hz⟩:=I.list hq;refine SeqAt.in_listAt (EZ x) pl.isList (fun w hw=>rN rx fx r fs w (by simpa using hw)) ⟨.bl _,H,I,rfl,?_⟩
  rw [show its.toArray.any (EZ x)=its.any (EZ x) by simp,ux r fs]
  exact q
 .obtain ⟨its,r,pl,hz⟩:=I.tuple hq;refine SeqAt.in_tupleAt (EZ x) pl (fun w hw=>rN rx fx r fs w (by simpa using hw)) ⟨.bl _,H,I,rfl,?_⟩
  rw [show its.toArray.any (EZ x)=its.any (EZ x) by simp,ux r fs]
  exact q
theorem fq.or {f:Value}{r r':List V->Hp->VK->Prop}(h:fq X f r) (h':fq X f r'):fq X f (fun xs H Q=>r xs H Q∨r' xs H Q):=by
 intro ab s σ H xs us Q I rs q;rcases q with q|q
 .exact h ab s σ H xs us Q I rs q
 .exact h' ab s σ H xs us Q I rs q
theorem uV:fq X (.type "list") (fun xs H Q=>∃ p ys,xs=[.ref p]/\(eJ X.K H p ys∨oG X.K H p ys)/\∀ l,H l=none->Q (.ref l) (cK H l (.lst ys))):=by
 intro ab s σ H xs us Q I r h;obtain ⟨p,ys,rfl,hq,q⟩:=h;obtain ⟨u,rfl,rx⟩:=kx r;cases rx;have fin:∀ (its:List Value),bu ys its->ys.length<=sizeLine->∀ (h':Heap) (c':Nat),(∀ b o',s.heap.get? b=some o'->h'.get? b=some o') ->
   h'.get? s.heap.objs.size=some { cls:=.type "list", dict:=none,data:=.seq its.toArray c',slots:=#[] }->EP X ab σ Q (.ref s.heap.objs.size) { s with heap:=h' }:=fun its r' hz h' c' kp e =>
  ⟨.ref s.heap.objs.size,_,I.laid (t':=s.toks) kp (Nat.le_refl _) (show dJ X.prog X.w _ h' _ (.lst ys) from ⟨hz,its,c',r',e⟩),rfl,q _ (I.hok.fresh (Nat.le_refl _))⟩
 rcases hq with hq|hq
 .obtain ⟨its,r',pl,hz⟩:=I.list hq;have hlen:=r'.length;obtain ⟨o,ho,hc,n,hd⟩:=pl.isList;exact call_list_seq p (.inl rfl) ho hc hd (fun h' c' kp e=>fin its r' hz h' c' kp e) (by simp only [List.size_toArray] <;> lia)
 .obtain ⟨its,r',pl,hz⟩:=I.tuple hq;have hlen:=r'.length;obtain ⟨o,ho,hc,n,hd⟩:=pl;exact call_list_seq p (.inr rfl) ho hc hd (fun h' c' kp e=>fin its r' hz h' c' kp e) (by simp only [List.size_toArray] <;> lia)
def KB (K:W.Frag) (T:String) (x:V) (H:Hp):Prop:=match x with
 | .str _=>T = "str"
 | .int _=>T = "int"
 | .ref p=>(T = "list" /\ ∃ xs,eJ K H p xs)∨(T = "tuple" /\ ∃ o,K.lookup p=some o/\o.cls = .type "tuple" /\ o.dict=none) ∨
   (T = "dict" /\ ((∃ kvs,H p=some (.dK kvs))∨∃ kvs,H p=some (.dT kvs)))∨(T = "set" /\ ∃ S n,H p=some (.set S n))
 | _=>False
theorem DL {ab:List (Addr×Obj)}{σ:St}{H:Hp}{s:Shared}{T:String}{x:V}{v:Value}(I:aO X ab σ H s) (r:bM x v) (ty:KB X.K T x H) :
  s.TypeIs v T/\∀ a,v = .ref a->∃ ob,s.heap.get? a=some ob/\ob.dict=none:=by
 cases x with
 | str z =>
  obtain ⟨t,rfl⟩:=r;cases (show T = "str" from ty)
  exact ⟨typeIs_str s z t,fun _ e=>nomatch e⟩
 | int i =>
  obtain ⟨t,rfl⟩:=r;cases (show T = "int" from ty)
  exact ⟨typeIs_int s i t,fun _ e=>nomatch e⟩
 | ref p =>
  cases r;rcases ty with ⟨rfl,xs,hq⟩|⟨rfl,o,hk,hc,hd⟩|⟨rfl,hk⟩|⟨rfl,S,n,hk⟩
  .obtain ⟨its,_,pl,_⟩:=I.list hq;refine ⟨pl.isList.typeIs,fun a e=>?_⟩
   cases e;obtain ⟨o,n,e,c,hd,_⟩:=pl;exact ⟨o,e,hd⟩
  .refine ⟨⟨o,I.kIn p o hk,hc⟩,fun a e=>?_⟩
   cases e;exact ⟨o,I.kIn _ o hk,hd⟩
  .have z:∃ o,s.heap.get? p=some o/\o.ExactDict:=by
    rcases hk with ⟨kvs,hk⟩|⟨kvs,hk⟩
    .obtain ⟨_,_,_,_,o,_,_,e,ex,_⟩:=I.hok p _ hk;exact ⟨o,e,ex⟩
    .obtain ⟨_,_,_,_,o,_,_,e,ex,_⟩:=I.hok p _ hk;exact ⟨o,e,ex⟩
   obtain ⟨o,e,ex⟩:=z;refine ⟨⟨o,e,ex.1⟩,fun a e2=>?_⟩
   cases e2;exact ⟨o,e,ex.2.1⟩
  .obtain ⟨o,_,_,_,e,ex,_⟩:=I.hok p _ hk;refine ⟨⟨o,e,ex.1⟩,fun a e2=>?_⟩
   cases e2;exact ⟨o,e,ex.2.1⟩
 | _=>exact False.elim ty
def JK (K:W.Frag) (T:String) (r:V->List V->Hp->VK->Prop) (to:TE):TE:=fun σ H Q=>to σ H fun x H1=>KB K T x H1/\r x [] H1 Q
def Gf (K:W.Frag) (T:String) (r:V->List V->Hp->VK->Prop) (to:TE) (t:TA):TE:=fun σ H Q=>to σ H fun x H1=>KB K T x H1/\t σ H1 fun xs H2=>r x xs H2 Q
variable {o e:Expr}{es:List Expr}{to:TE}{t:TA}{name:Str}{apos cpos:Pos}{T id:String}{r:V->List V->Hp->VK->Prop}
theorem G3 (pa:PlainAttrs T) (slot:Slot T name id) (hty:typeOf (.builtin id)=pure (.type "method_descriptor")) (hm:KG X id r) (ho:PE X o to)
  (hbase:attributeBase o name X.env (eval o X.env)=eval o X.env:=by rfl) (hline:(apos.endLine == cpos.line)=true:=by rfl):PE X (.Call (.Attribute o name apos) [] [] cpos) (JK X.K T r to):=by
 intro ab s σ H Q I h;refine wpAny_Call_method0_late hbase hline (cP (ho ab s σ H _ I h) fun v s1 ⟨x,H1,I1,r1,ty,q1⟩=>?_)
 obtain ⟨h1,h2⟩:=DL I1 r1 ty;exact ⟨T,id,pa,slot,hty,h1,h2,Calls.callWith_builtin rfl (PySem.evalArgs_none (hm ab s1 σ H1 x [] v [] Q I1 r1 .nil q1))⟩
theorem iu (pa:PlainAttrs T) (slot:Slot T name id) (hty:typeOf (.builtin id)=pure (.type "method_descriptor")) (hm:KG X id r) (ho:PE X o to) (ha:PA X (e::es) t)
  (hbase:attributeBase o name X.env (eval o X.env)=eval o X.env:=by rfl)
  (hfew:((backTo cpos (starEach (e::es) X.env)).all (fun x=>!x.1) && (backToKw cpos (keywordEach [] X.env)).all (fun x=>x.1.isSome)
   && decide ((e::es).length+([]:List Keyword).length+(if ([]:List Keyword).isEmpty then 0 else 1)<30))=true:=by rfl)
  (hline:(apos.endLine == cpos.line)=true:=by rfl) (hs:starEach (e::es) X.env=(false,eval e X.env)::starEach es X.env:=by rfl) (hplain:(backTo cpos (starEach es X.env)).any (·.1)=false:=by rfl) :
  PE X (.Call (.Attribute o name apos) (e::es) [] cpos) (Gf X.K T r to t):=by
 intro ab s σ H Q I h;refine wpAny_Call_method_late hbase hfew hline rfl (cP (ho ab s σ H _ I h) fun v s1 ⟨x,H1,I1,r1,ty,q1⟩=>?_)
 obtain ⟨h1,h2⟩:=DL I1 r1 ty;refine ⟨T,id,pa,slot,hty,h1,h2,?_⟩;have hA:=ha cpos ab s1 σ H1 _ I1 q1;rw [hs] at hA ⊢;refine Calls.callWith_builtin (by show (false || (backTo cpos (starEach es X.env)).any (·.1))=false;rw [hplain] <;> rfl) (Calls.evalArgs_plain ?_)
 exact cP hA fun us s2 ⟨vs,H2,I2,r2,q2⟩=>hm ab s2 σ H2 x vs v us Q I2 r1 r2 q2
/- xs.append(e),list.index on a module's tuple .. are KG facts of 06m -/
end
end L2
namespace L2
open PySem PySem.Spec PyProof.Rows
def Ka (X:Cx) (id:String) (r:V->List V->Hp->VK->Prop):Prop :=
 ∀ (ab:List (Addr×Obj)) (s:Shared) (σ:St) (H:Hp) (x:V) (xs:List V) (v:Value) (us:List Value) (Q:VK),aO X ab σ H s->bM x v->bu xs us->r x xs H Q ->
  wpAny (model X.prog X.w) X.A (call (.builtin id) (v::us)) (EP X ab σ Q) X.xe s
theorem bu.one:∀ {x:V}{us:List Value},bu [x] us->∃ u,us=[u]/\bM x u
 | _,_,.cons r .nil=>⟨_,rfl,r⟩
theorem bu.zero:∀ {us:List Value},bu [] us->us=[]
 | _,.nil=>rfl
theorem bu.dropLast {xs:List V}{us:List Value}(h:bu xs us):bu xs.dropLast us.dropLast:=by
 induction h with
 | nil=>exact .nil
 | cons r t ih =>
  cases t with
  | nil=>exact .nil
  | cons q t'=>exact .cons r ih
theorem bu.eraseIdx:∀ {xs:List V}{us:List Value}(i:Nat),bu xs us->bu (xs.eraseIdx i) (us.eraseIdx i)
 | _,_,_,.nil=>.nil
 | _,_,0,.cons _ t=>t
 | _,_,i+1,.cons r t=>.cons r (bu.eraseIdx i t)
theorem lY {α:Type}(l:List α):l.eraseIdx (l.length-1)=l.dropLast:=by
 induction l with
 | nil=>rfl
 | cons a r ih =>
  cases r with
  | nil=>rfl
  | cons b r =>
   have e:(a::b::r).length-1=((b::r).length-1)+1:=by
    have h1:(a::b::r).length=r.length+2:=rfl;have h2:(b::r).length=r.length+1:=rfl;lia
   rw [e,List.eraseIdx_cons_succ,ih]
   all_goals rfl
theorem tj {α:Type}:∀ (l:List α) (i:Nat),(l.eraseIdx i).length<=l.length
 | [],_=>Nat.le_refl _
 | _::_,0=>Nat.le_succ _
 | _::r,i+1=>Nat.succ_le_succ (tj r i)
section
variable {X:Cx}{ab:List (Addr×Obj)}{σ:St}{H:Hp}{s:Shared}{l b:Addr}{xs ys zs:List V}
theorem aO.lset {its its':List Value}{n:Nat}{f:Array Value->Array Value}{t':Nat}(I:aO X ab σ H s) (hH:H l=some (.lst xs))
  (e:s.heap.get? l=some { cls:=.type "list", data:=.seq its.toArray n }) (hf:f its.toArray=its'.toArray) (hv:bu ys its') (hz:ys.length<=sizeLine) :
  aO X ab σ (cK H l (.lst ys)) { s with heap:=s.heap.update l (Obj.mapSeq f),toks:=t' }:=by
 have q:=PySem.IsL.update e f;rw [hf] at q;refine I.write (x:=l) (e:=l) (by rw [hH];exact trivial) (.inl rfl) (fun b' u hb hu=>(Heap.get?_update_other s.heap (Obj.mapSeq f) (Ne.symm hb)).trans hu) ⟨_,q⟩ ?_
 exact ⟨hz,its',_,hv,q⟩
theorem aO.lnew {its:List Value}{t':Nat}(I:aO X ab σ H s) (hv:bu ys its) (hz:ys.length<=sizeLine) :
  aO X ab σ (cK H s.heap.objs.size (.lst ys)) { s with heap:=s.heap.push { cls:=.type "list", data:=.seq its.toArray },toks:=t' } :=
 I.laid (fun _ _ q=>Heap.get?_push_of_some _ q) (Nat.le_refl _) ⟨hz,its,0,hv,Heap.get?_push_size _ rfl⟩
theorem aO.fresh (I:aO X ab σ H s):H s.heap.objs.size=none:=I.hok.fresh (Nat.le_refl _)
theorem aO.lstM (I:aO X ab σ H s) (hH:H l=some (.lst xs)):xs.length<=sizeLine/\∃ (its:List Value) (n:Nat),bu xs its/\xs.length=its.length/\s.heap.get? l=some { cls:=.type "list", data:=.seq its.toArray n }:=by
 obtain ⟨z,its,n,r,e⟩:=I.hok l _ hH;exact ⟨z,its,n,r,r.length,e⟩
theorem Df {n:Nat}(h:n<=sizeLine):Builtin.List.listTooLong n=false:=by
 unfold Builtin.List.listTooLong;exact decide_eq_false (by lia)
end
section
variable {X:Cx}
def um:V->List V->Hp->VK->Prop:=fun x vs H Q=>∃ l xs y,x = .ref l/\vs=[y]/\H l=some (.lst xs)/\xs.length<sizeLine/\Q .non (cK H l (.lst (xs++[y])))
theorem dh:Ka X "list.append" um:=by
 intro ab s σ H x vs v us Q I rx rv h;obtain ⟨l,xs,y,rfl,rfl,hH,hz,q⟩:=h;cases rx;obtain ⟨u,rfl,ru⟩:=rv.one;obtain ⟨z,its,n,r,hl,e⟩:=I.lstM hH;refine call_meets F.slot_list_append ⟨_,e,rfl⟩ F.entry_list_append (F.args_list_append_2 _ _) (PySem.list_append l its.toArray n u (by rw [List.size_toArray];lia)) ⟨e,?_⟩
 refine ⟨.non,_,I.lset (its':=its++[u]) hH e (by simp) (r.append (.cons ru .nil)) ?_,rfl,q⟩
 rw [lAq,lSq];lia
def yL:V->List V->Hp->VK->Prop:=fun x vs H Q=>∃ l b xs zs,x = .ref l/\vs=[.ref b]/\H l=some (.lst xs)/\H b=some (.lst zs)/\xs.length+zs.length<=sizeLine/\Q .non (cK H l (.lst (xs++zs)))
theorem AY:Ka X "list.extend" yL:=by
 intro ab s σ H x vs v us Q I rx rv h;obtain ⟨l,b,xs,zs,rfl,rfl,hH,hB,hz,q⟩:=h;cases rx;obtain ⟨u,rfl,ru⟩:=rv.one;cases ru;obtain ⟨z,its,n,r,hl,e⟩:=I.lstM hH;obtain ⟨z2,its2,n2,r2,hl2,e2⟩:=I.lstM hB;have hsz:its.toArray.size+its2.toArray.size<=sizeLine:=by rw [List.size_toArray,List.size_toArray];lia
 have hlong:¬ (!its.toArray.isEmpty && Builtin.List.listTooLong (its.toArray.size+its2.toArray.size))=true:=by
  rw [Df hsz,Bool.and_false];exact Bool.false_ne_true
 refine call_meets F.slot_list_extend ⟨_,e,rfl⟩ F.entry_list_extend (F.args_list_extend_2 _ _)
  (AutoSeq1.list_extend_list_list_0 l its.toArray n b its2.toArray n2 hlong (by rw [List.size_toArray];lia) (by lia)) ⟨e,e2,?_⟩
 refine ⟨.non,_,I.lset (its':=its++its2) hH e (by simp) (r.append r2) ?_,rfl,q⟩
 rw [lAq];lia
def Gw:V->List V->Hp->VK->Prop:=fun x vs H Q=>∃ l xs y,x = .ref l/\vs=[]/\H l=some (.lst xs)/\xs[xs.length-1]?=some y/\Q y (cK H l (.lst xs.dropLast))
theorem Hi:Ka X "list.pop" Gw:=by
 intro ab s σ H x vs v us Q I rx rv h;obtain ⟨l,xs,y,rfl,rfl,hH,hy,q⟩:=h;cases rx;have hus:=rv.zero;subst hus;obtain ⟨z,its,n,r,hl,e⟩:=I.lstM hH;obtain ⟨u,hu,ru⟩:=r.get hy;have hy':its.toArray[its.toArray.size-1]?=some u:=by
  show its.toArray[its.length-1]?=some u;rw [← Array.getElem?_toList,← hl];exact hu
 refine call_meets F.slot_list_pop ⟨_,e,rfl⟩ F.entry_list_pop (F.args_list_pop_1 _) (MeetsSeq.list_pop_last l its.toArray n u hy' (by rw [List.size_toArray];lia)) ⟨e,?_⟩
 refine ⟨y,_,I.lset (its':=its.dropLast) hH e ?_ r.dropLast ?_,ru,q⟩
 .show its.toArray.eraseIdxIfInBounds (its.toArray.size-1)=its.dropLast.toArray;rw [List.size_toArray,List.eraseIdxIfInBounds_toArray,lY]
 .rw [List.length_dropLast];lia
def B1:V->List V->Hp->VK->Prop:=fun x vs H Q=>∃ l xs i k y,x = .ref l/\vs=[.int i]/\H l=some (.lst xs)/\-(2 ^ 63)<=i/\i<2 ^ 63/\seqIndex? i xs.length=some k/\xs[k]?=some y/\Q y (cK H l (.lst (xs.eraseIdx k)))
theorem CV:Ka X "list.pop" B1:=by
 intro ab s σ H x vs v us Q I rx rv h;obtain ⟨l,xs,i,k,y,rfl,rfl,hH,h1,h2,hk,hy,q⟩:=h;cases rx;obtain ⟨u,rfl,ru⟩:=rv.one;obtain ⟨t,rfl⟩:=ru;obtain ⟨z,its,n,r,hl,e⟩:=I.lstM hH;obtain ⟨w,hw,rw'⟩:=r.get hy;refine call_meets F.slot_list_pop ⟨_,e,rfl⟩ F.entry_list_pop (F.args_list_pop_2 _ _)
  (MeetsSeq.list_pop_at l its.toArray n i t k w (fitsIndex_both h1 h2) (by rw [List.size_toArray,← hl];exact hk) (by rw [← Array.getElem?_toList];exact hw) (by rw [List.size_toArray];lia)) ⟨e,?_⟩
 refine ⟨y,_,I.lset (its':=its.eraseIdx k) hH e ?_ (r.eraseIdx k) ?_,rw',q⟩
 .show its.toArray.eraseIdxIfInBounds k=(its.eraseIdx k).toArray;rw [List.eraseIdxIfInBounds_toArray]
 .have:=tj xs k;lia
def JU:R2:=fun x y H Q=>∃ l b xs zs,x = .ref l/\y = .ref b/\H l=some (.lst xs)/\H b=some (.lst zs)/\xs.length+zs.length<=sizeLine/\∀ p,H p=none->Q (.ref p) (cK H p (.lst (xs++zs)))
theorem qI:oj X (binaryOp .Add) JU:=by
 intro ab s σ H x y v u Q I rx ry h;obtain ⟨l,b,xs,zs,rfl,rfl,hH,hB,hz,q⟩:=h;cases rx;cases ry;obtain ⟨z,its,n,r,hl,e⟩:=I.lstM hH;obtain ⟨z2,its2,n2,r2,hl2,e2⟩:=I.lstM hB;refine PySem.P.add_list e e2 ?_ (by rw [List.size_toArray,List.size_toArray];lia)
 have ea:its.toArray++its2.toArray=(its++its2).toArray:=by simp
 rw [ea];exact ⟨.ref _,_,I.lnew (t':=s.toks) (r.append r2) (by rw [lAq];lia),rfl,q _ I.fresh⟩
end
end L2
namespace L2
open PySem PySem.Spec PyProof.Rows
section
variable {κ:Type} [DecidableEq κ]
def nu (kvs:List (κ×V)) (k:κ):Option V:=(kvs.find? fun kv=>decide (kv.1=k)).map (·.2)
def oD (kvs:List (κ×V)) (k:κ) (v:V):List (κ×V) :=
 if (kvs.any fun kv=>decide (kv.1=k))=true then kvs.map (fun kv=>if kv.1=k then (kv.1,v) else kv) else kvs++[(k,v)]
theorem qZ {p:κ×V}{r:List (κ×V)}{k:κ}(e:p.1=k):nu (p::r) k=some p.2:=by simp [nu,List.find?_cons,e]
theorem qq {p:κ×V}{r:List (κ×V)}{k:κ}(e:¬ p.1=k):nu (p::r) k=nu r k:=by simp [nu,List.find?_cons,e]
theorem wu (k:κ):∀ kvs:List (κ×V),(kvs.any fun kv=>decide (kv.1=k))=(nu kvs k).isSome
 | []=>rfl
 | p::r=>by
  rw [List.any_cons]
  by_cases e:p.1=k
  .simp only [qZ e,decide_eq_true e,Bool.true_or,Option.isSome_some]
  .rw [qq e,decide_eq_false e,Bool.false_or];exact wu k r
theorem oJ (kvs:List (κ×V)) (k:κ) (v:V):(oD kvs k v).length<=kvs.length+1:=by
 unfold oD;split
 .rw [lMq];lia
 .rw [lAq,lCq,List.length_nil];lia
theorem sF.isSome_eq {o:Option V}{u:Option Value}(r:sF o u):o.isSome=u.isSome:=by
 cases o with
 | none=>cases u with
  | none=>rfl
  | some _=>exact (show False from r).elim
 | some _=>cases u with
  | none=>exact (show False from r).elim
  | some _=>rfl
theorem KV.val {kvs:List (κ×V)}{vs:List (κ×Value)}(r:KV kvs vs) (k:κ):sF (nu kvs k) (valueAt vs k):=by
 unfold KV at r
 induction r with
 | nil=>exact True.intro
 | @cons p q ps qs h t ih =>
  obtain ⟨h1,h2⟩:=h
  by_cases e:p.1=k
  .have e':q.1=k:=h1.symm.trans e;have b:valueAt (q::qs) k=some q.2:=by simp [valueAt,List.find?_cons,e']
   rw [qZ e,b];exact h2
  .have e':¬ q.1=k:=fun z=>e (h1.trans z)
   have b:valueAt (q::qs) k=valueAt qs k:=by simp [valueAt,List.find?_cons,e']
   rw [qq e,b];exact ih
theorem KV.any {kvs:List (κ×V)}{vs:List (κ×Value)}(r:KV kvs vs) (k:κ):(kvs.any fun kv=>decide (kv.1=k))=vs.any fun kv=>decide (kv.1=k):=by
 unfold KV at r
 induction r with
 | nil=>rfl
 | cons h t ih=>rw [List.any_cons,List.any_cons,ih,h.1]
theorem KV.repl {kvs:List (κ×V)}{vs:List (κ×Value)}(r:KV kvs vs) (k:κ) {y:V}{u:Value}(ry:bM y u) :
  KV (kvs.map fun kv=>if kv.1=k then (kv.1,y) else kv) (vs.map fun kv=>if kv.1=k then (kv.1,u) else kv):=by
 unfold KV at r ⊢
 induction r with
 | nil=>exact .nil
 | @cons p q ps qs h t ih =>
  rw [List.map_cons,List.map_cons];refine .cons ?_ ih;obtain ⟨h1,h2⟩:=h
  by_cases e:p.1=k
  .rw [if_pos e,if_pos (h1.symm.trans e)];exact ⟨h1,ry⟩
  .rw [if_neg e,if_neg (fun z=>e (h1.trans z))];exact ⟨h1,h2⟩
theorem KV.put {kvs:List (κ×V)}{vs:List (κ×Value)}(r:KV kvs vs) (k:κ) {y:V}{u:Value}(ry:bM y u):KV (oD kvs k y) (stored vs k u):=by
 unfold oD stored;rw [r.any k]
 by_cases e:(vs.any fun kv=>decide (kv.1=k))=true
 .rw [if_pos e,if_pos e];exact r.repl k ry
 .rw [if_neg e,if_neg e];exact Paired.snoc r ⟨rfl,ry⟩
theorem KV.length {kvs:List (κ×V)}{vs:List (κ×Value)}(r:KV kvs vs):kvs.length=vs.length:=Paired.length r
end
theorem yY {P:Program}{w:World}{k:bJ}{u:Value}(r:bM (kV k) u):(cY P w).is k u=true:=by
 cases k with
 | inl i=>obtain ⟨t,e⟩:=(show ∃ t,u=Value.int i t from r);subst e;exact wg P w i t
 | inr x=>obtain ⟨t,e⟩:=(show ∃ t,u=Value.str x t from r);subst e;exact wR P w x t
theorem tN {P:Program}{w:World}:∀ {ks:List bJ}{us:List Value},bu (ks.map kV) us->ItemsAre (cY P w) ks us
 | [],_,r=>by rw [List.map_nil] at r;cases r;exact .nil
 | k::ks,_,r=>by
  rw [List.map_cons] at r;cases r with
  | cons h t=>exact .cons (yY h) (tN t)
abbrev KT (H:Hp):List (List bJ×V)->List (List bJ×Addr×Value)->Prop:=Paired fun p q=>p.1=q.1/\H q.2.1=some (.tup (p.1.map kV))/\bM p.2 q.2.2
theorem KT.val {H:Hp}{kvs:List (List bJ×V)}{xs:List (List bJ×Addr×Value)}(r:KT H kvs xs) (k:List bJ):sF (nu kvs k) ((atKey xs k).map (·.2)):=by
 induction r with
 | nil=>exact True.intro
 | @cons p q ps qs h t ih =>
  obtain ⟨h1,_,h2⟩:=h
  by_cases e:p.1=k
  .have e':q.1=k:=h1.symm.trans e;have b:atKey (q::qs) k=some q.2:=by simp [atKey,List.find?_cons,e']
   rw [qZ e,b];exact h2
  .have e':¬ q.1=k:=fun z=>e (h1.trans z)
   have b:atKey (q::qs) k=atKey qs k:=by simp [atKey,List.find?_cons,e']
   rw [qq e,b];exact ih
theorem KT.repl {H:Hp}{kvs:List (List bJ×V)}{xs:List (List bJ×Addr×Value)}(r:KT H kvs xs) (k:List bJ) {y:V}{u:Value}(ry:bM y u) :
  KT H (kvs.map fun kv=>if kv.1=k then (kv.1,y) else kv) (xs.map (putAt k u)):=by
 induction r with
 | nil=>exact .nil
 | @cons p q ps qs h t ih =>
  rw [List.map_cons,List.map_cons];refine .cons ?_ ih;obtain ⟨h1,h2,h3⟩:=h;unfold putAt
  by_cases e:p.1=k
  .rw [if_pos e,if_pos (h1.symm.trans e)];exact ⟨h1,h2,ry⟩
  .rw [if_neg e,if_neg (fun z=>e (h1.trans z))];exact ⟨h1,h2,h3⟩
theorem KT.put {H:Hp}{kvs:List (List bJ×V)}{xs:List (List bJ×Addr×Value)}(r:KT H kvs xs) (k:List bJ) {b:Addr}{y:V}{u:Value}(hb:H b=some (.tup (k.map kV))) (ry:bM y u) :
  KT H (oD kvs k y) (storedH xs k b u):=by
 have e:(kvs.any fun kv=>decide (kv.1=k))=(atKey xs k).isSome:=by
  rw [wu,(r.val k).isSome_eq,Option.isSome_map]
 unfold oD storedH;rw [e]
 by_cases q:(atKey xs k).isSome=true
 .rw [if_pos q,if_pos q];exact r.repl k ry
 .rw [if_neg q,if_neg q];exact Paired.snoc r ⟨rfl,hb,ry⟩
theorem KT.keeps {H H':Hp}{kvs:List (List bJ×V)}{xs:List (List bJ×Addr×Value)}(r:KT H kvs xs) (ht:∀ b ys,H b=some (.tup ys)->H' b=some (.tup ys)):KT H' kvs xs :=
 Paired.mapP r fun _ _ z=>⟨z.1,ht _ _ z.2.1,z.2.2⟩
section
variable {P:Program}{w:World}{H:Hp}{h:Heap}{a:Addr}
theorem FN {u:HO}(ok:mF P w H h) (e:Rd H a u):dJ P w H h a u:=e.ok ok
theorem vA {kvs:List (bJ×V)}(ok:mF P w H h) (e:Rd H a (.dK kvs)):kvs.length<=sizeLine/\(a == sysModules)=false/\∃ vs,KV kvs vs/\h.DictOf (cY P w) a vs :=
 show dJ P w H h a (.dK kvs) from FN ok e
theorem Jb {kvs:List (bJ×V)}(ok:mF P w H h) (e:H a=some (.dK kvs)):kvs.length<=sizeLine/\(a == sysModules)=false/\∃ vs,KV kvs vs/\h.DictOf (cY P w) a vs:=vA ok (.inl e)
theorem uQ {ks:List bJ}(ok:mF P w H h) (e:H a=some (.tup (ks.map kV))):(tupleKind (cY P w)).is h ks a:=by
 obtain ⟨_,its,r,o,h1,h2,n,h3⟩:=(show dJ P w H h a (.tup (ks.map kV)) from ok a _ e)
 exact ⟨o,its.toArray,n,h1,h2,h3,by simpa using tN r⟩
theorem wK {kvs:List (List bJ×V)}(ok:mF P w H h) (e:Rd H a (.dT kvs)):kvs.length<=sizeLine/\(a == sysModules)=false /\
  ∃ xs,KT H kvs xs/\h.DictOfH (tupleKind (cY P w)) a xs:=by
 obtain ⟨z,y,xs,r,o,es,ep,h1,h2,h3,h4,h5⟩:=(show dJ P w H h a (.dT kvs) from FN ok e)
 refine ⟨z,y,xs,r,o,es,ep,h1,h2,h3,h4,fun x hx=>?_,h5⟩
 have all:∀ {l:List (List bJ×V)}{m:List (List bJ×Addr×Value)},KT H l m->∀ x∈m,(tupleKind (cY P w)).is h x.1 x.2.1:=by
  intro l m q
  induction q with
  | nil=>intro x hx;exact nomatch hx
  | @cons p q ps qs hq t ih =>
   intro x hx;rcases List.mem_cons.mp hx with e|hx
   .subst e;exact uQ ok (by rw [← hq.1];exact hq.2.1)
   .exact ih x hx
 exact all r x hx
theorem JM {kvs:List (List bJ×V)}(ok:mF P w H h) (e:H a=some (.dT kvs)):kvs.length<=sizeLine/\(a == sysModules)=false /\
  ∃ xs,KT H kvs xs/\h.DictOfH (tupleKind (cY P w)) a xs:=wK ok (.inl e)
end
def qR (H:Hp) (a:Addr) (y:V) (r:Option V):Prop :=
 (∃ kvs k,Rd H a (.dK kvs)/\y=kV k/\r=nu kvs k)∨∃ kvs k b,Rd H a (.dT kvs)/\y = .ref b/\H b=some (.tup (k.map kV))/\r=nu kvs k
def Dk (H:Hp) (a:Addr) (y v:V) (H':Hp):Prop :=
 (∃ kvs k,H a=some (.dK kvs)/\y=kV k/\kvs.length<sizeLine/\H'=cK H a (.dK (oD kvs k v))) ∨
 ∃ kvs k b,H a=some (.dT kvs)/\y = .ref b/\H b=some (.tup (k.map kV))/\kvs.length<sizeLine/\H'=cK H a (.dT (oD kvs k v))
theorem qR.k {H:Hp}{a:Addr}{kvs:List (bJ×V)}{k:bJ}(e:H a=some (.dK kvs)):qR H a (kV k) (nu kvs k):=.inl ⟨kvs,k,.inl e,rfl,rfl⟩
theorem Dk.k {H:Hp}{a:Addr}{kvs:List (bJ×V)}{k:bJ}{v:V}(e:H a=some (.dK kvs)) (hl:kvs.length<sizeLine):Dk H a (kV k) v (cK H a (.dK (oD kvs k v))):=.inl ⟨kvs,k,e,rfl,hl,rfl⟩
section
variable {X:Cx}{ab:List (Addr×Obj)}{σ:St}{H:Hp}{s:Shared}{a:Addr}{y v:V}{u r:Value}{o:Option V}{A:Around}{E:Value->Shared->Prop}
theorem aO.big (I:aO X ab σ H s):sysModules<s.heap.objs.size:=by
 have h:mainGlobals<s.heap.objs.size:=(I.mod.glob.keeps I.bk).lt;exact Nat.lt_trans (by decide) h
theorem Ba {Q:Value->Shared->Prop}(hu:A.units+1<cLine) (I:aO X ab σ H s) (g:qR H a y (some v)) (ry:bM y u) (h:∀ w' s',aO X ab σ H s'->bM v w'->Q w' s') :
  wpAny (model X.prog X.w) A (getItem (.ref a) u) Q E s:=by
 rcases g with ⟨kvs,k,e,ey,l⟩|⟨kvs,k,b,e,ey,eb,l⟩
 .subst ey;obtain ⟨z,hd,vs,rel,dd⟩:=vA I.hok e;obtain ⟨w',hw,rw'⟩:=sF.some_of (v:=v) (o:=valueAt vs k) (by rw [l];exact rel.val k)
  exact wpAny_getItem_of (yY ry) dd.mapOf hw (h w' _ (I.tok _) rw')
 .subst ey;cases (show u=Value.ref b from ry)
  obtain ⟨z,hd,xs,rel,dd⟩:=wK I.hok e;obtain ⟨w',hw,rw'⟩:=sF.some_of (v:=v) (o:=(atKey xs k).map (·.2)) (by rw [l];exact rel.val k)
  obtain ⟨p,hp,hp2⟩:=oMq.mp hw;refine wpAny_getItem_heap (tupleKind_room_in1 hu) (uQ I.hok eb) dd hp ?_;rw [hp2];exact h w' _ (I.tok _) rw'
theorem EX {Q:Value->Shared->Prop}(hu:A.units+1<cLine) (I:aO X ab σ H s) (g:qR H a y o) (ry:bM y u) (h:∀ s',aO X ab σ H s'->Q (.bool (!o.isSome)) s') :
  wpAny (model X.prog X.w) A (compareOp .NotIn u (.ref a)) Q E s:=by
 rcases g with ⟨kvs,k,e,ey,l⟩|⟨kvs,k,b,e,ey,eb,l⟩
 .subst ey;obtain ⟨z,hd,vs,rel,dd⟩:=vA I.hok e;refine wpAny_notIn_of (yY ry) hd dd.mapOf ?_;rw [← (rel.val k).isSome_eq,← l];exact h _ (I.tok _)
 .subst ey;cases (show u=Value.ref b from ry)
  obtain ⟨z,hd,xs,rel,dd⟩:=wK I.hok e;refine wpAny_notIn_heap (tupleKind_room_in1 hu) (uQ I.hok eb) hd dd ?_;have q:=(rel.val k).isSome_eq;rw [Option.isSome_map] at q;rw [← q,← l];exact h _ (I.tok _)
theorem zh {h':Heap}{t':Nat}{ob:HO}(I:aO X ab σ H s) (mu:Kf (H a)) (hs:Heap.SameBut a s.heap h') (he:∃ q,h'.get? a=some q) (new:dJ X.prog X.w (cK H a ob) h' a ob) :
  aO X ab σ (cK H a ob) { s with heap:=h',toks:=t' } :=
 I.write (x:=a) (e:=a) mu (.inl rfl) (fun b q hb z=>(hs.2 b hb).trans z) he new
theorem G1 {P:Program}{w:World}{H':Hp}{h':Heap}{kvs:List (bJ×V)}{vs:List (bJ×Value)}(z:kvs.length<=sizeLine) (hd:(a == sysModules)=false) (rel:KV kvs vs) (dd:h'.DictOf (cY P w) a vs) :
  dJ P w H' h' a (.dK kvs):=⟨z,hd,vs,rel,dd⟩
theorem AR {H':Hp}{Q:Unit->Shared->Prop}(hu:A.units+1<cLine) (I:aO X ab σ H s) (g:Dk H a y v H') (ry:bM y u) (rv:bM v r) (h:∀ s',aO X ab σ H' s'->Q () s') :
  wpAny (model X.prog X.w) A (setItem (.ref a) u r) Q E s:=by
 rcases g with ⟨kvs,k,e,ey,l,eH⟩|⟨kvs,k,b,e,ey,eb,l,eH⟩
 .subst ey eH;obtain ⟨z,hd,vs,rel,dd⟩:=Jb I.hok e;have hz:vs.length<=sizeLine:=by rw [← rel.length];exact z
  have hl:(oD kvs k v).length<=sizeLine:=by have:=oJ kvs k v;lia
  refine wpAny_setItem_pairs (hsz:=hz) (yY ry) dd fun h' dd' hs=>h _ ?_
  have he:∃ q,h'.get? a=some q:=let ⟨q,_,_,hq,_⟩:=dd';⟨q,hq⟩
  exact zh I (by rw [e];exact True.intro) hs he (G1 hl hd (rel.put k rv) dd')
 .subst ey eH;cases (show u=Value.ref b from ry)
  obtain ⟨z,hd,xs,rel,dd⟩:=JM I.hok e;have hz:xs.length<=sizeLine:=by rw [← Paired.length rel];exact z
  have hl:(oD kvs k v).length<=sizeLine:=by have:=oJ kvs k v;lia
  refine wpAny_setItem_heap (hsz:=hz) (tupleKind_room_in1 hu) (uQ I.hok eb) dd fun h' dd' hs=>h _ ?_
  obtain ⟨q,es,ep,hq,h2,h3,h4,_,h5⟩:=dd';refine zh I (by rw [e];exact True.intro) hs ⟨q,hq⟩ ⟨hl,hd,_,(rel.put k eb rv).keeps fun c ys ec=>?_,q,es,ep,hq,h2,h3,h4,h5⟩
  rw [aR (Jy ec e (fun z=>nomatch z))]
  exact ec
end
def Jx (i:Expr):Prop:=∀ ov iv,subscripted i false ov iv=operate [ov,iv] (getItem ov iv)
theorem Fu {prog:Program}{w:World}{A:Around}{E:Value->Shared->Prop}{s:Shared}{env:Env}{value slice:Expr}{pos:Pos}{T id:String}{Q:Value->Shared->Prop}
  (hl:typeLookup (.type T) "__getitem__" = pure (some (.builtin id))) (hs:Jx slice)
  (h:wpAny (model prog w) A (eval value env) (fun o s₁=>wpAny (model prog w) A (eval slice env) (fun i s₂=>s₂.TypeIs o T/\wpAny (model prog w) A (getItem o i) Q E s₂) E s₁) E s) :
  wpAny (model prog w) A (eval (.Subscript value slice pos) env) Q E s:=by
 refine Subscript_ (wpAny_mono h (fun o s₁ h₁=>wpAny_mono h₁ (fun i s₂ h₂=>?_) fun _ _ x=>x) fun _ _ x=>x)
 obtain ⟨hT,h₂⟩:=h₂;unfold subscriptTail;refine wpAny_bind ?_;rw [getitemInPython_of_ne hT.not_modules];refine wpAny_bind (wpAny_specialOf hT hl ?_);have fin:wpAny (model prog w) A (subscripted slice false o i) (fun r s₃=>wpAny (model prog w) A (letTemporaryGo value o r >>= fun _=>pure r) Q E s₃) E s₂:=by
  rw [hs o i];exact wpAny_operating (wpAny_mono h₂ (fun r s₃ h₃=>wpAny_bind (wpAny_letTemporaryGo (wpAny_pure h₃))) fun _ _ x=>x)
 first
  | exact wpAny_pure (wpAny_bind fin)
  | exact wpAny_bind (wpAny_pure (wpAny_bind fin))
  | exact wpAny_bind fin
theorem vQ {X:Cx}{ab:List (Addr×Obj)}{σ:St}{H:Hp}{s:Shared}{a:Addr}{y:V}{o:Option V}(I:aO X ab σ H s) (g:qR H a y o):s.TypeIs (.ref a) "dict" := by
 rcases g with ⟨kvs,k,e,_,_⟩|⟨kvs,k,b,e,_,_,_⟩
 .obtain ⟨_,_,vs,_,dd⟩:=vA I.hok e;exact dd.typeIs
 .obtain ⟨_,_,xs,_,dd⟩:=wK I.hok e;exact dd.typeIs
def Gb (td ty:TE):TE:=fun σ H Q=>td σ H fun x H1=>ty σ H1 fun y H2=>∃ a v,x = .ref a/\qR H2 a y (some v)/\Q v H2
def zu (ty td:TE):TE:=fun σ H Q=>ty σ H fun y H1=>td σ H1 fun x H2=>∃ a o,x = .ref a/\qR H2 a y o/\Q (.bl (!o.isSome)) H2
def Gc (td ty tv:TE):TS:=fun D σ H=>tv σ H fun v H1=>td σ H1 fun x H2=>ty σ H2 fun y H3=>∃ a H4,x = .ref a/\Dk H3 a y v H4/\D.nx σ H4
section
variable {X:Cx}{o i e value:Expr}{pos pos' tpos:Pos}{td ty tv:TE}
theorem uw (hu:X.A.units+1<cLine) (ho:PE X o td) (hi:PE X i ty) (hs:Jx i):PE X (.Subscript o i pos) (Gb td ty):=by
 intro ab s σ H Q I h;refine Fu PySem.F.slot_dict_getitem.lookup hs (cP (ho ab s σ H _ I h) fun u s1 ⟨x,H1,I1,rx,q1⟩=>cP (hi ab s1 σ H1 _ I1 q1) fun iv s2 ⟨y,H2,I2,ry,a,v,ex,g,q2⟩=>?_)
 subst ex;obtain rfl:u=Value.ref a:=rx;exact ⟨vQ I2 g,Ba hu I2 g ry fun w' s3 I3 rw'=>⟨v,H2,I3,rw',q2⟩⟩
theorem AJ (hu:X.A.units+1<cLine) (hi:PE X i ty) (ho:PE X o td):PC X .NotIn i o (zu ty td):=by
 intro ab s σ H Q I h;refine cP (hi ab s σ H _ I h) fun iv s1 ⟨y,H1,I1,ry,q1⟩=>cP (ho ab s1 σ H1 _ I1 q1) fun u s2 ⟨x,H2,I2,rx,a,ov,ex,g,q2⟩=>?_
 subst ex;obtain rfl:u=Value.ref a:=rx;exact EX hu I2 g ry fun s3 I3=>⟨.bl (!ov.isSome),H2,I3,rfl,q2⟩
theorem qc (hu:X.A.units+1<cLine) (ho:PE X o td) (hi:PE X i ty) (hv:PE X value tv) (hs:swapsWith value (some (.Subscript o i pos')) pos.line X.env=pure false) :
  PS X (.Assign [.Subscript o i pos'] value pos) (Gc td ty tv):=by
 intro ab s σ H D I h;refine wpAny_Assign_Subscript (cP (hv ab s σ H _ I h) fun r s1 ⟨v,H1,I1,rv,q1⟩=>cP (ho ab s1 σ H1 _ I1 q1) fun u s2 ⟨x,H2,I2,rx,q2⟩=>cP (hi ab s2 σ H2 _ I2 q2) fun iv s3 ⟨y,H3,I3,ry,a,H4,ex,g,q3⟩=>?_) hs
 subst ex;obtain rfl:u=Value.ref a:=rx;exact AR hu I3 g ry rv fun s4 I4=>⟨σ,H4,I4,q3⟩
end
theorem B8 {P:Program}{w:World}{H:Hp}(h:Heap) (hb:sysModules<h.objs.size):dJ P w H (h.push { cls:=.type "dict", data:=.dict #[] }) h.objs.size (.dK []) :=
 ⟨Nat.zero_le _,beq_eq_false_iff_ne.mpr (Ne.symm (Nat.ne_of_lt hb)),[],.nil,Heap.DictOf.new h⟩
def BJ:TE:=fun _ H Q=>∀ p,H p=none->Q (.ref p) (cK H p (.dK []))
section
variable {X:Cx}{pos:Pos}
theorem nK:PE X (.Dict [] [] pos) BJ:=fun ab s σ H Q I h =>
 wpAny_Dict_empty ⟨.ref s.heap.objs.size,_,I.laid (a:=s.heap.objs.size) (o:=.dK []) (t':=s.toks) (fun _ _ q=>Heap.get?_push_of_some _ q) (Nat.le_refl _) (B8 s.heap I.big),rfl,h _ (I.hok.fresh (Nat.le_refl _))⟩
end
structure M1 (X:Cx) (o:Expr) (m:Str) (apos:Pos) (e:Expr) (cpos:Pos):Prop where
 base:attributeBase o m X.env (eval o X.env)=eval o X.env
 few:((backTo cpos (starEach [e] X.env)).all (fun x=>!x.1) && (backToKw cpos (keywordEach [] X.env)).all (fun x=>x.1.isSome)
  && decide (([e]:List Expr).length+([]:List Keyword).length+(if ([]:List Keyword).isEmpty then 0 else 1)<30))=true
 line:(apos.endLine == cpos.line)=true
 trees:backTo cpos (starEach [e] X.env)=[(false,eval e X.env)]
def Nd (H:Hp) (a:Addr):Prop:=(∃ kvs,Rd H a (.dK kvs))∨∃ kvs,Rd H a (.dT kvs)
theorem Ho {X:Cx}{ab:List (Addr×Obj)}{σ:St}{H:Hp}{s:Shared}{a:Addr}(I:aO X ab σ H s) (d:Nd H a) :
  s.TypeIs (.ref a) "dict" /\ (∀ b,Value.ref a = .ref b->∃ ob,s.heap.get? b=some ob/\ob.dict=none)/\(a == sysModules)=false:=by
 rcases d with ⟨kvs,e⟩|⟨kvs,e⟩
 .obtain ⟨_,hd,vs,_,dd⟩:=vA I.hok e;refine ⟨dd.typeIs,fun b q=>?_,hd⟩
  cases q;obtain ⟨ob,_,_,h1,h2,_⟩:=dd;exact ⟨ob,h1,h2.2.1⟩
 .obtain ⟨_,hd,xs,_,dd⟩:=wK I.hok e;refine ⟨dd.typeIs,fun b q=>?_,hd⟩
  cases q;obtain ⟨ob,_,_,h1,h2,_⟩:=dd;exact ⟨ob,h1,h2.2.1⟩
end L2
namespace Att
open PySem PySem.W PySem.Calls PyProof.Rows
theorem pQ {P:Params}{h:Heap}:∀ (ns:List Int) (vs:List Value),WellAll P h vs (ns.map WData.int)->IntsAre vs ns:=by
 intro ns
 induction ns with
 | nil =>
  intro vs w;rw [List.map_nil] at w;cases w;exact .nil
 | cons n ns ih =>
  intro vs w;rw [List.map_cons] at w;cases w with
  | cons a b =>
   cases a;exact .cons _ _ (ih _ b)
theorem Ae {l:OpenLaw}{n:Nat}(hn:l.most=some n) {P:Params}{h:Heap}{args:List WData}{vals:List Value}
  (hpre:l.row.toRowW.claim.pre args=true) (hwl:WellAll P h vals args) :
  ∃ a vs ns,vals=[Value.ref a]/\args=[WData.list (ns.map WData.int)]/\h.get? a=some { cls:=.type "list", data:=.seq vs.toArray }/\IntsAre vs ns/\ns.length<=n:=by
 have hsh:WShape.hasAll [] args [.list .int]=true:=(pre_splitW hpre).1;have hc:l.pre.holds [] { args:=args }=true:=(pre_splitW hpre).2;obtain ⟨d,r,rfl,h1,h2⟩:=hasAllW_cons hsh;obtain rfl:=hasAllW_nil h2;obtain ⟨xs,rfl,h3⟩:=hasW_list h1;obtain ⟨ns,rfl⟩:=items_int h3;have hlen:ns.length<=n:=by
  unfold OpenLaw.pre at hc;have h4:(WTm.not (.lt (.lit (.int (n:Int))) (.len (.arg 0)))).holds [] { args:=[.list (ns.map .int)] }=true:=by
   have h4:=(holds_andW hc).1;rw [hn] at h4;exact h4
  have h5:=condW_of h4 (w_not (w_lt w_lit (w_len_list (w_arg rfl))));rw [lMq] at h5;refine Nat.le_of_not_lt fun q=>?_
  have q':(n:Int)<((ns.length:Nat):Int):=by lia
  first
   | (rw [decide_eq_true q'] at h5;exact absurd h5 (by decide))
   | (simp at h5;lia)
 cases hwl with
 | cons w1 w2 =>
  cases w2;cases w1 with
  | list ho hall=>exact ⟨_,_,ns,rfl,rfl,ho,pQ ns _ hall,hlen⟩
theorem Ag (l:OpenLaw) (args:List WData):l.row.toRowW.claim.post args (.bool true) args=true :=
 postW_of (r:=l.row.toRowW) (X:=(true == true))
  (show WShape.has [] (.bool true) .bool=true by first|rfl|decide|simp [WShape.has,WShape.arms,WShape.armsAll])
  (show (WTm.eq .res (.lit (.bool true))).value [] { args:=args,res:=some (.bool true),after:=args }=some (.bool (true == true)) from w_eq_bool (w_res rfl) w_lit) rfl
theorem wq {l:OpenLaw}{n:Nat}{q:Program}{loose:List Str}{XP:(Str->Option Value)->Heap->Prop}{YP:World->Heap->Prop}{d:DefRec}
  (hn:l.most=some n) (hdf:d.params.defaults=[])
  (call:∀ (w:World) (s₀ s₁:Shared) (mg mb:Str->Option Value) (fa:Addr) (o:Obj) (pm cd doc:Value) (a:Addr) (vs:List Value) (ns:List Int),
   Ground q loose [] XP w s₀ mg mb s₁.heap->YP w s₁.heap ->
   s₁.heap.get? fa=some o->o.data = .func (docDef d.name d.params d.body d.scope pm cd doc)->s₁.heap.CodeRec cd d.name->mg d.name=some (.ref fa) ->
   s₁.heap.get? a=some { cls:=.type "list", data:=.seq vs.toArray }->IntsAre vs ns->ns.length<=n->s₁.gens=#[] ->
   codeAny (model l.prog w) callerA (.call (.ref fa) ⟨[.ref a],[]⟩) (fun r s'=>r = .ok (.ret (.bool true))/\OldK s₁.heap s'.heap/\s'.os=s₁.os/\AllBare s'.gens) s₁) :
  WalkO q loose XP YP l.row.toRowW d [] (fun f vs=>PySem.call f vs):=by
 intro w s₀ s₁ mg mb G Y fa o pm cd doc dV kV ho hd hcd hD hmg hg args vals as hpre hlay hrd hwl hlo;obtain rfl:dV = .none:=Dflts.none hD hdf;obtain rfl:kV = .none:=Dflts.noKw hD;obtain ⟨a,vs,ns,rfl,rfl,hobj,hints,hlen⟩:=Ae hn hpre hwl;refine enter_call (codeAny_mono (call w s₀ s₁ mg mb fa o pm cd doc a vs ns G Y ho (fd_plain hd) hcd hmg hobj hints hlen hg) fun r s' hq=>?_)
 obtain ⟨rfl,h2,h3,h4⟩:=hq;exact ⟨.inl ⟨.bool true,.bool true,[],rfl,fun _=>rfl,.bool true,Ag l _,fun _=>⟨List.Pairwise.nil,fun _ hm=>(nomatch hm)⟩⟩,h2,h3,h4⟩
end Att
namespace L2
open PySem PySem.Spec PyProof.Rows
theorem vals_ints:∀ {vs:List Value}{ns:List Int},IntsAre vs ns->bu (ns.map V.int) vs
 | _,_,.nil=>.nil
 | _,_,.cons n t h=>.cons ⟨t,rfl⟩ (vals_ints h)
def Ie (H:Hp):Prop:=∀ b,H b=none∨∃ o xs,H b=some (.frz o (.lst xs))
theorem BF {P:Program}{w:World}{K:W.Frag}{mg mb:Str->Option Value}{CX:Cy}{k:Nat}{fa a:Addr}{fd:FuncData}{x:Str}{sp:Sp}{s₁:Shared}{vs:List Value}{ns:List Int}
  (KX:K.In s₁.heap) (hns:s₁.heap.Ns mainGlobals mg) (hb:s₁.heap.Ns builtinsNs mb) (hbb:∀ x:Str,x ≠ "__name__" -> mb x=bootBuiltins x) (hlim:s₁.heap.NoLimit) (hg:s₁.gens=#[])
  (ha:s₁.heap.get? a=some { cls:=.type "list", data:=.seq vs.toArray }) (hi:IntsAre vs ns) (hl:ns.length<=sizeLine) (hr:iO k callerA)
  (F:∀ base:Heap,K.In base->base.Ns mainGlobals mg->pG P w K mg base CX k fa fd [x] sp) (hbind:∀ (s:Shared) (u:Value),BindsTo s fd ⟨[u],[]⟩ [(x,u)])
  (hsp:∀ H:Hp,Ie H->eJ K H a (ns.map V.int)->sp [.ref a] H (fun v _=>v = .bl true) fun _ _ _=>False)
  (hCX:∀ H e s',CX [] H s₁ (fun _ _ _=>False) e s'->False) :
  codeAny (model P w) callerA (.call (.ref fa) ⟨[.ref a],[]⟩) (fun r s'=>r = .ok (.ret (.bool true))/\OldK s₁.heap s'.heap/\s'.os=s₁.os/\AllBare s'.gens) s₁:=by
 have rv:=vals_ints hi;have lenV:=hi.length;have core:∀ H:Hp,Ie H->eJ K H a (ns.map V.int)->mF P w H s₁.heap->(∀ b,H b≠none->b=a)->(H a≠none->K.lookup a=none) ->
   codeAny (model P w) callerA (.call (.ref fa) ⟨[.ref a],[]⟩) (fun r s'=>r = .ok (.ret (.bool true))/\OldK s₁.heap s'.heap/\s'.os=s₁.os/\AllBare s'.gens) s₁:=by
  intro H hO hS hok hA hK;have base_of:∀ {b:Addr}{o:Obj},s₁.heap.get? b=some o->H b=none->(uI s₁.heap H).get? b=some o:=fun e n=>C7 e n
  have noA:∀ {b:Addr}{o:Obj}{es:Array DictEntry}{ep:Nat},s₁.heap.get? b=some o->o.data = .dict es ep->H b=none:=fun {b o es ep} e d=>by
   cases q:H b with
   | none=>rfl
   | some u =>
    have e':b=a:=hA b (by rw [q];simp)
    subst e';rw [ha] at e;cases e;have d':Data.seq vs.toArray _=Data.dict es ep:=d;cases d'
  have nsK:∀ {b:Addr}{m:Str->Option Value},s₁.heap.Ns b m->(uI s₁.heap H).Ns b m:=fun {b m} ⟨o,es,ep,e,d,r⟩=>⟨o,es,ep,base_of e (noA e d),d,r⟩
  have hKb:K.In (uI s₁.heap H):=fun b o e=>base_of (KX b o e) (by
   cases q:H b with
   | none=>rfl
   | some u =>
    have e':b=a:=hA b (by rw [q];simp)
    subst e';rw [hK (by rw [q];simp)] at e;cases e)
  have hM:Mod K mg (uI s₁.heap H):=⟨hKb,nsK hns,⟨mb,nsK hb,hbb⟩,let ⟨mc,h1,h2⟩:=hlim;⟨mc,nsK h1,h2⟩⟩
  have e0:EK P w K mg (uI s₁.heap H) callerA [] s₁ H:=⟨rfl,hM,fun b o e=>Ee e,Nat.le_of_eq (zZ _ _),trivial,fun b hb=>absurd (show b∈([]:List Addr) from hb) (by simp),hok,.of_eq hg⟩
  refine codeAny_mono ((F _ hKb (nsK hns)).run callerA [] s₁ H ⟨[.ref a],[]⟩ [.ref a] [.ref a] _ _ hr e0 (hbind s₁ (.ref a)) (.cons rfl .nil) (hsp H hO hS)) fun r s' h=>?_
  cases r with
  | error e=>exact (hCX H e s' h).elim
  | ok fl =>
   cases fl with
   | next=>exact False.elim h
   | brk=>exact False.elim h
   | cont=>exact False.elim h
   | ret u =>
    obtain ⟨v,H',os,bare,un,hok',r',q⟩:=h;have q':v = .bl true:=q;subst q';obtain rfl:u=Value.bool true:=r';refine ⟨rfl,OldK.of_keep fun b o e=>?_,os,bare⟩
    cases q:H b with
    | none=>exact un.keep b o e q (by intro z;exact absurd (show b∈([]:List Addr) from z) (by simp)) (by simp)
    | some u =>
     rcases hO b with z|⟨ob,xs,z⟩
     .rw [q] at z;cases z
     .have z2:=un.frzs b ob _ z;obtain ⟨e1,_⟩:=hok b _ z;obtain ⟨e2,_⟩:=hok' b _ z2;rw [e] at e1;cases e1;exact e2
 cases hk:K.lookup a with
 | some o =>
  have e:=KX a o hk;rw [ha] at e;cases e;refine core (fun _=>none) (fun _=>.inl rfl) (.inr ⟨_,vs.toArray,_,hk,rfl,rfl,rfl,by rw [List.size_toArray,lenV];exact hl,by simpa using rv⟩) (fun b u z=>by have z':(none:Option HO)=some u:=z;cases z') (fun b z=>absurd rfl z) fun z=>absurd rfl z
 | none =>
  refine core (fun b=>if b=a then some (.frz { cls:=.type "list", data:=.seq vs.toArray } (.lst (ns.map V.int))) else none) (fun b=>?_) (.inl (.inr ⟨{ cls:=.type "list", data:=.seq vs.toArray },if_pos rfl⟩)) (fun b u z=>?_) (fun b z=>?_) fun _=>hk
  .by_cases hb:b=a
   .exact .inr ⟨_,_,if_pos hb⟩
   .exact .inl (if_neg hb)
  .by_cases hb:b=a
   .have z':=(if_pos hb).symm.trans z;cases z';subst hb;exact ⟨ha,by rw [lMq];exact hl,vs,_,rv,ha⟩
   .have z':=(if_neg hb).symm.trans z;cases z'
  .by_cases hb:b=a
   .exact hb
   .exact absurd (if_neg hb) z
end L2
namespace L2
open PySem PySem.Spec PyProof.Rows
theorem EN {l:W.OpenLaw}{n k:Nat}{q:Program}{loose:List Str}{XP:(Str->Option Value)->Heap->Prop}{YP:World->Heap->Prop}{d:DefRec}{K:Params->W.Frag}{CX:World->Cy}{sp:World->Sp}{x:Str}
  (hn:l.most=some n) (hn2:n<=sizeLine) (hdf:d.params.defaults=[]) (hr:iO k callerA)
  (hY:∀ (w:World) (h:Heap),YP w h->(K w.params).In h)
  (F:∀ (w:World) (mg:Str->Option Value) (fa:Addr) (h:Heap),(K w.params).In h->h.Ns mainGlobals mg->mg d.name=some (.ref fa) ->
   ∃ fd:FuncData,(∀ (s:Shared) (u:Value),BindsTo s fd ⟨[u],[]⟩ [(x,u)]) /\
    ∀ base:Heap,(K w.params).In base->base.Ns mainGlobals mg->pG l.prog w (K w.params) mg base (CX w) k fa fd [x] (sp w))
  (hsp:∀ (w:World) (H:Hp) (a:Addr) (ns:List Int),ns.length<=n->Ie H->eJ (K w.params) H a (ns.map V.int)->sp w [.ref a] H (fun v _=>v = .bl true) fun _ _ _=>False)
  (hCX:∀ (w:World) (H:Hp) (s:Shared) (e:Value) (s':Shared),CX w [] H s (fun _ _ _=>False) e s'->False) :
  W.WalkO q loose XP YP l.row.toRowW d [] (fun f vs=>PySem.call f vs):=by
 refine Att.wq hn hdf fun w s₀ s₁ mg mb fa o pm cd doc a vs ns G Y ho hd hcd hmg hobj hints hlen hg=>?_
 have KX:=hY w _ Y;obtain ⟨fd,hb,hF⟩:=F w mg fa _ KX G.T.g hmg;exact BF KX G.T.g G.T.b G.T.builtins G.T.nolimit hg hobj hints (Nat.le_trans hlen hn2) hr hF hb (fun H hO hS=>hsp w H a ns hlen hO hS) fun H e s'=>hCX w H s₁ e s'
end L2
namespace L2
open PySem PySem.Spec PyProof.Rows
def gJ (s:Stmt):Arguments:=match s with
 | .FunctionDef _ a _ _ _ _ _ _ _ _=>a
 | _=>{ posonlyargs:=[],args:=[],vararg:=none,kwonlyargs:=[],kw_defaults:=[],kwarg:=none,defaults:=[] }
def gg (s:Stmt):List Stmt:=match s with
 | .FunctionDef _ _ b _ _ _ _ _ _ _=>b
 | _=>[]
def aH (s:Stmt):Scope:=match s with
 | .FunctionDef _ _ _ _ _ _ sc _ _ _=>sc
 | _=>{ kind:=.function,names:=[],isGenerator:=false,isCoroutine:=false }
abbrev HB:Cy:=fun _ _ _ _ _ _=>False
abbrev E0:XK:=fun _ _ _=>False
theorem Kg {X:Cx}:xy HB X E0:=fun _ _ _ _ _ _ _ h=>h.elim
structure Gd (K:W.Frag) (x qual:Str) (st:Stmt) (f:Addr) (fd:FuncData):Prop where
 ex:∃ (oc:Value) (od:Option Addr) (kV doc pm:Value) (an:Option Addr) (fT ct:Value) (osl:Array (Option Value)),
  fd=W.fnOf x qual (gJ st) (gg st) (aH st) .none kV doc pm an fT ct/\K.lookup f=some ⟨oc,od,.func fd,osl⟩/\W.codeIn K fT qual=true
 kp:W.keepIn K (.ref f)=true
section
variable {P:Program}{w:World}{K:W.Frag}{mg:Str->Option Value}{base:Heap}
theorem Gd.ok {x qual:Str}{st:Stmt}{f:Addr}{fd:FuncData}{N ps:List Str}{k:Nat}{sp:Sp}(F:Gd K x qual st f fd) (S:bw N ps (aH st)) (len:∀ vs H Q E,sp vs H Q E->vs.length=ps.length)
  (hbody:∀ (fT:Value) (A:Around) (outer:List Env) (s:Shared) (H:Hp) (vs:List V) (Q:VK) (E:XK),iO k (A.deeper (envOfC qual (aH st) s.heap.objs.size f fT))->sp vs H Q E ->
   ∃ t,Ah (AX HB P w K mg base N qual (aH st) f fT A outer s H E).nox (gg st) t/\t { nx:=fun _ H'=>Q .non H',rt:=Q } (jQ N vs) H):pG P w K mg base HB (k+1) f fd ps sp:=by
 obtain ⟨oc,od,kV,doc,pm,an,fT,ct,osl,rfl,lk,hcd⟩:=F.ex;refine Ju lk hcd S len fun A outer s H vs Q E hr hsp=>?_
 obtain ⟨t,h,q⟩:=hbody fT A outer s H vs Q E hr hsp;exact ⟨t,h.nox,q⟩
theorem Gd.binds {x qual:Str}{st:Stmt}{f:Addr}{fd:FuncData}{ps:List Str}(F:Gd K x qual st f fd)
  (h:∀ (kV doc pm:Value) (an:Option Addr) (fT ct:Value) (us:List Value),us.length=ps.length->bindArgs (W.fnOf x qual (gJ st) (gg st) (aH st) .none kV doc pm an fT ct) ⟨us,[]⟩=pure (ps.zip us)):jY K fd ps []:=by
 obtain ⟨oc,od,kV,doc,pm,an,fT,ct,osl,rfl,lk,hcd⟩:=F.ex;exact .all (h kV doc pm an fT ct)
theorem yf {x qual:Str}{st:Stmt}{f:Addr}{oc:Value}{od an:Option Addr}{osl:Array (Option Value)}{kV doc pm fT ct:Value}(l:K.lookup f=some ⟨oc,od,.func (W.fnOf x qual (gJ st) (gg st) (aH st) .none kV doc pm an fT ct),osl⟩)
  (c:W.codeIn K fT qual=true) (k:W.keepIn K (.ref f)=true):Gd K x qual st f (W.fnOf x qual (gJ st) (gg st) (aH st) .none kV doc pm an fT ct):=⟨⟨oc,od,kV,doc,pm,an,fT,ct,osl,rfl,l,c⟩,k⟩
end
theorem oN {A:Around}{k:Nat}(hr:iO k A):A.units+1<cLine:=Nat.lt_of_le_of_lt (Nat.add_le_add_left (by decide:1<=64) _) hr.units
section
variable {X:Cx}
theorem pv (i:Nat) {x:Str}{pos:Pos}(hN:X.N[i]?=some x:=by rfl) (hv:KQ X.env.scope x:=by first|exact Or.inl rfl|exact Or.inr (Or.inl rfl)|exact Or.inr (Or.inr rfl)) (hd:(x == ("__debug__" : Str))=false:=by decide)
  (hcd:(x == ("__classdict__" : Str))=false:=by decide):PE X (.Name x pos) (lF i):=G2 hN hv hd hcd
end
theorem wJ {A B:Prop}(h:B):if false=true then A else B:=by
 rw [if_neg Bool.false_ne_true];exact h
theorem wI {A B:Prop}(h:A):if true=true then A else B:=by
 rw [if_pos rfl];exact h
def bS (H H':Hp):Prop:=∀ b o,H b=some o->H' b=some o
theorem bS.refl (H:Hp):bS H H:=fun _ _ h=>h
theorem bS.trans {H H1 H2:Hp}(a:bS H H1) (b:bS H1 H2):bS H H2:=fun c o h=>b c o (a c o h)
theorem bS.free {H H':Hp}(e:bS H H') {l:Addr}(h:H' l=Option.none):H l=Option.none:=by
 cases q:H l with
 | none=>rfl
 | some o =>
  rw [e l o q] at h;cases h
theorem bS.seq {K:W.Frag}{H H':Hp}{a:Addr}{xs:List V}(e:bS H H') (h:eJ K H a xs):eJ K H' a xs:=by
 rcases h with (h|⟨o,h⟩)|h
 .exact .inl (.inl (e _ _ h))
 .exact .inl (.inr ⟨o,e _ _ h⟩)
 .exact .inr h
end L2
namespace L2
open PySem PySem.Spec PyProof.Rows
end L2
namespace Mr
def cell (ns:List Int) (k:Nat):Int:=ns.getD k 0
def bY (ns:List Int):Nat->Nat
 | 0=>0
 | k+1=>if ns.getD k 0<ns.getD (bY ns k) 0 then k else bY ns k
def Lj (ns:List Int) (i:Nat):List Int:=ns.drop i++ns.take i
def iw (ns:List Int):List Int:=Lj ns (bY ns ns.length)
theorem jr (ns:List Int):∀ n,(0<n->bY ns n<n)/\(∀ j,j<n->ns.getD (bY ns n) 0<=ns.getD j 0)/\(∀ j,j<bY ns n->ns.getD (bY ns n) 0<ns.getD j 0)
 | 0=>⟨fun h=>absurd h (Nat.lt_irrefl _),fun j h=>absurd h (Nat.not_lt_zero _),fun j h=>absurd h (Nat.not_lt_zero _)⟩
 | n+1=>by
  obtain ⟨h1,h2,h3⟩:=jr ns n;simp only [bY]
  by_cases c:ns.getD n 0<ns.getD (bY ns n) 0
  .rw [if_pos c];refine ⟨fun _=>Nat.lt_succ_self n,fun j hj=>?_,fun j hj=>?_⟩
   .rcases Nat.lt_or_eq_of_le (Nat.le_of_lt_succ hj) with q|q
    .have:=h2 j q;lia
    .subst q;exact Int.le_refl _
   .have:=h2 j hj;lia
  .rw [if_neg c];refine ⟨fun _=>?_,fun j hj=>?_,h3⟩
   .by_cases hn:0<n
    .exact Nat.lt_succ_of_lt (h1 hn)
    .have:n=0:=by lia
     subst this;exact Nat.lt_succ_self 0
   .rcases Nat.lt_or_eq_of_le (Nat.le_of_lt_succ hj) with q|q
    .exact h2 j q
    .subst q;lia
theorem xn (ns:List Int):bY ns ns.length<=ns.length:=by
 by_cases h:0<ns.length
 .exact Nat.le_of_lt ((jr ns ns.length).1 h)
 .have:ns.length=0:=by lia
  rw [this];exact Nat.le_refl 0
theorem pW {ns:List Int}{j:Nat}(h:j<ns.length):ns.getD j 0=ns[j]:=by
 rw [gDq,gEg h];rfl
theorem wL {ns:List Int}{M:Int}(hm:M∈ns) (hl:∀ a,a∈ns->M<=a):ns.idxOf M=bY ns ns.length:=by
 have h0:0<ns.length:=List.length_pos_of_mem hm;obtain ⟨h1,h2,h3⟩:=jr ns ns.length;have h1:=h1 h0;have hi:ns.idxOf M<ns.length:=List.idxOf_lt_length_iff.mpr hm;have e:ns.getD (ns.idxOf M) 0=M:=by rw [pW hi];exact List.getElem_idxOf hi
 have eL:ns.getD (bY ns ns.length) 0=M:=by
  have q1:=h2 _ hi;rw [e] at q1;have q2:=hl _ (by rw [pW h1];exact gRq h1:ns.getD (bY ns ns.length) 0∈ns)
  lia
 rcases Nat.lt_trichotomy (ns.idxOf M) (bY ns ns.length) with q|q|q
 .have:=h3 _ q;lia
 .exact q
 .exfalso;have:=List.not_of_lt_findIdx (p:=(· == M)) (xs:=ns) (i:=bY ns ns.length) (by simpa [List.idxOf] using q)
  rw [pW h1] at eL;simp [eL] at this
def step (ns:List Int):Int:=if 0<cell ns 0 % 3 then cell ns 0 % 10 ^ 40+1 else 1
end Mr
namespace Mr
theorem CO (t:List Int) (i:Nat):(Lj t i).Perm t:=by
 unfold Lj;exact List.perm_append_comm.trans (by rw [List.take_append_drop])
theorem AD (t:List Int):(iw t).Perm t:=CO t _
theorem uE {rs ts:List (List Int)}(h:rs.Perm ts):rs.flatten.Perm ts.flatten:=by
 induction h with
 | nil=>exact .refl _
 | cons x _ ih=>rw [fCq,fCq];exact List.Perm.append (.refl x) ih
 | swap x y l =>
  rw [fCq,fCq,fCq,fCq,← List.append_assoc,← List.append_assoc];exact List.Perm.append List.perm_append_comm (.refl _)
 | trans _ _ a b=>exact a.trans b
theorem jj {f:List Int->List Int}(hf:∀ r,(f r).Perm r):∀ rs:List (List Int),(rs.map f).flatten.Perm rs.flatten
 | []=>.refl _
 | r::rs=>by
  rw [List.map_cons,fCq,fCq];exact List.Perm.append (hf r) (jj hf rs)
theorem mi {rs:List (List Int)}{r:List Int}(hr:r∈rs):r.length<=rs.flatten.length:=(List.sublist_flatten_of_mem hr).length_le
theorem yv:∀ t:Fin 66,∀ d:Fin 67,0<d.val->(t.val+1)*d.val % 67≠0:=by decide +kernel
end Mr
namespace MrS
open PySem PyProof.Rows
def iA:Bool->Keyed->Array Keyed->Nat->Nat->Nat->StateT SortSt Sem (Option Nat):=sortPriv% PySem.Builtin.gallop
structure lG (prog:Program) (w:World) (A:Around) (s:Shared) (κ:SortKind) (P:Keyed->Prop) (lt:Keyed->Keyed->Bool):Prop where
 ask:∀ x y,P x->P y->∀ (E:Value->Shared->Prop) (Q:Bool->Shared->Prop),Q (lt x y) s->wpAny (model prog w) A (keyLt' κ x.1 y.1) Q E s
 asym:∀ x y,P x->P y->lt x y=true->lt y x=false
 trans:∀ x y z,P x->P y->P z->lt y x=false->lt z y=false->lt z x=false
section
variable {prog:Program}{w:World}{A:Around}{E:Value->Shared->Prop}{s:Shared}{κ:SortKind}{P:Keyed->Prop}{lt:Keyed->Keyed->Bool}
theorem lG.refl (C:lG prog w A s κ P lt) {x:Keyed}(hx:P x):lt x x=false:=by
 cases e:lt x x with
 | false=>rfl
 | true=>rw [← C.asym x x hx hx e,e]
theorem lG.cmp (C:lG prog w A s κ P lt) {x y:Keyed}{st:SortSt}{Q:Option Bool->SortSt->Prop}(hx:P x) (hy:P y) (hk:kindOf st=κ) (h:Q (some (lt x y)) st) :
  wpS (model prog w) A E s (lt' x y) Q st:=by
 rw [lt'_eq];refine wpS_bind (wpS_get ?_);rw [hk];refine wpS_bind (wpS_lift (wpAny_attempt (C.ask x y hx hy _ _ ⟨rfl,?_⟩)));exact wpS_pure h
theorem bC {arr:Array Keyed}{i:Nat}{x:Keyed}{st:SortSt}{Q:Keyed->SortSt->Prop}(hx:arr[i]?=some x) (h:Q x st):wpS (model prog w) A E s (elem' arr i) Q st:=by
 rw [elem'_eq,hx];exact wpS_pure h
theorem lG.at (C:lG prog w A s κ P lt) {i j:Nat}{x y:Keyed}{st:SortSt}{Q:Option Bool->SortSt->Prop}(hi:(arrOf st)[i]?=some x) (hj:(arrOf st)[j]?=some y) (hx:P x) (hy:P y) (hk:kindOf st=κ) (h:Q (some (lt x y)) st) :
  wpS (model prog w) A E s (ltAt' i j) Q st:=by
 rw [ltAt'_eq];refine wpS_bind (wpS_get ?_);exact wpS_bind (bC hi (wpS_bind (bC hj (C.cmp hx hy hk h))))
def jL (lt:Keyed->Keyed->Bool) (left:Bool) (key:Keyed) (arr:Array Keyed) (base i:Nat):Bool :=
 if left then lt (arr.getD (base+i) key) key else !lt key (arr.getD (base+i) key)
theorem yg (left:Bool) (key:Keyed) (arr:Array Keyed) (base n hint:Nat):iA left key arr base n hint=(do
 let beyond (i:Nat):StateT SortSt Sem (Option Bool):=do
  let x ← elem' arr (base+i)
  if left then lt' x key else return (← lt' key x).map (!·)
 let mut lastofs:=0
 let mut ofs:=1
 let mut lo:=0
 let mut hi:=0
 let some right ← beyond hint|return none
 if right then
  let maxofs:=n-hint
  for _ in [0:n] do
   if ofs ≥ maxofs then break
   let some more ← beyond (hint+ofs)|return none
   if !more then break
   lastofs:=ofs
   ofs:=2*ofs+1
  lo:=hint+lastofs+1
  hi:=hint+min ofs maxofs
 else
  let maxofs:=hint+1
  for _ in [0:n] do
   if ofs ≥ maxofs then break
   let some found ← beyond (hint-ofs)|return none
   if found then break
   lastofs:=ofs
   ofs:=2*ofs+1
  lo:=hint+1-min ofs maxofs
  hi:=hint-lastofs
 for _ in [0:n] do
  if lo ≥ hi then break
  let m:=lo+(hi-lo) / 2
  let some more ← beyond m|return none
  if more then lo:=m+1 else hi:=m
 return some hi):=rfl
theorem gS (C:lG prog w A s κ P lt) {left:Bool}{key:Keyed}{arr:Array Keyed}{base i:Nat}{st:SortSt}{Q:Option Bool->SortSt->Prop}(hi:base+i<arr.size) (ha:∀ x,x∈arr->P x) (hkey:P key) (hk:kindOf st=κ)
  (h:Q (some (jL lt left key arr base i)) st):wpS (model prog w) A E s (do
   let x ← elem' arr (base+i)
   if left=true then lt' x key else do
    let __x ← lt' key x
    pure (__x.map (!·))) Q st:=by
 have e:arr[base+i]?=some arr[base+i]:=Array.getElem?_eq_getElem hi;have e2:arr.getD (base+i) key=arr[base+i]:=by simp [Array.getD,hi]
 refine wpS_bind (bC e ?_);have hp:P arr[base+i]:=ha _ (Array.getElem_mem hi);unfold jL at h;rw [e2] at h;cases left with
 | true =>
  rw [if_pos rfl] at h ⊢;exact C.cmp hp hkey hk h
 | false =>
  rw [if_neg (by decide)] at h ⊢
  exact wpS_bind (C.cmp hkey hp hk (wpS_pure h))
theorem oI {left:Bool}{key:Keyed}{arr:Array Keyed}{base n lo hi:Nat}{st:SortSt}{f:Nat->Option (Option Nat)×Nat×Nat->StateT SortSt Sem (ForInStep (Option (Option Nat)×Nat×Nat))}
  (mono:∀ i j,i<=j->j<n->jL lt left key arr base j=true->jL lt left key arr base i=true)
  (down:∀ i j,i<=j->j<n->jL lt left key arr base i=false->jL lt left key arr base j=false)
  (hf:∀ (i l u:Nat) (Q':ForInStep (Option (Option Nat)×Nat×Nat)->SortSt->Prop),u<=n->(u<=l->Q' (.done (none,l,u)) st)->(l<u->jL lt left key arr base (l+(u-l) / 2)=true->Q' (.yield (none,l+(u-l) / 2+1,u)) st) ->
   (l<u->jL lt left key arr base (l+(u-l) / 2)=false->Q' (.yield (none,l,l+(u-l) / 2)) st)->wpS (model prog w) A E s (f i (none,l,u)) Q' st)
  (h1:lo<=hi) (h2:hi<=n) (h3:∀ j,j<lo->jL lt left key arr base j=true) (h4:∀ j,hi<=j->j<n->jL lt left key arr base j=false) :
  wpS (model prog w) A E s (forIn [:n] ((none,lo,hi):Option (Option Nat)×Nat×Nat) f)
   (fun c st'=>∃ k,c=(none,k,k)/\st'=st/\k<=n/\(∀ j,j<k->jL lt left key arr base j=true)/\(∀ j,k<=j->j<n->jL lt left key arr base j=false)) st:=by
 refine wpS_forRange
  (I:=fun i c st'=>∃ l u,c=(none,l,u)/\st'=st/\l<=u/\u<=n/\(∀ j,j<l->jL lt left key arr base j=true)/\(∀ j,u<=j->j<n->jL lt left key arr base j=false)/\(u-l)+i<=n)
  ?step ?fin ⟨lo,hi,rfl,rfl,h1,h2,h3,h4,by lia⟩
 case step =>
  rintro i c st' _ hi' ⟨l,u,rfl,rfl,a1,a2,a3,a4,a5⟩;refine hf i l u _ a2 (fun c1=>?_) (fun c1 e=>?_) (fun c1 e=>?_)
  .have e:l=u:=by lia
   subst e;exact ⟨l,rfl,rfl,a2,a3,a4⟩
  .exact ⟨_,u,rfl,rfl,by lia,a2,fun j hj=>mono j _ (by lia) (by lia) e,a4,by lia⟩
  .exact ⟨l,_,rfl,rfl,by lia,by lia,a3,fun j hj hn=>down _ j hj hn e,by lia⟩
 case fin =>
  rintro c st' ⟨l,u,rfl,rfl,a1,a2,a3,a4,a5⟩;have e:l=u:=by lia
  subst e;exact ⟨l,rfl,rfl,a2,a3,a4⟩
theorem gc (C:lG prog w A s κ P lt) {left:Bool}{key:Keyed}{arr:Array Keyed}{base n hint:Nat}{st:SortSt}{Q:Option Nat->SortSt->Prop}(hh:hint<n) (hb:base+n<=arr.size) (ha:∀ x,x∈arr->P x) (hkey:P key) (hk:kindOf st=κ)
  (mono:∀ i j,i<=j->j<n->jL lt left key arr base j=true->jL lt left key arr base i=true)
  (h:∀ k,k<=n->(∀ j,j<k->jL lt left key arr base j=true)->(∀ j,k<=j->j<n->jL lt left key arr base j=false)->Q (some k) st) :
  wpS (model prog w) A E s (iA left key arr base n hint) Q st:=by
 have down:∀ i j,i<=j->j<n->jL lt left key arr base i=false->jL lt left key arr base j=false:=fun i j hij hj e=>by
  cases q:jL lt left key arr base j with
  | false=>rfl
  | true=>rw [mono i j hij hj q] at e;cases e
 rw [yg];dsimp only;refine wpS_bind (gS C (base:=base) (i:=hint) (by lia) ha hkey hk ?_)
 cases er:jL lt left key arr base hint with
 | true =>
  dsimp only;rw [if_pos rfl];refine wpS_bind (wpS_mono (wpS_forRange
   (I:=fun i c st'=>∃ l o,c=(none,l,o)/\st'=st/\l<o/\i+1<=o/\hint+l<n/\jL lt left key arr base (hint+l)=true)
   (Q:=fun c st'=>∃ l o,c=(none,l,o)/\st'=st/\l<o/\hint+l<n/\jL lt left key arr base (hint+l)=true/\(n-hint<=o∨(hint+o<n/\jL lt left key arr base (hint+o)=false)))
   ?step ?fin ⟨0,1,rfl,rfl,by lia,by lia,by lia,er⟩) ?post)
  case step =>
   rintro i c st' _ hi' ⟨l,o,rfl,rfl,a1,a2,a3,a4⟩;dsimp only
   by_cases c1:o ≥ n-hint
   .rw [if_pos c1];exact wpS_pure ⟨l,o,rfl,rfl,a1,a3,a4,.inl c1⟩
   .rw [if_neg c1];refine wpS_bind (gS C (base:=base) (i:=hint+o) (by lia) ha hkey hk ?_)
    cases e:jL lt left key arr base (hint+o) with
    | true =>
     dsimp only;rw [if_neg (by decide)]
     exact wpS_pure ⟨o,_,rfl,rfl,by lia,by lia,by lia,e⟩
    | false =>
     dsimp only;rw [if_pos (by decide)]
     exact wpS_pure ⟨l,o,rfl,rfl,a1,a3,a4,.inr ⟨by lia,e⟩⟩
  case fin =>
   rintro c st' ⟨l,o,rfl,rfl,a1,a2,a3,a4⟩;exact ⟨l,o,rfl,rfl,a1,a3,a4,.inl (by lia)⟩
  case post =>
   rintro c st' ⟨l,o,rfl,rfl,a1,a3,a4,a5⟩;dsimp only;refine wpS_bind (wpS_mono (oI (lt:=lt) (left:=left) (key:=key) (arr:=arr) (base:=base) mono down (fun i l' u' Q' hu q1 q2 q3=>?_) (by lia) (by lia) (fun j hj=>mono j _ (by lia) a3 a4) ?_) ?_)
   .dsimp only
    by_cases c1:l' ≥ u'
    .rw [if_pos c1];exact wpS_pure (q1 c1)
    .rw [if_neg c1];refine wpS_bind (gS C (base:=base) (i:=l'+(u'-l') / 2) (by lia) ha hkey hk ?_)
     cases e:jL lt left key arr base (l'+(u'-l') / 2) with
     | true =>
      dsimp only;rw [if_pos rfl];exact wpS_pure (q2 (by lia) e)
     | false =>
      dsimp only;rw [if_neg (by decide)]
      exact wpS_pure (q3 (by lia) e)
   .intro j hj hn;rcases a5 with a5|⟨a5,a6⟩
    .lia
    .exact down (hint+o) j (by lia) hn a6
   .rintro c st' ⟨k,rfl,rfl,k1,k2,k3⟩;exact wpS_pure (h k k1 k2 k3)
 | false =>
  dsimp only;rw [if_neg (by decide)]
  refine wpS_bind (wpS_mono (wpS_forRange
   (I:=fun i c st'=>∃ l o,c=(none,l,o)/\st'=st/\l<o/\i+1<=o/\l<=hint/\jL lt left key arr base (hint-l)=false)
   (Q:=fun c st'=>∃ l o,c=(none,l,o)/\st'=st/\l<o/\l<=hint/\jL lt left key arr base (hint-l)=false/\(hint+1<=o∨(o<=hint/\jL lt left key arr base (hint-o)=true)))
   ?step ?fin ⟨0,1,rfl,rfl,by lia,by lia,by lia,er⟩) ?post)
  case step =>
   rintro i c st' _ hi' ⟨l,o,rfl,rfl,a1,a2,a3,a4⟩;dsimp only
   by_cases c1:o ≥ hint+1
   .rw [if_pos c1];exact wpS_pure ⟨l,o,rfl,rfl,a1,a3,a4,.inl c1⟩
   .rw [if_neg c1];refine wpS_bind (gS C (base:=base) (i:=hint-o) (by lia) ha hkey hk ?_)
    cases e:jL lt left key arr base (hint-o) with
    | true =>
     dsimp only;rw [if_pos rfl];exact wpS_pure ⟨l,o,rfl,rfl,a1,a3,a4,.inr ⟨by lia,e⟩⟩
    | false =>
     dsimp only;rw [if_neg (by decide)]
     exact wpS_pure ⟨o,_,rfl,rfl,by lia,by lia,by lia,e⟩
  case fin =>
   rintro c st' ⟨l,o,rfl,rfl,a1,a2,a3,a4⟩;exact ⟨l,o,rfl,rfl,a1,a3,a4,.inl (by lia)⟩
  case post =>
   rintro c st' ⟨l,o,rfl,rfl,a1,a3,a4,a5⟩;dsimp only;refine wpS_bind (wpS_mono (oI (lt:=lt) (left:=left) (key:=key) (arr:=arr) (base:=base) mono down (fun i l' u' Q' hu q1 q2 q3=>?_) (by lia) (by lia) ?_ (fun j hj hn=>down _ j hj hn a4)) ?_)
   .dsimp only
    by_cases c1:l' ≥ u'
    .rw [if_pos c1];exact wpS_pure (q1 c1)
    .rw [if_neg c1];refine wpS_bind (gS C (base:=base) (i:=l'+(u'-l') / 2) (by lia) ha hkey hk ?_)
     cases e:jL lt left key arr base (l'+(u'-l') / 2) with
     | true =>
      dsimp only;rw [if_pos rfl];exact wpS_pure (q2 (by lia) e)
     | false =>
      dsimp only;rw [if_neg (by decide)]
      exact wpS_pure (q3 (by lia) e)
   .intro j hj;rcases a5 with a5|⟨a5,a6⟩
    .lia
    .exact mono j (hint-o) (by lia) (by lia) a6
   .rintro c st' ⟨k,rfl,rfl,k1,k2,k3⟩;exact wpS_pure (h k k1 k2 k3)
end
end MrS
namespace MrS
open PySem PyProof.Rows
abbrev jH (lt:Keyed->Keyed->Bool) (l:List Keyed):Prop:=l.Pairwise fun x y=>lt y x=false
structure MI (lt:Keyed->Keyed->Bool) (a b out:Array Keyed) (ia ib:Nat):Prop where
 la:ia<=a.size
 lb:ib<=b.size
 pm:(out.toList++(a.toList.drop ia++b.toList.drop ib)).Perm (a.toList++b.toList)
 so:jH lt out.toList
 ua:∀ x∈out.toList,∀ y∈a.toList.drop ia,lt y x=false
 ub:∀ x∈out.toList,∀ y∈b.toList.drop ib,lt y x=false
section
variable {lt:Keyed->Keyed->Bool}{a b out out':Array Keyed}{ia ib k:Nat}
theorem MI.congr (m:MI lt a b out ia ib) (e:out'.toList=out.toList):MI lt a b out' ia ib:=⟨m.la,m.lb,by rw [e];exact m.pm,by rw [e];exact m.so,by rw [e];exact m.ua,by rw [e];exact m.ub⟩
theorem vS (l:List Keyed) (i k:Nat):l.drop i=(l.drop i).take k++l.drop (i+k):=by
 rw [← List.drop_drop,List.take_append_drop]
theorem jF (a:Array Keyed) (i k:Nat):(a.extract i (i+k)).toList=(a.toList.drop i).take k:=by
 rw [Array.toList_extract,List.extract_eq_take_drop,Nat.add_sub_cancel_left]
theorem MI.moreA (m:MI lt a b out ia ib) (sa:jH lt a.toList) (hk:ia+k<=a.size) (h:∀ x∈(a.toList.drop ia).take k,∀ y∈b.toList.drop ib,lt y x=false):MI lt a b (out++a.extract ia (ia+k)) (ia+k) ib:=by
 have e:(out++a.extract ia (ia+k)).toList=out.toList++(a.toList.drop ia).take k:=by rw [Array.toList_append,jF]
 have sd:jH lt (a.toList.drop ia):=sa.sublist (List.drop_sublist _ _);have c:=vS a.toList ia k;have sd2:=sd;rw [c] at sd2;obtain ⟨q1,q2,q3⟩:=List.pairwise_append.mp sd2;refine ⟨hk,m.lb,?_,?_,?_,?_⟩
 .rw [e,List.append_assoc];refine (List.Perm.append_left _ ?_).trans m.pm;rw [← List.append_assoc,← c]
 .rw [e];exact List.pairwise_append.mpr ⟨m.so,q1,fun x hx y hy=>m.ua x hx y (List.mem_of_mem_take hy)⟩
 .rw [e];intro x hx y hy;rcases mAq.mp hx with hx|hx
  .exact m.ua x hx y (by rw [c];exact List.mem_append_right _ hy)
  .exact q3 x hx y hy
 .rw [e];intro x hx y hy;rcases mAq.mp hx with hx|hx
  .exact m.ub x hx y hy
  .exact h x hx y hy
theorem MI.moreB (m:MI lt a b out ia ib) (sb:jH lt b.toList) (hk:ib+k<=b.size) (h:∀ x∈(b.toList.drop ib).take k,∀ y∈a.toList.drop ia,lt y x=false):MI lt a b (out++b.extract ib (ib+k)) ia (ib+k):=by
 have e:(out++b.extract ib (ib+k)).toList=out.toList++(b.toList.drop ib).take k:=by rw [Array.toList_append,jF]
 have sd:jH lt (b.toList.drop ib):=sb.sublist (List.drop_sublist _ _);have c:=vS b.toList ib k;have sd2:=sd;rw [c] at sd2;obtain ⟨q1,q2,q3⟩:=List.pairwise_append.mp sd2;refine ⟨m.la,hk,?_,?_,?_,?_⟩
 .rw [e,List.append_assoc];refine (List.Perm.append_left _ ?_).trans m.pm;refine ((List.perm_append_comm_assoc _ _ _).trans ?_);rw [← c]
 .rw [e];exact List.pairwise_append.mpr ⟨m.so,q1,fun x hx y hy=>m.ub x hx y (List.mem_of_mem_take hy)⟩
 .rw [e];intro x hx y hy;rcases mAq.mp hx with hx|hx
  .exact m.ua x hx y hy
  .exact h x hx y hy
 .rw [e];intro x hx y hy;rcases mAq.mp hx with hx|hx
  .exact m.ub x hx y (by rw [c];exact List.mem_append_right _ hy)
  .exact q3 x hx y hy
theorem jv {l:List Keyed}{i:Nat}{x:Keyed}(h:l[i]?=some x):(l.drop i).take 1=[x]:=by
 obtain ⟨hi,e⟩:=gSq.mp h;rw [List.drop_eq_getElem_cons hi,e];rfl
theorem MI.pushA {x:Keyed}(m:MI lt a b out ia ib) (sa:jH lt a.toList) (hx:a[ia]?=some x) (h:∀ y∈b.toList.drop ib,lt y x=false):MI lt a b (out.push x) (ia+1) ib:=by
 have hi:ia<a.size:=(Array.getElem?_eq_some_iff.mp hx).1;have hx':a.toList[ia]?=some x:=by rw [Array.getElem?_toList];exact hx
 refine (m.moreA sa (k:=1) hi fun z hz y hy=>?_).congr ?_
 .rw [jv hx',mSq] at hz;rw [hz];exact h y hy
 .rw [Array.toList_push,Array.toList_append,jF,jv hx']
theorem MI.pushB {x:Keyed}(m:MI lt a b out ia ib) (sb:jH lt b.toList) (hx:b[ib]?=some x) (h:∀ y∈a.toList.drop ia,lt y x=false):MI lt a b (out.push x) ia (ib+1):=by
 have hi:ib<b.size:=(Array.getElem?_eq_some_iff.mp hx).1;have hx':b.toList[ib]?=some x:=by rw [Array.getElem?_toList];exact hx
 refine (m.moreB sb (k:=1) hi fun z hz y hy=>?_).congr ?_
 .rw [jv hx',mSq] at hz;rw [hz];exact h y hy
 .rw [Array.toList_push,Array.toList_append,jF,jv hx']
structure DZ (lt:Keyed->Keyed->Bool) (a b r:Array Keyed):Prop where
 pm:r.toList.Perm (a.toList++b.toList)
 so:jH lt r.toList
theorem jd (a:Array Keyed) (i:Nat):(a.extract i a.size).toList=a.toList.drop i:=by
 rw [Array.toList_extract,List.extract_eq_take_drop];exact List.take_of_length_le (by rw [List.length_drop,Array.length_toList];exact Nat.le_refl _)
theorem MI.endB (m:MI lt a b out ia ib) (sa:jH lt a.toList) (e:ib=b.size):DZ lt a b (out++a.extract ia a.size++b.extract ib b.size):=by
 have eb:b.toList.drop ib=[]:=by rw [e,← Array.length_toList,List.drop_length]
 have et:(out++a.extract ia a.size++b.extract ib b.size).toList=out.toList++a.toList.drop ia:=by
  rw [Array.toList_append,Array.toList_append,jd,jd,eb,aNq]
 have pm:=m.pm;rw [eb,aNq] at pm;exact ⟨by rw [et];exact pm,by rw [et];exact List.pairwise_append.mpr ⟨m.so,sa.sublist (List.drop_sublist _ _),m.ua⟩⟩
theorem MI.endA (m:MI lt a b out ia ib) (sb:jH lt b.toList) (e:ia=a.size):DZ lt a b (out++a.extract ia a.size++b.extract ib b.size):=by
 have ea:a.toList.drop ia=[]:=by rw [e,← Array.length_toList,List.drop_length]
 have et:(out++a.extract ia a.size++b.extract ib b.size).toList=out.toList++b.toList.drop ib:=by
  rw [Array.toList_append,Array.toList_append,jd,jd,ea,aNq]
 have pm:=m.pm;rw [ea,List.nil_append] at pm;exact ⟨by rw [et];exact pm,by rw [et];exact List.pairwise_append.mpr ⟨m.so,sb.sublist (List.drop_sublist _ _),m.ub⟩⟩
theorem MI.lastA (m:MI lt a b out ia ib) (sa:jH lt a.toList) (sb:jH lt b.toList) (h:∀ x∈b.toList.drop ib,∀ y∈a.toList.drop ia,lt y x=false):DZ lt a b (out++b.extract ib b.size++a.extract ia a.size):=by
 have et:(out++b.extract ib b.size++a.extract ia a.size).toList=out.toList++(b.toList.drop ib++a.toList.drop ia):=by
  rw [Array.toList_append,Array.toList_append,jd,jd,List.append_assoc]
 refine ⟨?_,?_⟩
 .rw [et];exact (List.Perm.append_left _ List.perm_append_comm).trans m.pm
 .rw [et];refine List.pairwise_append.mpr ⟨m.so,List.pairwise_append.mpr ⟨sb.sublist (List.drop_sublist _ _),sa.sublist (List.drop_sublist _ _),h⟩,fun x hx y hy=>?_⟩
  rcases mAq.mp hy with hy|hy
  .exact m.ub x hx y hy
  .exact m.ua x hx y hy
end
end MrS
namespace MrS
open PySem PyProof.Rows
def qm:Array Keyed->Array Keyed->StateT SortSt Sem (Array Keyed):=sortPriv% PySem.Builtin.mergeLo
def dR:Nat->StateT SortSt Sem Unit:=sortPriv% PySem.Builtin.setMinGallop
abbrev sg (st:SortSt) (g:Nat):SortSt:=SortSt.mk' (kindOf st) (arrOf st) (pendingOf st) g (failedOf st)
theorem om (g:Nat):dR g=modify fun st=>sg st g:=rfl
section
variable (a b:Array Keyed)
abbrev dn (o:Array Keyed) (i j:Nat):=o++a.extract i a.size++b.extract j b.size
abbrev lA (o:Array Keyed) (i j:Nat):=o++b.extract j b.size++a.extract i a.size
abbrev SF (α:Type):=ForInStep (Option (Array Keyed)×Array Keyed×Nat×Nat×α)
def Lm (o:Array Keyed) (i j m k l:Nat):StateT SortSt Sem (SF (Nat×Nat×Nat)):=do
 let x ← elem' a i
 if i+1+1 == a.size then pure (.done (some (lA a b (o.push x) (i+1) j),o.push x,i+1,j,m,k,l))
 else if decide (k<7) && decide (l<7) then pure (.done (none,o.push x,i+1,j,m,k,l))
 else pure (.yield (none,o.push x,i+1,j,m,k,l))
def Lq (o:Array Keyed) (i j m k q:Nat):StateT SortSt Sem (SF (Nat×Nat×Nat)):=do
 let x ← elem' b j
 if j+1 == b.size then pure (.done (some (dn a b (o.push x) i (j+1)),o.push x,i,j+1,m,k,q))
 else do
  let y ← elem' a i
  match ← iA true y b (j+1) (b.size-(j+1)) 0 with
  | some l =>
   if l>0 then
    if j+1+l == b.size then pure (.done (some (dn a b (o.push x++b.extract (j+1) (j+1+l)) i (j+1+l)),o.push x++b.extract (j+1) (j+1+l),i,j+1+l,m,k,l))
    else Lm a b (o.push x++b.extract (j+1) (j+1+l)) i (j+1+l) m k l
   else Lm a b (o.push x) i (j+1) m k l
  | _=>pure (.done (some (dn a b (o.push x) i (j+1)),o.push x,i,j+1,m,k,q))
def LI (o:Array Keyed) (i j m p q:Nat):StateT SortSt Sem (SF (Nat×Nat×Nat)):=do
 dR m
 let x ← elem' b j
 match ← iA false x a i (a.size-i) 0 with
 | some k =>
  if k>0 then
   if i+k+1 == a.size then pure (.done (some (lA a b (o++a.extract i (i+k)) (i+k) j),o++a.extract i (i+k),i+k,j,m,k,q))
   else if i+k == a.size then pure (.done (some (dn a b (o++a.extract i (i+k)) (i+k) j),o++a.extract i (i+k),i+k,j,m,k,q))
   else Lq a b (o++a.extract i (i+k)) (i+k) j m k q
  else Lq a b o i j m k q
 | _=>pure (.done (some (dn a b o i j),o,i,j,m,p,q))
def L1 (m:Nat) (o:Array Keyed) (i j p q:Nat):StateT SortSt Sem (SF (Nat×Nat)):=do
 let y ← elem' b j
 let x ← elem' a i
 match ← lt' y x with
 | some c =>
  if c then do
   let z ← elem' b j
   if j+1 == b.size then pure (.done (some (dn a b (o.push z) i (j+1)),o.push z,i,j+1,0,q+1))
   else if q+1 ≥ m then pure (.done (none,o.push z,i,j+1,0,q+1))
   else pure (.yield (none,o.push z,i,j+1,0,q+1))
  else do
   let z ← elem' a i
   if i+1+1 == a.size then pure (.done (some (lA a b (o.push z) (i+1) j),o.push z,i+1,j,p+1,0))
   else if p+1 ≥ m then pure (.done (none,o.push z,i+1,j,p+1,0))
   else pure (.yield (none,o.push z,i+1,j,p+1,0))
 | _=>pure (.done (some (dn a b o i j),o,i,j,p,q))
def Mn (o:Array Keyed) (i j m:Nat):StateT SortSt Sem (SF Nat):=do
 let r ← forIn [0:a.size+b.size] (none,o,i,j,0,0) fun _ s=>L1 a b m s.2.1 s.2.2.1 s.2.2.2.1 s.2.2.2.2.1 s.2.2.2.2.2
 Break.runK.match_1 (fun _=>StateT SortSt Sem (SF Nat)) r.1 (fun v=>pure (.done (some v,r.2.1,r.2.2.1,r.2.2.2.1,m))) fun _=>do
  rule "list.sort.gallop"
  let r ← forIn [0:a.size+b.size] (none,r.2.1,r.2.2.1,r.2.2.2.1,m+1,r.2.2.2.2.1,r.2.2.2.2.2) fun _ s=>if s.2.2.2.2.1>1 then LI a b s.2.1 s.2.2.1 s.2.2.2.1 (s.2.2.2.2.1-1) s.2.2.2.2.2.1 s.2.2.2.2.2.2 else LI a b s.2.1 s.2.2.1 s.2.2.2.1 s.2.2.2.2.1 s.2.2.2.2.2.1 s.2.2.2.2.2.2
  Break.runK.match_1 (fun _=>StateT SortSt Sem (SF Nat)) r.1 (fun v=>pure (.done (some v,r.2.1,r.2.2.1,r.2.2.2.1,r.2.2.2.2.1))) fun _=>do
   dR (r.2.2.2.2.1+1)
   pure (.yield (none,r.2.1,r.2.2.1,r.2.2.2.1,r.2.2.2.2.1+1))
theorem wy:qm a b=(do
 rule "list.sort.merge-lo"
 let x ← elem' b 0
 if 1 == b.size then pure (dn a b #[x] 0 1)
 else if 0+1 == a.size then pure (lA a b #[x] 0 1)
 else do
  let st ← get
  let r ← forIn [0:a.size+b.size] (none,#[x],0,1,gallopOf st) fun _ s=>Mn a b s.2.1 s.2.2.1 s.2.2.2.1 s.2.2.2.2
  Break.runK.match_1 (fun _=>StateT SortSt Sem (Array Keyed)) r.1 (fun v=>pure v) fun _=>unsupported "internal:list.sort.merge-bound"):=rfl
end
section
variable {prog:Program}{w:World}{A:Around}{E:Value->Shared->Prop}{s:Shared}{κ:SortKind}{P:Keyed->Prop}{lt:Keyed->Keyed->Bool}
theorem jq {g:Nat}{st:SortSt}{Q:Unit->SortSt->Prop}(h:Q () (sg st g)):wpS (model prog w) A E s (dR g) Q st:=by
 rw [om];exact wpS_modify h
theorem jm {x:String}{st:SortSt}{Q:Unit->SortSt->Prop}(h:Q () st):wpS (model prog w) A E s (liftM (rule x):StateT SortSt Sem Unit) Q st:=wpS_lift (wpAny_rule ⟨rfl,h⟩)
theorem qa (C:lG prog w A s κ P lt) {a:Array Keyed}{i:Nat}{x:Keyed}(ha:∀ x,x∈a->P x) (sa:jH lt a.toList) (hx:a[i]?=some x):∀ y∈a.toList.drop i,lt y x=false:=by
 obtain ⟨hi,e⟩:=Array.getElem?_eq_some_iff.mp hx;have hi':i<a.toList.length:=by simpa using hi
 have e':a.toList[i]=x:=by simpa using e
 have sd:jH lt (a.toList.drop i):=sa.sublist (List.drop_sublist _ _);rw [List.drop_eq_getElem_cons hi',e'] at sd ⊢;intro y hy;rcases List.mem_cons.mp hy with rfl|hy
 .exact C.refl (ha _ (by rw [← e];exact Array.getElem_mem hi))
 .exact (List.pairwise_cons.mp sd).1 y hy
theorem gR {a:Array Keyed}{i:Nat}{y:Keyed}(h:y∈a.toList.drop i):y∈a:=by simpa using List.mem_of_mem_drop h
theorem nG (C:lG prog w A s κ P lt) {left:Bool}{key:Keyed}{arr:Array Keyed}{base n:Nat}(hb:base+n<=arr.size) (ha:∀ x,x∈arr->P x) (hkey:P key) (so:jH lt (arr.toList.drop base)) :
  ∀ i j,i<=j->j<n->jL lt left key arr base j=true->jL lt left key arr base i=true:=by
 intro i j hij hj h;have hi':base+i<arr.size:=by lia
 have hj':base+j<arr.size:=by lia
 have ei:arr.getD (base+i) key=arr[base+i]:=by simp [Array.getD,hi']
 have ej:arr.getD (base+j) key=arr[base+j]:=by simp [Array.getD,hj']
 have pi:=ha _ (Array.getElem_mem hi');have pj:=ha _ (Array.getElem_mem hj');have le:lt arr[base+j] arr[base+i]=false:=by
  rcases Nat.lt_or_eq_of_le hij with q|q
  .have:=List.pairwise_iff_getElem.mp so i j (by simp;lia) (by simp;lia) q
   simpa using this
  .subst q;exact C.refl pi
 unfold jL at h ⊢;rw [ei];rw [ej] at h;cases left with
 | true =>
  rw [if_pos rfl] at h ⊢;cases q:lt arr[base+i] key with
  | true=>rfl
  | false =>
   have:=C.trans key arr[base+i] arr[base+j] hkey pi pj q le;rw [h] at this;cases this
 | false =>
  rw [if_neg (by decide)] at h ⊢
  have h':lt key arr[base+j]=false:=by simpa using h
  have:=C.trans arr[base+i] arr[base+j] key pi pj hkey le h';simp [this]
theorem fD {left:Bool}{key x:Keyed}{arr:Array Keyed}{base i:Nat}(hx:arr[base+i]?=some x):jL lt left key arr base i=if left then lt x key else !lt key x:=by
 obtain ⟨hi,e⟩:=Array.getElem?_eq_some_iff.mp hx;unfold jL;have ei:arr.getD (base+i) key=x:=by simp [Array.getD,hi,e]
 rw [ei]
theorem iJ {a:Array Keyed}{i k:Nat}{x:Keyed}(h:x∈(a.toList.drop i).take k):∃ j,j<k/\a[i+j]?=some x:=by
 obtain ⟨j,hj,e⟩:=List.mem_iff_getElem.mp h;rw [lTq] at hj;refine ⟨j,by lia,?_⟩
 rw [List.getElem_take,List.getElem_drop] at e;rw [Array.getElem?_eq_some_iff];have hs:i+j<a.size:=by
  rw [List.length_drop,Array.length_toList] at hj;lia
 exact ⟨hs,by simpa using e⟩
theorem ke {a:Array Keyed}{i:Nat}{x:Keyed}(h:x∈a.toList.drop i):∃ j,i+j<a.size/\a[i+j]?=some x:=by
 obtain ⟨j,hj,e⟩:=List.mem_iff_getElem.mp h;rw [List.length_drop,Array.length_toList] at hj;have hs:i+j<a.size:=by lia
 refine ⟨j,hs,?_⟩;rw [List.getElem_drop] at e;rw [Array.getElem?_eq_some_iff];exact ⟨hs,by simpa using e⟩
inductive Lp {ρ τ ι σ:Type}(t:ι->τ) (v:ι->σ) (J K:ι->Prop) (R:ρ->σ->Prop):ForInStep (Option ρ×τ)->σ->Prop
 | y (x):J x->Lp t v J K R (.yield (none,t x)) (v x)
 | d (x):K x->Lp t v J K R (.done (none,t x)) (v x)
 | r (a y st):R a st->Lp t v J K R (.done (some a,y)) st
theorem ja {M:Model}{ρ τ ι σ β:Type}{n:Nat}(t:ι->τ) (v:ι->σ) (J:Nat->ι->Prop) (K:ι->Prop) (R:ρ->σ->Prop) {f:Nat->Option ρ×τ->StateT σ Sem (ForInStep (Option ρ×τ))}{k:Option ρ×τ->StateT σ Sem β}{Q:β->σ->Prop}
  (x:ι) (h:J 0 x) (step:∀ i x,J i x->wpS M A E s (f i (none,t x)) (Lp t v (J (i+1)) K R) (v x)) (fin:∀ x,J n x->K x) (pn:∀ x,K x->wpS M A E s (k (none,t x)) Q (v x)) (ps:∀ r y st,R r st->wpS M A E s (k (some r,y)) Q st) :
  wpS M A E s (forIn [0:n] (none,t x) f >>= k) Q (v x):=by
 refine wpS_bind (wpS_mono (wpS_forRange (I:=fun i c st=>∃ x,c=(none,t x)/\st=v x/\J i x) (Q:=fun c st=>Lp t v K K R (.done c) st) ?_ ?_ ⟨x,rfl,rfl,h⟩) ?_)
 .rintro i c st _ _ ⟨x,rfl,rfl,h⟩;refine wpS_mono (step i x h) fun r st' hr=>?_
  cases hr with
  | y x h=>exact ⟨x,rfl,rfl,h⟩
  | d x h=>exact .d x h
  | r a y st h=>exact .r a y _ h
 .rintro c st ⟨x,rfl,rfl,h⟩;rw [Nat.max_eq_right (Nat.zero_le n)] at h;exact .d x (fin x h)
 .rintro c st h;cases h with
  | d x h=>exact pn x h
  | r a y st h=>exact ps a y _ h
structure Ls where
 o:Array Keyed
 (i j m p q g:Nat)
structure ML (lt:Keyed->Keyed->Bool) (a b:Array Keyed) (n:Nat) (x:Ls):Prop where
 m:MI lt a b x.o x.i x.j
 p:x.i+1<a.size
 q:x.j<b.size
 r:n<=x.i+x.j
structure Lo (prog:Program) (w:World) (A:Around) (s:Shared) (κ:SortKind) (P:Keyed->Prop) (lt:Keyed->Keyed->Bool) (a b:Array Keyed) (st:SortSt) (Q:Array Keyed->SortSt->Prop):Prop where
 C:lG prog w A s κ P lt
 ha:∀ x,x∈a->P x
 hb:∀ x,x∈b->P x
 hk:kindOf st=κ
 sa:jH lt a.toList
 sb:jH lt b.toList
 h:∀ r g,DZ lt a b r->Q r (sg st g)
abbrev L6 (x:Ls):=(x.o,x.i,x.j,x.m,x.p,x.q)
abbrev L5 (x:Ls):=(x.o,x.i,x.j,x.p,x.q)
abbrev L4 (x:Ls):=(x.o,x.i,x.j,x.m)
variable {a b:Array Keyed}{st:SortSt}{Q:Array Keyed->SortSt->Prop}{n:Nat}{x:Ls}
abbrev Hl (lt:Keyed->Keyed->Bool) (a b:Array Keyed):=∀ i,i+1=a.size->∀ x∈b.toList,∀ y∈a.toList.drop i,lt y x=false
theorem CZ (H:Lo prog w A s κ P lt a b st Q) (hl:Hl lt a b) (q:ML lt a b n x) (hi:∀ z,a[x.i]?=some z->∀ y∈b.toList.drop x.j,lt y z=false) :
  wpS (model prog w) A E s (Lm a b x.o x.i x.j x.m x.p x.q) (Lp L6 (fun x=>sg st x.g) (ML lt a b n) (ML lt a b n) Q) (sg st x.g):=by
 have p1:=q.p;have ea:a[x.i]?=some a[x.i]:=Array.getElem?_eq_getElem (by lia)
 refine wpS_bind (bC ea ?_);have m6:=q.m.pushA H.sa ea (hi _ ea)
 by_cases d6:x.i+1+1=a.size
 .rw [if_pos (by simp [d6])]
  exact wpS_pure (.r _ _ _ (H.h _ _ (m6.lastA H.sa H.sb fun y hy=>hl _ d6 y (List.mem_of_mem_drop hy))))
 rw [if_neg (by simpa using d6)]
 have R:ML lt a b n ⟨_,_,_,x.m,x.p,x.q,x.g⟩:=⟨m6,by dsimp only;lia,q.q,by have:=q.r;dsimp only;lia⟩
 split
 .exact wpS_pure (.d _ R)
 .exact wpS_pure (.y _ R)
theorem CA (H:Lo prog w A s κ P lt a b st Q) (hl:Hl lt a b) (q:ML lt a b n x) (hi:∀ z,b[x.j]?=some z->∀ y∈a.toList.drop x.i,lt y z=false) :
  wpS (model prog w) A E s (Lq a b x.o x.i x.j x.m x.p x.q) (Lp L6 (fun x=>sg st x.g) (ML lt a b n) (ML lt a b n) Q) (sg st x.g):=by
 have p1:=q.p;have p2:=q.q;have p3:=q.r;have eb:b[x.j]?=some b[x.j]:=Array.getElem?_eq_getElem p2;refine wpS_bind (bC eb ?_);have m4:=q.m.pushB H.sb eb (hi _ eb)
 by_cases d3:x.j+1=b.size
 .rw [if_pos (by simp [d3])]
  exact wpS_pure (.r _ _ _ (H.h _ _ (m4.endB H.sa d3)))
 rw [if_neg (by simpa using d3)]
 have ea:a[x.i]?=some a[x.i]:=Array.getElem?_eq_getElem (by lia)
 have pa:=H.ha _ (Array.getElem_mem (show x.i<a.size by lia))
 refine wpS_bind (bC ea (wpS_bind (gc H.C (base:=x.j+1) (n:=b.size-(x.j+1)) (by lia) (by lia) H.hb pa H.hk (nG H.C (by lia) H.hb pa (H.sb.sublist (List.drop_sublist _ _))) fun l l1 l2 l3=>?_)))
 have hB:∀ z,a[x.i]?=some z->∀ y∈b.toList.drop (x.j+1+l),lt y z=false:=fun z hz y hy=>by
  obtain ⟨j',hj',ey⟩:=ke hy;have q:=l3 (l+j') (by lia) (by lia)
  rw [fD (by rw [← Nat.add_assoc];exact ey),if_pos rfl] at q
  rw [ea] at hz;cases hz;exact q
 dsimp only
 by_cases cl:l>0
 .rw [if_pos cl];have m5:=m4.moreB H.sb (k:=l) (by lia) fun x hx y hy=>by
   obtain ⟨j',hj',ex⟩:=iJ hx;have q:=l2 j' hj';rw [fD ex,if_pos rfl] at q;have px:=H.hb x (List.mem_of_mem_take hx |> gR);exact H.C.trans _ _ _ px pa (H.ha _ (gR hy)) (H.C.asym _ _ px pa q) (qa H.C H.ha H.sa ea y hy)
  by_cases d5:x.j+1+l=b.size
  .rw [if_pos (by simp [d5])]
   exact wpS_pure (.r _ _ _ (H.h _ _ (m5.endB H.sa d5)))
  rw [if_neg (by simpa using d5)]
  exact CZ H hl (x:=⟨_,_,_,_,_,_,x.g⟩) ⟨m5,p1,by dsimp only;lia,by dsimp only;lia⟩ hB
 .rw [if_neg cl];exact CZ H hl (x:=⟨_,_,_,_,_,_,x.g⟩) ⟨m4,p1,by dsimp only;lia,by dsimp only;lia⟩ (by rw [show x.j+1=x.j+1+l by lia];exact hB)
theorem CS (H:Lo prog w A s κ P lt a b st Q) (hl:Hl lt a b) (q:ML lt a b n x) :
  wpS (model prog w) A E s (LI a b x.o x.i x.j x.m x.p x.q) (Lp L6 (fun x=>sg st x.g) (ML lt a b n) (ML lt a b n) Q) (sg st x.g):=by
 have p1:=q.p;have p2:=q.q;have p3:=q.r;have eb:b[x.j]?=some b[x.j]:=Array.getElem?_eq_getElem p2;have pb:=H.hb _ (Array.getElem_mem p2);refine wpS_bind (jq (wpS_bind (bC eb (wpS_bind (gc H.C (base:=x.i) (n:=a.size-x.i) (by lia) (by lia) H.ha pb H.hk (nG H.C (by lia) H.ha pb (H.sa.sublist (List.drop_sublist _ _))) fun k k1 k2 k3=>?_)))))
 have hA:∀ z,b[x.j]?=some z->∀ y∈a.toList.drop (x.i+k),lt y z=false:=fun z hz y hy=>by
  obtain ⟨j',hj',ey⟩:=ke hy;have q:=k3 (k+j') (by lia) (by lia)
  rw [fD (by rw [← Nat.add_assoc];exact ey),if_neg (by decide)] at q
  rw [eb] at hz;cases hz;exact H.C.asym _ _ pb (H.ha _ (gR hy)) (by simpa using q)
 dsimp only
 by_cases ck:k>0
 .rw [if_pos ck];have m3:=q.m.moreA H.sa (k:=k) (by lia) fun x hx y hy=>by
   obtain ⟨j',hj',ex⟩:=iJ hx;have q:=k2 j' hj';rw [fD ex,if_neg (by decide)] at q
   exact H.C.trans _ _ _ (H.ha x (List.mem_of_mem_take hx |> gR)) pb (H.hb _ (gR hy)) (by simpa using q) (qa H.C H.hb H.sb eb y hy)
  by_cases d1:x.i+k+1=a.size
  .rw [if_pos (by simp [d1])]
   exact wpS_pure (.r _ _ _ (H.h _ x.m (m3.lastA H.sa H.sb fun x hx=>hl _ d1 x (List.mem_of_mem_drop hx))))
  rw [if_neg (by simpa using d1)]
  by_cases d2:x.i+k=a.size
  .rw [if_pos (by simp [d2])]
   exact wpS_pure (.r _ _ _ (H.h _ x.m (m3.endA H.sb d2)))
  rw [if_neg (by simpa using d2)]
  exact CA H hl (x:=⟨_,_,_,_,_,_,x.m⟩) ⟨m3,by dsimp only;lia,p2,by dsimp only;lia⟩ hA
 .rw [if_neg ck];exact CA H hl (x:=⟨_,_,_,_,_,_,x.m⟩) ⟨q.m,p1,p2,p3⟩ (by rw [show x.i=x.i+k by lia];exact hA)
theorem GI (H:Lo prog w A s κ P lt a b st Q) (hl:Hl lt a b) {m j:Nat}(q:ML lt a b (n+j) x) :
  wpS (model prog w) A E s (L1 a b m x.o x.i x.j x.p x.q) (Lp L5 (fun x=>sg st x.g) (ML lt a b (n+(j+1))) (ML lt a b (n+1)) Q) (sg st x.g):=by
 have p1:=q.p;have p2:=q.q;have p3:=q.r;have ea:a[x.i]?=some a[x.i]:=Array.getElem?_eq_getElem (by lia)
 have eb:b[x.j]?=some b[x.j]:=Array.getElem?_eq_getElem p2;have pa:=H.ha _ (Array.getElem_mem (show x.i<a.size by lia))
 have pb:=H.hb _ (Array.getElem_mem p2);refine wpS_bind (bC eb (wpS_bind (bC ea (wpS_bind (H.C.cmp pb pa H.hk ?_)))));cases e:lt b[x.j] a[x.i] with
 | true =>
  dsimp only;rw [if_pos rfl];refine wpS_bind (bC eb ?_);have m2:=q.m.pushB H.sb eb fun z hz=>H.C.trans _ _ _ pb pa (H.ha _ (gR hz)) (H.C.asym _ _ pb pa e) (qa H.C H.ha H.sa ea z hz)
  by_cases d1:x.j+1=b.size
  .rw [if_pos (by simp [d1])]
   exact wpS_pure (.r _ _ _ (H.h _ _ (m2.endB H.sa d1)))
  rw [if_neg (by simpa using d1)]
  have R:∀ n,n<=x.i+(x.j+1)->ML lt a b n ⟨_,_,_,0,0,x.q+1,x.g⟩:=fun n hn=>⟨m2,p1,by dsimp only;lia,hn⟩
  split
  .exact wpS_pure (.d _ (R _ (by lia)))
  .exact wpS_pure (.y _ (R _ (by lia)))
 | false =>
  dsimp only;rw [if_neg (by decide)]
  refine wpS_bind (bC ea ?_);have m2:=q.m.pushA H.sa ea fun z hz=>H.C.trans _ _ _ pa pb (H.hb _ (gR hz)) e (qa H.C H.hb H.sb eb z hz)
  by_cases d1:x.i+1+1=a.size
  .rw [if_pos (by simp [d1])]
   exact wpS_pure (.r _ _ _ (H.h _ _ (m2.lastA H.sa H.sb fun x hx=>hl _ d1 x (List.mem_of_mem_drop hx))))
  rw [if_neg (by simpa using d1)]
  have R:∀ n,n<=x.i+1+x.j->ML lt a b n ⟨_,_,_,0,x.p+1,0,x.g⟩:=fun n hn=>⟨m2,by dsimp only;lia,p2,hn⟩
  split
  .exact wpS_pure (.d _ (R _ (by lia)))
  .exact wpS_pure (.y _ (R _ (by lia)))
theorem IF (H:Lo prog w A s κ P lt a b st Q) (hl:Hl lt a b) (q:ML lt a b n x) :
  wpS (model prog w) A E s (Mn a b x.o x.i x.j x.m) (Lp L4 (fun x=>sg st x.g) (ML lt a b (n+1)) (fun _=>False) Q) (sg st x.g):=by
 refine ja L5 (fun x=>sg st x.g) (fun j=>ML lt a b (n+j)) (ML lt a b (n+1)) Q ⟨x.o,x.i,x.j,0,0,0,x.g⟩ ⟨q.m,q.p,q.q,q.r⟩ (fun j x q=>GI H hl q) (fun y h=>⟨h.m,h.p,h.q,by have:=h.r;have:=h.p;have:=h.q;lia⟩) (fun y q=>?_) fun r y st' hr=>wpS_pure (.r _ _ _ hr)
 refine wpS_bind (jm ?_);refine ja L6 (fun x=>sg st x.g) (fun _=>ML lt a b (n+1)) (ML lt a b (n+1)) Q ⟨y.o,y.i,y.j,x.m+1,y.p,y.q,y.g⟩ ⟨q.m,q.p,q.q,q.r⟩ (fun j z q=>?_) (fun _ h=>h) (fun z q=>?_) fun r y st' hr=>wpS_pure (.r _ _ _ hr)
 .dsimp only;split
  .exact CS H hl (x:=⟨_,_,_,z.m-1,_,_,z.g⟩) ⟨q.m,q.p,q.q,q.r⟩
  .exact CS H hl q
 .refine wpS_bind (jq (wpS_pure ?_));exact Lp.y (t:=L4) (v:=fun x=>sg st x.g) ⟨_,_,_,z.m+1,0,0,z.m+1⟩ ⟨q.m,q.p,q.q,q.r⟩
theorem vE (C:lG prog w A s κ P lt) (ha:∀ x,x∈a->P x) (hb:∀ x,x∈b->P x) (hk:kindOf st=κ) (sa:jH lt a.toList) (sb:jH lt b.toList)
  (na:0<a.size) (nb:0<b.size) (h0:∀ x,b[0]?=some x->∀ y∈a.toList,lt y x=false) (hl:∀ i,i+1=a.size->∀ x∈b.toList,∀ y∈a.toList.drop i,lt y x=false)
  (h:∀ r g,DZ lt a b r->Q r (sg st g)):wpS (model prog w) A E s (qm a b) Q st:=by
 rw [wy];refine wpS_bind (jm ?_);have eb0:b[0]?=some b[0]:=Array.getElem?_eq_getElem nb;refine wpS_bind (bC eb0 ?_);have m0:MI lt a b #[] 0 0:=⟨Nat.zero_le _,Nat.zero_le _,by simp,by simp [jH],by simp,by simp⟩
 have m1:MI lt a b #[b[0]] 0 1:=m0.pushB sb eb0 fun y hy=>h0 _ eb0 y (by simpa using hy)
 by_cases c1:1=b.size
 .rw [if_pos (by simp [← c1])]
  exact wpS_pure (h _ (gallopOf st) (m1.endB sa c1))
 rw [if_neg (by simpa using c1)]
 by_cases c2:0+1=a.size
 .rw [if_pos (by simp [← c2])]
  exact wpS_pure (h _ (gallopOf st) (m1.lastA sa sb fun x hx=>hl 0 c2 x (List.mem_of_mem_drop hx)))
 rw [if_neg (by simpa using c2)]
 refine wpS_bind (wpS_get ?_);exact ja L4 (fun x=>sg st x.g) (fun i=>ML lt a b (i+1)) (fun _=>False) Q ⟨_,0,1,_,0,0,gallopOf st⟩ ⟨m1,by dsimp only;lia,by dsimp only;lia,by dsimp only;lia⟩ (fun i x q=>IF ⟨C,ha,hb,hk,sa,sb,h⟩ hl q) (fun x h=>by have:=h.p;have:=h.q;have:=h.r;lia) (fun x h=>h.elim) fun r y st' hr=>wpS_pure hr
end
end MrS
namespace MrS
open PySem PyProof.Rows
structure MH (lt:Keyed->Keyed->Bool) (a b out:Array Keyed) (na nb:Nat):Prop where
 la:na<=a.size
 lb:nb<=b.size
 pm:((a.toList.take na++b.toList.take nb)++out.toList.reverse).Perm (a.toList++b.toList)
 so:jH lt out.toList.reverse
 ua:∀ x∈a.toList.take na,∀ y∈out.toList,lt y x=false
 ub:∀ x∈b.toList.take nb,∀ y∈out.toList,lt y x=false
section
variable {lt:Keyed->Keyed->Bool}{a b out out':Array Keyed}{na nb k:Nat}
theorem MH.congr (m:MH lt a b out na nb) (e:out'.toList=out.toList):MH lt a b out' na nb:=⟨m.la,m.lb,by rw [e];exact m.pm,by rw [e];exact m.so,by rw [e];exact m.ua,by rw [e];exact m.ub⟩
theorem nL (l:List Keyed) (k n:Nat) (h:k<=n):l.take n=l.take k++(l.take n).drop k:=by
 have e:(l.take n).take k=l.take k:=by rw [List.take_take,Nat.min_eq_left h]
 rw [← e,List.take_append_drop]
theorem cT (a:Array Keyed) (k n:Nat):(a.extract k n).toList=(a.toList.take n).drop k:=by
 rw [Array.toList_extract,List.extract_eq_take_drop,List.drop_take]
theorem ni (a:Array Keyed) (n:Nat):(a.extract 0 n).toList=a.toList.take n:=by
 rw [cT,List.drop_zero]
theorem MH.moreA (m:MH lt a b out na nb) (sa:jH lt a.toList) (hk:k<=na) (h:∀ x∈b.toList.take nb,∀ y∈(a.toList.take na).drop k,lt y x=false):MH lt a b (out++(a.extract k na).reverse) k nb:=by
 have e:(out++(a.extract k na).reverse).toList=out.toList++((a.toList.take na).drop k).reverse:=by rw [Array.toList_append,Array.toList_reverse,cT]
 have er:(out++(a.extract k na).reverse).toList.reverse=(a.toList.take na).drop k++out.toList.reverse:=by rw [e,List.reverse_append,List.reverse_reverse]
 have c:=nL a.toList k na hk;have sd:jH lt (a.toList.take na):=sa.sublist (List.take_sublist _ _);have sd2:=sd;rw [c] at sd2;obtain ⟨q1,q2,q3⟩:=List.pairwise_append.mp sd2;have sub:∀ y,y∈(a.toList.take na).drop k->y∈a.toList.take na:=fun y hy=>List.mem_of_mem_drop hy
 refine ⟨Nat.le_trans hk m.la,m.lb,?_,?_,?_,?_⟩
 .rw [er];refine List.Perm.trans ?_ m.pm;rw [← List.append_assoc];refine List.Perm.append_right _ ?_
  conv=>rhs;rw [c]
  rw [List.append_assoc,List.append_assoc];exact List.Perm.append_left _ List.perm_append_comm
 .rw [er];exact List.pairwise_append.mpr ⟨q2,m.so,fun x hx y hy=>m.ua x (sub x hx) y (List.mem_reverse.mp hy)⟩
 .rw [e];intro x hx y hy;rcases mAq.mp hy with hy|hy
  .exact m.ua x (by rw [c];exact List.mem_append_left _ hx) y hy
  .exact q3 x hx y (List.mem_reverse.mp hy)
 .rw [e];intro x hx y hy;rcases mAq.mp hy with hy|hy
  .exact m.ub x hx y hy
  .exact h x hx y (List.mem_reverse.mp hy)
theorem MH.moreB (m:MH lt a b out na nb) (sb:jH lt b.toList) (hk:k<=nb) (h:∀ x∈a.toList.take na,∀ y∈(b.toList.take nb).drop k,lt y x=false):MH lt a b (out++(b.extract k nb).reverse) na k:=by
 have e:(out++(b.extract k nb).reverse).toList=out.toList++((b.toList.take nb).drop k).reverse:=by rw [Array.toList_append,Array.toList_reverse,cT]
 have er:(out++(b.extract k nb).reverse).toList.reverse=(b.toList.take nb).drop k++out.toList.reverse:=by rw [e,List.reverse_append,List.reverse_reverse]
 have c:=nL b.toList k nb hk;have sd:jH lt (b.toList.take nb):=sb.sublist (List.take_sublist _ _);have sd2:=sd;rw [c] at sd2;obtain ⟨q1,q2,q3⟩:=List.pairwise_append.mp sd2;have sub:∀ y,y∈(b.toList.take nb).drop k->y∈b.toList.take nb:=fun y hy=>List.mem_of_mem_drop hy
 refine ⟨m.la,Nat.le_trans hk m.lb,?_,?_,?_,?_⟩
 .rw [er];refine List.Perm.trans ?_ m.pm;rw [← List.append_assoc];refine List.Perm.append_right _ ?_
  conv=>rhs;rw [c]
  rw [List.append_assoc]
 .rw [er];exact List.pairwise_append.mpr ⟨q2,m.so,fun x hx y hy=>m.ub x (sub x hx) y (List.mem_reverse.mp hy)⟩
 .rw [e];intro x hx y hy;rcases mAq.mp hy with hy|hy
  .exact m.ua x hx y hy
  .exact h x hx y (List.mem_reverse.mp hy)
 .rw [e];intro x hx y hy;rcases mAq.mp hy with hy|hy
  .exact m.ub x (by rw [c];exact List.mem_append_left _ hx) y hy
  .exact q3 x hx y (List.mem_reverse.mp hy)
theorem jA {l:List Keyed}{i:Nat}{x:Keyed}(h:l[i]?=some x):(l.take (i+1)).drop i=[x]:=by
 rw [List.take_add_one,h,List.drop_append];have hl:(l.take i).length=i:=by
  have:=(gSq.mp h).1;rw [lTq];lia
 rw [List.drop_of_length_le (by lia),hl,Nat.sub_self]
 rfl
theorem MH.pushA {x:Keyed}(m:MH lt a b out (na+1) nb) (sa:jH lt a.toList) (hx:a[na]?=some x) (h:∀ y∈b.toList.take nb,lt x y=false):MH lt a b (out.push x) na nb:=by
 have hx':a.toList[na]?=some x:=by rw [Array.getElem?_toList];exact hx
 refine (m.moreA sa (k:=na) (Nat.le_succ _) fun z hz y hy=>?_).congr ?_
 .rw [jA hx',mSq] at hy;rw [hy];exact h z hz
 .rw [Array.toList_push,Array.toList_append,Array.toList_reverse,cT,jA hx'];rfl
theorem MH.pushB {x:Keyed}(m:MH lt a b out na (nb+1)) (sb:jH lt b.toList) (hx:b[nb]?=some x) (h:∀ y∈a.toList.take na,lt x y=false):MH lt a b (out.push x) na nb:=by
 have hx':b.toList[nb]?=some x:=by rw [Array.getElem?_toList];exact hx
 refine (m.moreB sb (k:=nb) (Nat.le_succ _) fun z hz y hy=>?_).congr ?_
 .rw [jA hx',mSq] at hy;rw [hy];exact h z hz
 .rw [Array.toList_push,Array.toList_append,Array.toList_reverse,cT,jA hx'];rfl
theorem MH.end (m:MH lt a b out na nb) (sa:jH lt a.toList) (sb:jH lt b.toList) (e:na=0∨nb=0):DZ lt a b (a.extract 0 na++b.extract 0 nb++out.reverse):=by
 have et:(a.extract 0 na++b.extract 0 nb++out.reverse).toList=(a.toList.take na++b.toList.take nb)++out.toList.reverse:=by
  rw [Array.toList_append,Array.toList_append,ni,ni,Array.toList_reverse]
 refine ⟨by rw [et];exact m.pm,?_⟩
 rw [et];refine List.pairwise_append.mpr ⟨?_,m.so,fun x hx y hy=>?_⟩
 .rcases e with rfl|rfl
  .rw [List.take_zero,List.nil_append];exact sb.sublist (List.take_sublist _ _)
  .rw [List.take_zero,aNq];exact sa.sublist (List.take_sublist _ _)
 .rcases mAq.mp hx with hx|hx
  .exact m.ua x hx y (List.mem_reverse.mp hy)
  .exact m.ub x hx y (List.mem_reverse.mp hy)
theorem MH.firstB (m:MH lt a b out na nb) (sa:jH lt a.toList) (sb:jH lt b.toList) (h:∀ x∈b.toList.take nb,∀ y∈a.toList.take na,lt y x=false):DZ lt a b (b.extract 0 nb++a.extract 0 na++out.reverse):=by
 have et:(b.extract 0 nb++a.extract 0 na++out.reverse).toList=(b.toList.take nb++a.toList.take na)++out.toList.reverse:=by
  rw [Array.toList_append,Array.toList_append,ni,ni,Array.toList_reverse]
 refine ⟨?_,?_⟩
 .rw [et];exact (List.Perm.append_right _ List.perm_append_comm).trans m.pm
 .rw [et];refine List.pairwise_append.mpr ⟨List.pairwise_append.mpr ⟨sb.sublist (List.take_sublist _ _),sa.sublist (List.take_sublist _ _),h⟩,m.so,fun x hx y hy=>?_⟩
  rcases mAq.mp hx with hx|hx
  .exact m.ub x hx y (List.mem_reverse.mp hy)
  .exact m.ua x hx y (List.mem_reverse.mp hy)
end
def qp:Array Keyed->Array Keyed->StateT SortSt Sem (Array Keyed):=sortPriv% PySem.Builtin.mergeHi
section
variable (a b:Array Keyed)
abbrev dH (o:Array Keyed) (i j:Nat):=a.extract 0 i++b.extract 0 j++o.reverse
abbrev fH (o:Array Keyed) (i j:Nat):=b.extract 0 j++a.extract 0 i++o.reverse
abbrev SH (α:Type):=ForInStep (Option (Array Keyed)×Nat×Nat×Array Keyed×α)
def KN (o:Array Keyed) (i j m k l:Nat):StateT SortSt Sem (SH (Nat×Nat×Nat)):=do
 let x ← elem' a (i-1)
 if i-1 == 0 then pure (.done (some (dH a b (o.push x) (i-1) j),i-1,j,o.push x,m,k,l))
 else if decide (k<7) && decide (l<7) then pure (.done (none,i-1,j,o.push x,m,k,l))
 else pure (.yield (none,i-1,j,o.push x,m,k,l))
def KJ (o:Array Keyed) (i j m k q:Nat):StateT SortSt Sem (SH (Nat×Nat×Nat)):=do
 let x ← elem' b (j-1)
 if j-1 == 1 then pure (.done (some (fH a b (o.push x) i (j-1)),i,j-1,o.push x,m,k,q))
 else do
  let y ← elem' a (i-1)
  match ← iA true y b 0 (j-1) (j-1-1) with
  | some l =>
   if j-1-l>0 then
    if l == 1 then pure (.done (some (fH a b (o.push x++(b.extract l (j-1)).reverse) i l),i,l,o.push x++(b.extract l (j-1)).reverse,m,k,j-1-l))
    else if l == 0 then pure (.done (some (dH a b (o.push x++(b.extract l (j-1)).reverse) i l),i,l,o.push x++(b.extract l (j-1)).reverse,m,k,j-1-l))
    else KN a b (o.push x++(b.extract l (j-1)).reverse) i l m k (j-1-l)
   else KN a b (o.push x) i (j-1) m k (j-1-l)
  | _=>pure (.done (some (dH a b (o.push x) i (j-1)),i,j-1,o.push x,m,k,q))
def KL (o:Array Keyed) (i j m p q:Nat):StateT SortSt Sem (SH (Nat×Nat×Nat)):=do
 dR m
 let x ← elem' b (j-1)
 match ← iA false x a 0 i (i-1) with
 | some k =>
  if i-k>0 then
   if k == 0 then pure (.done (some (dH a b (o++(a.extract k i).reverse) k j),k,j,o++(a.extract k i).reverse,m,i-k,q))
   else KJ a b (o++(a.extract k i).reverse) k j m (i-k) q
  else KJ a b o i j m (i-k) q
 | _=>pure (.done (some (dH a b o i j),i,j,o,m,p,q))
def DX (m:Nat) (o:Array Keyed) (i j p q:Nat):StateT SortSt Sem (SH (Nat×Nat)):=do
 let y ← elem' b (j-1)
 let x ← elem' a (i-1)
 match ← lt' y x with
 | some c =>
  if c then do
   let z ← elem' a (i-1)
   if i-1 == 0 then pure (.done (some (dH a b (o.push z) (i-1) j),i-1,j,o.push z,p+1,0))
   else if p+1 ≥ m then pure (.done (none,i-1,j,o.push z,p+1,0))
   else pure (.yield (none,i-1,j,o.push z,p+1,0))
  else do
   let z ← elem' b (j-1)
   if j-1 == 1 then pure (.done (some (fH a b (o.push z) i (j-1)),i,j-1,o.push z,0,q+1))
   else if q+1 ≥ m then pure (.done (none,i,j-1,o.push z,0,q+1))
   else pure (.yield (none,i,j-1,o.push z,0,q+1))
 | _=>pure (.done (some (dH a b o i j),i,j,o,p,q))
def KP (o:Array Keyed) (i j m:Nat):StateT SortSt Sem (SH Nat):=do
 let r ← forIn [0:a.size+b.size] (none,i,j,o,0,0) fun _ s=>DX a b m s.2.2.2.1 s.2.1 s.2.2.1 s.2.2.2.2.1 s.2.2.2.2.2
 Break.runK.match_1 (fun _=>StateT SortSt Sem (SH Nat)) r.1 (fun v=>pure (.done (some v,r.2.1,r.2.2.1,r.2.2.2.1,m))) fun _=>do
  rule "list.sort.gallop"
  let r ← forIn [0:a.size+b.size] (none,r.2.1,r.2.2.1,r.2.2.2.1,m+1,r.2.2.2.2.1,r.2.2.2.2.2) fun _ s=>if s.2.2.2.2.1>1 then KL a b s.2.2.2.1 s.2.1 s.2.2.1 (s.2.2.2.2.1-1) s.2.2.2.2.2.1 s.2.2.2.2.2.2 else KL a b s.2.2.2.1 s.2.1 s.2.2.1 s.2.2.2.2.1 s.2.2.2.2.2.1 s.2.2.2.2.2.2
  Break.runK.match_1 (fun _=>StateT SortSt Sem (SH Nat)) r.1 (fun v=>pure (.done (some v,r.2.1,r.2.2.1,r.2.2.2.1,r.2.2.2.2.1))) fun _=>do
   dR (r.2.2.2.2.1+1)
   pure (.yield (none,r.2.1,r.2.2.1,r.2.2.2.1,r.2.2.2.2.1+1))
theorem vC:qp a b=(do
 rule "list.sort.merge-hi"
 let x ← elem' a (a.size-1)
 if a.size-1 == 0 then pure (dH a b #[x] (a.size-1) b.size)
 else if b.size == 1 then pure (fH a b #[x] (a.size-1) b.size)
 else do
  let st ← get
  let r ← forIn [0:a.size+b.size] (none,a.size-1,b.size,#[x],gallopOf st) fun _ s=>KP a b s.2.2.2.1 s.2.1 s.2.2.1 s.2.2.2.2
  Break.runK.match_1 (fun _=>StateT SortSt Sem (Array Keyed)) r.1 (fun v=>pure v) fun _=>unsupported "internal:list.sort.merge-bound"):=rfl
end
section
variable {prog:Program}{w:World}{A:Around}{E:Value->Shared->Prop}{s:Shared}{κ:SortKind}{P:Keyed->Prop}{lt:Keyed->Keyed->Bool}
theorem qg (C:lG prog w A s κ P lt) {a:Array Keyed}{i:Nat}{x:Keyed}(ha:∀ x,x∈a->P x) (sa:jH lt a.toList) (hx:a[i]?=some x):∀ y∈a.toList.take (i+1),lt x y=false:=by
 obtain ⟨hi,e⟩:=Array.getElem?_eq_some_iff.mp hx;have hx':a.toList[i]?=some x:=by rw [Array.getElem?_toList];exact hx
 have sd:jH lt (a.toList.take (i+1)):=sa.sublist (List.take_sublist _ _);rw [List.take_add_one,hx'] at sd ⊢;intro y hy;rcases mAq.mp hy with hy|hy
 .exact (List.pairwise_append.mp sd).2.2 y hy x (by simp)
 .have:y=x:=by simpa using hy
  rw [this];exact C.refl (ha _ (by rw [← e];exact Array.getElem_mem hi))
theorem gZ {a:Array Keyed}{i:Nat}{y:Keyed}(h:y∈a.toList.take i):y∈a:=by simpa using List.mem_of_mem_take h
theorem kP {a:Array Keyed}{n:Nat}{x:Keyed}(h:x∈a.toList.take n):∃ j,j<n/\a[0+j]?=some x:=by
 have h':x∈(a.toList.drop 0).take n:=by rw [List.drop_zero];exact h
 exact iJ h'
theorem gP {a:Array Keyed}{k n:Nat}{x:Keyed}(h:x∈(a.toList.take n).drop k):∃ j,k<=j/\j<n/\a[0+j]?=some x:=by
 obtain ⟨j,hj,e⟩:=List.mem_iff_getElem.mp h;rw [List.length_drop,lTq,Array.length_toList] at hj;refine ⟨k+j,by lia,by lia,?_⟩
 rw [List.getElem_drop,List.getElem_take] at e;rw [Array.getElem?_eq_some_iff];exact ⟨by lia,by simpa using e⟩
structure MG (lt:Keyed->Keyed->Bool) (a b:Array Keyed) (n:Nat) (x:Ls):Prop where
 m:MH lt a b x.o x.i x.j
 p:0<x.i
 q:1<x.j
 r:x.i+x.j+n<=a.size+b.size
abbrev H6 (x:Ls):=(x.i,x.j,x.o,x.m,x.p,x.q)
abbrev H5 (x:Ls):=(x.i,x.j,x.o,x.p,x.q)
abbrev H4 (x:Ls):=(x.i,x.j,x.o,x.m)
variable {a b:Array Keyed}{st:SortSt}{Q:Array Keyed->SortSt->Prop}{n:Nat}{x:Ls}{o:Array Keyed}{u v i j m k l g:Nat}
abbrev Hf (lt:Keyed->Keyed->Bool) (a b:Array Keyed):=∀ x∈b.toList.take 1,∀ y∈a.toList,lt y x=false
theorem KY (H:Lo prog w A s κ P lt a b st Q) (hf:Hf lt a b) (m:MH lt a b o i 1):Q (b.extract 0 1++a.extract 0 i++o.reverse) (sg st g):=H.h _ _ (m.firstB H.sa H.sb fun x hx y hy=>hf x hx y (List.mem_of_mem_take hy))
theorem BB (H:Lo prog w A s κ P lt a b st Q) (q:MG lt a b n ⟨o,u+1,j,m,k,l,g⟩) (hi:∀ z,a[u]?=some z->∀ y∈b.toList.take j,lt z y=false) :
  wpS (model prog w) A E s (KN a b o (u+1) j m k l) (Lp H6 (fun x=>sg st x.g) (MG lt a b n) (MG lt a b n) Q) (sg st g):=by
 dsimp only [KN,Nat.add_one_sub_one];have ea:a[u]?=some (a[u]'q.m.la):=Array.getElem?_eq_getElem q.m.la;refine wpS_bind (bC ea ?_);have m6:=q.m.pushA H.sa ea (hi _ ea)
 by_cases d6:u=0
 .rw [if_pos (by simp [d6])]
  exact wpS_pure (.r _ _ _ (H.h _ _ (m6.end H.sa H.sb (.inl d6))))
 rw [if_neg (by simpa using d6)]
 have R:MG lt a b n ⟨_,_,_,m,k,l,g⟩:=⟨m6,Nat.pos_of_ne_zero d6,q.q,by have:=q.r;dsimp only at *;lia⟩
 split
 .exact wpS_pure (.d _ R)
 .exact wpS_pure (.y _ R)
theorem Cw (H:Lo prog w A s κ P lt a b st Q) (hf:Hf lt a b) (q:MG lt a b n ⟨o,u+1,v+1,m,k,l,g⟩) (hi:∀ z,b[v]?=some z->∀ y∈a.toList.take (u+1),lt z y=false) :
  wpS (model prog w) A E s (KJ a b o (u+1) (v+1) m k l) (Lp H6 (fun x=>sg st x.g) (MG lt a b n) (MG lt a b n) Q) (sg st g):=by
 dsimp only [KJ,Nat.add_one_sub_one];have la:u<a.size:=q.m.la;have lb:v<b.size:=q.m.lb;have p2:1<v+1:=q.q;have p3:u+1+(v+1)+n<=a.size+b.size:=q.r;have eb:b[v]?=some b[v]:=Array.getElem?_eq_getElem lb;refine wpS_bind (bC eb ?_);have m4:=q.m.pushB H.sb eb (hi _ eb)
 by_cases d3:v=1
 .rw [if_pos (by simp [d3])]
  subst d3;exact wpS_pure (.r _ _ _ (KY H hf m4))
 rw [if_neg (by simpa using d3)]
 have ea:a[u]?=some a[u]:=Array.getElem?_eq_getElem la;have pa:=H.ha _ (Array.getElem_mem la);refine wpS_bind (bC ea (wpS_bind (gc H.C (base:=0) (n:=v) (by lia) (by lia) H.hb pa H.hk (nG H.C (by lia) H.hb pa (by rw [List.drop_zero];exact H.sb)) fun l l1 l2 l3=>?_)))
 have hB:∀ z,a[u]?=some z->∀ y∈b.toList.take l,lt z y=false:=fun z hz y hy=>by
  obtain ⟨j',hj',ey⟩:=kP hy;have q:=l2 j' hj';rw [fD ey,if_pos rfl] at q;rw [ea] at hz;cases hz;exact H.C.asym _ _ (H.hb _ (gZ hy)) pa q
 dsimp only
 by_cases cl:v-l>0
 .rw [if_pos cl];have m5:=m4.moreB H.sb (k:=l) l1 fun x hx y hy=>by
   obtain ⟨j',hj1,hj',ey⟩:=gP hy;have q:=l3 j' hj1 hj';rw [fD ey,if_pos rfl] at q;exact H.C.trans _ _ _ (H.ha _ (gZ hx)) pa (H.hb y (List.mem_of_mem_drop hy |> gZ)) (qg H.C H.ha H.sa ea x hx) q
  by_cases d5:l=1
  .rw [if_pos (by simp [d5])]
   subst d5;exact wpS_pure (.r _ _ _ (KY H hf m5))
  rw [if_neg (by simpa using d5)]
  by_cases d6:l=0
  .rw [if_pos (by simp [d6])]
   exact wpS_pure (.r _ _ _ (H.h _ _ (m5.end H.sa H.sb (.inr d6))))
  rw [if_neg (by simpa using d6)]
  exact BB H ⟨m5,q.p,by dsimp only;lia,by dsimp only;lia⟩ hB
 .rw [if_neg cl];have:l=v:=by lia
  subst this;exact BB H ⟨m4,q.p,by dsimp only;lia,by dsimp only;lia⟩ hB
theorem Cq (H:Lo prog w A s κ P lt a b st Q) (hf:Hf lt a b) (q:MG lt a b n x) :
  wpS (model prog w) A E s (KL a b x.o x.i x.j x.m x.p x.q) (Lp H6 (fun x=>sg st x.g) (MG lt a b n) (MG lt a b n) Q) (sg st x.g):=by
 obtain ⟨o,i,j,m,p,q',g⟩:=x;have la:i<=a.size:=q.m.la;have p1:0<i:=q.p;have p2:1<j:=q.q;have p3:i+j+n<=a.size+b.size:=q.r;obtain ⟨v,rfl⟩:∃ v,j=v+1:=⟨j-1,by lia⟩
 have lb:v<b.size:=q.m.lb;dsimp only [KL,Nat.add_one_sub_one];have eb:b[v]?=some b[v]:=Array.getElem?_eq_getElem lb;have pb:=H.hb _ (Array.getElem_mem lb);refine wpS_bind (jq (wpS_bind (bC eb (wpS_bind (gc H.C (base:=0) (n:=i) (by lia) (by lia) H.ha pb H.hk (nG H.C (by lia) H.ha pb (by rw [List.drop_zero];exact H.sa)) fun k k1 k2 k3=>?_)))))
 have hA:∀ z,b[v]?=some z->∀ y∈a.toList.take k,lt z y=false:=fun z hz y hy=>by
  obtain ⟨j',hj',ey⟩:=kP hy;have q:=k2 j' hj';rw [fD ey,if_neg (by decide)] at q
  rw [eb] at hz;cases hz;simpa using q
 dsimp only
 by_cases ck:i-k>0
 .rw [if_pos ck];have m3:=q.m.moreA H.sa (k:=k) k1 fun x hx y hy=>by
   obtain ⟨j',hj1,hj',ey⟩:=gP hy;have q:=k3 j' hj1 hj';rw [fD ey,if_neg (by decide)] at q
   have py:=H.ha y (List.mem_of_mem_drop hy |> gZ);exact H.C.trans _ _ _ (H.hb _ (gZ hx)) pb py (qg H.C H.hb H.sb eb x hx) (H.C.asym _ _ pb py (by simpa using q))
  by_cases d2:k=0
  .rw [if_pos (by simp [d2])]
   exact wpS_pure (.r _ _ _ (H.h _ m (m3.end H.sa H.sb (.inl d2))))
  rw [if_neg (by simpa using d2)]
  obtain ⟨u,rfl⟩:∃ u,k=u+1:=⟨k-1,by lia⟩
  exact Cw H hf (g:=m) ⟨m3,Nat.succ_pos _,p2,by dsimp only;lia⟩ hA
 .rw [if_neg ck];have:k=i:=by lia
  subst this;obtain ⟨u,rfl⟩:∃ u,k=u+1:=⟨k-1,by lia⟩
  exact Cw H hf (g:=m) ⟨q.m,p1,p2,p3⟩ hA
theorem G7 (H:Lo prog w A s κ P lt a b st Q) (hf:Hf lt a b) (q:MG lt a b (n+j) x) :
  wpS (model prog w) A E s (DX a b m x.o x.i x.j x.p x.q) (Lp H5 (fun x=>sg st x.g) (MG lt a b (n+(j+1))) (MG lt a b (n+1)) Q) (sg st x.g):=by
 obtain ⟨o,i,k,m',p,q',g⟩:=x;have p1:0<i:=q.p;have p2:1<k:=q.q;have p3:i+k+(n+j)<=a.size+b.size:=q.r;obtain ⟨u,rfl⟩:∃ u,i=u+1:=⟨i-1,by lia⟩
 obtain ⟨v,rfl⟩:∃ v,k=v+1:=⟨k-1,by lia⟩
 have la:u<a.size:=q.m.la;have lb:v<b.size:=q.m.lb;dsimp only [DX,Nat.add_one_sub_one];have ea:a[u]?=some a[u]:=Array.getElem?_eq_getElem la;have eb:b[v]?=some b[v]:=Array.getElem?_eq_getElem lb;have pa:=H.ha _ (Array.getElem_mem la);have pb:=H.hb _ (Array.getElem_mem lb);refine wpS_bind (bC eb (wpS_bind (bC ea (wpS_bind (H.C.cmp pb pa H.hk ?_)))));cases e:lt b[v] a[u] with
 | true =>
  dsimp only;rw [if_pos rfl];refine wpS_bind (bC ea ?_);have m2:=q.m.pushA H.sa ea fun y hy=>H.C.trans _ _ _ (H.hb _ (gZ hy)) pb pa (qg H.C H.hb H.sb eb y hy) (H.C.asym _ _ pb pa e)
  by_cases d1:u=0
  .rw [if_pos (by simp [d1])]
   exact wpS_pure (.r _ _ _ (H.h _ _ (m2.end H.sa H.sb (.inl d1))))
  rw [if_neg (by simpa using d1)]
  have R:∀ n,u+(v+1)+n<=a.size+b.size->MG lt a b n ⟨_,_,_,0,p+1,0,g⟩:=fun n hn=>⟨m2,Nat.pos_of_ne_zero d1,p2,hn⟩
  split
  .exact wpS_pure (.d _ (R _ (by lia)))
  .exact wpS_pure (.y _ (R _ (by lia)))
 | false =>
  dsimp only;rw [if_neg (by decide)]
  refine wpS_bind (bC eb ?_);have m2:=q.m.pushB H.sb eb fun y hy=>H.C.trans _ _ _ (H.ha _ (gZ hy)) pa pb (qg H.C H.ha H.sa ea y hy) e
  by_cases d1:v=1
  .rw [if_pos (by simp [d1])]
   subst d1;exact wpS_pure (.r _ _ _ (KY H hf m2))
  rw [if_neg (by simpa using d1)]
  have R:∀ n,u+1+v+n<=a.size+b.size->MG lt a b n ⟨_,_,_,0,0,q'+1,g⟩:=fun n hn=>⟨m2,p1,by dsimp only;lia,hn⟩
  split
  .exact wpS_pure (.d _ (R _ (by lia)))
  .exact wpS_pure (.y _ (R _ (by lia)))
theorem HN (H:Lo prog w A s κ P lt a b st Q) (hf:Hf lt a b) (q:MG lt a b n x) :
  wpS (model prog w) A E s (KP a b x.o x.i x.j x.m) (Lp H4 (fun x=>sg st x.g) (MG lt a b (n+1)) (fun _=>False) Q) (sg st x.g):=by
 refine ja H5 (fun x=>sg st x.g) (fun j=>MG lt a b (n+j)) (MG lt a b (n+1)) Q ⟨x.o,x.i,x.j,0,0,0,x.g⟩ ⟨q.m,q.p,q.q,q.r⟩ (fun j x q=>G7 H hf q) (fun y h=>⟨h.m,h.p,h.q,by have:=h.r;have:=h.p;have:=h.q;lia⟩) (fun y q=>?_) fun r y st' hr=>wpS_pure (.r _ _ _ hr)
 refine wpS_bind (jm ?_);refine ja H6 (fun x=>sg st x.g) (fun _=>MG lt a b (n+1)) (MG lt a b (n+1)) Q ⟨y.o,y.i,y.j,x.m+1,y.p,y.q,y.g⟩ ⟨q.m,q.p,q.q,q.r⟩ (fun j z q=>?_) (fun _ h=>h) (fun z q=>?_) fun r y st' hr=>wpS_pure (.r _ _ _ hr)
 .dsimp only;split
  .exact Cq H hf (x:=⟨_,_,_,z.m-1,_,_,z.g⟩) ⟨q.m,q.p,q.q,q.r⟩
  .exact Cq H hf q
 .refine wpS_bind (jq (wpS_pure ?_));exact Lp.y (t:=H4) (v:=fun x=>sg st x.g) ⟨_,_,_,z.m+1,0,0,z.m+1⟩ ⟨q.m,q.p,q.q,q.r⟩
theorem wj (C:lG prog w A s κ P lt) (ha:∀ x,x∈a->P x) (hb:∀ x,x∈b->P x) (hk:kindOf st=κ) (sa:jH lt a.toList) (sb:jH lt b.toList)
  (na0:0<a.size) (nb0:0<b.size) (h0:∀ x∈b.toList.take 1,∀ y∈a.toList,lt y x=false) (hl:∀ x,a[a.size-1]?=some x->∀ y∈b.toList,lt x y=false)
  (h:∀ r g,DZ lt a b r->Q r (sg st g)):wpS (model prog w) A E s (qp a b) Q st:=by
 have H:Lo prog w A s κ P lt a b st Q:=⟨C,ha,hb,hk,sa,sb,h⟩;rw [vC];refine wpS_bind (jm ?_);have ea0:a[a.size-1]?=some (a[a.size-1]'(by lia)):=Array.getElem?_eq_getElem (by lia)
 refine wpS_bind (bC ea0 ?_);have m0:MH lt a b #[] (a.size-1+1) b.size:=⟨by lia,Nat.le_refl _,by
  rw [show a.size-1+1=a.toList.length by simp;lia,List.take_length,← Array.length_toList,List.take_length];simp,by simp [jH],by simp,by simp⟩
 have m1:MH lt a b #[a[a.size-1]'(by lia)] (a.size-1) b.size:=m0.pushA sa ea0 fun y hy=>hl _ ea0 y (List.mem_of_mem_take hy)
 by_cases c1:a.size-1=0
 .rw [if_pos (by simp [c1])]
  exact wpS_pure (h _ (gallopOf st) (m1.end sa sb (.inl c1)))
 rw [if_neg (by simpa using c1)]
 by_cases c2:b.size=1
 .rw [if_pos (by simp [c2])]
  have m1':=m1;rw [c2] at m1' ⊢;exact wpS_pure (KY H h0 (g:=gallopOf st) m1')
 rw [if_neg (by simpa using c2)]
 refine wpS_bind (wpS_get ?_);exact ja H4 (fun x=>sg st x.g) (fun i=>MG lt a b (i+1)) (fun _=>False) Q ⟨_,a.size-1,b.size,_,0,0,gallopOf st⟩ ⟨m1,Nat.pos_of_ne_zero c1,show 1<b.size by lia,show a.size-1+b.size+1<=a.size+b.size by lia⟩ (fun i x q=>HN H h0 q) (fun x h=>by have:=h.p;have:=h.q;have:=h.r;lia) (fun x h=>h.elim) fun r y st' hr=>wpS_pure hr
end
end MrS
namespace MrS
open PySem PyProof.Rows
def mL (lt:Keyed->Keyed->Bool) (xs:Array Keyed) (i j:Nat):Prop:=∀ p q x y,i<=p->p<=q->q<j->xs[p]?=some x->xs[q]?=some y->lt y x=false
def DW (lt:Keyed->Keyed->Bool) (xs:Array Keyed) (i j:Nat):Prop:=∀ p q x y,i<=p->p<=q->q<j->xs[p]?=some x->xs[q]?=some y->lt x y=false
def Jv (lt:Keyed->Keyed->Bool) (xs:Array Keyed) (i j:Nat):Prop:=∀ p q x y,i<=p->p<j->i<=q->q<j->xs[p]?=some x->xs[q]?=some y->lt x y=false
section
variable {lt:Keyed->Keyed->Bool}{xs:Array Keyed}{i j lo n:Nat}
theorem yj (hj:j<=xs.size) (h:DW lt xs i j):mL lt (mirror xs i j ((j-i) / 2)) i j:=by
 intro p q x y h1 h2 h3 ex ey;rw [getElem?_mirror_all hj,if_pos ⟨h1,by lia⟩] at ex
 rw [getElem?_mirror_all hj,if_pos ⟨by lia,h3⟩] at ey
 exact h _ _ _ _ (by lia) (by lia) (by lia) ey ex
theorem lZ (hj:j<=xs.size) (hi:lo<=i) (hn:j<=n) (e:Jv lt xs i j) (h:DW lt xs lo n):DW lt (mirror xs i j ((j-i) / 2)) lo n:=by
 intro p q x y h1 h2 h3 ex ey;rw [getElem?_mirror_all hj] at ex ey
 by_cases cp:i<=p/\p<j
 .rw [if_pos cp] at ex
  by_cases cq:i<=q/\q<j
  .rw [if_pos cq] at ey;exact e _ _ _ _ (by lia) (by lia) (by lia) (by lia) ex ey
  .rw [if_neg cq] at ey;exact h _ _ _ _ (by lia) (by lia) h3 ex ey
 .rw [if_neg cp] at ex
  by_cases cq:i<=q/\q<j
  .rw [if_pos cq] at ey;exact h _ _ _ _ h1 (by lia) (by lia) ex ey
  .rw [if_neg cq] at ey;exact h _ _ _ _ h1 h2 h3 ex ey
end
section
variable (lo:Nat)
def K4 (n:Nat):StateT SortSt Sem (ForInStep (Option (Option Nat)×Nat)):=do
 match ← ltAt' (lo+n) (lo+n-1) with
 | some c=>if c then pure (.done (none,n)) else pure (.yield (none,n+1))
 | _=>pure (.done (some none,n))
def L7 (n q:Nat):StateT SortSt Sem (ForInStep (Option (Option Nat)×Nat×Nat)):=do
 match ← ltAt' (lo+n) (lo+n-1) with
 | some c =>
  if c then
   if q>0 then do
    let _ ← reverseSlice' (lo+n-(q+1)) (lo+n)
    pure (.yield (none,n+1,0))
   else pure (.yield (none,n+1,0))
  else do
   match ← ltAt' (lo+n-1) (lo+n) with
   | some c=>if c then pure (.done (none,n,q)) else pure (.yield (none,n+1,q+1))
   | _=>pure (.done (some none,n,q))
 | _=>pure (.done (some none,n,q))
def K8 (nrem n:Nat):StateT SortSt Sem (Option Nat):=do
 reverseSlice' lo (lo+n)
 let r ← forIn [n:nrem] (none,n) fun _ s=>K4 lo s.2
 Break.runK.match_1 (fun _=>StateT SortSt Sem (Option Nat)) r.1 (fun v=>pure v) fun _=>pure (some r.2)
def Lx (nrem n:Nat):StateT SortSt Sem (Option Nat):=do
 rule "list.sort.descending-run"
 let r ← forIn [n+1:nrem] (none,n+1,0) fun _ s=>L7 lo s.2.1 s.2.2
 Break.runK.match_1 (fun _=>StateT SortSt Sem (Option Nat)) r.1 (fun v=>pure v) fun _ =>
  if r.2.2>0 then do
   let _ ← reverseSlice' (lo+r.2.1-(r.2.2+1)) (lo+r.2.1)
   K8 lo nrem r.2.1
  else K8 lo nrem r.2.1
theorem Kk (nrem:Nat):countRun' lo nrem=(do
 let r ← forIn [1:nrem] (none,1) fun _ s=>K4 lo s.2
 Break.runK.match_1 (fun _=>StateT SortSt Sem (Option Nat)) r.1 (fun v=>pure v) fun _ =>
  if r.2 == nrem then pure (some r.2)
  else if r.2>1 then do
   match ← ltAt' lo (lo+r.2-1) with
   | some c =>
    if c then pure (some r.2)
    else do
     let _ ← reverseSlice' lo (lo+r.2)
     Lx lo nrem r.2
   | _=>pure none
  else Lx lo nrem r.2):=countRun'_eq lo nrem
end
section
variable {prog:Program}{w:World}{A:Around}{E:Value->Shared->Prop}{s:Shared}{κ:SortKind}{P:Keyed->Prop}{lt:Keyed->Keyed->Bool}
theorem Et (C:lG prog w A s κ P lt) {xs:Array Keyed}(hp:∀ x,x∈xs->P x) (lo:Nat):mL lt xs lo (lo+1):=by
 intro p q x y h1 h2 h3 ex ey;have e:p=q:=by lia
 subst e;rw [ex] at ey;cases ey;exact C.refl (hp _ (aQq ex))
theorem Dl (C:lG prog w A s κ P lt) {xs:Array Keyed}(hp:∀ x,x∈xs->P x) {lo n:Nat}(h:mL lt xs lo (lo+(n+1))) (hx:∀ x y,xs[lo+(n+1)]?=some x->xs[lo+n]?=some y->lt x y=false) (hz:lo+(n+1)<xs.size):mL lt xs lo (lo+(n+2)):=by
 intro p q x y h1 h2 h3 ex ey
 by_cases c:q<lo+(n+1)
 .exact h p q x y h1 h2 c ex ey
 .have eq:q=lo+(n+1):=by lia
  subst eq
  by_cases c2:p=lo+(n+1)
  .subst c2;rw [ex] at ey;cases ey;exact C.refl (hp _ (aQq ex))
  .have em:xs[lo+n]?=some (xs[lo+n]'(by lia)):=Array.getElem?_eq_getElem (by lia)
   exact C.trans _ _ _ (hp _ (aQq ex)) (hp _ (aQq em)) (hp _ (aQq ey)) (h p (lo+n) _ _ h1 (by lia) (by lia) ex em) (hx _ _ ey em)
theorem vV (C:lG prog w A s κ P lt) {xs:Array Keyed}(hp:∀ x,x∈xs->P x) {lo n:Nat}(h:DW lt xs lo (lo+(n+1))) (hx:∀ x y,xs[lo+(n+1)]?=some x->xs[lo+n]?=some y->lt y x=false) (hz:lo+(n+1)<xs.size):DW lt xs lo (lo+(n+2)):=by
 intro p q x y h1 h2 h3 ex ey
 by_cases c:q<lo+(n+1)
 .exact h p q x y h1 h2 c ex ey
 .have eq:q=lo+(n+1):=by lia
  subst eq
  by_cases c2:p=lo+(n+1)
  .subst c2;rw [ex] at ey;cases ey;exact C.refl (hp _ (aQq ex))
  .have em:xs[lo+n]?=some (xs[lo+n]'(by lia)):=Array.getElem?_eq_getElem (by lia)
   exact C.trans _ _ _ (hp _ (aQq ey)) (hp _ (aQq em)) (hp _ (aQq ex)) (hx _ _ ey em) (h p (lo+n) _ _ h1 (by lia) (by lia) ex em)
theorem vN (C:lG prog w A s κ P lt) {lo nrem a:Nat}{st:SortSt}(hp:∀ x,x∈arrOf st->P x) (hk:kindOf st=κ) (ha:1<=a) (han:a<=nrem) (hz:lo+nrem<=(arrOf st).size) (hs:mL lt (arrOf st) lo (lo+a)) :
  wpS (model prog w) A E s (forIn [a:nrem] ((none,a):Option (Option Nat)×Nat) fun _ s=>K4 lo s.2)
   (fun c st'=>∃ n,c=(none,n)/\st'=st/\a<=n/\n<=nrem/\mL lt (arrOf st) lo (lo+n)/\(n=nrem∨∃ x y,(arrOf st)[lo+n]?=some x/\(arrOf st)[lo+n-1]?=some y/\lt x y=true)) st:=by
 refine wpS_forRange (I:=fun i c st'=>c=(none,i)/\st'=st/\a<=i/\i<=nrem/\mL lt (arrOf st) lo (lo+i)) ?step ?fin ⟨rfl,rfl,Nat.le_refl _,han,hs⟩
 case step =>
  rintro i c st' h1 h2 ⟨rfl,rfl,h3,h4,h5⟩;obtain ⟨k,rfl⟩:∃ k,i=k+1:=⟨i-1,by lia⟩
  have ex:(arrOf st')[lo+(k+1)]?=some ((arrOf st')[lo+(k+1)]'(by lia)):=Array.getElem?_eq_getElem (by lia)
  have ey:(arrOf st')[lo+(k+1)-1]?=some ((arrOf st')[lo+k]'(by lia)):=Array.getElem?_eq_getElem (by lia)
  refine wpS_bind (C.at ex ey (hp _ (aQq ex)) (hp _ (aQq ey)) hk ?_);cases e:lt ((arrOf st')[lo+(k+1)]'(by lia)) ((arrOf st')[lo+k]'(by lia)) with
  | true=>exact wpS_pure ⟨_,rfl,rfl,h3,h4,h5,.inr ⟨_,_,ex,ey,e⟩⟩
  | false =>
   refine wpS_pure ⟨rfl,rfl,by lia,h2,Dl C hp h5 (fun x y hx hy=>?_) (by lia)⟩
   have hy':(arrOf st')[lo+(k+1)-1]?=some y:=hy;rw [ex] at hx;rw [ey] at hy';cases hx;cases hy';exact e
 case fin =>
  rintro c st' ⟨rfl,rfl,h3,h4,h5⟩;have e:max a nrem=nrem:=Nat.max_eq_right han;rw [e] at h3 h4 h5 ⊢;exact ⟨nrem,rfl,rfl,h3,Nat.le_refl _,h5,.inl rfl⟩
theorem pR {i j:Nat}{st:SortSt}{Q:Unit->SortSt->Prop}(h:Q () (setArr st (mirror (arrOf st) i j ((j-i) / 2)))):wpS (model prog w) A E s (reverseSlice' i j) Q st:=by
 rw [reverseSlice'_eq];exact wpS_modify h
structure jV (xs ys:Array Keyed) (lo hi:Nat):Prop where
 pm:ys.Perm xs
 out:∀ k,(k<lo∨hi<=k)->ys[k]?=xs[k]?
theorem jV.refl (xs:Array Keyed) (lo hi:Nat):jV xs xs lo hi:=⟨Array.Perm.refl _,fun _ _=>rfl⟩
theorem jV.trans {xs ys zs:Array Keyed}{lo hi:Nat}(a:jV xs ys lo hi) (b:jV ys zs lo hi):jV xs zs lo hi:=⟨b.pm.trans a.pm,fun k h=>(b.out k h).trans (a.out k h)⟩
theorem jV.mono {xs ys:Array Keyed}{lo hi hi':Nat}(a:jV xs ys lo hi) (h:hi<=hi'):jV xs ys lo hi':=⟨a.pm,fun k q=>a.out k (by lia)⟩
theorem jV.size {xs ys:Array Keyed}{lo hi:Nat}(a:jV xs ys lo hi):ys.size=xs.size:=a.pm.size_eq
theorem jV.mem {xs ys:Array Keyed}{lo hi:Nat}(a:jV xs ys lo hi) {P:Keyed->Prop}(h:∀ x,x∈xs->P x):∀ x,x∈ys->P x:=fun x hx=>h x (a.pm.mem_iff.mp hx)
theorem jx {xs:Array Keyed}{lo hi i j:Nat}(hj:j<=xs.size) (h1:lo<=i) (h2:j<=hi):jV xs (mirror xs i j ((j-i) / 2)) lo hi :=
 ⟨mirror_perm _ _ _ _,fun k hk=>by rw [getElem?_mirror_all hj,if_neg (by lia)]⟩
structure CR (lt:Keyed->Keyed->Bool) (as:Array Keyed) (lo i q:Nat) (ys:Array Keyed):Prop where
 b:jV as ys lo (lo+i)
 d:DW lt ys lo (lo+i)
 e:Jv lt ys (lo+i-(q+1)) (lo+i)
 p:q+1<=i
theorem qd (C:lG prog w A s κ P lt) {ys:Array Keyed}(hp:∀ x,x∈ys->P x) {i j:Nat}(h:j<=i+1):Jv lt ys i j:=by
 intro p q x y g1 g2 g3 g4 gx gy;have e:p=q:=by lia
 subst e;rw [gx] at gy;cases gy;exact C.refl (hp _ (aQq gx))
theorem Gx (C:lG prog w A s κ P lt) {lo nrem k neq:Nat}{st:SortSt}{ys:Array Keyed}(hp:∀ x,x∈arrOf st->P x) (hk:kindOf st=κ) (hz:lo+nrem<=(arrOf st).size) (hi:k+1<nrem) (g:CR lt (arrOf st) lo (k+1) neq ys) :
  wpS (model prog w) A E s (L7 lo (k+1) neq) (fun r mI=>∃ m q zs,mI=setArr st zs/\m<=nrem/\CR lt (arrOf st) lo m q zs/\(r = .done (none,m,q)∨r = .yield (none,m,q)/\m=k+1+1)) (setArr st ys):=by
 have g1:=g.b;have g2:=g.d;have g3:=g.e;have g4:=g.p;have hpy:=g1.mem hp;have hsz:=g1.size;have ex:ys[lo+(k+1)]?=some (ys[lo+(k+1)]'(by lia)):=Array.getElem?_eq_getElem (by lia)
 have ey:ys[lo+(k+1)-1]?=some (ys[lo+k]'(by lia)):=Array.getElem?_eq_getElem (by lia)
 have px:=hpy _ (aQq ex);have py:=hpy _ (aQq ey);have des:lt (ys[lo+k]'(by lia)) (ys[lo+(k+1)]'(by lia))=false->DW lt ys lo (lo+(k+1+1)):=fun e=>vV C hpy g2 (fun x y hx hy=>by
  have hy':ys[lo+(k+1)-1]?=some y:=hy;rw [ex] at hx;rw [ey] at hy';cases hx;cases hy';exact e) (by lia)
 refine wpS_bind (C.at (st:=setArr st ys) ex ey px py hk ?_);cases e:lt (ys[lo+(k+1)]'(by lia)) (ys[lo+k]'(by lia)) with
 | true =>
  have g2':=des (C.asym _ _ px py e);dsimp only;rw [if_pos rfl]
  by_cases cn:neq>0
  .rw [if_pos cn];refine wpS_bind (pR (wpS_pure ?_));have bt:jV (arrOf st) (mirror ys (lo+(k+1)-(neq+1)) (lo+(k+1)) ((lo+(k+1)-(lo+(k+1)-(neq+1))) / 2)) lo (lo+(k+1)):=g1.trans (jx (by lia) (by lia) (Nat.le_refl _))
   exact ⟨_,0,_,rfl,hi,⟨bt.mono (by lia),lZ (by lia) (by lia) (by lia) g3 g2',qd C (bt.mem hp) (by lia),by lia⟩,.inr ⟨rfl,rfl⟩⟩
  .rw [if_neg cn];exact wpS_pure ⟨_,0,ys,rfl,hi,⟨g1.mono (by lia),g2',qd C hpy (by lia),by lia⟩,.inr ⟨rfl,rfl⟩⟩
 | false =>
  dsimp only;rw [if_neg (by decide)]
  refine wpS_bind (C.at (st:=setArr st ys) ey ex py px hk ?_);cases e':lt (ys[lo+k]'(by lia)) (ys[lo+(k+1)]'(by lia)) with
  | true=>exact wpS_pure ⟨_,neq,ys,rfl,Nat.le_of_lt hi,g,.inl rfl⟩
  | false =>
   refine wpS_pure ⟨_,neq+1,ys,rfl,hi,⟨g1.mono (by lia),des e',?_,by lia⟩,.inr ⟨rfl,rfl⟩⟩
   intro p q x y h1 h2 h3 h4 gx gy;have qx:=hpy _ (aQq gx);have qy:=hpy _ (aQq gy)
   by_cases cp:p=lo+(k+1)
   .subst cp;rw [ex] at gx;cases gx
    by_cases cq:q=lo+(k+1)
    .subst cq;rw [ex] at gy;cases gy;exact C.refl px
    .exact C.trans _ _ _ qy py px (g3 (lo+(k+1)-1) q _ _ (by lia) (by lia) (by lia) (by lia) ey gy) e
   .by_cases cq:q=lo+(k+1)
    .subst cq;rw [ex] at gy;cases gy;exact C.trans _ _ _ px py qx e' (g3 p (lo+(k+1)-1) _ _ (by lia) (by lia) (by lia) (by lia) gx ey)
    .exact g3 p q x y (by lia) (by lia) (by lia) (by lia) gx gy
abbrev JC (lt:Keyed->Keyed->Bool) (st:SortSt) (lo nrem:Nat) (Q:Option Nat->SortSt->Prop):=∀ n xs,1<=n->n<=nrem->jV (arrOf st) xs lo (lo+n)->mL lt xs lo (lo+n)->Q (some n) (setArr st xs)
theorem CD (C:lG prog w A s κ P lt) {lo nrem m:Nat}{st:SortSt}{ys:Array Keyed}{Q:Option Nat->SortSt->Prop}(hp:∀ x,x∈arrOf st->P x) (hk:kindOf st=κ) (hz:lo+nrem<=(arrOf st).size) (h:JC lt st lo nrem Q)
  (h1:1<=m) (h2:m<=nrem) (b:jV (arrOf st) ys lo (lo+m)) (d:DW lt ys lo (lo+m)):wpS (model prog w) A E s (K8 lo nrem m) Q (setArr st ys):=by
 refine wpS_bind (pR ?_);have hsz:=b.size;have f1:=yj (by lia) d
 have f2:=b.trans (jx (i:=lo) (j:=lo+m) (by lia) (Nat.le_refl _) (Nat.le_refl _))
 refine wpS_bind (wpS_mono (vN (st:=setArr st _) C (f2.mem hp) hk h1 h2 (Nat.le_trans hz (Nat.le_of_eq f2.size.symm)) f1) ?_);rintro c mI ⟨n',rfl,rfl,n1',n2',s1',_⟩;exact wpS_pure (h n' _ (by lia) n2' (f2.mono (by lia)) s1')
theorem C1 (C:lG prog w A s κ P lt) {lo nrem n:Nat}{st:SortSt}{xs:Array Keyed}{Q:Option Nat->SortSt->Prop}(hp:∀ x,x∈arrOf st->P x) (hk:kindOf st=κ) (hz:lo+nrem<=(arrOf st).size) (h:JC lt st lo nrem Q)
  (hn:n<nrem) (b:jV (arrOf st) xs lo (lo+n)) (d:DW lt xs lo (lo+(n+1))):wpS (model prog w) A E s (Lx lo nrem n) Q (setArr st xs):=by
 refine wpS_bind (jm (wpS_bind (wpS_mono (wpS_forRange
  (I:=fun i c mI=>∃ q ys,c=(none,i,q)/\mI=setArr st ys/\i<=nrem/\CR lt (arrOf st) lo i q ys)
  (Q:=fun c mI=>∃ m q ys,c=(none,m,q)/\mI=setArr st ys/\m<=nrem/\CR lt (arrOf st) lo m q ys)
  ?_ ?_ ⟨0,xs,rfl,rfl,hn,b.mono (by lia),d,qd C (b.mem hp) (by lia),by lia⟩) ?_)))
 .rintro i c mI _ hi ⟨q,ys,rfl,rfl,_,g⟩;obtain ⟨k,rfl⟩:∃ k,i=k+1:=⟨i-1,by have:=g.p;lia⟩
  refine wpS_mono (Gx C hp hk hz hi g) fun r mI hr=>?_
  obtain ⟨m,q,zs,rfl,hm,g',rfl|⟨rfl,rfl⟩⟩:=hr
  .exact ⟨m,q,zs,rfl,rfl,hm,g'⟩
  .exact ⟨q,zs,rfl,rfl,hm,g'⟩
 .rintro c mI ⟨q,ys,rfl,rfl,hm,g⟩;exact ⟨_,q,ys,rfl,rfl,hm,g⟩
 .rintro c mI ⟨m,q,ys,rfl,rfl,hm,g⟩;have hsz:=g.b.size;have gp:=g.p;dsimp only
  by_cases cn:q>0
  .rw [if_pos cn];exact wpS_bind (pR (CD (st:=st) (ys:=mirror ys (lo+m-(q+1)) (lo+m) ((lo+m-(lo+m-(q+1))) / 2)) C hp hk hz h (by lia) hm (g.b.trans (jx (by lia) (by lia) (Nat.le_refl _))) (lZ (by lia) (by lia) (Nat.le_refl _) g.e g.d)))
  .rw [if_neg cn];exact CD C hp hk hz h (by lia) hm g.b g.d
theorem uc (C:lG prog w A s κ P lt) {lo nrem:Nat}{st:SortSt}{Q:Option Nat->SortSt->Prop}(hp:∀ x,x∈arrOf st->P x) (hk:kindOf st=κ) (h1:1<=nrem) (hz:lo+nrem<=(arrOf st).size)
  (h:∀ n xs,1<=n->n<=nrem->jV (arrOf st) xs lo (lo+n)->mL lt xs lo (lo+n)->Q (some n) (setArr st xs)):wpS (model prog w) A E s (countRun' lo nrem) Q st:=by
 rw [Kk];refine wpS_bind (wpS_mono (vN C hp hk (Nat.le_refl 1) h1 hz (Et C hp lo)) ?_);rintro c st' ⟨n,rfl,rfl,n1,n2,sg1,brk⟩;dsimp only;have triv:Q (some n) st':=h n (arrOf st') n1 n2 (jV.refl _ _ _) sg1
 by_cases c1:n=nrem
 .rw [if_pos (by simp [c1])]
  exact wpS_pure triv
 rw [if_neg (by simpa using c1)]
 obtain ⟨xb,yb,exb,eyb,eb⟩:=brk.resolve_left c1;obtain ⟨m,rfl⟩:∃ m,n=m+1:=⟨n-1,by lia⟩
 have pxb:=hp _ (aQq exb);have pyb:=hp _ (aQq eyb);have go:Jv lt (arrOf st') lo (lo+(m+1))->DW lt (arrOf st') lo (lo+(m+1+1)):=fun e1 =>
  vV C hp (fun p q x y g1 g2 g3 ex ey=>e1 p q x y g1 (by lia) (by lia) g3 ex ey) (fun x y hx hy=>by
   have hy':(arrOf st')[lo+(m+1)-1]?=some y:=hy;rw [exb] at hx;rw [eyb] at hy';cases hx;cases hy';exact C.asym _ _ pxb pyb eb) (by lia)
 by_cases c2:m+1>1
 .rw [if_pos c2];have ex:(arrOf st')[lo]?=some ((arrOf st')[lo]'(by lia)):=Array.getElem?_eq_getElem (by lia)
  have pex:=hp _ (aQq ex);refine wpS_bind (C.at ex eyb pex pyb hk ?_);cases e:lt ((arrOf st')[lo]'(by lia)) yb with
  | true=>exact wpS_pure triv
  | false =>
   dsimp only;rw [if_neg (by decide)]
   have eqv:Jv lt (arrOf st') lo (lo+(m+1)):=by
    intro p q x y g1 g2 g3 g4 gx gy;have px:=hp _ (aQq gx);have py:=hp _ (aQq gy);have q1:=sg1 q (lo+(m+1)-1) _ _ g3 (by lia) (by lia) gy eyb
    have q2:=sg1 lo p _ _ (Nat.le_refl _) g1 g2 ex gx;exact C.trans _ _ _ py pex px (C.trans _ _ _ py pyb pex q1 e) q2
   exact wpS_bind (pR (C1 C hp hk hz h (by lia) (jx (by lia) (Nat.le_refl _) (Nat.le_refl _)) (lZ (by lia) (Nat.le_refl _) (by lia) eqv (go eqv))))
 .rw [if_neg c2];exact C1 C hp hk hz h (by lia) (jV.refl _ _ _) (go (qd C hp (by lia)))
end
end MrS
namespace MrS
open PySem PyProof.Rows
section
variable {prog:Program}{w:World}{A:Around}{E:Value->Shared->Prop}{s:Shared}{κ:SortKind}{P:Keyed->Prop}{lt:Keyed->Keyed->Bool}
theorem Er (C:lG prog w A s κ P lt) {xs:Array Keyed}(hp:∀ x,x∈xs->P x) {lo k l:Nat}(hz:lo+k<xs.size) (hl:l<=k) (hs:mL lt xs lo (lo+k)) {x:Keyed}(hx:xs[lo+k]?=some x)
  (h1:∀ j y,j<l->xs[lo+j]?=some y->lt x y=false) (h2:∀ j y,l<=j->j<k->xs[lo+j]?=some y->lt x y=true):mL lt (bubble xs (lo+k) (k-l)) lo (lo+(k+1)):=by
 have px:=hp _ (aQq hx);have g:∀ p,(bubble xs (lo+k) (k-l))[p]?=if p=lo+l then some x else if lo+l<p/\p<=lo+k then xs[p-1]? else xs[p]?:=fun p=>by
  rw [getElem?_bubble hz (k-l) (by lia) p,show lo+k-(k-l)=lo+l by lia,hx]
 intro p q u v a1 a2 a3 eu ev;rw [g] at eu ev
 by_cases cp:p=lo+l
 .rw [if_pos cp] at eu;cases eu
  by_cases cq:q=lo+l
  .rw [if_pos cq] at ev;cases ev;exact C.refl px
  .rw [if_neg cq,if_pos ⟨by lia,by lia⟩] at ev
   have pv:=hp _ (aQq ev);exact C.asym _ _ px pv (h2 (q-1-lo) v (by lia) (by lia) (by rw [show lo+(q-1-lo)=q-1 by lia];exact ev))
 .rw [if_neg cp] at eu
  by_cases cp2:lo+l<p/\p<=lo+k
  .rw [if_pos cp2] at eu;rw [if_neg (by lia),if_pos ⟨by lia,by lia⟩] at ev
   exact hs (p-1) (q-1) _ _ (by lia) (by lia) (by lia) eu ev
  .rw [if_neg cp2] at eu
   by_cases cq:q=lo+l
   .rw [if_pos cq] at ev;cases ev;exact h1 (p-lo) u (by lia) (by rw [show lo+(p-lo)=p by lia];exact eu)
   .rw [if_neg cq] at ev
    by_cases cq2:lo+l<q/\q<=lo+k
    .rw [if_pos cq2] at ev;exact hs p (q-1) _ _ a1 (by lia) (by lia) eu ev
    .rw [if_neg cq2] at ev;exact hs p q _ _ a1 a2 (by lia) eu ev
theorem yh {xs:Array Keyed}{lo k l n:Nat}(hz:lo+k<xs.size) (hl:l<=k) (hn:k<n):jV xs (bubble xs (lo+k) (k-l)) lo (lo+n) :=
 ⟨bubble_perm _ _ _,fun p hp=>by rw [getElem?_bubble hz (k-l) (by lia) p,if_neg (by lia),if_neg (by lia)]⟩
theorem CL {src dst:Nat}{st:SortSt}{Q:Unit->SortSt->Prop}(h:Q () (setArr st (bubble (arrOf st) src (src-dst)))):wpS (model prog w) A E s (moveDown' src dst) Q st:=by
 rw [moveDown'_eq];exact wpS_modify h
theorem xA (C:lG prog w A s κ P lt) {lo n ok:Nat}{st:SortSt}{Q:Bool->SortSt->Prop}(hp:∀ x,x∈arrOf st->P x) (hk:kindOf st=κ) (h1:1<=ok) (h2:ok<=n) (hz:lo+n<=(arrOf st).size) (hs:mL lt (arrOf st) lo (lo+ok))
  (h:∀ xs,jV (arrOf st) xs lo (lo+n)->mL lt xs lo (lo+n)->Q true (setArr st xs)):wpS (model prog w) A E s (binarySort' lo n ok) Q st:=by
 rw [binarySort'_eq];dsimp only;rw [Nat.max_eq_left h1];refine wpS_bind (wpS_mono (wpS_forRange (I:=fun k c st'=>∃ ys,c=(none,())/\st'=setArr st ys/\jV (arrOf st) ys lo (lo+n)/\mL lt ys lo (lo+k)/\k<=n)
  (Q:=fun c st'=>∃ ys,c=(none,())/\st'=setArr st ys/\jV (arrOf st) ys lo (lo+n)/\mL lt ys lo (lo+n)) ?step ?fin ⟨arrOf st,rfl,rfl,jV.refl _ _ _,hs,h2⟩) ?post)
 case fin =>
  rintro c st' ⟨ys,rfl,rfl,b1,s1,q⟩;have e:max ok n=n:=by lia
  rw [e] at s1;exact ⟨ys,rfl,rfl,b1,s1⟩
 case post =>
  rintro c st' ⟨ys,rfl,rfl,b1,s1⟩;exact wpS_pure (h ys b1 s1)
 case step =>
  rintro k c st' hk1 hk2 ⟨ys,rfl,rfl,b1,s1,q⟩;have hpy:=b1.mem hp;have hsz:=b1.size;have ex:ys[lo+k]?=some (ys[lo+k]'(by lia)):=Array.getElem?_eq_getElem (by lia)
  have px:=hpy _ (aQq ex);refine wpS_bind (wpS_mono (wpS_forRange (I:=fun i c st'=>∃ l r,c=(none,l,r)/\st'=setArr st ys/\l<=r/\r<=k/\(∀ j y,j<l->ys[lo+j]?=some y->lt (ys[lo+k]'(by lia)) y=false)/\(∀ j y,r<=j->j<k->ys[lo+j]?=some y->lt (ys[lo+k]'(by lia)) y=true)/\(r-l)+i<=k)
   (Q:=fun c st'=>∃ l r,c=(none,l,r)/\st'=setArr st ys/\l=r/\r<=k/\(∀ j y,j<l->ys[lo+j]?=some y->lt (ys[lo+k]'(by lia)) y=false)/\(∀ j y,r<=j->j<k->ys[lo+j]?=some y->lt (ys[lo+k]'(by lia)) y=true))
   ?step1 ?fin1 ⟨0,k,rfl,rfl,Nat.zero_le _,Nat.le_refl _,fun j y hj=>absurd hj (Nat.not_lt_zero _),fun j y g1 g2=>absurd g2 (by lia),by lia⟩) ?post1)
  case fin1 =>
   rintro c st' ⟨l,r,rfl,rfl,a1,a2,a3,a4,a5⟩;exact ⟨l,r,rfl,rfl,by lia,a2,a3,a4⟩
  case step1 =>
   rintro i c st' _ hi ⟨l,r,rfl,rfl,a1,a2,a3,a4,a5⟩;dsimp only
   by_cases c1:l ≥ r
   .rw [if_pos c1];exact wpS_pure ⟨l,r,rfl,rfl,by lia,a2,a3,a4⟩
   rw [if_neg c1];have em:ys[lo+(l+r) / 2]?=some (ys[lo+(l+r) / 2]'(by lia)):=Array.getElem?_eq_getElem (by lia)
   have pm:=hpy _ (aQq em);refine wpS_bind (C.at (st:=setArr st ys) ex em px pm hk ?_);cases e:lt (ys[lo+k]'(by lia)) (ys[lo+(l+r) / 2]'(by lia)) with
   | true =>
    dsimp only;rw [if_pos rfl];refine wpS_pure ⟨l,_,rfl,rfl,by lia,by lia,a3,fun j y g1 g2 ey=>?_,by lia⟩
    have py:=hpy _ (aQq ey);cases e':lt (ys[lo+k]'(by lia)) y with
    | true=>rfl
    | false =>
     have q1:=s1 (lo+(l+r) / 2) (lo+j) _ _ (by lia) (by lia) (by lia) em ey
     have q2:=C.trans _ _ _ pm py px q1 e';rw [e] at q2;cases q2
   | false =>
    dsimp only;rw [if_neg (by decide)]
    refine wpS_pure ⟨_,r,rfl,rfl,by lia,a2,fun j y g1 ey=>?_,a4,by lia⟩
    have py:=hpy _ (aQq ey);exact C.trans _ _ _ py pm px (s1 (lo+j) (lo+(l+r) / 2) _ _ (by lia) (by lia) (by lia) ey em) e
  case post1 =>
   rintro c st' ⟨l,r,rfl,rfl,rfl,a2,a3,a4⟩;dsimp only;refine wpS_bind (CL (wpS_pure ?_));have e:lo+k-(lo+l)=k-l:=by lia
   show ∃ ys',_/\setArr st (bubble ys (lo+k) (lo+k-(lo+l)))=setArr st ys'/\_;rw [e];exact ⟨_,rfl,rfl,b1.trans (yh (by lia) a2 hk2),Er C hpy (by lia) a2 s1 ex a3 a4,hk2⟩
end
end MrS
namespace MrS
open PySem PyProof.Rows
def eK (lt:Keyed->Keyed->Bool) (xs:Array Keyed):Nat->List (Nat×Nat×Nat)->Nat->Prop
 | s,[],e=>s=e
 | s,p::r,e=>p.1=s/\0<p.2.1/\mL lt xs s (s+p.2.1)/\eK lt xs (s+p.2.1) r e
theorem fR {lt:Keyed->Keyed->Bool}{xs:Array Keyed}:∀ {q r:List (Nat×Nat×Nat)}{s e:Nat},eK lt xs s (q++r) e↔∃ m,eK lt xs s q m/\eK lt xs m r e
 | [],r,s,e=>by
  constructor
  .intro h;exact ⟨s,rfl,h⟩
  .rintro ⟨m,rfl,h⟩;exact h
 | p::q,r,s,e=>by
  constructor
  .rintro ⟨h1,h2,h3,h4⟩;obtain ⟨m,a,b⟩:=fR.mp h4;exact ⟨m,⟨h1,h2,h3,a⟩,b⟩
  .rintro ⟨m,⟨h1,h2,h3,a⟩,b⟩;exact ⟨h1,h2,h3,fR.mpr ⟨m,a,b⟩⟩
theorem kB {lt:Keyed->Keyed->Bool}{xs:Array Keyed}:∀ {q:List (Nat×Nat×Nat)}{s e:Nat},eK lt xs s q e->s+q.length<=e
 | [],s,e,h=>by have:s=e:=h;simp [this]
 | p::q,s,e,hz=>by
  obtain ⟨_,h2,_,h4⟩:=hz;have:=kB h4;rw [lCq];lia
theorem iI {lt:Keyed->Keyed->Bool}{xs ys:Array Keyed}:∀ {q:List (Nat×Nat×Nat)}{s e:Nat},(∀ k,s<=k->k<e->ys[k]?=xs[k]?)->eK lt xs s q e->eK lt ys s q e
 | [],s,e,_,h=>h
 | p::q,s,e,g,hz=>by
  obtain ⟨h1,h2,h3,h4⟩:=hz;have l:=kB h4;refine ⟨h1,h2,fun a b x y a1 a2 a3 ex ey=>h3 a b x y a1 a2 a3 ?_ ?_,iI (fun k k1 k2=>g k (by lia) k2) h4⟩
  .rw [← g a a1 (by lia)];exact ex
  .rw [← g b (by lia) (by lia)];exact ey
theorem nD {lt:Keyed->Keyed->Bool}{xs:Array Keyed}:∀ {q q':List (Nat×Nat×Nat)}{s e:Nat},q'.map (fun p=>(p.1,p.2.1))=q.map (fun p=>(p.1,p.2.1))->eK lt xs s q e->eK lt xs s q' e
 | [],q',s,e,g,h=>by
  have:q'=[]:=by simpa using g
  subst this;exact h
 | p::q,[],s,e,g,h=>by simp at g
 | p::q,p'::q',s,e,g,hz=>by
  obtain ⟨h1,h2,h3,h4⟩:=hz;simp only [List.map_cons,List.cons.injEq,Prod.mk.injEq] at g;obtain ⟨⟨g1,g2⟩,g3⟩:=g;rw [← g2] at h2 h3 h4;exact ⟨g1.trans h1,h2,h3,nD g3 h4⟩
theorem tI (o:Nat):∀ (M:List Keyed) (n:Nat) (xs:Array Keyed),o+n+M.length<=xs.size ->
  ((M.zipIdx n).foldl (fun a x=>a.setIfInBounds (o+x.2) x.1) xs).toList=xs.toList.take (o+n)++M++xs.toList.drop (o+n+M.length)
 | [],n,xs,h=>by simp
 | y::r,n,xs,h=>by
  rw [List.zipIdx_cons,List.foldl_cons];rw [lCq] at h;rw [tI o r (n+1) _ (by rw [Array.size_setIfInBounds];lia),Array.toList_setIfInBounds]
  have hl:o+n<xs.toList.length:=by rw [Array.length_toList];lia
  have e1:(xs.toList.set (o+n) y).take (o+(n+1))=xs.toList.take (o+n)++[y]:=by
   rw [← Nat.add_assoc,List.take_add_one,List.getElem?_set_self hl,List.take_set_of_le (Nat.le_refl _)];rfl
  have e2:(xs.toList.set (o+n) y).drop (o+(n+1)+r.length)=xs.toList.drop (o+n+(r.length+1)):=by
   rw [List.drop_set_of_lt (by lia)]
   congr 1;lia
  rw [e1,e2,lCq,List.append_assoc,List.append_assoc,List.append_assoc];rfl
section
variable {prog:Program}{w:World}{A:Around}{E:Value->Shared->Prop}{s:Shared}{κ:SortKind}{P:Keyed->Prop}{lt:Keyed->Keyed->Bool}
theorem zr (C:lG prog w A s κ P lt) {left:Bool}{key:Keyed}{arr:Array Keyed}{base n:Nat}(hb:base+n<=arr.size) (ha:∀ x,x∈arr->P x) (hkey:P key) (so:mL lt arr base (base+n)) :
  ∀ i j,i<=j->j<n->jL lt left key arr base j=true->jL lt left key arr base i=true:=by
 intro i j hij hj h;have ei:arr[base+i]?=some (arr[base+i]'(by lia)):=Array.getElem?_eq_getElem (by lia)
 have ej:arr[base+j]?=some (arr[base+j]'(by lia)):=Array.getElem?_eq_getElem (by lia)
 have pi:=ha _ (aQq ei);have pj:=ha _ (aQq ej);have le:=so (base+i) (base+j) _ _ (by lia) (by lia) (by lia) ei ej
 rw [fD ej] at h;rw [fD ei];cases left with
 | true =>
  rw [if_pos rfl] at h ⊢;cases q:lt (arr[base+i]'(by lia)) key with
  | true=>rfl
  | false =>
   have:=C.trans _ _ _ hkey pi pj q le;rw [h] at this;cases this
 | false =>
  rw [if_neg (by decide)] at h ⊢
  have h':lt key (arr[base+j]'(by lia))=false:=by simpa using h
  have:=C.trans _ _ _ pi pj hkey le h';simp [this]
theorem fo {a:Array Keyed}{i j:Nat}{x:Keyed}(h:x∈(a.extract i j).toList):∃ k,i<=k/\k<j/\a[k]?=some x:=by
 rw [cT] at h;obtain ⟨k,k1,k2,e⟩:=gP h;rw [Nat.zero_add] at e;exact ⟨k,k1,k2,e⟩
theorem oQ {a:Array Keyed}{i j:Nat}(h:mL lt a i j):jH lt (a.extract i j).toList:=by
 rw [cT];refine List.pairwise_iff_getElem.mpr fun p q hp hq hpq=>?_
 rw [List.length_drop,lTq,Array.length_toList] at hp hq;have e:∀ k (hk:k<((a.toList.take j).drop i).length),a[i+k]?=some ((a.toList.take j).drop i)[k]:=fun k hk=>by
  rw [List.length_drop,lTq,Array.length_toList] at hk;rw [List.getElem_drop,List.getElem_take,Array.getElem?_eq_some_iff];exact ⟨by lia,by simp⟩
 exact h (i+p) (i+q) _ _ (by lia) (by lia) (by lia) (e p _) (e q _)
theorem vF (i:Nat):mergeAt' i=(do
 let s ← get
 let (some (sa,na,power),some (sb,nb,_)):=((pendingOf s)[i]?,(pendingOf s)[i+1]?)|unsupported "internal:list.sort.pending"
 set (setPending s (((pendingOf s).setIfInBounds i (sa,na+nb,power)).eraseIdxIfInBounds (i+1)))
 let some k ← iA false (← elem' (arrOf s) sb) (arrOf s) sa na 0|return false
 let (sa,na):=(sa+k,na-k)
 if na == 0 then return true
 let some nb ← iA true (← elem' (arrOf s) (sa+na-1)) (arrOf s) sb nb (nb-1)|return false
 if nb == 0 then return true
 let x:=(arrOf s).extract sa sb
 let y:=(arrOf s).extract sb (sb+nb)
 let merged ← if na<=nb then qm x y else qp x y
 modify fun s=>setArr s (merged.toList.zipIdx.foldl (fun a (p,j)=>a.setIfInBounds (sa+j) p) (arrOf s))
 return (failedOf (← get)).isNone):=rfl
theorem AE {st st':SortSt}{Q:PUnit->SortSt->Prop}(h:Q ⟨⟩ st'):wpS (model prog w) A E s (set st':StateT SortSt Sem PUnit) Q st:=by
 unfold wpS;rw [StateT.run_set];exact wpAny_pure ⟨rfl,h⟩
theorem Da (C:lG prog w A s κ P lt) {xs zs M:Array Keyed}{sa na nb k l:Nat}(hp:∀ x,x∈xs->P x) (hz:sa+na+nb<=xs.size) (hk:k<=na) (hl:l<=nb) (h1:mL lt xs sa (sa+na)) (h2:mL lt xs (sa+na) (sa+na+nb)) {key last:Keyed}
  (ek:xs[sa+na]?=some key) (el:xs[sa+na-1]?=some last)
  (k2:∀ j y,j<k->xs[sa+j]?=some y->lt key y=false) (l3:∀ j y,l<=j->j<nb->xs[sa+na+j]?=some y->lt y last=false) (hna:0<na) (hnb:0<nb)
  (m:DZ lt (xs.extract (sa+k) (sa+na)) (xs.extract (sa+na) (sa+na+l)) M)
  (hzs:zs.toList=xs.toList.take (sa+k)++M.toList++xs.toList.drop (sa+k+M.toList.length)):jV xs zs sa (sa+na+nb)/\mL lt zs sa (sa+na+nb):=by
 have lM:M.toList.length=(na-k)+l:=by
  have:=m.pm.length_eq;simp only [lAq,Array.length_toList,Array.size_extract] at this ⊢;lia
 have hlx:xs.toList.length=xs.size:=Array.length_toList;have gz:∀ p,zs[p]?=if p<sa+k then xs[p]? else if p<sa+na+l then M[p-(sa+k)]? else xs[p]?:=fun p=>by
  rw [← Array.getElem?_toList,hzs]
  by_cases c1:p<sa+k
  .rw [if_pos c1,List.append_assoc,gZq (by rw [lTq];lia),List.getElem?_take_of_lt c1,Array.getElem?_toList]
  .rw [if_neg c1,List.append_assoc,gYq (by rw [lTq];lia),lTq,show min (sa+k) xs.toList.length=sa+k by lia]
   by_cases c2:p<sa+na+l
   .rw [if_pos c2,gZq (by lia),Array.getElem?_toList]
   .rw [if_neg c2,gYq (by lia),List.getElem?_drop,Array.getElem?_toList]
    congr 1;lia
 have pk:=hp _ (aQq ek);have pl:=hp _ (aQq el);have from_:∀ q v,M[q]?=some v->(∃ j,k<=j/\j<na/\xs[sa+j]?=some v)∨∃ j,j<l/\xs[sa+na+j]?=some v:=fun q v e=>by
  have hv:v∈M.toList:=by simpa using aQq e
  rcases mAq.mp (m.pm.mem_iff.mp hv) with hv|hv
  .obtain ⟨j,j1,j2,ej⟩:=fo hv;exact .inl ⟨j-sa,by lia,by lia,by rw [show sa+(j-sa)=j by lia];exact ej⟩
  .obtain ⟨j,j1,j2,ej⟩:=fo hv;exact .inr ⟨j-(sa+na),by lia,by rw [show sa+na+(j-(sa+na))=j by lia];exact ej⟩
 refine ⟨⟨?_,fun p hp'=>?_⟩,?_⟩
 .rw [Array.perm_iff_toList_perm,hzs];have c:xs.toList=xs.toList.take (sa+k)++((xs.extract (sa+k) (sa+na)).toList++(xs.extract (sa+na) (sa+na+l)).toList)++xs.toList.drop (sa+k+M.toList.length):=by
   rw [cT,cT,lM];have a1:=nL xs.toList (sa+k) (sa+na) (by lia)
   have a2:=nL xs.toList (sa+na) (sa+na+l) (by lia)
   have a3:sa+k+(na-k+l)=sa+na+l:=by lia
   rw [a3,← List.append_assoc,← a1,← a2,List.take_append_drop]
  conv=>rhs;rw [c]
  exact List.Perm.append_right _ (List.Perm.append_left _ m.pm)
 .rw [gz]
  by_cases c1:p<sa+k
  .rw [if_pos c1]
  .rw [if_neg c1,if_neg (by lia)]
 .intro p q x y a1 a2 a3 ex ey;rw [gz] at ex ey
  by_cases p1:p<sa+k
  .rw [if_pos p1] at ex;have px:=hp _ (aQq ex);have lx:lt key x=false:=k2 (p-sa) x (by lia) (by rw [show sa+(p-sa)=p by lia];exact ex)
   by_cases q1:q<sa+k
   .rw [if_pos q1] at ey;exact h1 p q _ _ a1 a2 (by lia) ex ey
   .rw [if_neg q1] at ey
    by_cases q2:q<sa+na+l
    .rw [if_pos q2] at ey;rcases from_ _ _ ey with ⟨j,j1,j2,ej⟩|⟨j,j1,ej⟩
     .exact h1 p (sa+j) _ _ a1 (by lia) (by lia) ex ej
     .exact C.trans _ _ _ px pk (hp _ (aQq ej)) lx (h2 (sa+na) (sa+na+j) _ _ (Nat.le_refl _) (by lia) (by lia) ek ej)
    .rw [if_neg q2] at ey;exact C.trans _ _ _ px pk (hp _ (aQq ey)) lx (h2 (sa+na) q _ _ (Nat.le_refl _) (by lia) (by lia) ek ey)
  .rw [if_neg p1] at ex;rw [if_neg (by lia)] at ey
   by_cases p2:p<sa+na+l
   .rw [if_pos p2] at ex
    by_cases q2:q<sa+na+l
    .rw [if_pos q2] at ey;rcases Nat.lt_or_eq_of_le a2 with c|c
     .have ex':M.toList[p-(sa+k)]?=some x:=by rw [Array.getElem?_toList];exact ex
      have ey':M.toList[q-(sa+k)]?=some y:=by rw [Array.getElem?_toList];exact ey
      obtain ⟨hx,e1⟩:=gSq.mp ex';obtain ⟨hy,e2⟩:=gSq.mp ey';have:=List.pairwise_iff_getElem.mp m.so (p-(sa+k)) (q-(sa+k)) hx hy (by lia)
      rw [e1,e2] at this;exact this
     .subst c;rw [ex] at ey;cases ey;rcases from_ _ _ ex with ⟨j,j1,j2,ej⟩|⟨j,j1,ej⟩
      .exact C.refl (hp _ (aQq ej))
      .exact C.refl (hp _ (aQq ej))
    .rw [if_neg q2] at ey;have py:=hp _ (aQq ey);rcases from_ _ _ ex with ⟨j,j1,j2,ej⟩|⟨j,j1,ej⟩
     .exact C.trans _ _ _ (hp _ (aQq ej)) pl py (h1 (sa+j) (sa+na-1) _ _ (by lia) (by lia) (by lia) ej el) (l3 (q-(sa+na)) y (by lia) (by lia) (by rw [show sa+na+(q-(sa+na))=q by lia];exact ey))
     .exact h2 (sa+na+j) q _ _ (by lia) (by lia) (by lia) ej ey
   .rw [if_neg p2] at ex;rw [if_neg (by lia)] at ey
    exact h2 p q _ _ (by lia) a2 (by lia) ex ey
end
end MrS
namespace MrS
open PySem PyProof.Rows
section
variable {prog:Program}{w:World}{A:Around}{E:Value->Shared->Prop}{s:Shared}{κ:SortKind}{P:Keyed->Prop}{lt:Keyed->Keyed->Bool}
theorem Bm {α:Type}{l:List α}{i:Nat}{a b:α}(h1:l[i]?=some a) (h2:l[i+1]?=some b):l=l.take i++a::b::l.drop (i+2):=by
 obtain ⟨h3,e3⟩:=gSq.mp h1;obtain ⟨h4,e4⟩:=gSq.mp h2
 conv=>lhs;rw [← List.take_append_drop i l]
 rw [List.drop_eq_getElem_cons h3,List.drop_eq_getElem_cons h4,e3,e4]
theorem zP {α:Type}{q r:List α}{a b c:α}:((q++a::b::r).set q.length c).eraseIdx (q.length+1)=q++c::r:=by
 rw [List.set_append_right _ _ (Nat.le_refl _),Nat.sub_self,List.set_cons_zero,List.eraseIdx_append_of_length_le (by lia),Nat.add_sub_cancel_left]
 rfl
theorem oX (C:lG prog w A s κ P lt) {i lo:Nat}{st:SortSt}{Q:Bool->SortSt->Prop}(hp:∀ x,x∈arrOf st->P x) (hk:kindOf st=κ) (hf:failedOf st=none) (hlo:lo<=(arrOf st).size) (hch:eK lt (arrOf st) 0 (pendingOf st).toList lo)
  (hi:i+1<(pendingOf st).size) (h:∀ xs p g,jV (arrOf st) xs 0 lo->p.size+1=(pendingOf st).size->eK lt xs 0 p.toList lo->Q true (SortSt.mk' κ xs p g none)):wpS (model prog w) A E s (mergeAt' i) Q st:=by
 obtain ⟨κ',arr,pend,g0,fl⟩:=st;have hk:κ'=κ:=hk;have hf:fl=none:=hf;subst hk hf;have hp:∀ x,x∈arr->P x:=hp;have hlo:lo<=arr.size:=hlo;have hch:eK lt arr 0 pend.toList lo:=hch;have hi:i+1<pend.size:=hi;have e1:pend[i]?=some (pend[i]'(by lia)):=Array.getElem?_eq_getElem (by lia)
 have e2:pend[i+1]?=some (pend[i+1]'(by lia)):=Array.getElem?_eq_getElem (by lia)
 generalize pend[i]'(by lia)=a at e1
 generalize pend[i+1]'(by lia)=b at e2
 obtain ⟨sa,na,pa⟩:=a;obtain ⟨sb,nb,pb⟩:=b;have e1':pend.toList[i]?=some (sa,na,pa):=by rw [Array.getElem?_toList];exact e1
 have e2':pend.toList[i+1]?=some (sb,nb,pb):=by rw [Array.getElem?_toList];exact e2
 have ep:=Bm e1' e2';have lq:(pend.toList.take i).length=i:=by rw [lTq,Array.length_toList];lia
 generalize pend.toList.take i=q at ep lq;generalize pend.toList.drop (i+2)=r at ep;rw [ep] at hch;obtain ⟨m0,c1,c2⟩:=fR.mp hch;obtain ⟨x1,x2,x3,x4,x5,x6,x7⟩:=c2;have d1:sa=m0:=x1;have d2:0<na:=x2;have d3:mL lt arr m0 (m0+na):=x3;have f1:sb=m0+na:=x4;have f2:0<nb:=x5;have f3:mL lt arr (m0+na) (m0+na+nb):=x6;have f4:eK lt arr (m0+na+nb) r lo:=x7
 clear x1 x2 x3 x4 x5 x6 x7
 subst d1 f1;have hrl:sa+na+nb+r.length<=lo:=kB f4;have hql:0+q.length<=sa:=kB c1;have hz:sa+na+nb<=arr.size:=by lia
 have np:((pend.setIfInBounds i (sa,na+nb,pa)).eraseIdxIfInBounds (i+1)).toList=q++(sa,na+nb,pa)::r:=by
  rw [Array.toList_eraseIdxIfInBounds,Array.toList_setIfInBounds,ep,← lq];exact zP
 have ns:((pend.setIfInBounds i (sa,na+nb,pa)).eraseIdxIfInBounds (i+1)).size+1=pend.size:=by
  rw [← Array.length_toList,np,← Array.length_toList,ep];simp only [lAq,lCq];lia
 have fin:∀ zs g,jV arr zs sa (sa+na+nb)->mL lt zs sa (sa+na+nb)->Q true (SortSt.mk' κ' zs ((pend.setIfInBounds i (sa,na+nb,pa)).eraseIdxIfInBounds (i+1)) g none):=fun zs g b1 s1=>by
  refine h zs _ g ⟨b1.pm,fun k hk=>b1.out k (by lia)⟩ ns ?_
  rw [np];refine fR.mpr ⟨sa,iI (fun k _ k2=>b1.out k (.inl k2)) c1,rfl,by show 0<na+nb;lia,?_,?_⟩
  .show mL lt zs sa (sa+(na+nb));rw [← Nat.add_assoc];exact s1
  .show eK lt zs (sa+(na+nb)) r lo;rw [← Nat.add_assoc];exact iI (fun k k1 _=>b1.out k (.inr k1)) f4
 rw [vF];refine wpS_bind (wpS_get ?_);dsimp only;rw [e1,e2];dsimp only;refine wpS_bind (AE ?_);have ek:arr[sa+na]?=some (arr[sa+na]'(by lia)):=Array.getElem?_eq_getElem (by lia)
 have el:arr[sa+na-1]?=some (arr[sa+na-1]'(by lia)):=Array.getElem?_eq_getElem (by lia)
 have pk:=hp _ (aQq ek);have pl:=hp _ (aQq el);refine wpS_bind (bC ek ?_);refine wpS_bind (gc C d2 (by lia) hp pk rfl (zr C (by lia) hp pk d3) fun k k1 k2 k3=>?_)
 dsimp only;have kl:∀ j y,j<k->arr[sa+j]?=some y->lt (arr[sa+na]'(by lia)) y=false:=fun j y hj ey=>by
  have:=k2 j hj;rw [fD ey,if_neg (by decide)] at this
  simpa using this
 have kh:∀ j y,k<=j->j<na->arr[sa+j]?=some y->lt (arr[sa+na]'(by lia)) y=true:=fun j y h1 h2 ey=>by
  have:=k3 j h1 h2;rw [fD ey,if_neg (by decide)] at this
  simpa using this
 by_cases c1':na-k=0
 .rw [if_pos (by simp [c1'])]
  refine wpS_pure (fin arr g0 (jV.refl _ _ _) fun p q x y a1 a2 a3 ex ey=>?_)
  have px:=hp _ (aQq ex);have py:=hp _ (aQq ey)
  by_cases q1:q<sa+na
  .exact d3 p q _ _ a1 a2 q1 ex ey
  .by_cases p1:p<sa+na
   .exact C.trans _ _ _ px pk py (kl (p-sa) x (by lia) (by rw [show sa+(p-sa)=p by lia];exact ex)) (f3 (sa+na) q _ _ (Nat.le_refl _) (by lia) a3 ek ey)
   .exact f3 p q _ _ (by lia) a2 a3 ex ey
 rw [if_neg (by simpa using c1')]
 have ea:sa+k+(na-k)-1=sa+na-1:=by lia
 rw [ea];refine wpS_bind (bC el ?_);refine wpS_bind (gc C (by lia) (by lia) hp pl rfl (zr C (by lia) hp pl f3) fun l l1 l2 l3=>?_)
 dsimp only;have ll:∀ j y,j<l->arr[sa+na+j]?=some y->lt y (arr[sa+na-1]'(by lia))=true:=fun j y hj ey=>by
  have:=l2 j hj;rw [fD ey,if_pos rfl] at this;exact this
 have lh:∀ j y,l<=j->j<nb->arr[sa+na+j]?=some y->lt y (arr[sa+na-1]'(by lia))=false:=fun j y h1 h2 ey=>by
  have:=l3 j h1 h2;rw [fD ey,if_pos rfl] at this;exact this
 by_cases c2':l=0
 .rw [if_pos (by simp [c2'])]
  refine wpS_pure (fin arr g0 (jV.refl _ _ _) fun p q x y a1 a2 a3 ex ey=>?_)
  have px:=hp _ (aQq ex);have py:=hp _ (aQq ey)
  by_cases q1:q<sa+na
  .exact d3 p q _ _ a1 a2 q1 ex ey
  .by_cases p1:p<sa+na
   .exact C.trans _ _ _ px pl py (d3 p (sa+na-1) _ _ a1 (by lia) (by lia) ex el) (lh (q-(sa+na)) y (by lia) (by lia) (by rw [show sa+na+(q-(sa+na))=q by lia];exact ey))
   .exact f3 p q _ _ (by lia) a2 a3 ex ey
 rw [if_neg (by simpa using c2')]
 have sx:jH lt (arr.extract (sa+k) (sa+na)).toList:=oQ fun p q x y a1 a2 a3 ex ey=>d3 p q x y (by lia) a2 a3 ex ey
 have sy:jH lt (arr.extract (sa+na) (sa+na+l)).toList:=oQ fun p q x y a1 a2 a3 ex ey=>f3 p q x y a1 a2 (by lia) ex ey
 have hx:∀ x,x∈arr.extract (sa+k) (sa+na)->P x:=fun x hx=>by
  obtain ⟨j,_,_,e⟩:=fo (Array.mem_toList_iff.mpr hx);exact hp _ (aQq e)
 have hy:∀ x,x∈arr.extract (sa+na) (sa+na+l)->P x:=fun x hx=>by
  obtain ⟨j,_,_,e⟩:=fo (Array.mem_toList_iff.mpr hx);exact hp _ (aQq e)
 have zx:(arr.extract (sa+k) (sa+na)).size=na-k:=by rw [Array.size_extract];lia
 have zy:(arr.extract (sa+na) (sa+na+l)).size=l:=by rw [Array.size_extract];lia
 have g0':(arr.extract (sa+na) (sa+na+l))[0]?=some (arr[sa+na]'(by lia)):=by
  rw [Array.getElem?_extract,if_pos (by lia),Nat.add_zero]
  exact ek
 have gl':(arr.extract (sa+k) (sa+na))[na-k-1]?=some (arr[sa+na-1]'(by lia)):=by
  rw [Array.getElem?_extract,if_pos (by lia),show sa+k+(na-k-1)=sa+na-1 by lia]
  exact el
 have low:∀ y∈(arr.extract (sa+k) (sa+na)).toList,lt y (arr[sa+na]'(by lia))=false:=fun y hy=>by
  obtain ⟨j,j1,j2,ej⟩:=fo hy;exact C.asym _ _ pk (hp _ (aQq ej)) (kh (j-sa) y (by lia) (by lia) (by rw [show sa+(j-sa)=j by lia];exact ej))
 have high:∀ x∈(arr.extract (sa+na) (sa+na+l)).toList,lt (arr[sa+na-1]'(by lia)) x=false:=fun x hx=>by
  obtain ⟨j,j1,j2,ej⟩:=fo hx;exact C.asym _ _ (hp _ (aQq ej)) pl (ll (j-(sa+na)) x (by lia) (by rw [show sa+na+(j-(sa+na))=j by lia];exact ej))
 have done:∀ M g,DZ lt (arr.extract (sa+k) (sa+na)) (arr.extract (sa+na) (sa+na+l)) M ->
   Q true (SortSt.mk' κ' (M.toList.zipIdx.foldl (fun a x=>a.setIfInBounds (sa+k+x.snd) x.fst) arr) ((pend.setIfInBounds i (sa,na+nb,pa)).eraseIdxIfInBounds (i+1)) g none):=fun M g mg=>by
  have lM:M.toList.length=(na-k)+l:=by
   have:=mg.pm.length_eq;simp only [lAq,Array.length_toList,Array.size_extract] at this ⊢;lia
  have wb:=tI (sa+k) M.toList 0 arr (by lia)
  obtain ⟨b1,s1⟩:=Da C hp hz k1 l1 d3 f3 ek el kl lh d2 f2 mg wb;exact fin _ g b1 s1
 by_cases c3:na-k<=l
 .rw [if_pos c3];refine wpS_bind (vE (κ:=κ') (a:=arr.extract (sa+k) (sa+na)) (b:=arr.extract (sa+na) (sa+na+l)) C hx hy rfl sx sy (by rw [zx];lia) (by rw [zy];lia) (fun x ex y hy=>?_) (fun j hj x hx y hy=>?_) fun M g mg=>?_)
  .rw [g0'] at ex;cases ex;exact low y hy
  .have hj':j=na-k-1:=by lia
   subst hj';have:y=arr[sa+na-1]'(by lia):=by
    obtain ⟨t,t1,t2⟩:=ke hy;rw [zx] at t1;have t0:t=0:=by lia
    subst t0;rw [Nat.add_zero,gl'] at t2;exact (Option.some.inj t2).symm
   rw [this];exact high x hx
  .refine wpS_bind (wpS_modify ?_);refine wpS_bind (wpS_get ?_);exact wpS_pure (done M g mg)
 .rw [if_neg c3];refine wpS_bind (wj (κ:=κ') (a:=arr.extract (sa+k) (sa+na)) (b:=arr.extract (sa+na) (sa+na+l)) C hx hy rfl sx sy (by rw [zx];lia) (by rw [zy];lia) (fun x hx y hy=>?_) (fun x ex y hy=>?_) fun M g mg=>?_)
  .have:x=arr[sa+na]'(by lia):=by
    obtain ⟨t,t1,t2⟩:=kP hx;have t0:t=0:=by lia
    subst t0;rw [Nat.zero_add,g0'] at t2;exact (Option.some.inj t2).symm
   rw [this];exact low y hy
  .rw [zx,gl'] at ex;cases ex;exact high y hy
  .refine wpS_bind (wpS_modify ?_);refine wpS_bind (wpS_get ?_);exact wpS_pure (done M g mg)
end
end MrS
namespace MrS
open PySem PyProof.Rows
section
variable {prog:Program}{w:World}{A:Around}{E:Value->Shared->Prop}{s:Shared}{κ:SortKind}{P:Keyed->Prop}{lt:Keyed->Keyed->Bool}
abbrev jB (κ:SortKind) (xs:Array Keyed) (p:Array (Nat×Nat×Nat)) (g:Nat):SortSt:=SortSt.mk' κ xs p g none
theorem rA {xs:Array Keyed}{p:Array (Nat×Nat×Nat)}{lo n:Nat}(h:eK lt xs 0 p.toList lo) (hn:0<n) (hs:mL lt xs lo (lo+n)):eK lt xs 0 (p.push (lo,n,0)).toList (lo+n):=by
 rw [Array.toList_push];exact fR.mpr ⟨lo,h,rfl,hn,hs,rfl⟩
theorem sr (p:Array (Nat×Nat×Nat)) (i pw:Nat):(p.modify i fun x=>(x.fst,x.2.fst,pw)).toList.map (fun p=>(p.1,p.2.1))=p.toList.map (fun p=>(p.1,p.2.1)):=by
 apply List.ext_getElem?;intro k;rw [gMq,gMq,Array.getElem?_toList,Array.getElem?_toList,Array.getElem?_modify];split
 .cases p[k]? <;> rfl
 .rfl
theorem ug (C:lG prog w A s κ P lt) {arr:Array Keyed}{g:Nat}{Q:Unit->SortSt->Prop}(hp:∀ x,x∈arr->P x) (h2:2<=arr.size)
    (h:∀ xs p g',xs.Perm arr->mL lt xs 0 arr.size->Q () (jB κ xs p g')):wpS (model prog w) A E s sortRuns' Q (jB κ arr #[] g):=by
  rw [sortRuns'_eq];refine wpS_bind (wpS_get ?_);dsimp only;have e0:arrOf (jB κ arr #[] g)=arr:=rfl;rw [e0];generalize minRun' arr.size arr.size 0=mr;refine wpS_bind (wpS_mono (wpS_forRange
    (I:=fun i c st'=>∃ lo xs p g',c=(none,lo)/\st'=jB κ xs p g'/\xs.Perm arr/\lo<=arr.size/\eK lt xs 0 p.toList lo/\i<=lo)
    (Q:=fun c st'=>∃ xs p g',c=(none,arr.size)/\st'=jB κ xs p g'/\xs.Perm arr/\eK lt xs 0 p.toList arr.size)
    ?step ?fin ⟨0,arr,#[],g,rfl,rfl,Array.Perm.refl _,Nat.zero_le _,rfl,Nat.le_refl _⟩) ?post)
  case fin =>
    rintro c st' ⟨lo,xs,p,g',rfl,rfl,q1,q2,q3,q4⟩;have e:lo=arr.size:=by lia
    subst e;exact ⟨xs,p,g',rfl,rfl,q1,q3⟩
  case step =>
    rintro i c st' _ hi ⟨lo,xs,p,g',rfl,rfl,q1,q2,q3,q4⟩;dsimp only;have hpx:∀ x,x∈xs->P x:=fun x hx=>hp x (q1.mem_iff.mp hx)
    have hzx:xs.size=arr.size:=q1.size_eq
    by_cases c1:lo ≥ arr.size
    . rw [if_pos c1]
      have e:lo=arr.size:=by lia
      subst e;exact wpS_pure ⟨xs,p,g',rfl,rfl,q1,q3⟩
    rw [if_neg c1];refine wpS_bind (uc (st:=jB κ xs p g') C hpx rfl (by lia) (by show lo+(arr.size-lo)<=xs.size;lia) fun n ys n1 n2 b1 s1=>?_)
    dsimp only;have hb:jV xs ys lo (lo+n):=b1;show wpS _ _ _ _ _ _ (jB κ ys p g')
    by_cases c2:n<mr
    all_goals
      first
        | (rw [if_pos c2]
           refine wpS_bind (jm ?_);refine wpS_bind (xA (st:=jB κ ys p g') (n:=min (arr.size-lo) mr) C (hb.mem hpx) rfl n1 (by lia) (by show lo+min (arr.size-lo) mr<=ys.size;have:=hb.size;lia) s1 fun zs b2 s2=>?_)
           rw [if_neg (by decide)]
           have hb2:jV xs zs lo (lo+min (arr.size-lo) mr):=(hb.mono (by lia)).trans b2
           have nn:1<=min (arr.size-lo) mr:=by lia
           have nl:lo+min (arr.size-lo) mr<=arr.size:=by lia
           show wpS _ _ _ _ _ _ (jB κ zs p g')
           clear b1 s1 hb b2
           generalize min (arr.size-lo) mr=nN at hb2 nn nl s2 ⊢)
        | (rw [if_neg c2]
           have hb2:=hb;have s2:=s1;have nn:=n1;have nl:lo+n<=arr.size:=by lia
           clear b1 s1 hb
           generalize hnN:n=nN at hb2 nn nl s2 ⊢;generalize hzs:ys=zs at hb2 s2 ⊢)
      have hpz:=hb2.mem hpx;have hzz:=hb2.size;have hcz:eK lt zs 0 p.toList lo:=iI (fun k _ k2=>hb2.out k (.inl k2)) q3
      have pz:zs.Perm arr:=hb2.pm.trans q1;refine wpS_bind (wpS_get ?_);have ep:pendingOf (jB κ zs p g')=p:=rfl;rw [ep];cases eb:p.back? with
      | none =>
        dsimp only;refine wpS_bind (wpS_modify (wpS_pure ?_));exact ⟨lo+nN,zs,p.push (lo,nN,0),g',rfl,rfl,pz,nl,rA hcz nn s2,by lia⟩
      | some t =>
        obtain ⟨s1',n1',pw0⟩:=t;dsimp only;refine wpS_bind (wpS_mono (wpS_forRange
          (I:=fun i c st'=>∃ ys q g2,c=(none,())/\st'=jB κ ys q g2/\jV zs ys 0 lo/\eK lt ys 0 q.toList lo)
          (Q:=fun c st'=>∃ ys q g2,c=(none,())/\st'=jB κ ys q g2/\jV zs ys 0 lo/\eK lt ys 0 q.toList lo)
          ?step1 (fun c st' hh=>hh) ⟨zs,p,g',rfl,rfl,jV.refl _ _ _,hcz⟩) ?post1)
        case step1 =>
          rintro j c st' _ hj ⟨ys2,q,g2,rfl,rfl,b3,ch3⟩;refine wpS_bind (wpS_get ?_);have eq:pendingOf (jB κ ys2 q g2)=q:=rfl;rw [eq]
          by_cases d1:q.size>1
          . rw [if_pos d1]
            have eo:q[q.size-2]?=some (q[q.size-2]'(by lia)):=Array.getElem?_eq_getElem (by lia)
            rw [eo];generalize q[q.size-2]'(by lia)=o
            obtain ⟨o1,o2,older⟩:=o;dsimp only;split
            . exact wpS_pure ⟨ys2,q,g2,rfl,rfl,b3,ch3⟩
            . refine wpS_bind (oX (st:=jB κ ys2 q g2) C (b3.mem hpz) rfl rfl (by show lo<=ys2.size;have:=b3.size;lia) ch3 (by show q.size-2+1<q.size;lia) fun xs3 p3 g3 b4 _ ch4=>?_)
              rw [if_neg (by decide)]
              exact wpS_pure ⟨xs3,p3,g3,rfl,rfl,b3.trans b4,ch4⟩
          . rw [if_neg d1]
            exact wpS_pure ⟨ys2,q,g2,rfl,rfl,b3,ch3⟩
        case post1 =>
          rintro c st' ⟨ys2,q,g2,rfl,rfl,b3,ch3⟩;dsimp only;refine wpS_bind (wpS_modify (wpS_bind (wpS_modify (wpS_pure ?_))));have s3:mL lt ys2 lo (lo+nN):=fun a b x y a1 a2 a3 ex ey=>s2 a b x y a1 a2 a3 (by rw [← b3.out a (.inr a1)];exact ex) (by rw [← b3.out b (.inr (by lia))];exact ey)
          exact ⟨lo+nN,ys2,_,g2,rfl,rfl,b3.pm.trans pz,nl,rA (nD (sr q _ _) ch3) nn s3,by lia⟩
  case post =>
    rintro c st' ⟨xs,p,g',rfl,rfl,q1,q3⟩;dsimp only;refine wpS_bind (wpS_mono (wpS_forRange
      (I:=fun i c st'=>∃ ys q g2,c=(none,())/\st'=jB κ ys q g2/\ys.Perm arr/\eK lt ys 0 q.toList arr.size/\q.size+i<=arr.size)
      (Q:=fun c st'=>∃ ys q g2,c=(none,())/\st'=jB κ ys q g2/\ys.Perm arr/\eK lt ys 0 q.toList arr.size/\q.size<=1)
      ?step2 ?fin2 ⟨xs,p,g',rfl,rfl,q1,q3,by have:=kB q3;rw [Array.length_toList] at this;lia⟩) ?post2)
    case fin2 =>
      rintro c st' ⟨ys,q,g2,rfl,rfl,r1,r2,r3⟩;exact ⟨ys,q,g2,rfl,rfl,r1,r2,by lia⟩
    case step2 =>
      rintro j c st' _ hj ⟨ys,q,g2,rfl,rfl,r1,r2,r3⟩;refine wpS_bind (wpS_get ?_);have eq:pendingOf (jB κ ys q g2)=q:=rfl;rw [eq]
      by_cases d1:q.size<=1
      . rw [if_pos d1]
        exact wpS_pure ⟨ys,q,g2,rfl,rfl,r1,r2,d1⟩
      rw [if_neg d1];have hi':∀ (b:Prop) [Decidable b],(if b then q.size-2-1 else q.size-2)+1<q.size:=fun b _=>by split <;> lia
      refine wpS_bind (oX (st:=jB κ ys q g2) C (fun x hx=>hp x (r1.mem_iff.mp hx)) rfl rfl (by show arr.size<=ys.size;have:=r1.size_eq;lia) r2 (hi' _) fun xs3 p3 g3 b4 ns ch4=>?_)
      rw [if_neg (by decide)]
      have ns':p3.size+1=q.size:=ns;exact wpS_pure ⟨xs3,p3,g3,rfl,rfl,b4.pm.trans r1,ch4,by lia⟩
    case post2 =>
      rintro c st' ⟨ys,q,g2,rfl,rfl,r1,r2,r3⟩;refine wpS_pure (h ys q g2 r1 ?_);rw [← Array.length_toList] at r3;cases eq:q.toList with
      | nil =>
        rw [eq] at r2;have r2':0=arr.size:=r2;lia
      | cons a r =>
        rw [eq] at r2 r3;have er:r=[]:=by
          rw [lCq] at r3;exact List.length_eq_zero_iff.mp (by lia)
        subst er;obtain ⟨_,_,s3,e3⟩:=r2;have e3':0+a.2.1=arr.size:=e3;rw [e3'] at s3;exact s3
end
end MrS
namespace Xe
open PySem
end Xe
namespace Xe
open PySem
abbrev yM:List Value:=[.type "ValueError", .type "Exception", .type "BaseException", .type "object"]
end Xe
namespace Xe
open PySem
open Builtin Builtin.ObjectAttr
end Xe
namespace Xe
open PySem
open Builtin Builtin.ObjectAttr
end Xe
namespace Xe
open PySem
end Xe
namespace Mr
abbrev St:=L2.St
open PySem PySem.Spec PyProof.Rows L2
section
variable {X:Cx}{ab:List (Addr×Obj)}{σ:List (Option V)}{H H':Hp}{s:Shared}{h':Heap}
theorem B5 {t':Nat}{fp:List Addr}{T:Addr}{o:HO}(I:aO X ab σ H s) (k:∀ b u,b∉fp->s.heap.get? b=some u->h'.get? b=some u)
  (hf:∀ b∈fp,mU X ab H b) (hT:s.heap.objs.size<=T) (new:dJ X.prog X.w (cK H T o) h' T o):aO X ab σ (cK H T o) { s with heap:=h',toks:=t' }:=by
 have hn:H T=none:=I.hok.fresh hT;have nf:∀ b u,H b=some u->b∉fp:=fun b u e z=>by rw [(hf b z).1] at e;cases e
 refine I.step (g':=s.gens) (d':=s.drawn) (ch:=fp) (fun b hb=>?_) (fun b u _ _ hc e _=>k b u hc e) (fun b u _ _ hc e _=>⟨u.slots,k b u hc e⟩)
  (fun b u _ e n=>by rw [aR (Nat.ne_of_lt (Nat.lt_of_lt_of_le (Heap.lt_size e) hT))];exact n) (fun b u hc e=>⟨u,k b u hc e⟩)
  (fun b xs e=>by rw [aR (cO e hn)];exact e) (fun b u xs e=>by rw [aR (cO e hn)];exact e) (fun b ps e=>⟨#[],by rw [aR (cO e hn),e];simp⟩) (fun m hm=>?_) (fun b u e=>?_) I.bare
 .obtain ⟨_,f1,_,f3,f4,f5⟩:=hf b hb;exact ⟨f3,f1,f4,f5⟩
 .obtain ⟨u,es,ep,ho,r⟩:=hm;exact ⟨u,es,ep,k _ u (fun z=>(hf _ z).2.1 rfl) ho,r⟩
 .by_cases hb:b=T
  .subst hb;rw [bb] at e;cases e;exact new
  .rw [aR hb] at e;refine (I.hok b u e).stay (fun c v hc q=>k c v ?_ q) (fun c q=>by rw [aR (cO q hn)];exact q) fun c xs q=>by rw [aR (cO q hn)];exact q
   rcases hc with rfl|hc
   .exact nf _ u e
   .exact nf c _ hc
theorem Ei {t':Nat}{fp:List Addr}(I:aO X ab σ H s) (k:∀ b u,b∉fp->s.heap.get? b=some u->h'.get? b=some u)
  (hf:∀ b∈fp,mU X ab H b):aO X ab σ H { s with heap:=h',toks:=t' }:=by
 have nf:∀ b u,H b=some u->b∉fp:=fun b u e z=>by rw [(hf b z).1] at e;cases e
 refine I.step (g':=s.gens) (d':=s.drawn) (ch:=fp) (fun b hb=>?_) (fun b u _ _ hc e _=>k b u hc e) (fun b u _ _ hc e _=>⟨u.slots,k b u hc e⟩)
  (fun _ _ _ _ n=>n) (fun b u hc e=>⟨u,k b u hc e⟩) (fun _ _ e=>e) (fun _ _ _ e=>e) (fun b ps e=>⟨#[],by rw [e];simp⟩) (fun m hm=>?_) (fun b u e=>?_) I.bare
 .obtain ⟨_,f1,_,f3,f4,f5⟩:=hf b hb;exact ⟨f3,f1,f4,f5⟩
 .obtain ⟨u,es,ep,ho,r⟩:=hm;exact ⟨u,es,ep,k _ u (fun z=>(hf _ z).2.1 rfl) ho,r⟩
 .refine (I.hok b u e).stay (fun c v hc q=>k c v ?_ q) (fun _ q=>q) fun _ _ q=>q
  rcases hc with rfl|hc
  .exact nf _ u e
  .exact nf c _ hc
end
def Ke (K:W.Frag) (a:Addr):It :=
  ⟨fun i H=>∃ xs x,eJ K H a xs/\xs[i]?=some x,
   fun i H v H'=>∃ T x,H T=none/\v = .ref T/\H'=cK H T (.tup [.int i,x])/\∀ xs,eJ K H a xs->xs[i]?=some x,
   fun i H=>∃ xs,eJ K H a xs/\xs.length<=i⟩
theorem Ay {P:Program}{w:World}{K:W.Frag}{elts:List Expr}{k:Nat}{pos:Pos}(a e it:Addr) (hne:e≠it) :
  Am P w K (.Tuple elts k pos) (Ke K a) [e,it] e (fun i h=>(∃ old,IsEnum h e it i old)/\h.IsListIter it a i) where
 mem:=by simp
 obj:=fun i h st b hb=>by
  obtain ⟨⟨old,he⟩,o,ho,_,d⟩:=st;rcases List.mem_cons.mp hb with rfl|hb
  .exact ⟨_,he,fun v z=>by
    have z':Data.fields _=Data.cell v:=z;cases z'⟩
  .have e:b=it:=by simpa using hb
   subst e;exact ⟨o,ho,fun v z=>by rw [d] at z;cases z⟩
 keep:=fun i h h' st kp=>by
  obtain ⟨⟨old,he⟩,hit⟩:=st;exact ⟨⟨old,kp e (by simp) _ he⟩,hit.at fun o q=>kp it (by simp) o q⟩
 item:=by
  intro X hP hw hK hc i ab s σ H E I hf st hg;subst hP hw hK;obtain ⟨xs,x,hq,hx⟩:=hg;obtain ⟨its,rv,p,hz⟩:=I.list hq;obtain ⟨u,hu,ru⟩:=rv.get hx;obtain ⟨⟨old,he⟩,hit⟩:=st;have hil:it<s.heap.objs.size:=by obtain ⟨_,q,_⟩:=hit;exact Heap.lt_size q
  have hel:e<s.heap.objs.size:=Heap.lt_size he;refine wpAny_pyNext_enum_item he hit p.isList (x:=u) (by simpa using hu) hne fun h1 he1 hit1 ht1 hz1 hk1=>⟨_,rfl,?_⟩
  refine wpAny_letOwnedTupleGo_enum he1 fun h2 he2 hs2=>?_
  replace hs2:Heap.SameBut e h1 h2:=hs2;have hn:H s.heap.objs.size=none:=I.hok.fresh (Nat.le_refl _);refine ⟨.ref s.heap.objs.size,cK H s.heap.objs.size (.tup [.int i,x]),?_,rfl,⟨_,x,hn,rfl,rfl,fun ys hy=>by rw [I.list_inj hy hq];exact hx⟩,⟨⟨_,by simpa using he2⟩,hit1.extBut hs2.extBut (Ne.symm hne)⟩,fun b hb=>?_⟩
  .show L2.aO X ab σ _ { s with heap:=h2,toks:=s.toks+1 }
   refine B5 (s:=s) (fp:=[e,it]) I (fun b o hb q=>?_) hf (Nat.le_refl _) ⟨by simp only [lCq,List.length_nil];rw [sizeLine_eq];decide,[.int i s.toks,u],.cons ⟨_,rfl⟩ (.cons ru .nil),_,hs2.extBut _ _ (Nat.ne_of_gt hel) ht1,rfl,_,rfl⟩
   have b1:b≠e:=fun z=>hb (by simp [z])
   exact hs2.extBut b o b1 (hk1 b o b1 (fun z=>hb (by simp [z])) q)
  .have hb2:b<s.heap.objs.size:=by
    rcases List.mem_cons.mp hb with rfl|hb
    .exact hel
    .have e:b=it:=by simpa using hb
     subst e;exact hil
   rw [aR (Nat.ne_of_lt hb2)];exact (hf b hb).1
 done:=by
  intro X hP hw hK hc i ab s σ H E I hf st hg;subst hP hw hK;obtain ⟨xs,hq,hx⟩:=hg;obtain ⟨its,rv,p,hz⟩:=I.list hq;obtain ⟨⟨old,he⟩,hit⟩:=st;have hl:=rv.length;exact wpAny_pyNext_enum_end (I.ok.hd hc) he hit p.isList (by simp;lia) fun h1 eb=>⟨rfl,Ei (t':=s.toks) (fp:=[e,it]) I (fun b o hb q=>eb b o (fun z=>hb (by simp [z])) q) hf⟩
 self:=fun _ _ _ _ _ st h=>by
  obtain ⟨⟨old,he⟩,_⟩:=st;exact wpAny_pyIter_enum he h
section
variable {X:Cx}{elts:List Expr}{kk:Nat}{tpos:Pos}
def Bu (K:W.Frag) (ta:TA):TI:=fun σ H R=>ta σ H fun vs H1=>∃ a,vs=[.ref a]/\(∃ xs,eJ K H1 a xs)/\R (Ke K a) H1
theorem iz {e:Expr}{ta:TA}{p pos:Pos}(hg:Gl X "enumerate") (hm:X.mg "enumerate" = none) (ha:PA X [e] ta) (hs:starEach [e] X.env=[(false,eval e X.env)]:=by rfl) :
  PI X (.Tuple elts kk tpos) (.Call (.Name "enumerate" p) [e] [] pos) (Bu X.K ta):=by
 intro ab s σ H R I h;refine Call_ (gu I hg hm boot_enumerate (PyProof.Rows.callWith_type1 (cP (ha pos ab s σ H _ I h) fun us s1 hz1=>?_) hs rfl))
 obtain ⟨vs,H1,I1,r1,q1⟩:=hz1;obtain ⟨a,e1,⟨xs,hq⟩,q⟩:=q1;subst e1;obtain ⟨u,rfl,ru⟩:=kx r1;cases ru;obtain ⟨its,rv,p1,hz⟩:=I1.list hq;refine call_enumerate_list p1.isList fun g he hit hsz hk=>wpAny_pyIter_enum he ?_
 refine ⟨s1.heap.objs.size+1,[s1.heap.objs.size+1,s1.heap.objs.size],_,_,H1,rfl,I1.kept (t':=s1.toks) hk,Ay a _ _ (Nat.succ_ne_self _),⟨⟨_,he⟩,hit⟩,fun b hb=>?_,q⟩
 have hb2:s1.heap.objs.size<=b:=by
  simp only [List.mem_cons,List.not_mem_nil,or_false] at hb;rcases hb with rfl|rfl
  .exact Nat.le_succ _
  .exact Nat.le_refl _
 exact I1.fpOk hb2 (I1.hok.fresh hb2)
end
theorem C8 {K:W.Frag}{a:Addr}{xs:List V}{i1 i2:Nat}{tb:TS}{D:pH}{σ:St}{H:Hp}(Pv:Nat->St->Hp->Prop) (h0:Pv 0 σ H) (hl:∀ i σ H,i<=xs.length->Pv i σ H->eJ K H a xs)
  (hs:∀ i x σ H T,xs[i]?=some x->Pv i σ H->H T=none->tb { D with nx:=Pv (i+1),ct:=Pv (i+1),bk:=D.nx } ((σ.set i1 (some (.int i))).set i2 (some x)) (cK H T (.tup [.int i,x]))) (hd:∀ σ H,Pv xs.length σ H->D.nx σ H) :
  ∃ W:Nat->Nat->St->Hp->Prop,(∃ m,W 0 m σ H)/\∀ i m σ H,W i m σ H ->
   ((Ke K a).stop i H/\D.nx σ H)∨((Ke K a).go i H/\∃ N:St->Hp->Prop,(∀ σ' H',N σ' H'->∃ m',m'<m/\W (i+1) m' σ' H')/\∀ x H',(Ke K a).yld i H x H'->EJ K 2 (qP (gQ i1) (qP (gQ i2) Ed)) x σ H' fun σ2 H2=>tb { D with nx:=N,ct:=N,bk:=D.nx } σ2 H2):=by
 refine ⟨fun i m σ H=>m=xs.length-i/\i<=xs.length/\Pv i σ H,⟨xs.length,by simp,Nat.zero_le _,h0⟩,?_⟩
 rintro i m σ H ⟨rfl,hi,p⟩;have q:=hl i σ H hi p
 by_cases hlt:i<xs.length
 .refine .inr ⟨⟨xs,xs[i],q,by simp [hlt]⟩,Pv (i+1),fun σ' H' p'=>⟨xs.length-(i+1),by lia,rfl,hlt,p'⟩,fun v H' y=>?_⟩
  obtain ⟨T,x,hT,rfl,rfl,hx⟩:=y;exact ⟨T,_,rfl,oG.of bb,rfl,_,_,rfl,_,_,rfl,rfl,hs i x σ H T (hx xs q) p hT⟩
 .have e:i=xs.length:=by lia
  subst e;exact .inl ⟨⟨xs,q,Nat.le_refl _⟩,hd σ H p⟩
section
variable {X:Cx}
theorem nA {ab:List (Addr×Obj)}{σ:St}{H:Hp}{s:Shared}{a:Addr}{ns:List Int}(I:aO X ab σ H s) (h:eJ X.K H a (ns.map V.int)) :
  ∃ vs:List Value,s.heap.IsList a vs.toArray/\IntsAre vs ns/\ns.length<=sizeLine:=by
 obtain ⟨its,r,p,z⟩:=I.list h;rw [lMq] at z;exact ⟨its,p.isList,mB r,z⟩
theorem AQ (hc:X.calm=true):fq X (.builtin "min") (fun xs H Q=>∃ (a:Addr) (ns:List Int),xs=[.ref a]/\eJ X.K H a (ns.map V.int)/\0<ns.length/\∀ M,M∈ns->(∀ x,x∈ns->M<=x)->Q (.int M) H):=by
 intro ab s σ H xs us Q I r h;obtain ⟨a,ns,rfl,hS,hne,q⟩:=h;obtain ⟨u,rfl,ru⟩:=kx r;cases ru;obtain ⟨vs,hl,hi,_⟩:=nA I hS;obtain ⟨xs,e⟩:=hi.allInts.items;have hns:ns=xs.toList.map (·.1):=by
  rw [← hi.numsOf,← nums_intItems,← e]
 have hsz:0<xs.size:=by
  have h3:=hne;rw [hns,lMq,Array.length_toList] at h3;exact h3
 rw [e] at hl;refine min_intList (I.ok.hd hc) hl hsz fun v h' tk hv hk=>?_
 obtain ⟨t,rfl⟩:=intItems_at hv;obtain ⟨h1,h2⟩:=argBest_lt (numAt xs) (xs.size-1);refine ⟨.int _,H,I.kept hk,⟨t,rfl⟩,q _ ?_ fun x hx=>?_⟩
 .rw [hns,numAt_eq];exact PySem.getD_mem (by rw [lMq,Array.length_toList];lia)
 .rw [hns] at hx;obtain ⟨j,hj,rfl⟩:=PySem.mem_getD hx;rw [lMq,Array.length_toList] at hj;rw [← numAt_eq];exact h2 j (by lia)
def CU (K:W.Frag):V->List V->Hp->VK->Prop:=fun x vs H Q=>∃ (a:Addr) (ns:List Int) (k:Int),x = .ref a/\vs=[.int k]/\eJ K H a (ns.map V.int)/\k∈ns/\Q (.int (ns.idxOf k:Nat)) H
theorem vp:KG X "list.index" (CU X.K):=by
 intro ab s σ H x xs v us Q I rx r h;obtain ⟨a,ns,k,rfl,rfl,hS,hk,q⟩:=h;cases rx;obtain ⟨u,rfl,t,rfl⟩:=kx r;obtain ⟨its,rv,⟨o,n,ho,hc,hd0,hd⟩,hz⟩:=I.list hS;have hi:=mB rv;obtain ⟨cls,dd,data,sl⟩:=o;simp only at hc hd0 hd;subst hc hd0 hd;have hlen:=hi.length;have hj:ns.idxOf k<ns.length:=List.idxOf_lt_length_iff.mpr hk;have hs:sizeLine=16777216:=sizeLine_eq;rw [lMq] at hz;refine call_meets PySem.F.slot_list_index ⟨_,ho,rfl⟩ PySem.F.entry_list_index (PySem.F.args_list_index_2 _ _)
  (SeqAt.list_indexAt a its.toArray n none sl (.int k t) (isInt k) (ns.idxOf k) (by simpa [hlen] using hj) (by lia) ?_ ?_) ⟨ho,fun y hy=>(eq_isInt k t hi y (by simpa using hy)).at _ _,?_⟩
 .show isInt k its[ns.idxOf k]=true;rw [isInt_at k hi _ (by lia) hj]
  simpa using List.getElem_idxOf hj
 .intro j hjs hlt;show isInt k its[j]=false;rw [isInt_at k hi j (by simpa using hjs) (by lia)]
  exact ne_of_lt_idxOf hlt _
 .exact ⟨.int _,H,I.tok _,⟨_,rfl⟩,q⟩
def Ff (K:W.Frag) (x:V) (H:Hp) (T:String) (b:Bool):Prop :=
 match x with
 | .int _=>(T = "int" /\ b=true)∨(T = "bool" /\ b=false)
 | .bl _=>(T = "bool" /\ b=true)∨(T = "int" /\ b=true)
 | .str _=>T = "str" /\ b=true
 | .ref p=>(T = "list" /\ b=true/\∃ xs,eJ K H p xs)∨(T = "dict" /\ b=true/\∃ kvs,H p=some (.dK kvs))∨(T = "tuple" /\ b=true/\∃ xs,oG K H p xs)
 | _=>False
theorem fG:fq X (.builtin "isinstance") (fun xs H Q=>∃ x T b,xs=[x,.ty T]/\Ff X.K x H T b/\Q (.bl b) H):=by
 intro ab s σ H xs us Q I r h;obtain ⟨x,T,b,rfl,e,q⟩:=h;obtain ⟨u,v,rfl,rx,rT⟩:=zB r;cases rT;cases x with
 | int i =>
  obtain ⟨t,rfl⟩:=rx;rcases e with ⟨rfl,rfl⟩|⟨rfl,rfl⟩
  .exact call_isinstance (isinstance_true (Tx := "int") F.isi_meta_int F.sub_int_int) ⟨(show s.TypeIs (.int i t) "int" from rfl),⟨.bl true,H,I,rfl,q⟩⟩
  .exact call_isinstance (isinstance_false_int (by decide +kernel) F.isi_meta_bool F.sub_int_bool) (show EP X ab σ Q (.bool false) { s with toks:=s.toks+1 } from ⟨.bl false,H,I.tok _,rfl,q⟩)
 | bl i =>
  cases rx;rcases e with ⟨rfl,rfl⟩|⟨rfl,rfl⟩
  .exact call_isinstance (isinstance_true (Tx := "bool") F.isi_meta_bool F.sub_bool_bool) ⟨(show s.TypeIs (.bool i) "bool" from rfl),⟨.bl true,H,I,rfl,q⟩⟩
  .exact call_isinstance (isinstance_true (Tx := "bool") F.isi_meta_int F.sub_bool_int) ⟨(show s.TypeIs (.bool i) "bool" from rfl),⟨.bl true,H,I,rfl,q⟩⟩
 | str i =>
  obtain ⟨t,rfl⟩:=rx;obtain ⟨rfl,rfl⟩:=e;exact call_isinstance (isinstance_true (Tx := "str") F.isi_meta_str F.sub_str_str) ⟨(show s.TypeIs (.str i t) "str" from rfl),⟨.bl true,H,I,rfl,q⟩⟩
 | ref p =>
  cases rx;rcases e with ⟨rfl,rfl,xs,hS⟩|⟨rfl,rfl,kvs,hp⟩|⟨rfl,rfl,xs,hS⟩
  .obtain ⟨its,rv,pl,hz⟩:=I.list hS;exact call_isinstance (isinstance_true (Tx := "list") F.isi_meta_list (by rw [isSubtype_type];kernel_rfl)) ⟨pl.isList.typeIs,⟨.bl true,H,I,rfl,q⟩⟩
  .have ty:s.TypeIs (.ref p) "dict" := (Ho I (.inl ⟨kvs,.inl hp⟩)).1;exact call_isinstance (isinstance_true (Tx := "dict") F.isi_meta_dict (by rw [isSubtype_type];kernel_rfl)) ⟨ty,⟨.bl true,H,I,rfl,q⟩⟩
  .obtain ⟨its,rv,⟨o,ho,hc,_⟩,hz⟩:=I.tuple hS;exact call_isinstance (isinstance_true (Tx := "tuple") F.isi_meta_tuple (by rw [isSubtype_type];kernel_rfl)) ⟨⟨o,ho,hc⟩,⟨.bl true,H,I,rfl,q⟩⟩
 | _=>exact (show False from e).elim
end
end Mr
namespace Mr
open PySem L2
structure lH (K:W.Frag) (mg:Str->Option Value) (x:Str) (st:Stmt) (ps:List Str) (f:Addr) (fd:FuncData):Prop where
 F:Gd K x x st f fd
 m:mg x=some (.ref f)
 b:jY K fd ps []
theorem gV {H:Hp}{p:Addr}{o:HO}(h:H p=none):bS H (cK H p o):=fun b u e=>by
 rw [aR (cO e h)];exact e
end Mr
namespace Mr
open PySem PySem.Spec PyProof.Rows L2
theorem oW {prog:Program}{w:World}{A:Around}{R:Result->Shared->Prop}{s:Shared}{elt target iter:Expr}{ifs:List Expr}{scope:Scope}{pos:Pos}{it acc:Value}{env:Env}(I:Nat->Shared->Prop)
  (turn:∀ n s,I n s->wpAny (model prog w) A (pyNext it) (fun r s₁=>match r with
   | none=>R (.ok .next) s₁
   | some v=>wpAny (model prog w) A (letOwnedTupleGo target it v) (fun _ s₂=>wpAny (model prog w) A (assign target env v) (fun _ s₃ =>
     wpAny (model prog w) A (forIn ifs true fun c r=>if r=true then do let ok ← isTrue c env (eval c env);pure (ForInStep.yield ok) else pure (ForInStep.yield r)) (fun ok s₄ =>
      if ok=true then wpAny (model prog w) A (eval elt env) (fun x s₅ =>
       wpAny (model prog w) A (call (.builtin "list.append") [acc,x]) (fun _ s₆=>∃ m,m<n/\I m s₆) (fun _ _=>False) s₅) (fun _ _=>False) s₄
      else ∃ m,m<n/\I m s₄) (fun _ _=>False) s₃) (fun _ _=>False) s₂) (fun _ _=>False) s₁) (fun _ _=>False) s)
  (n:Nat) (h:I n s):codeAny (model prog w) A (.compLoop (.ListComp elt [⟨target,iter,ifs,0⟩] scope pos) 0 it acc env) R s:=by
 refine codeAny_loop rfl I (fun n s hI=>?_) n h
 show wpAny _ A ((compTurn (.ListComp elt [⟨target,iter,ifs,0⟩] scope pos) 0 it acc env).onRaise (fun x=>do noteFrame x env;theTreesLotGoes x)) _ _ s
 refine wpAny_noted ?_;rw [compTurn_list];refine wpAny_bind (wpAny_standAt (wpAny_bind (wpAny_mono (turn n s hI) (fun r s₁ h₁=>?_) fun _ _ z=>z.elim)))
 cases r with
 | none=>exact wpAny_pure h₁
 | some v =>
  refine wpAny_bind (wpAny_mono h₁ (fun _ s₂ h₂=>?_) fun _ _ z=>z.elim)
  refine wpAny_bind (wpAny_mono h₂ (fun _ s₃ h₃=>?_) fun _ _ z=>z.elim)
  refine wpAny_bind (wpAny_mono h₃ (fun ok s₄ h₄=>?_) fun _ _ z=>z.elim)
  cases ok with
  | false=>exact wpAny_pure ⟨rfl,h₄⟩
  | true=>exact wpAny_bind (wpAny_bind (wpAny_mono h₄ (fun x s₅ h₅=>wpAny_bind (wpAny_mono h₅ (fun _ s₆ h₆=>wpAny_pure (wpAny_pure ⟨rfl,h₆⟩)) fun _ _ z=>z.elim)) fun _ _ z=>z.elim))
abbrev bU (X:Cx) (scope:Scope) (cl:List (Str×Addr)) (N:List Str) (C:Addr) (s:Shared) (H:Hp) (fp:List Addr):Cx where
 prog:=X.prog
 w:=X.w
 K:=X.K
 mg:=X.mg
 base:=X.base
 A:=X.A
 N:=N
 s₀:=s
 H₀:=H
 env:=compEnvC scope cl C X.env
 outer:=X.stack
 stack:=X.stack
 ex:=fp
 fn:=fun _=>false
 calm:=X.calm
 pn:=[]
 xe:=fun _ _=>False
def PF (X:Cx) (ifs:List Expr) (t:TT):Prop :=
 ∀ (ab:List (Addr×Obj)) (s:Shared) (σ:St) (H:Hp) (Q:Bool->Hp->Prop),aO X ab σ H s->t σ H Q ->
  wpAny (model X.prog X.w) X.A (forIn ifs true fun c r=>if r=true then do let ok ← isTrue c X.env (eval c X.env);pure (ForInStep.yield ok) else pure (ForInStep.yield r)) (TP X ab σ Q) X.xe s
def JZ:TT:=fun _ H Q=>Q true H
theorem rP {X:Cx}:PF X [] JZ:=fun _ _ _ H _ I h=>wpAny_tests_nil ⟨H,I,h⟩
theorem yn {X:Cx}{c:Expr}{t:TT}(h:PT X c t):PF X [c] t:=fun ab s σ H Q I q=>wpAny_tests_one (h ab s σ H Q I q)
structure iD (X:Cx) (scope:Scope) (cl:List (Str×Addr)) (x:Str) (N:List Str) (fr:List Nat):Prop where
 names:N.Nodup
 own:N[0]?=some x
 len:N.length=fr.length+1
 sub:∀ y c,cl.lookup y=some c->X.env.cells.lookup y=some c
 has:∀ y,((relabel scope X.env).names.lookup y=some .cell∨(relabel scope X.env).names.lookup y=some .free)->∃ c,cl.lookup y=some c
 get:∀ (k j:Nat) (y:Str),fr[k]?=some j->N[k+1]?=some y->X.N[j]?=some y/\X.env.scope.names.lookup y=some .cell/\(relabel scope X.env).names.lookup y=some .cell
theorem iD.none {X:Cx}{scope:Scope}{x:Str}(h:∀ p∈scope.names,p.2 ≠ .cell/\p.2 ≠ .free):iD X scope [] x [x] [] where
 names:=by simp
 own:=rfl
 len:=rfl
 sub:=fun y c e=>by cases e
 has:=fun y e=>by
  exfalso;have key:∀ p∈(relabel scope X.env).names,p.2 ≠ .cell/\p.2 ≠ .free:=by
   intro p hp;obtain ⟨q,hq,rfl⟩:=mMq.mp hp;obtain ⟨n,k⟩:=q;obtain ⟨h1,h2⟩:=h _ hq;have hk:(k == NameKind.free)=false:=by simpa using h2
   simp only [hk,Bool.false_and];exact ⟨h1,h2⟩
  rcases e with e|e
  .exact (key _ (PySem.mem_of_lookup e)).1 rfl
  .exact (key _ (PySem.mem_of_lookup e)).2 rfl
 get:=fun k j y e _=>by cases e
def slots (σ:St) (fr:List Nat):St:=fr.map fun j=>(σ[j]?).join
def za (wi:TI) (fr:List Nat) (tf:TT) (te:TE):TE:=fun σ H Q=>wi σ H fun J H1=>∀ acc,H1 acc=none->∃ W:Nat->Nat->Hp->Prop,(∃ m,W 0 m (cK H1 acc (.lst [])))/\∀ i m H,W i m H ->
 (J.stop i H/\Q (.ref acc) H) ∨
 (J.go i H/\∃ N:Hp->Prop,(∀ H',N H'->∃ m',m'<m/\W (i+1) m' H')/\∀ x H',J.yld i H x H'->tf (some x::slots σ fr) H' fun b H2 =>
  if b=true then te (some x::slots σ fr) H2 fun y H3=>∃ ys,H3 acc=some (.lst ys)/\ys.length<sizeLine/\N (cK H3 acc (.lst (ys++[y]))) else N H2)
section
variable {X:Cx}{scope:Scope}{cl:List (Str×Addr)}{N:List Str}{fr:List Nat}{x:Str}{px pos:Pos}{elt iter:Expr}{ifs:List Expr}{tf:TT}{te:TE}
theorem qw {ab:List (Addr×Obj)}{σ:St}{H:Hp}{s:Shared}{E:Value->Shared->Prop}{J:It}{fp:List Addr}{it:Addr}{tn:Nat->Heap->Prop}{RR:Value->Addr->Result->Shared->Prop}{Q:VK}
  (hc:X.calm=true) (hcell:∀ y∈scope.names,y.2 ≠ .cell) (hkind:scope.kind = .function) (hx:scope.names.lookup x=some .local) (hF:iD X scope cl x N fr)
  (hf:∀ C s H fp,PF (bU X scope cl N C s H fp) ifs tf) (he:∀ C s H fp,PE (bU X scope cl N C s H fp) elt te)
  (I:aO X ab σ H s) (T:Am X.prog X.w X.K (.Name x px) J fp it tn) (st:tn 0 s.heap) (fpo:∀ b∈fp,mU X ab H b)
  (h:∀ acc,H acc=none->∃ W:Nat->Nat->Hp->Prop,(∃ m,W 0 m (cK H acc (.lst [])))/\∀ i m H,W i m H ->
   (J.stop i H/\Q (.ref acc) H) ∨
   (J.go i H/\∃ N:Hp->Prop,(∀ H',N H'->∃ m',m'<m/\W (i+1) m' H')/\∀ x H',J.yld i H x H'->tf (some x::slots σ fr) H' fun b H2 =>
    if b=true then te (some x::slots σ fr) H2 fun y H3=>∃ ys,H3 acc=some (.lst ys)/\ys.length<sizeLine/\N (cK H3 acc (.lst (ys++[y]))) else N H2))
  (fin:∀ acc C s' Hf m,aO X ab σ Hf s'->s'.heap.Ns C m->mU X ab Hf C->Q (.ref acc) Hf->RR (.ref acc) C (.ok .next) s') :
  wpAny (model X.prog X.w) X.A (newList []) (fun acc s₃=>wpAny (model X.prog X.w) X.A (newFunctionEnv scope X.env.globals cl [] X.env.qual none .none (some X.env)) (fun cenv s₄ =>
   codeAny (model X.prog X.w) X.A (.compStart (.ListComp elt [⟨.Name x px,iter,ifs,0⟩] scope pos) 0 (.ref it) acc { cenv with scope:=relabel scope X.env }) (RR acc cenv.locals) s₄) E s₃) E s:=by
 refine wpAny_newObj_type (wpAny_newFunctionEnv hcell (by intro y hy;simp at hy) (fun h₁ hns₁ hsb₁=>?_) hkind)
 dsimp only at hns₁ hsb₁ ⊢;generalize hG:s.heap.push { cls:=.type "list", dict:=none,data:=.seq ([]:List Value).toArray }=G at hns₁ hsb₁ ⊢;have hC:G.objs.size=s.heap.objs.size+1:=by rw [← hG,Heap.size_push]
 have hCle:s.heap.objs.size<=G.objs.size:=by rw [hC];exact Nat.le_succ _
 have hDC:s.heap.objs.size≠G.objs.size:=by rw [hC];exact Nat.ne_of_lt (Nat.lt_succ_self _)
 have below:∀ b,b<s.heap.objs.size->b≠G.objs.size:=fun b hb=>by rw [hC];exact Nat.ne_of_lt (Nat.lt_succ_of_lt hb)
 have old:∀ b o,s.heap.get? b=some o->h₁.get? b=some o:=fun b o e=>hsb₁.extBut b o (below b (Heap.lt_size e)) (Heap.get?_push_of_some _ (hG ▸ Heap.get?_push_of_some _ e))
 have hacc:h₁.get? s.heap.objs.size=some { cls:=.type "list", data:=.seq ([]:List Value).toArray }:=hsb₁.extBut _ _ hDC (Heap.get?_push_of_some _ (hG ▸ Heap.get?_push_size _ rfl));have hn:H s.heap.objs.size=none:=I.hok.fresh (Nat.le_refl _);have hnC:H G.objs.size=none:=I.hok.fresh hCle;have fpl:∀ b∈fp,b<s.heap.objs.size:=fun b hb=>by
  obtain ⟨o,q,_⟩:=T.obj 0 _ st b hb;exact Heap.lt_size q
 obtain ⟨W,⟨m0,w0⟩,turn⟩:=h _ hn;have ok':(bU X scope cl N G.objs.size s H fp).Ok:=by
  refine ⟨I.ok.mod,by show (relabel scope X.env).kind = .function;exact hkind,I.ok.glob,I.ok.blt,hCle,fun y z c h1 h2=>I.ok.inj y z c (hF.sub y c h1) (hF.sub z c h2),hF.has,fun _ _ z _=>(by cases z),I.ok.hd,I.ok.frames,.inl rfl,
   fun b hb=>⟨below b (fpl b hb),fun y c e=>(fpo b hb).2.2.2.2.1 y c (hF.sub y c e)⟩,fun b o e=>⟨(I.bs b o e).1,(I.bs b o e).2⟩,Nat.le_trans I.ok.bsz I.sz,fun b o e hb=>?_,fun b hb z=>?_,I.stack,I.stkFree⟩
  .rcases (fpo b hb).2.2.2.1 with q|q
   .exact I.ok.noex b o e q
   .exact absurd (Nat.lt_of_lt_of_le (Heap.lt_size (I.ok.bs b o e).1) q) (Nat.lt_irrefl _)
  .rcases List.mem_cons.mp (I.stkSub b z) with q|q
   .exact (fpo b hb).2.1 q
   .exact (fpo b hb).2.2.1 q
 have I0:aO (bU X scope cl N G.objs.size s H fp) [] (none::slots σ fr) (cK H s.heap.objs.size (.lst [])) { s with heap:=h₁,toks:=s.toks+([]:List (Str×Value)).length }:=by
  have hok1:mF X.prog X.w (cK H s.heap.objs.size (.lst [])) h₁:=I.hok.laid old (Nat.le_refl _) ⟨Nat.zero_le _,[],0,.nil,hacc⟩;refine ⟨ok',rfl,I.bare,Un.laid old (Nat.le_refl _) hn,⟨_,hns₁,fun k y v e1 e2 e3=>?_⟩,fun y c e=>?_,?_,fun y c e=>?_,fun p hp=>absurd (show p∈([]:List (Addr×Obj)) from hp) (by simp),hok1,?_⟩
  .cases k with
   | zero=>cases e2
   | succ k =>
    have e2':(slots σ fr)[k]?=some (some v):=e2;unfold slots at e2';rw [gMq] at e2';cases ej:fr[k]? with
    | none=>rw [ej] at e2';cases e2'
    | some j =>
     rw [ej] at e2';have e2j:(σ[j]?).join=some v:=Option.some.inj e2';have e2s:σ[j]?=some (some v):=by
      cases q:σ[j]? with
      | none=>rw [q] at e2j;cases e2j
      | some z=>rw [q] at e2j;exact congrArg some e2j
     obtain ⟨g1,g2,g3⟩:=hF.get k j y ej e1;obtain ⟨m,_,hl⟩:=I.loc;obtain ⟨u,r,l⟩:=hl j y v g1 e2s (.inr (.inl g2));refine ⟨u,r,.inr ⟨.inl g3,?_⟩⟩;obtain ⟨c,e⟩:=hF.has y (.inl g3);have e':=hF.sub y c e;rcases l with ⟨l1,_⟩|⟨_,c',ec,hcell'⟩
     .have l1':X.env.scope.names.lookup y=some .local:=l1;rw [g2] at l1';cases l1'
     .rw [e'] at ec;cases ec;obtain ⟨o,ho,hd⟩:=hcell';exact ⟨c,e,o,old c o ho,hd⟩
  .obtain ⟨v,o,ho,hd⟩:=I.cell y c (hF.sub y c e);exact ⟨v,o,old c o ho,hd⟩
  .show cK H s.heap.objs.size (.lst []) G.objs.size=none;rw [aR (Ne.symm hDC)];exact hnC
  .obtain ⟨v,o,ho,hd⟩:=I.cell y c (hF.sub y c e);rw [aR (Nat.ne_of_lt (Heap.lt_size ho))];exact I.freeC y c (hF.sub y c e)
  .show (none::slots σ fr).length=N.length;rw [hF.len,lCq];unfold slots;rw [lMq]
 have HP:tn 0 h₁:=T.keep 0 _ _ st fun b _ o e=>old b o e
 have nd:N.Nodup:=hF.names;have nf0:∀ b∈fp,cK H s.heap.objs.size (.lst []) b=none:=fun b hb=>by
  rw [aR (Nat.ne_of_lt (fpl b hb))];exact (fpo b hb).1
 have stat:∀ {H':Hp},(∀ b∈fp,H' b=none)->∀ b∈fp,mU (bU X scope cl N G.objs.size s H fp) [] H' b:=fun hn' b hb =>
  ⟨hn' b hb,below b (fpl b hb),ok'.exfs b hb,.inl hb,fun y c e=>(ok'.exf b hb).2 y c e,fun p hp=>absurd (show p∈([]:List (Addr×Obj)) from hp) (by simp)⟩
 have loop:∀ s₃:Shared,s₃={ s with heap:=h₁,toks:=s.toks+([]:List (Str×Value)).length } ->
   codeAny (model X.prog X.w) X.A (.compLoop (.ListComp elt [⟨.Name x px,iter,ifs,0⟩] scope pos) 0 (.ref it) (.ref s.heap.objs.size) (compEnvC scope cl G.objs.size X.env)) (RR (.ref s.heap.objs.size) G.objs.size) s₃:=by
  rintro s₃ rfl;refine oW (fun n s'=>∃ i v0 H',aO (bU X scope cl N G.objs.size s H fp) [] (v0::slots σ fr) H' s'/\tn i s'.heap/\(∀ b∈fp,H' b=none)/\W i n H') ?_ m0 ⟨0,none,_,I0,HP,nf0,w0⟩
  rintro n s4 ⟨i,v0,H4,I4,Gu,nf4,w4⟩;rcases turn i n H4 w4 with ⟨stop,q⟩|⟨go,Nx,hNx,step⟩
  .refine cP (T.done (bU X scope cl N G.objs.size s H fp) rfl rfl rfl hc i [] s4 (v0::slots σ fr) H4 (fun _ _=>False) I4 (stat nf4) Gu stop) fun r s5 hz1=>?_
   obtain ⟨hr,I5⟩:=hz1;subst hr;obtain ⟨m,hm,_⟩:=I5.loc;have I6:aO X ab σ H4 s5:=I.call' (ch:=fp) I5.os I5.base I5.hok I5.bare fun b hb=>⟨(fpo b hb).2.2.2.1,(fpo b hb).2.1,(fpo b hb).2.2.2.2.1,(fpo b hb).2.2.2.2.2⟩
   exact fin _ _ s5 H4 m I6 hm (I.fpOk hCle I5.free) q
  .refine cP (T.item (bU X scope cl N G.objs.size s H fp) rfl rfl rfl hc i [] s4 (v0::slots σ fr) H4 (fun _ _=>False) I4 (stat nf4) Gu go) fun r s5 hz1=>?_
   obtain ⟨u,hr,h5⟩:=hz1;subst hr;refine cP h5 fun _ s6 hz1=>?_
   obtain ⟨y,H6,I6,r6,y6,st6,nf6⟩:=hz1;have I6':=I6.pinned (stat nf6) (T.obj _ _ st6);have pg:PG (bU X scope cl N G.objs.size s H fp) (.Name x px) (gQ 0):=aZ nd hF.own (.inl (lookup_relabel_local hx)) (.inr (lookup_relabel_local hx));refine cP (pg _ s6 (v0::slots σ fr) H6 y u (fun σ2 H2=>σ2=some y::slots σ fr/\H2=H6) I6' r6 ⟨rfl,rfl⟩) fun _ s7 hz1=>?_
   obtain ⟨σ7,H7,I7,e7,e8⟩:=hz1;subst e7 e8;refine cP (hf _ _ _ _ _ s7 _ _ _ I7 (step y _ y6)) fun b s8 hz1=>?_
   obtain ⟨H8,I8,q8⟩:=hz1;have again:∀ {s9:Shared}{H9:Hp},aO (bU X scope cl N G.objs.size s H fp) ([]++nR fp s6.heap) (some y::slots σ fr) H9 s9->Nx H9->∃ m,m<n/\∃ i v0 H',aO (bU X scope cl N G.objs.size s H fp) [] (v0::slots σ fr) H' s9/\tn i s9.heap/\(∀ b∈fp,H' b=none)/\W i m H':=fun {s9 H9} I9 n9=>by
    obtain ⟨m',hm,w9⟩:=hNx H9 n9;refine ⟨m',hm,i+1,some y,H9,I9.unpinned,T.keep _ _ _ st6 fun b hb o e=>(I9.pin (b,o) (List.mem_append_right _ (List.mem_append_right _ (fX hb e)))).1,fun b hb=>?_,w9⟩
    obtain ⟨o,e,d⟩:=T.obj _ _ st6 b hb;exact (I9.pin (b,o) (List.mem_append_right _ (List.mem_append_right _ (fX hb e)))).2.1
   cases b with
   | false=>exact again I8 q8
   | true =>
    refine cP (he _ _ _ _ _ s8 _ _ _ I8 q8) fun z s9 hz1=>?_
    obtain ⟨zv,H9,I9,r9,ys,a9,l9,n9⟩:=hz1;refine cP (dh (X:=bU X scope cl N G.objs.size s H fp) _ s9 _ H9 (.ref s.heap.objs.size) [zv] (.ref s.heap.objs.size) [z] (fun _ H'=>H'=cK H9 s.heap.objs.size (.lst (ys++[zv]))) I9 rfl (.cons r9 .nil) ⟨_,ys,zv,rfl,rfl,a9,l9,rfl⟩) fun _ s10 hz1=>?_
    obtain ⟨_,H10,I10,_,e10⟩:=hz1;subst e10;exact again I10 n9
 exact codeAny_compStart_list (loop _ rfl) (T.self X.A 0 _ _ _ HP (loop _ rfl))
theorem pZ {wi:TI}(hc:X.calm=true) (hclos:closureFor scope X.env=pure cl) (hcell:∀ y∈scope.names,y.2 ≠ .cell) (hkind:scope.kind = .function) (hnames:∀ y∈scope.names,y.2 = .local->scope.names.lookup y.1=some .local)
  (hx:scope.names.lookup x=some .local) (hF:iD X scope cl x N fr) (hi:PI X (.Name x px) iter wi) (hf:∀ C s H fp,PF (bU X scope cl N C s H fp) ifs tf) (he:∀ C s H fp,PE (bU X scope cl N C s H fp) elt te)
  (hs:∀ x,foldedSetIterable iter X.env x=pure x:=by intro _;rfl):PE X (.ListComp elt [⟨.Name x px,iter,ifs,0⟩] scope pos) (za wi fr tf te):=by
 intro ab s σ H Q I h;rw [eval_ListComp];refine wpAny_comprehension_free (use:=none) rfl hs hclos hkind hnames (cP (hi ab s σ H _ I h) fun v s1 h1=>cP h1 fun itv s2 h2=>?_)
 obtain ⟨it,fp,tn,J,H2,e,I2,T,mI,f2,q2⟩:=h2;subst e;refine qw (RR:=fun acc C=>compPost (model X.prog X.w) X.A X.xe none (EP X ab σ Q) acc C) hc hcell hkind hx hF hf he I2 T mI f2 q2 ?_
 intro acc C s' Hf m I' hm fC q;refine ⟨m,hm,fun h' sb=>⟨.ref acc,Hf,?_,rfl,q⟩⟩
 exact I'.turned (t':=s'.toks) (fun b o hb e=>(sb.2 b hb).trans e) fC.1 fC.2.1 fC.2.2.2.1 fC.2.2.2.2.1 fC.2.2.2.2.2
theorem uM {wi:TI}{y:Str}{i:Nat}{py spos:Pos}(hc:X.calm=true) (hN:X.N.Nodup) (KP:X.N[i]?=some y) (hy:IM X.env.scope y) (hclos:closureFor scope X.env=pure cl) (hcell:∀ y∈scope.names,y.2 ≠ .cell) (hkind:scope.kind = .function)
  (hnames:∀ y∈scope.names,y.2 = .local->scope.names.lookup y.1=some .local)
  (hx:scope.names.lookup x=some .local) (hF:iD X scope cl x N fr) (hi:PI X (.Name x px) iter wi) (hf:∀ C s H fp,PF (bU X scope cl N C s H fp) ifs tf) (he:∀ C s H fp,PE (bU X scope cl N C s H fp) elt te)
  (hsw:swapsWith (.ListComp elt [⟨.Name x px,iter,ifs,0⟩] scope pos) (some (.Name y py)) spos.line X.env=pure true:=by rfl) (hs:∀ x,foldedSetIterable iter X.env x=pure x:=by intro _;rfl)
  (hfn:X.fn y=true∨X.env.scope.names.lookup y=some .local:=by first|exact .inl rfl|exact .inr rfl|assumption) :
  PS X (.Assign [.Name y py] (.ListComp elt [⟨.Name x px,iter,ifs,0⟩] scope pos) spos) (zU (za wi fr tf te) (gQ i)):=by
 intro ab s σ H D I h;rw [exec_Assign_Name_used _ _ _ _ hsw];refine wpAny_bind (wpAny_standAt (wpAny_bind ?_));show wpAny _ X.A (do let _ ← comprehension (.ListComp elt [⟨.Name x px,iter,ifs,0⟩] scope pos) scope X.env _ (newList []) false (eval iter X.env) (some (assign (.Name y py) X.env))) _ _ s
 refine wpAny_bind (wpAny_mono (wpAny_comprehension_free (use:=some (assign (.Name y py) X.env)) (Q:=fun _ s'=>SP X ab D .next s') rfl hs hclos hkind hnames
  (cP (hi ab s σ H _ I h) fun v s1 h1=>cP h1 fun itv s2 h2=>?_)) (fun _ s' hq=>wpAny_pure (wpAny_pure hq)) fun _ _ e=>e)
 obtain ⟨it,fp,tn,J,H2,e,I2,T,mI,f2,q2⟩:=h2;subst e;refine qw (RR:=fun acc C=>compPost (model X.prog X.w) X.A X.xe (some (assign (.Name y py) X.env)) (fun _ s'=>SP X ab D .next s') acc C) (Q:=fun v H'=>D.nx (σ.set i (some v)) H') hc hcell hkind hx hF hf he I2 T mI f2 q2 ?_
 intro acc C s' Hf m I' hm fC q;obtain ⟨o,es,ep,ho,hd,r⟩:=id hm;have I1:aO X (ab++[(C,o)]) σ Hf s':=I'.pins_of fun p hp=>(mAq.mp hp).elim (fun z=>I'.pin p (List.mem_append_right _ z)) fun z=>by
  have e:p=(C,o):=by simpa using z
  subst e;exact ⟨ho,fC.1,fC.2.1,fC.2.2.1,fun v z=>by rw [hd] at z;cases z⟩
 refine cP (aZ (X:=X) (i:=i) (pos:=py) hN KP hy hfn _ s' σ Hf (.ref acc) (.ref acc) _ I1 rfl q) fun _ s2 hz1=>?_
 obtain ⟨σ2,H2,I2,q2⟩:=hz1;have pC:=I2.pin (C,o) (List.mem_append_right _ (List.mem_append_right _ (by simp)))
 refine ⟨m,⟨o,es,ep,pC.1,hd,r⟩,fun h' sb=>⟨σ2,H2,?_,q2⟩⟩
 exact I2.unpinned.turned (t':=s2.toks) (fun b u hb e=>(sb.2 b hb).trans e) pC.2.1 fC.2.1 fC.2.2.2.1 fC.2.2.2.2.1 fC.2.2.2.2.2
end
end Mr
namespace MrS
open PySem PyProof.Rows
section
variable {prog:Program}{w:World}{A:Around}{E:Value->Shared->Prop}{s:Shared}{Pk:Keyed->Prop}{lt:Keyed->Keyed->Bool}
abbrev fJ (h:Heap) (a:Addr) (vs:List Value):Heap:=((h.update a (Obj.mapSeq fun _=>#[])).push (seqObj "tuple" vs.toArray 0)).push (seqObj "list" #[] 0)
theorem lR {a:Addr}{vs:List Value}{n:Nat}{P:PySem.Fin->Shared->Prop}(ho:s.heap.get? a=some (seqObj "list" vs.toArray n)) (hs:vs.length<=sizeLine)
  (hkk:2<=vs.length->∀ Q:SortKind->Shared->Prop,Q oneType' { s with heap:=fJ s.heap a vs }->wpAny (model prog w) A (keyKind' vs.toArray) Q E { s with heap:=fJ s.heap a vs })
  (C:lG prog w A { s with heap:=fJ s.heap a vs } oneType' Pk lt) (hp:∀ x,x∈pairsOf vs->Pk x)
  (h:∀ xs:Array Keyed,xs.Perm (pairsOf vs)->mL lt xs 0 (pairsOf vs).size->P (.done (.ret .none)) { s with heap:=sortedHeap s.heap a vs (xs.map (·.2)) }) :
  wpAny (model prog w) A (Builtin.«list.sort» ⟨[.ref a],[]⟩) P E s:=by
 rw [list_sort_plain];have ha:a<s.heap.objs.size:=Heap.lt_size ho;refine wpAny_bind (listItems_at ho rfl ?_);refine wpAny_bind (listUpdate_at ho rfl ?_ (hsz:=by simpa using hs))
 obtain ⟨e1,ho1⟩:∃ e1,(s.heap.update a (Obj.mapSeq fun _=>#[])).get? a=some (seqObj "list" #[] e1):=⟨_,get?_update_seq ho (fun _=>#[])⟩
 refine wpAny_bind (seqEpoch_at ho1 rfl ?_);refine wpAny_bind (wpAny_newTuple ?_);refine wpAny_bind (wpAny_newList ?_);refine wpAny_holding ?_;have ho6:(fJ s.heap a vs).get? a=some (seqObj "list" #[] e1):=by
  rw [Heap.get?_push_ne _ _ _ (by rw [size_push',Heap.size_update];exact Nat.ne_of_lt (Nat.lt_succ_of_lt ha)),Heap.get?_push_ne _ _ _ (by rw [Heap.size_update];exact Nat.ne_of_lt ha)]
  exact ho1
 show wpAny (model prog w) A _ P E { s with heap:=fJ s.heap a vs }
 dsimp only;have hsz:vs.toArray.size=vs.length:=by simp
 have hs':sizeLine=16777216:=sizeLine_eq
 by_cases h2:vs.toArray.size<2
 .rw [if_pos h2,if_pos h2];refine wpAny_bind (wpAny_pure ?_);rw [StateT.run_pure];refine wpAny_bind (wpAny_pure ?_);dsimp only;refine wpAny_bind (seqEpoch_at ho6 rfl ?_);refine wpAny_bind (listUpdate_at ho6 rfl ?_ (hsz2:=by rw [Array.size_map];show (pairsOf vs).size<=_;rw [pairsOf_size,sizeLine_eq];lia))
  simp only [bne_self_eq_false,Bool.false_eq_true,if_false];refine wpAny_pure (h _ (Array.Perm.refl _) ?_);intro i j x y _ hij hj ex ey;have:i=j:=by rw [pairsOf_size] at hj;lia
  subst this;rw [ex] at ey;cases ey;exact C.refl (hp x (aQq ex))
 .rw [if_neg h2,if_neg h2];refine wpAny_bind (hkk (by lia) _ ?_)
  refine wpAny_bind (wpAny_mono (ug C (arr:=pairsOf vs) (g:=7) (E:=E)
   (Q:=fun _ st'=>∃ xs p g',st'=jB oneType' xs p g'/\xs.Perm (pairsOf vs)/\mL lt xs 0 (pairsOf vs).size) hp (by rw [pairsOf_size];lia) fun xs p g' a1 a2=>⟨xs,p,g',rfl,a1,a2⟩) ?_ fun _ _ e=>e)
  rintro ⟨⟨⟩,st'⟩ s' ⟨rfl,xs,p,g',rfl,hpm,hsg⟩;dsimp only;refine wpAny_bind (seqEpoch_at ho6 rfl ?_);refine wpAny_bind (listUpdate_at ho6 rfl ?_ (hsz2:=by refine Nat.le_trans (Nat.le_of_eq ((Array.size_map ..).trans (hpm.size_eq.trans (pairsOf_size _)))) ?_;lia))
  simp only [bne_self_eq_false,Bool.false_eq_true,if_false];exact wpAny_pure (h xs hpm hsg)
theorem zm {h:Heap}{a:Addr}{xs:Array Value}{n:Nat}(vs:List Value) (ho:h.get? a=some (seqObj "list" xs n)):∃ e1,(fJ h a vs).get? a=some (seqObj "list" #[] e1):=by
 have ha:a<h.objs.size:=Heap.lt_size ho;obtain ⟨e1,ho1⟩:∃ e1,(h.update a (Obj.mapSeq fun _=>#[])).get? a=some (seqObj "list" #[] e1):=⟨_,get?_update_seq ho (fun _=>#[])⟩
 refine ⟨e1,?_⟩;rw [Heap.get?_push_ne _ _ _ (by rw [size_push',Heap.size_update];exact Nat.ne_of_lt (Nat.lt_succ_of_lt ha)),Heap.get?_push_ne _ _ _ (by rw [Heap.size_update];exact Nat.ne_of_lt ha)]
 exact ho1
theorem yU {h:Heap}{a:Addr}{xs:Array Value}{n:Nat}(ys:Array Value) (ho:h.get? a=some (seqObj "list" xs n)):∃ n1,(h.update a (Obj.mapSeq fun _=>ys)).get? a=some (seqObj "list" ys n1):=⟨_,get?_update_seq ho (fun _=>ys)⟩
theorem iH {vs:List Value}{x:Keyed}(h:x∈pairsOf vs):x.1∈vs/\x.2=x.1:=by
 obtain ⟨i,hi,e⟩:=Array.mem_iff_getElem.mp h;have hi':i<vs.length:=by rw [pairsOf_size] at hi;exact hi
 have:x=(vs[i],vs[i]):=by
  rw [← e];simp [pairsOf]
 rw [this];exact ⟨gRq hi',rfl⟩
theorem oO {vs:List Value}{xs:Array Keyed}(hp:xs.Perm (pairsOf vs)) (hs:mL lt xs 0 (pairsOf vs).size) :
  (xs.map (·.2)).toList.Perm vs/\(xs.map (·.2)).toList.Pairwise (fun x y=>lt (y,y) (x,x)=false):=by
 constructor
 .have:=hp.toList.map (·.2);have e:(pairsOf vs).toList.map (·.2)=vs:=by
   have:(pairsOf vs).toList=vs.zip vs:=by simp [pairsOf]
   rw [this];apply List.ext_getElem
   .simp
   .intro i h1 h2;simp
  rw [e] at this;rw [Array.toList_map];exact this
 .rw [List.pairwise_iff_getElem];intro i j hi hj hij;have hi':i<xs.size:=by simpa using hi
  have hj':j<xs.size:=by simpa using hj
  have z:=hs i j xs[i] xs[j] (Nat.zero_le _) (Nat.le_of_lt hij) (by rw [← hp.size_eq];exact hj') (by simp [hi']) (by simp [hj'])
  have m1:=iH (hp.mem_iff.mp (Array.getElem_mem hi'));have m2:=iH (hp.mem_iff.mp (Array.getElem_mem hj'));have e1:xs[i]=(xs[i].2,xs[i].2):=Prod.ext m1.2.symm rfl;have e2:xs[j]=(xs[j].2,xs[j].2):=Prod.ext m2.2.symm rfl;rw [e1,e2] at z;simpa using z
theorem xf {l:Addr}{vs:List Value}{Q:Value->Shared->Prop}(hl:s.heap.IsList l vs.toArray) (hs:vs.length<=sizeLine)
  (hC:∀ s':Shared,(∀ b o,s.heap.get? b=some o->s'.heap.get? b=some o)->(2<=vs.length->∀ Q:SortKind->Shared->Prop,Q oneType' s'->wpAny (model prog w) A.in1.in1 (keyKind' vs.toArray) Q E s')/\lG prog w A.in1.in1 s' oneType' Pk lt)
  (hp:∀ v∈vs,Pk (v,v))
  (h:∀ (out:List Value) (h':Heap) (n':Nat),out.Perm vs->out.Pairwise (fun x y=>lt (y,y) (x,x)=false)->(∀ b o,s.heap.get? b=some o->h'.get? b=some o) ->
   h'.get? (s.heap.objs.size+1)=some (seqObj "list" out.toArray n')->Q (.ref (s.heap.objs.size+1)) { s with heap:=h' }) :
  wpAny (model prog w) A (call (.builtin "sorted") [.ref l]) Q E s:=by
 refine Calls.call_function_entry kind_sorted plain_sorted entry_sorted (args_sorted1 _) ?_;unfold Builtin.«sorted»;refine wpAny_bind (m:=checkCount "sorted" 1 1 _) (wpAny_pure ?_);refine wpAny_bind (collect_list hl ?_ hs);refine wpAny_bind (wpAny_newList ?_);have hsz:((s.heap.push (seqObj "list" #[] 0)).update s.heap.objs.size (Obj.mapSeq (· ++ vs.toArray))).objs.size=s.heap.objs.size+1:=by
  rw [Heap.size_update,size_push']
 have hoL:(((s.heap.push (seqObj "list" #[] 0)).update s.heap.objs.size (Obj.mapSeq (· ++ vs.toArray))).push (seqObj "list" vs.toArray 0)).get? (s.heap.objs.size+1)=some (seqObj "list" vs.toArray 0):=by
  rw [← hsz];exact Heap.get?_push_size _ rfl
 show wpAny _ _ _ _ _ { s with heap:=((s.heap.push (seqObj "list" #[] 0)).update s.heap.objs.size (Obj.mapSeq (· ++ vs.toArray))).push (seqObj "list" vs.toArray 0) }
 rw [hsz];generalize hG:((s.heap.push (seqObj "list" #[] 0)).update s.heap.objs.size (Obj.mapSeq (· ++ vs.toArray))).push (seqObj "list" vs.toArray 0)=G at hoL ⊢;have k1:∀ b o,s.heap.get? b=some o->G.get? b=some o:=fun b o e=>by
  rw [← hG];refine Heap.get?_push_of_some _ ?_;rw [Heap.get?_update_ne _ _ _ _ (Nat.ne_of_lt (Heap.lt_size e))];exact Heap.get?_push_of_some _ e
 have k2:∀ b o,s.heap.get? b=some o->(fJ G (s.heap.objs.size+1) vs).get? b=some o:=fun b o e=>by
  refine Heap.get?_push_of_some _ (Heap.get?_push_of_some _ ?_);rw [Heap.get?_update_ne _ _ _ _ (Nat.ne_of_lt (Nat.lt_succ_of_lt (Heap.lt_size e)))];exact k1 b o e
 obtain ⟨q1,q2⟩:=hC { s with heap:=fJ G (s.heap.objs.size+1) vs } k2
 refine wpAny_bind (wpAny_holding (wpAny_call_entry slot_list_sort ⟨_,hoL,rfl⟩ entry_list_sort (lR (Pk:=Pk) (lt:=lt) hoL hs q1 q2 (fun x hx=>?_) fun xs a1 a2=>⟨_,rfl,?_⟩) (args_list_sort _)))
 .obtain ⟨m1,m2⟩:=iH hx;have:x=(x.1,x.1):=Prod.ext rfl m2;rw [this];exact hp _ m1
 .obtain ⟨v1,v2⟩:=oO a1 a2;obtain ⟨e1,ho1⟩:=zm vs hoL;obtain ⟨n1,g1⟩:=yU (xs.map (·.2)) ho1;refine wpAny_pure ⟨_,rfl,h _ (sortedHeap G (s.heap.objs.size+1) vs (xs.map (·.2))) n1 v1 v2 (fun b o e=>?_) ?_⟩
  .unfold sortedHeap;rw [Heap.get?_update_ne _ _ _ _ (Nat.ne_of_lt (Nat.lt_succ_of_lt (Heap.lt_size e)))];exact k2 b o e
  .rw [show (xs.map (·.2)).toList.toArray=xs.map (·.2) from Array.toArray_toList]
   exact g1
end
end MrS
namespace HT
open PySem PyProof.Rows
section
open PySem.SeqAt
open PySem.AutoSeq1 (wpAny_loadPart')
open PySem.MeetsSeq PySem.MeetsSeq2 PySem.MeetsSeq3 PySem.SeqRoads2
theorem vm {vs:List Value}{ns:List Int}(h:IntsAre vs ns):∀ {i:Nat}(hi:i<vs.length),∃ (z:Int) (t:Tok),vs[i] = .int z t/\ns.drop i=z::ns.drop (i+1):=by
 induction h with
 | nil=>intro i hi;exact absurd hi (Nat.not_lt_zero _)
 | cons a t _ ih =>
  intro i hi;cases i with
  | zero=>exact ⟨a,t,rfl,rfl⟩
  | succ i=>exact ih (i:=i) (by simpa using hi)
theorem uR (l b:Addr) (items items2:Array Value) (n n2:Nat) (dd dd2:Option Addr) (sl sl2:Array (Option Value)) (ns ms:List Int) (hi:IntsAre items.toList ns) (hj:IntsAre items2.toList ms) (k:Nat) :
  ∀ i:Nat,min items.size items2.size-i=k->i<=items.size->i<=items2.size->Meets (Builtin.«list.__eq__.loop» ⟨[.ref l,.ref b,rawInt i,rawInt 0],[]⟩)
   (fun _ R s=>s.heap.get? l=some { cls:=.type "list", dict:=dd,data:=.seq items n,slots:=sl }/\s.heap.get? b=some { cls:=.type "list", dict:=dd2,data:=.seq items2 n2,slots:=sl2 } /\
    R (.ok (.ret (.bool (ef (ns.drop i) (ms.drop i))))) s):=by
 have z1:ns.length=items.size:=by rw [← hi.length];simp
 have z2:ms.length=items2.size:=by rw [← hj.length];simp
 induction k with
 | zero =>
  intro i hk h1 h2 prog w A R s h;obtain ⟨hp,g,d,tk,os⟩:=s;obtain ⟨hl,hb,h⟩:=h
  wp_walk using wpAny_loadPart' hl,wpAny_loadPart' hb
  have fin:ef (ns.drop i) (ms.drop i)=decide (items.size<items2.size):=by
   by_cases c:i=items.size
   .have e1:ns.drop i=[]:=List.drop_eq_nil_of_le (by lia)
    rw [e1]
    by_cases c2:i<items2.size
    .rw [List.drop_eq_getElem_cons (by lia:i<ms.length),qM]
     exact (decide_eq_true (by lia)).symm
    .rw [List.drop_eq_nil_of_le (by lia:ms.length<=i),sk]
     exact (decide_eq_false (by lia)).symm
   .have c2:i=items2.size:=by lia
    rw [List.drop_eq_getElem_cons (by lia:i<ns.length),List.drop_eq_nil_of_le (by lia:ms.length<=i),qL]
    exact (decide_eq_false (by lia)).symm
  rw [fin] at h
  by_cases c:i=items.size
  .have DX:items[((i:Nat):Int).toNat]?=none:=by simp;lia
   rw [DX]
   wp_walk using wpAny_loadPart' hl,wpAny_loadPart' hb
   exact h
  .have c2:i=items2.size:=by lia
   have DX:items[((i:Nat):Int).toNat]?=some (items[i]'(by lia)):=by simp
   have hi2:items2[((i:Nat):Int).toNat]?=none:=by simp;lia
   rw [DX,hi2]
   wp_walk using wpAny_loadPart' hl,wpAny_loadPart' hb
   exact h
 | succ k ih =>
  intro i hk h1 h2 prog w A R s h;obtain ⟨hp,g,d,tk,os⟩:=s;obtain ⟨hl,hb,h⟩:=h
  wp_walk using wpAny_loadPart' hl,wpAny_loadPart' hb
  have hlt:i<items.size:=by lia
  have hlt2:i<items2.size:=by lia
  obtain ⟨x,t,ex,dx⟩:=vm hi (i:=i) (by simpa using hlt)
  obtain ⟨y,u,ey,dy⟩:=vm hj (i:=i) (by simpa using hlt2)
  have DX:items[((i:Nat):Int).toNat]?=some (.int x t):=by
   rw [← ex];simp [hlt]
  have hi2:items2[((i:Nat):Int).toNat]?=some (.int y u):=by
   rw [← ey];simp [hlt2]
  have hc:((i:Int)+1)=((i+1:Nat):Int):=by push_cast;rfl
  rw [dx,dy,jG] at h;rw [DX,hi2];obtain ⟨e,he,hiff⟩:=DB A.in1 ⟨hp,g,d,tk,os⟩ x t y u;refine wpAny_bind (he prog w _ _ ?_);cases e with
  | true =>
   rw [if_pos (hiff.mp rfl)] at h
   wp_walk
   rw [hc];exact ⟨plainId_quiet plain_eq_loop _,codeAny_builtin entry_eq_loop (by
    rw [Around.under_plainId plain_eq_loop _];exact ih (i+1) (by lia) (by lia) (by lia) prog w A R _ ⟨hl,hb,h⟩)⟩
  | false =>
   rw [if_neg (fun q=>absurd (hiff.mpr q) Bool.false_ne_true)] at h
   have hri:=DH A.in1 ⟨hp,g,d,tk,os⟩ x t y u prog w
   wp_walk using wpAny_loadPart' hl,wpAny_loadPart' hb
   rw [DX,hi2]
   wp_walk using hri
   exact h
theorem uL (l b:Addr) (items items2:Array Value) (n n2:Nat) (dd dd2:Option Addr) (sl sl2:Array (Option Value)) (ns ms:List Int) (hi:IntsAre items.toList ns) (hj:IntsAre items2.toList ms) :
  Meets (Builtin.«list.__lt__» ⟨[.ref l,.ref b],[]⟩)
   (fun _ R s=>s.heap.get? l=some { cls:=.type "list", dict:=dd,data:=.seq items n,slots:=sl }/\s.heap.get? b=some { cls:=.type "list", dict:=dd2,data:=.seq items2 n2,slots:=sl2 } /\
    R (.ok (.ret (.bool (ef ns ms)))) s):=by
 intro prog w A R s h;obtain ⟨hp,g,d,tk,os⟩:=s;obtain ⟨hl,hb,h⟩:=h;have f3:=AutoSeq1.sub_list_list
 wp_walk using wpAny_loadPart' hl,wpAny_loadPart' hb
 exact ⟨plainId_quiet plain_eq_loop _,codeAny_builtin entry_eq_loop (by
  rw [Around.under_plainId plain_eq_loop _];exact uR l b items items2 n n2 dd dd2 sl sl2 ns ms hi hj _ 0 rfl (Nat.zero_le _) (Nat.zero_le _) prog w A R _ ⟨hl,hb,h⟩)⟩
end
end HT
namespace Mr
open PySem PySem.Spec PyProof.Rows L2
section
open HT
theorem qB:∀ xs ys:List Int,ef xs ys=true->ef ys xs=false
 | [],[],_=>rfl
 | [],_::_,_=>rfl
 | _::_,[],h=>by cases h
 | x::xs,y::ys,h=>by
  rw [jG] at h ⊢
  by_cases e:x=y
  .rw [if_pos e] at h;rw [if_pos e.symm];exact qB xs ys h
  .rw [if_neg e] at h;rw [if_neg (Ne.symm e)];have h':x<y:=of_decide_eq_true h;exact decide_eq_false (by lia)
theorem oC:∀ xs ys zs:List Int,ef ys xs=false->ef zs ys=false->ef zs xs=false
 | [],[],[],_,_=>rfl
 | [],[],_::_,_,h=>by exact h
 | [],_::_,[],_,h=>by cases h
 | [],_::_,_::_,_,_=>rfl
 | _::_,[],_,h,_=>by cases h
 | _::_,_::_,[],_,h=>by cases h
 | x::xs,y::ys,z::zs,h1,h2=>by
  rw [jG] at h1 h2 ⊢
  by_cases e1:y=x
  .rw [if_pos e1] at h1;subst e1
   by_cases e2:z=y
   .rw [if_pos e2] at h2 ⊢;exact oC xs ys zs h1 h2
   .rw [if_neg e2] at h2 ⊢;exact h2
  .rw [if_neg e1] at h1;have h1':¬ y<x:=of_decide_eq_false h1
   by_cases e2:z=y
   .rw [if_neg (by lia)]
    exact decide_eq_false (by lia)
   .rw [if_neg e2] at h2;have h2':¬ z<y:=of_decide_eq_false h2;rw [if_neg (by lia)]
    exact decide_eq_false (by lia)
theorem vv:∀ xs ys:List Int,ef xs ys=false->ef ys xs=false->xs=ys
 | [],[],_,_=>rfl
 | [],_::_,h,_=>by cases h
 | _::_,[],_,h=>by cases h
 | x::xs,y::ys,h1,h2=>by
  rw [jG] at h1 h2
  by_cases e:x=y
  .rw [if_pos e] at h1;rw [if_pos e.symm] at h2;rw [e,vv xs ys h1 h2]
  .rw [if_neg e] at h1;rw [if_neg (Ne.symm e)] at h2;have h1':¬ x<y:=of_decide_eq_false h1;have h2':¬ y<x:=of_decide_eq_false h2;lia
def Fz (x y:List Int):Bool:=!HT.ef y x
theorem zY (x y z:List Int) (h1:Fz x y=true) (h2:Fz y z=true):Fz x z=true:=by
 unfold Fz at *;simp only [Bool.not_eq_true'] at *;exact oC x y z h1 h2
theorem zG (x y:List Int):(Fz x y || Fz y x)=true:=by
 unfold Fz;cases h:HT.ef y x with
 | false=>rfl
 | true=>rw [qB y x h];rfl
def wN (rs:List (List Int)):List (List Int):=rs.mergeSort Fz
theorem rD (rs:List (List Int)):(wN rs).Perm rs:=List.mergeSort_perm _ _
theorem xq (rs:List (List Int)):(wN rs).Pairwise (fun x y=>HT.ef y x=false):=by
 refine (List.pairwise_mergeSort zY zG rs).imp fun {a b} h=>?_
 unfold Fz at h;simpa using h
theorem sq:∀ {xs ys:List (List Int)},xs.Perm ys->xs.Pairwise (fun x y=>HT.ef y x=false)->ys.Pairwise (fun x y=>HT.ef y x=false)->xs=ys
 | xs,ys,hp,h1,h2=>List.Perm.eq_of_pairwise (fun a b _ _ e1 e2=>(vv b a e1 e2).symm) h1 h2 hp
theorem GP {xs rs:List (List Int)}(hp:xs.Perm rs) (h:xs.Pairwise (fun x y=>HT.ef y x=false)):xs=wN rs :=
 sq (hp.trans (rD rs).symm) h (xq rs)
theorem jo (rs:List (List Int)):(wN rs).length=rs.length:=(rD rs).length_eq
def pI (ns:List Int):List Int:=ns.mergeSort (fun x y=>decide (x<=y))
theorem iW (ns:List Int):(pI ns).Perm ns:=List.mergeSort_perm _ _
theorem oY (ns:List Int):(pI ns).Pairwise (·<=·):=by
 refine (List.pairwise_mergeSort (le:=fun x y=>decide (x<=y)) (fun a b c h1 h2=>?_) (fun a b=>?_) ns).imp fun {a b} h=>by simpa using h
 .simp only [decide_eq_true_eq] at *;lia
 .simp only [Bool.or_eq_true,decide_eq_true_eq];lia
theorem Fp {xs ns:List Int}(hp:xs.Perm ns) (h:xs.Pairwise (·<=·)):xs=pI ns :=
 List.Perm.eq_of_pairwise (fun a b _ _ e1 e2=>Int.le_antisymm e1 e2) h (oY ns) (hp.trans (iW ns).symm)
end
def dw (H:Hp) (ps:List Addr) (rs:List (List Int)):Prop:=ps.map H=rs.map (fun r=>some (HO.lst (r.map V.int)))
theorem dw.nil {H:Hp}:dw H [] []:=rfl
theorem dw.length {H:Hp}{ps:List Addr}{rs:List (List Int)}(h:dw H ps rs):ps.length=rs.length:=by
 have:=congrArg List.length h;simpa using this
theorem dw.cons_iff {H:Hp}{ps:List Addr}{rs:List (List Int)}{p:Addr}{r:List Int}:dw H (p::ps) (r::rs)↔H p=some (.lst (r.map V.int))/\dw H ps rs:=by
 unfold dw;rw [List.map_cons,List.map_cons,List.cons.injEq]
theorem dw.get {H:Hp}{ps:List Addr}{rs:List (List Int)}(h:dw H ps rs) {i:Nat}{p:Addr}(e:ps[i]?=some p):∃ r,rs[i]?=some r/\H p=some (.lst (r.map V.int)):=by
 have:=congrArg (fun l=>l[i]?) h
 simp only [gMq,e,Option.map_some] at this;cases er:rs[i]? with
 | none=>rw [er] at this;cases this
 | some r=>rw [er] at this;exact ⟨r,rfl,Option.some.inj this⟩
theorem dw.mem {H:Hp}{ps:List Addr}{rs:List (List Int)}(h:dw H ps rs) {p:Addr}(hp:p∈ps):∃ r,r∈rs/\H p=some (.lst (r.map V.int)):=by
 obtain ⟨i,hi⟩:=List.getElem?_of_mem hp;obtain ⟨r,er,e⟩:=h.get hi;exact ⟨r,mGq er,e⟩
theorem dw.keep {H H':Hp}{ps:List Addr}{rs:List (List Int)}(h:dw H ps rs) (k:∀ p∈ps,H' p=H p):dw H' ps rs:=by
 unfold dw at *;rw [← h];exact mCq k
theorem dw.same {H H':Hp}{ps:List Addr}{rs:List (List Int)}(h:dw H ps rs) (s:bS H H'):dw H' ps rs :=
 h.keep fun p hp=>by
  obtain ⟨r,_,e⟩:=h.mem hp;rw [s _ _ e,e]
def M7:V->Int
 | .int i=>i
 | _=>0
def lK (H:Hp) (p:Addr):List Int:=match H p with
 | some (.lst xs)=>xs.map M7
 | _=>[]
theorem vM {H:Hp}{p:Addr}{r:List Int}(h:H p=some (.lst (r.map V.int))):lK H p=r:=by
 unfold lK;rw [h];simp only [mPq];exact List.map_id'' (fun _=>rfl) r
theorem dw.fn {H:Hp}{ps:List Addr}{rs:List (List Int)}(h:dw H ps rs):rs=ps.map (lK H):=by
 induction rs generalizing ps with
 | nil =>
  have:=h.length;have:ps=[]:=List.length_eq_zero_iff.mp this;rw [this];rfl
 | cons r rs ih =>
  cases ps with
  | nil=>have:=h.length;simp at this
  | cons p ps =>
   obtain ⟨h1,h2⟩:=dw.cons_iff.mp h;rw [List.map_cons,← ih h2,vM h1]
theorem dw.fn_row {H:Hp}{ps:List Addr}{rs:List (List Int)}(h:dw H ps rs) {p:Addr}(hp:p∈ps):H p=some (.lst ((lK H p).map V.int)):=by
 obtain ⟨r,_,e⟩:=h.mem hp;rw [vM e];exact e
theorem dw.of_fn {H:Hp}{ps:List Addr}(h:∀ p∈ps,H p=some (.lst ((lK H p).map V.int))):dw H ps (ps.map (lK H)):=by
 unfold dw;rw [mPq];exact mCq h
theorem dw.perm {H:Hp}{ps qs:List Addr}{rs:List (List Int)}(h:dw H ps rs) (hp:qs.Perm ps):∃ ts,dw H qs ts/\ts.Perm rs/\ts=qs.map (lK H) :=
 ⟨_,dw.of_fn fun p m=>h.fn_row (hp.mem_iff.mp m),by rw [h.fn];exact hp.map _,rfl⟩
theorem sH:∀ {ps:List Addr}{vs:List Value},bu (ps.map V.ref) vs->vs=ps.map Value.ref
 | [],vs,r=>by cases r;rfl
 | p::ps,vs,r=>by
  rw [List.map_cons] at r;cases r with
  | cons h1 h2 =>
   have e:_=Value.ref p:=h1;rw [e,sH h2];rfl
theorem tR:∀ (ps:List Addr),bu (ps.map V.ref) (ps.map Value.ref)
 | []=>.nil
 | p::ps=>.cons rfl (tR ps)
def nZ:Value->Addr
 | .ref p=>p
 | _=>0
def intOf:Value->Int
 | .int i _=>i
 | _=>0
theorem vals_ints:∀ {vs:List Value},(∀ v∈vs,∃ a t,v = .int a t)->bu ((vs.map intOf).map V.int) vs
 | [],_=>.nil
 | v::vs,h=>by
  obtain ⟨a,t,rfl⟩:=h _ (List.mem_cons_self ..);exact .cons ⟨t,rfl⟩ (vals_ints fun v hv=>h v (mCo _ hv))
theorem EC {M:Model}{A:Around}{E:Value->Shared->Prop}{s:Shared}{vs:List Value}{T:String}{Q:SortKind->Shared->Prop}(h2:2<=vs.length) (hT:∀ v∈vs,W.Looks M s.heap (typeOf v) (.type T)) (hT1:(Value.type T != Value.type "tuple")=true) (hT2:(Value.type T == Value.type T)=true) (h:Q oneType' s) :
  wpAny M A (keyKind' vs.toArray) Q E s:=W.kas_kind h2 hT hT1 hT2 h
def Mm (x y:Keyed):Bool:=match x.1,y.1 with
 | .int a _,.int b _=>decide (a<b)
 | _,_=>false
theorem LG (prog:Program) (w:World) (A:Around) (s:Shared):MrS.lG prog w A s oneType' (fun x=>∃ a t,x.1 = .int a t) Mm where
 ask:=by
  rintro ⟨_,x⟩ ⟨_,y⟩ ⟨a,t,e1⟩ ⟨b,u,e2⟩ E Q q;dsimp only at e1 e2;subst e1 e2;rw [keyLt'_oneType];exact oneLt_int q
 asym:=by
  rintro ⟨_,x⟩ ⟨_,y⟩ ⟨a,t,e1⟩ ⟨b,u,e2⟩ h;dsimp only at e1 e2;subst e1 e2;have h':a<b:=of_decide_eq_true h;exact decide_eq_false (by lia)
 trans:=by
  rintro ⟨_,x⟩ ⟨_,y⟩ ⟨_,z⟩ ⟨a,t,e1⟩ ⟨b,u,e2⟩ ⟨c,v,e3⟩ h1 h2;dsimp only at e1 e2 e3;subst e1 e2 e3;have h1':¬ b<a:=of_decide_eq_false h1;have h2':¬ c<b:=of_decide_eq_false h2;exact decide_eq_false (by lia)
def Mj (r:Addr->List Int) (x y:Keyed):Bool:=match x.1,y.1 with
 | .ref p,.ref q=>HT.ef (r p) (r q)
 | _,_=>false
theorem K0 {prog:Program}{w:World}{A:Around}{s:Shared}{ps:List Addr}{r:Addr->List Int}(hu:A.units<cLine)
  (h:∀ p∈ps,∃ vs:List Value,PlainL s.heap p vs.toArray/\IntsAre vs (r p)):MrS.lG prog w A s oneType' (fun x=>∃ p,x.1 = .ref p/\p∈ps) (Mj r) where
 ask:=by
  rintro ⟨_,x⟩ ⟨_,y⟩ ⟨p,e1,hp⟩ ⟨q,e2,hq⟩ E Q k;dsimp only at e1 e2;subst e1 e2;obtain ⟨vs,⟨o,n,ho,hc,hd0,hd⟩,hi⟩:=h p hp;obtain ⟨ws,⟨o2,n2,ho2,hc2,hd02,hd2⟩,hj⟩:=h q hq;obtain ⟨cls,dd,data,sl⟩:=o;obtain ⟨cls2,dd2,data2,sl2⟩:=o2;simp only at hc hd0 hd hc2 hd02 hd2;subst hc hd0 hd hc2 hd02 hd2;rw [keyLt'_oneType,oneLt'_eq];simp only [if_true];refine wpAny_bind (wpAny_cRoomFor hu ?_);refine wpAny_bind (wpAny_callSpecialIfBound?_slot ⟨_,ho,rfl⟩ F.slot_list_lt (call_meets F.slot_list_lt ⟨_,ho,rfl⟩ F.entry_list_lt (F.args_list_lt_2 _ _)
   (HT.uL p q vs.toArray ws.toArray n n2 none none sl sl2 (r p) (r q) (by simpa using hi) (by simpa using hj)) ⟨ho,ho2,?_⟩))
  exact wpAny_truthy_bool k
 asym:=by
  rintro ⟨_,x⟩ ⟨_,y⟩ ⟨a,e1,_⟩ ⟨b,e2,_⟩ h;dsimp only at e1 e2;subst e1 e2;exact qB _ _ h
 trans:=by
  rintro ⟨_,x⟩ ⟨_,y⟩ ⟨_,z⟩ ⟨a,e1,_⟩ ⟨b,e2,_⟩ ⟨c,e3,_⟩ h1 h2;dsimp only at e1 e2 e3;subst e1 e2 e3;exact oC _ _ _ h1 h2
section
variable {X:Cx}
theorem uh (hu:X.A.units+64<cLine):fq X (.builtin "sorted") (fun xs H Q=>∃ (a:Addr) (ps:List Addr) (rs:List (List Int)),xs=[.ref a]/\eJ X.K H a (ps.map V.ref)/\dw H ps rs /\
  ∀ p qs,H p=none->qs.Perm ps->dw (cK H p (.lst (qs.map V.ref))) qs (wN rs)->Q (.ref p) (cK H p (.lst (qs.map V.ref)))):=by
 intro ab s σ H xs us Q I r h;obtain ⟨a,ps,rs,rfl,hS,hE,q⟩:=h;obtain ⟨u,rfl,ru⟩:=kx r;cases ru;obtain ⟨its,rv,hl,hz⟩:=I.list hS;have ei:=sH rv;subst ei;have hrow:∀ p∈ps,∃ vs:List Value,PlainL s.heap p vs.toArray/\IntsAre vs (lK H p):=fun p hp=>by
  obtain ⟨its,rv,pl,_⟩:=I.list (eJ.of (hE.fn_row hp));exact ⟨its,pl,mB rv⟩
 have keepL:∀ (s':Shared),(∀ b o,s.heap.get? b=some o->s'.heap.get? b=some o)->∀ p∈ps,∃ vs:List Value,PlainL s'.heap p vs.toArray/\IntsAre vs (lK H p):=fun s' k p hp=>by
  obtain ⟨vs,⟨o,n,ho,fZ⟩,hi⟩:=hrow p hp;exact ⟨vs,⟨o,n,k _ _ ho,fZ⟩,hi⟩
 refine MrS.xf (Pk:=fun x=>∃ p,x.1 = .ref p/\p∈ps) (lt:=Mj (lK H)) hl.isList (by simpa using hz) (fun s' k=>⟨fun h2 Q q=>?_,K0 (by show X.A.units+1+1<cLine;lia) (keepL s' k)⟩) (fun v m=>?_) fun out h' n' o1 o2 o3 o4=>?_
 .refine EC (T := "list") h2 (fun v hv=>?_) (by rfl) (by rfl) q
  obtain ⟨p,hp,rfl⟩:=mMq.mp hv;obtain ⟨vs,pl,_⟩:=keepL s' k p hp;intro A Q E s2 k2 q2;obtain ⟨o,ho,hc,_⟩:=pl.isList;exact wpAny_typeOf (T := "list") ⟨o,k2 _ _ ho,hc⟩ q2
 .obtain ⟨p,hp,rfl⟩:=mMq.mp m;exact ⟨p,rfl,hp⟩
 .have ho:∀ v∈out,∃ p∈ps,v = .ref p:=fun v m=>by
   obtain ⟨p,hp,rfl⟩:=mMq.mp (o1.mem_iff.mp m);exact ⟨p,hp,rfl⟩
  have eo:out=(out.map nZ).map Value.ref:=by
   rw [mPq];have e:=mCq (l:=out) (f:=id) (g:=Value.ref∘nZ) fun v hv=>by
    obtain ⟨p,_,rfl⟩:=ho v hv;rfl
   rw [← e,List.map_id]
  have hq:(out.map nZ).Perm ps:=by
   have:=o1.map nZ;rw [mPq,show nZ∘Value.ref=id from rfl,List.map_id] at this
   exact this
  have hp:H (s.heap.objs.size+1)=none:=I.hok.fresh (Nat.le_succ _);generalize out.map nZ=qs at eo hq;obtain ⟨ts,e1,e2,e3⟩:=hE.perm hq;have es:ts=wN rs:=by
   refine GP e2 ?_;rw [e3,List.pairwise_map];rw [eo,List.pairwise_map] at o2;exact o2
  refine ⟨.ref (s.heap.objs.size+1),_,I.laid (t':=s.toks) o3 (Nat.le_succ _) (show dJ X.prog X.w _ h' _ (.lst (qs.map V.ref)) from ⟨?_,out,n',?_,o4⟩),rfl,q _ qs hp hq (by rw [← es];exact e1.same (gV hp))⟩
  .rw [lMq,hq.length_eq];simpa using hz
  .rw [eo];exact tR qs
def iM (r:List Int):PyData:=.list (r.map PyData.int)
def nh (rs:List (List Int)):PyData:=.list (rs.map iM)
theorem oK:∀ rs:List (List Int),PyData.canLayAll0 (rs.map iM)=true
 | []=>by simp [PyData.canLayAll0]
 | r::rs=>by simp [PyData.canLayAll0,iM,PyData.canLay0,W.canLayAll0_ints r,oK rs]
theorem qG:∀ rs:List (List Int),PyData.depthAll (rs.map iM)<=3
 | []=>by simp [PyData.depthAll]
 | r::rs=>by
  have h1:=qG rs;have h2:=W.depthAll_ints r;simp only [List.map_cons,PyData.depthAll,iM,PyData.depth];lia
theorem oH (rs:List (List Int)):SeqAt.shaped (nh rs)=true:=by
 have h1:=qG rs;have h2:PyData.depth (nh rs)<=64:=by simp only [nh,PyData.depth];lia
 show (PyData.canLay0 (nh rs) && decide (PyData.depth (nh rs)<=64))=true;rw [Bool.and_eq_true];exact ⟨by simp only [nh,PyData.canLay0];exact oK rs,decide_eq_true h2⟩
theorem qi:∀ rs ts:List (List Int),SeqAt.noMixAll (rs.map iM) (ts.map iM)=true
 | [],[]=>by simp [SeqAt.noMixAll]
 | [],_::_=>by simp [SeqAt.noMixAll]
 | _::_,[]=>by simp [SeqAt.noMixAll]
 | r::rs,t::ts=>by simp [SeqAt.noMixAll,iM,SeqAt.noMix,W.noMix_ints r t,qi rs ts]
theorem tT:∀ rs ts:List (List Int),PySem.Spec.sameAll (rs.map iM) (ts.map iM)=decide (rs=ts)
 | [],[]=>by simp [PySem.Spec.sameAll]
 | [],_::_=>by simp [PySem.Spec.sameAll]
 | _::_,[]=>by simp [PySem.Spec.sameAll]
 | r::rs,t::ts=>by
  simp only [List.map_cons,PySem.Spec.sameAll,iM,PySem.Spec.same,W.same_ints r t];rw [tT rs ts]
  by_cases h:r=t <;> simp [h]
end
end Mr
namespace Mr
open PySem L2
structure Bt (mg:Str->Option Value):Prop where
 len:mg "len" = none
 min:mg "min" = none
 max:mg "max" = none
 abs:mg "abs" = none
 all:mg "all" = none
 sorted:mg "sorted" = none
 isi:mg "isinstance" = none
 list:mg "list" = none
 int:mg "int" = none
 bool:mg "bool" = none
 str:mg "str" = none
 dict:mg "dict" = none
 zip:mg "zip" = none
 enum:mg "enumerate" = none
 range:mg "range" = none
 reversed:mg "reversed" = none
structure Fn (P:Program) (w:World) (K:W.Frag) (mg:Str->Option Value) (base:Heap) (k:Nat) (x:Str) (st:Stmt) (ps:List Str) (sp:Sp) (f:Addr) (fd:FuncData):Prop where
 D:lH K mg x st ps f fd
 ok:pG P w K mg base HB k f fd ps sp
theorem iO.units65 {k:Nat}{A:Around}(r:iO k A):A.units+65<cLine:=by have:=r.un;lia
section
variable {X:Cx}{k:Nat}{f:Addr}{fd:FuncData}{ps:List Str}{sp:Sp}{x:Str}{p pos:Pos}{e:Expr}{es:List Expr}{t:TA}{st:Stmt}
theorem bx (G:Fn X.prog X.w X.K X.mg X.base k x st ps sp f fd) (hr:iO k X.A) (ha:PA X (e::es) t) (hg:Gl X x:=by rfl) (hdb:(x == ("__debug__" : Str))=false:=by decide)
  (he:starEach (e::es) X.env=(false,eval e X.env)::starEach es X.env:=by rfl) (hpl:(backTo pos (starEach es X.env)).any (·.1)=false:=by rfl) :
  PE X (.Call (.Name x p) (e::es) [] pos) (yT sp [] E0 t):=Em G.ok hr hg G.D.m G.D.F.kp G.D.b .nil Kg ha hdb he hpl
end
section
variable (K:W.Frag)
def yJ:Sp:=fun vs H Q _=>∃ (a:Addr) (ns:List Int),vs=[.ref a]/\eJ K H a (ns.map V.int)/\ns.length<=63/\∀ H',Q (.bl true) H'
end
theorem ou {α:Type}{l:List α}{i:Nat}{x:α}(h:l[i]?=some x):l.take (i+1)=l.take i++[x]:=by
 rw [List.take_add_one,h];rfl
end Mr
namespace Xe
open PySem PySem.Spec PySem.W PyProof.Rows L2 Mr
abbrev St:=L2.St
abbrev LJ (K:Frag) (C:Addr):Bool:=findIn K (.ref C) "__setattr__" == some (some (.builtin "object.__setattr__")) && findIn K (.ref C) "__getattribute__" == some (some (.builtin "BaseException.__getattribute__")) &&
 findIn K (.ref C) "__getattr__" == some none && findIn K (.ref C) "__class__" == some (some (.builtin "object.__class__"))
def rX (K:Frag) (c:Str) (C:Addr) (bm:List Value):Bool:=match K.lookup C with
 | some ⟨.type "type", _,.cls cd,sl⟩=>(match sl.toList with
  | [_,_,_,_,some (.builtin n),_]=>cd.name == c && cd.mro == .ref C::bm && n == "ValueError.__new__" && !cd.hasDel && cd.hasDict && tailIn K yM bm
  | _=>false)
 | _=>false
structure IS (K:Frag) (c:Str) (C M:Addr):Prop where
 nm:nsIn K mainGlobals c=some (some (.ref C))
 nmM:nsIn K mainGlobals "MapError" = some (some (.ref M))
 xc:rX K c C (.ref M::yM)=true
 xm:rX K "MapError" M yM=true
 lk:LJ K C=true
def Lu (K:Frag) (c:Str) (C:Addr):Prop:=nsIn K mainGlobals c=some (some (.ref C))/\((∃ M,IS K c C M)∨(c = "MapError" /\ rX K "MapError" C yM=true))
def LW (e C:Addr) (od:Option Addr):HO:=.ext fun h=>∃ o vs,h.get? e=some o/\o.cls = .ref C/\o.dict=od/\o.data = .fields vs
end Xe
namespace Xe
open PySem PySem.Spec PySem.W PyProof.Rows L2 Mr
end Xe
namespace Xe
open PySem PySem.Spec PySem.W PyProof.Rows L2 Mr
end Xe
namespace Xe
open PySem PySem.Spec PySem.W PyProof.Rows L2 Mr
end Xe
namespace Xe
open PySem
end Xe
namespace Xe
open PySem PySem.Spec PySem.W PyProof.Rows L2 Mr
structure Lc (K:Frag) (mg:Str->Option Value) (c:Str) (C M:Addr):Prop where
 rf:IS K c C M
 ini:findIn K (.ref C) "__init__" = some (some (.builtin "ValueError.__init__"))
 kp:keepIn K (.ref C)=true
 m:mg c=some (.ref C)
end Xe
namespace Xe
open PySem
end Xe
namespace Xe
open PySem PySem.Spec PySem.W PyProof.Rows L2 Mr
end Xe
namespace PySem.SCG
open PySem Builtin Builtin.Str
end PySem.SCG
namespace Mr
open PySem PySem.Spec PyProof.Rows L2
end Mr
namespace Mr
open PySem PyProof.Rows L2
section
variable {X:Cx}
def Bw (_ j:Int):Prop:=0<j/\j.natAbs.log2<9000
theorem Cn:oj X (binaryOp .FloorDiv) (rI Bw fun i j=>.int (i / j)):=J5 fun i j _ _ _ _ _ hc q=>by
 have h1:(0:Int)<j:=hc.1;exact floordiv_int (by lia) (by rw [Int.fdiv_eq_ediv_of_nonneg i (by lia)];exact q) (.inl (PyProof.noPylong_of_log2 hc.2))
end
end Mr
namespace Mr
open PySem L2
end Mr
namespace Mr
open PySem PySem.Calls PySem.Spec PyProof.Rows L2
section
variable {X:Cx}
def yG:V->List V->Hp->VK->Prop:=fun x vs H Q=>∃ l xs i y,x = .ref l/\vs=[.int (i:Nat),y]/\H l=some (.lst xs)/\i<=xs.length/\xs.length<sizeLine/\Q .non (cK H l (.lst (xs.take i++y::xs.drop i)))
theorem tL:Ka X "list.insert" yG:=by
 intro ab s σ H x vs v us Q I rx rv h;obtain ⟨l,xs,i,y,rfl,rfl,hH,hi,hz,q⟩:=h;cases rx;obtain ⟨u1,u2,rfl,r1,r2⟩:∃ u1 u2,us=[u1,u2]/\bM (.int (i:Nat)) u1/\bM y u2:=by
  cases rv with
  | cons a b=>cases b with
   | cons c d=>cases d;exact ⟨_,_,rfl,a,c⟩
 obtain ⟨t,rfl⟩:=r1;obtain ⟨z,its,n,r,hl,e⟩:=I.lstM hH;have hl':xs.length=its.length:=hl;have hz':its.length<sizeLine:=by rw [← hl'];exact hz
 have hs:sizeLine=16777216:=sizeLine_eq;have hfit:(!Builtin.List.listFitsIndex ((i:Nat):Int))=false:=by rw [fitsIndex_both (by lia) (by lia)];rfl
 have hf2:¬ (!Builtin.List.listFitsIndex ((i:Nat):Int))=true:=by rw [hfit];exact Bool.false_ne_true
 have hsz:its.toArray.size<=sizeLine:=by rw [List.size_toArray];exact Nat.le_of_lt hz'
 generalize hj:((i:Nat):Int)=j at hf2 ⊢;have hm:=AutoSeq1.list_insert_list_int_val_1 l its.toArray n j t u2 hf2 hsz;refine call_meets F.slot_list_insert ⟨_,e,rfl⟩ F.entry_list_insert (F.args_list_insert_3 _ _ _) hm ⟨e,?_⟩;refine ⟨.non,_,I.lset (its':=its.take i++u2::its.drop i) hH e ?_ ?_ ?_,rfl,q⟩
 .subst hj;have h1:¬ ((i:Nat):Int)<0:=by lia
  have h2:min ((i:Nat):Int).toNat its.toArray.size=i:=by rw [Int.toNat_natCast,List.size_toArray];lia
  show (its.toArray.extract 0 (if ((i:Nat):Int)<0 then _ else min ((i:Nat):Int).toNat its.toArray.size)).push u2++its.toArray.extract (if ((i:Nat):Int)<0 then _ else min ((i:Nat):Int).toNat its.toArray.size)=_
  rw [if_neg h1,h2];apply Array.toList_inj.mp;simp only [Array.toList_append,Array.toList_push,Array.toList_extract,List.extract_eq_drop_take,List.drop_zero,Nat.sub_zero,List.append_assoc,List.singleton_append,List.size_toArray];rw [List.take_of_length_le (l:=its.drop i) (by rw [List.length_drop];lia)]
 .exact (r.take i).append (.cons r2 (r.drop i))
 .rw [lAq,lTq,lCq,List.length_drop];lia
end
end Mr
namespace Mr
open PySem PySem.Calls PySem.Spec PyProof.Rows L2
section
variable {X:Cx}
def E3 (K:W.Frag) (x:V) (H:Hp) (T:String):Prop:=match x with
 | .int _=>T = "list" ∨ T = "tuple" ∨ T = "str"
 | .str _=>T = "list" ∨ T = "tuple"
 | .non=>T = "list" ∨ T = "tuple"
 | .ref p=>(T = "tuple" /\ ∃ xs,eJ K H p xs)∨(T = "list" /\ ∃ xs,oG K H p xs)
 | _=>False
theorem rz:fq X (.builtin "isinstance") (fun xs H Q=>∃ x T,xs=[x,.ty T]/\E3 X.K x H T/\Q (.bl false) H):=by
 intro ab s σ H xs us Q I r h;obtain ⟨x,T,rfl,e,q⟩:=h;obtain ⟨u,v,rfl,rx,rT⟩:=zB r;cases rT;cases x with
 | int i =>
  obtain ⟨t,rfl⟩:=rx;rcases e with rfl|rfl|rfl
  .exact call_isinstance (isinstance_false_int (by decide +kernel) F.isi_meta_list F.sub_int_list) (show EP X ab σ Q (.bool false) { s with toks:=s.toks+1 } from ⟨.bl false,H,I.tok _,rfl,q⟩)
  .exact call_isinstance (isinstance_false_int (by decide +kernel) F.isi_meta_tuple F.sub_int_tuple) (show EP X ab σ Q (.bool false) { s with toks:=s.toks+1 } from ⟨.bl false,H,I.tok _,rfl,q⟩)
  .exact call_isinstance (isinstance_false_int (by decide +kernel) F.isi_meta_str F.sub_int_str) (show EP X ab σ Q (.bool false) { s with toks:=s.toks+1 } from ⟨.bl false,H,I.tok _,rfl,q⟩)
 | str i =>
  obtain ⟨t,rfl⟩:=rx;rcases e with rfl|rfl
  .exact call_isinstance (isinstance_false_str (by decide +kernel) F.isi_meta_list F.sub_str_list) (show EP X ab σ Q (.bool false) { s with toks:=s.toks+1 } from ⟨.bl false,H,I.tok _,rfl,q⟩)
  .exact call_isinstance (isinstance_false_str (by decide +kernel) F.isi_meta_tuple F.sub_str_tuple) (show EP X ab σ Q (.bool false) { s with toks:=s.toks+1 } from ⟨.bl false,H,I.tok _,rfl,q⟩)
 | non =>
  cases rx;rcases e with rfl|rfl
  .exact call_isinstance (isinstance_false_none (by decide +kernel) F.isi_meta_list F.sub_NoneType_list) (show EP X ab σ Q (.bool false) { s with toks:=s.toks+1 } from ⟨.bl false,H,I.tok _,rfl,q⟩)
  .exact call_isinstance (isinstance_false_none (by decide +kernel) F.isi_meta_tuple F.sub_NoneType_tuple) (show EP X ab σ Q (.bool false) { s with toks:=s.toks+1 } from ⟨.bl false,H,I.tok _,rfl,q⟩)
 | ref p =>
  cases rx;rcases e with ⟨rfl,xs,hS⟩|⟨rfl,xs,hS⟩
  .obtain ⟨its,rv,pl,hz⟩:=I.list hS;exact call_isinstance (isinstance_false_list (by decide +kernel) F.isi_meta_tuple F.sub_list_tuple) ⟨pl.isList.typeIs,⟨.bl false,H,I.tok _,rfl,q⟩⟩
  .obtain ⟨its,rv,⟨o,ho,hc,_⟩,hz⟩:=I.tuple hS;exact call_isinstance (isinstance_false_tuple (by decide +kernel) F.isi_meta_list F.sub_tuple_list) ⟨⟨o,ho,hc⟩,⟨.bl false,H,I.tok _,rfl,q⟩⟩
 | _=>exact (show False from e).elim
end
end Mr
namespace MrS
open PySem PySem.W PyProof.Rows
end MrS
namespace Mr
open PySem PySem.W PySem.Spec PyProof.Rows L2
section
variable {X:Cx}
theorem ui:∀ {us:List Value}{ns:List Int},us.length=ns.length->(∀ (j:Nat) (v:Value) (n:Int),us[j]?=some v->ns[j]?=some n->∃ t,v=Value.int n t)->IntsAre us ns
 | [],[],_,_=>.nil
 | [],_::_,h,_=>by simp at h
 | _::_,[],h,_=>by simp at h
 | u::us,n::ns,h,g=>by
  obtain ⟨t,rfl⟩:=g 0 u n rfl rfl;exact .cons n t (ui (by simpa using h) fun j v m e1 e2=>g (j+1) v m (by simpa using e1) (by simpa using e2))
end
end Mr
namespace Mr
open PySem PySem.W PySem.Spec PyProof.Rows L2
section
variable {X:Cx}
theorem xV (hc:X.calm=true):fq X (.type "list") (fun xs H Q=>∃ a kvs,xs=[.ref a]/\H a=some (.dK kvs)/\∀ l,H l=none->Q (.ref l) (cK H l (.lst (kvs.map fun p=>kV p.1)))):=by
 intro ab s σ H xs us Q I r h;obtain ⟨a,kvs,rfl,ha,q⟩:=h;obtain ⟨u,rfl,ru⟩:=kx r;cases ru;obtain ⟨hz,sa,vs,kv,d⟩:=(show dJ X.prog X.w H s.heap a (.dK kvs) from I.hok a _ ha)
 obtain ⟨ep,da⟩:=d.dictAt;have hl:=Paired.length kv;refine kdl_call (kdl_dict (knd:=cY X.prog X.w) (d:=a) (kvs:=vs) (ep:=ep) sa) (I.ok.hd hc) da (by rw [← hl];exact hz) fun h' tk acc c hk hs hi=>?_
 refine ⟨.ref s.heap.objs.size,cK H s.heap.objs.size (.lst (kvs.map fun p=>kV p.1)),I.laid (t':=tk) hk (Nat.le_refl _) ⟨by simpa using hz,acc.toList,c,?_,by simpa using hs⟩,rfl,q _ (I.hok.fresh (Nat.le_refl _))⟩
 have key:∀ (l:List (bJ×V)) (ws:List (bJ×Value)) (acc:List Value),KV l ws->acc.length=ws.length->(∀ (j:Nat) (x:Value),acc[j]?=some x->∃ (k:bJ) (y:Value),ws[j]?=some (k,y)/\(cY X.prog X.w).is k x=true)->bu (l.map fun p=>kV p.1) acc:=by
  intro l ws acc r
  induction r generalizing acc with
  | nil=>intro h1 _;cases acc with|nil=>exact .nil|cons _ _=>simp at h1
  | cons r t ih =>
   intro h1 h2;cases acc with
   | nil=>simp at h1
   | cons x acc =>
    refine .cons ?_ (ih acc (by simpa using h1) fun j y hj=>by have:=h2 (j+1) y (by simpa using hj);simpa using this)
    obtain ⟨k,y,g1,g2⟩:=h2 0 x rfl;simp at g1;have e1:_=k:=r.1.trans (by rw [g1])
    show bM (kV _) x;rw [e1];rcases cJ g2 with ⟨i,t,rfl,rfl⟩|⟨z,t,rfl,rfl⟩
    .exact ⟨t,rfl⟩
    .exact ⟨t,rfl⟩
 exact key kvs vs acc.toList kv (by rw [Array.length_toList];exact hi.1) fun j x hj=>hi.2 j x (by rw [← Array.getElem?_toList];exact hj)
end
end Mr
namespace Z
open PySem L2 Mr
abbrev St:=L2.St
inductive D where
 | non|bl (b:Bool)|int (i:Int)|str (x:Str)|ty (n:String)|list (xs:List D)|tup (xs:List D)|dict (kvs:List (bJ×D))|scr (ns:List Int)|exc (c:Str) (fs:List (Str×Int))|cls (c:Str)|fd (kvs:List (bJ×D))|ins (c:Str) (fs:List (Str×D))
inductive cD (K:W.Frag) (H:Hp):D->V->Prop
 | non:cD K H .non .non
 | bl {b:Bool}:cD K H (.bl b) (.bl b)
 | int {i:Int}:cD K H (.int i) (.int i)
 | str {x:Str}:cD K H (.str x) (.str x)
 | ty {n:String}:cD K H (.ty n) (.ty n)
 | list {p:Addr}{vs:List V}{ds:List D}(h:H p=some (.lst vs)) (l:ds.length=vs.length) (e:∀ (i:Nat) (d:D) (v:V),ds[i]?=some d->vs[i]?=some v->cD K H d v):cD K H (.list ds) (.ref p)
 | tup {p:Addr}{vs:List V}{ds:List D}(h:H p=some (.tup vs)) (l:ds.length=vs.length) (e:∀ (i:Nat) (d:D) (v:V),ds[i]?=some d->vs[i]?=some v->cD K H d v):cD K H (.tup ds) (.ref p)
 | dict {p:Addr}{kvs:List (bJ×V)}{ds:List (bJ×D)}(h:H p=some (.dK kvs)) (l:ds.map (·.1)=kvs.map (·.1)) (e:∀ (i:Nat) (d:bJ×D) (v:bJ×V),ds[i]?=some d->kvs[i]?=some v->cD K H d.2 v.2):cD K H (.dict ds) (.ref p)
 | scr {p:Addr}{ns:List Int}(h:eJ K H p (ns.map V.int)):cD K H (.scr ns) (.ref p)
 | exc {c:Str}{fs:List (Str×Int)}{e C M dx:Addr}(rf:Xe.IS K c C M) (nf:∀ p∈fs,W.findIn K (.ref C) p.1=some none) (h:H e=some (Xe.LW e C (some dx))) (hx:H dx=some (.xd (fs.map fun p=>(p.1,V.int p.2)))):cD K H (.exc c fs) (.ref e)
 | exc0 {c:Str}{e C M:Addr}(rf:Xe.IS K c C M) (h:H e=some (Xe.LW e C none)):cD K H (.exc c []) (.ref e)
 | cls {c:Str}{C:Addr}(h:Xe.Lu K c C):cD K H (.cls c) (.ref C)
 | fd {p:Addr}{o:Obj}{kvs:List (bJ×V)}{ds:List (bJ×D)}(h:H p=some (.frz o (.dK kvs))) (l:ds.map (·.1)=kvs.map (·.1)) (e:∀ (i:Nat) (d:bJ×D) (v:bJ×V),ds[i]?=some d->kvs[i]?=some v->cD K H d.2 v.2):cD K H (.fd ds) (.ref p)
 | ins {c:Str}{a C dx:Addr}{gs:List (Str×V)}{fs:List (Str×D)}(rf:W.nsIn K mainGlobals c=some (some (.ref C))) (h:H a=some (.ins C dx gs)) (l:fs.map (·.1)=gs.map (·.1)) (e:∀ (i:Nat) (d:Str×D) (v:Str×V),fs[i]?=some d->gs[i]?=some v->cD K H d.2 v.2):cD K H (.ins c fs) (.ref a)
def bO (K:W.Frag) (H:Hp) (ds:List D) (vs:List V):Prop:=ds.length=vs.length/\∀ (i:Nat) (d:D) (v:V),ds[i]?=some d->vs[i]?=some v->cD K H d v
def gB (K:W.Frag) (H:Hp) (ds:List (bJ×D)) (kvs:List (bJ×V)):Prop:=ds.map (·.1)=kvs.map (·.1)/\∀ (i:Nat) (d:bJ×D) (v:bJ×V),ds[i]?=some d->kvs[i]?=some v->cD K H d.2 v.2
section
variable {K:W.Frag}{H H':Hp}
theorem cD.mono {d:D}{v:V}(h:cD K H d v) (s:bS H H'):cD K H' d v:=by
 induction h with
 | non=>exact .non
 | bl=>exact .bl
 | int=>exact .int
 | str=>exact .str
 | ty=>exact .ty
 | list h l _ ih=>exact .list (s _ _ h) l ih
 | tup h l _ ih=>exact .tup (s _ _ h) l ih
 | dict h l _ ih=>exact .dict (s _ _ h) l ih
 | scr h=>exact .scr (s.seq h)
 | exc rf nf h hx=>exact .exc rf nf (s _ _ h) (s _ _ hx)
 | exc0 rf h=>exact .exc0 rf (s _ _ h)
 | cls h=>exact .cls h
 | fd h l _ ih=>exact .fd (s _ _ h) l ih
 | ins rf h l _ ih=>exact .ins rf (s _ _ h) l ih
theorem bO.mono {ds:List D}{vs:List V}(h:bO K H ds vs) (s:bS H H'):bO K H' ds vs:=⟨h.1,fun i d v a b=>(h.2 i d v a b).mono s⟩
theorem gB.mono {ds:List (bJ×D)}{vs:List (bJ×V)}(h:gB K H ds vs) (s:bS H H'):gB K H' ds vs:=⟨h.1,fun i d v a b=>(h.2 i d v a b).mono s⟩
theorem bO.nil:bO K H [] []:=⟨rfl,fun i d v a=>by simp at a⟩
theorem bO.cons {d:D}{v:V}{ds:List D}{vs:List V}(h:cD K H d v) (t:bO K H ds vs):bO K H (d::ds) (v::vs):=⟨by simp [t.1],fun i e w a b=>by
 cases i with
 | zero =>
  simp at a b;subst a b;exact h
 | succ i=>exact t.2 i e w (by simpa using a) (by simpa using b)⟩
theorem bO.cons_iff {d:D}{v:V}{ds:List D}{vs:List V}:bO K H (d::ds) (v::vs)↔cD K H d v/\bO K H ds vs :=
 ⟨fun h=>⟨h.2 0 d v rfl rfl,by have:=h.1;simpa using this,fun i e w a b=>h.2 (i+1) e w (by simpa using a) (by simpa using b)⟩,fun h=>.cons h.1 h.2⟩
theorem bO.nil_inv {vs:List V}(h:bO K H [] vs):vs=[]:=by
 have:=h.1;cases vs with
 | nil=>rfl
 | cons _ _=>simp at this
theorem bO.cons_inv {d:D}{ds:List D}{vs:List V}(h:bO K H (d::ds) vs):∃ v ws,vs=v::ws/\cD K H d v/\bO K H ds ws:=by
 cases vs with
 | nil=>have:=h.1;simp at this
 | cons v ws=>exact ⟨v,ws,rfl,bO.cons_iff.mp h⟩
theorem bO.append:∀ {ds es:List D}{vs ws:List V},bO K H ds vs->bO K H es ws->bO K H (ds++es) (vs++ws)
 | [],es,vs,ws,h,g=>by rw [h.nil_inv];exact g
 | d::ds,es,vs,ws,h,g=>by
  obtain ⟨v,us,rfl,h1,h2⟩:=h.cons_inv;exact .cons h1 (bO.append h2 g)
theorem bO.take {ds:List D}{vs:List V}(h:bO K H ds vs) (n:Nat):bO K H (ds.take n) (vs.take n):=⟨by rw [lTq,lTq,h.1],fun i d v a b=>by
 rw [List.getElem?_take] at a b;split at a
 .rename_i hi;rw [if_pos hi] at b;exact h.2 i d v a b
 .cases a⟩
theorem bO.drop {ds:List D}{vs:List V}(h:bO K H ds vs) (n:Nat):bO K H (ds.drop n) (vs.drop n):=⟨by rw [List.length_drop,List.length_drop,h.1],fun i d v a b=>by
 rw [List.getElem?_drop] at a b;exact h.2 _ d v a b⟩
theorem bO.get {ds:List D}{vs:List V}(h:bO K H ds vs) {i:Nat}{d:D}(e:ds[i]?=some d):∃ v,vs[i]?=some v/\cD K H d v:=by
 have hi:i<ds.length:=(gSq.mp e).1;have hj:i<vs.length:=h.1 ▸ hi;exact ⟨vs[i],gEg hj,h.2 i d _ e (gEg hj)⟩
theorem bO.get' {ds:List D}{vs:List V}(h:bO K H ds vs) {i:Nat}{v:V}(e:vs[i]?=some v):∃ d,ds[i]?=some d/\cD K H d v:=by
 have hi:i<vs.length:=(gSq.mp e).1;have hj:i<ds.length:=h.1.symm ▸ hi;exact ⟨ds[i],gEg hj,h.2 i _ v (gEg hj) e⟩
theorem bO.set {ds:List D}{vs:List V}{d:D}{v:V}(h:bO K H ds vs) (r:cD K H d v) (j:Nat):bO K H (ds.set j d) (vs.set j v):=⟨by simp [h.1],fun i e w a b=>by
 rw [List.getElem?_set] at a b
 by_cases hij:j=i
 .subst hij;rw [if_pos rfl] at a b;split at a
  .rename_i hj;rw [if_pos (h.1 ▸ hj)] at b;cases a;cases b;exact r
  .cases a
 .rw [if_neg hij] at a b;exact h.2 i e w a b⟩
theorem cD.list_inv {ds:List D}{v:V}(h:cD K H (.list ds) v):∃ p vs,v = .ref p/\H p=some (.lst vs)/\bO K H ds vs:=by
 cases h with
 | list h l e=>exact ⟨_,_,rfl,h,l,e⟩
theorem cD.tup_inv {ds:List D}{v:V}(h:cD K H (.tup ds) v):∃ p vs,v = .ref p/\H p=some (.tup vs)/\bO K H ds vs:=by
 cases h with
 | tup h l e=>exact ⟨_,_,rfl,h,l,e⟩
theorem cD.dict_inv {ds:List (bJ×D)}{v:V}(h:cD K H (.dict ds) v):∃ p kvs,v = .ref p/\H p=some (.dK kvs)/\gB K H ds kvs:=by
 cases h with
 | dict h l e=>exact ⟨_,_,rfl,h,l,e⟩
theorem cD.mk_list {ds:List D}{p:Addr}{vs:List V}(h:H p=some (.lst vs)) (r:bO K H ds vs):cD K H (.list ds) (.ref p):=.list h r.1 r.2
theorem cD.mk_tup {ds:List D}{p:Addr}{vs:List V}(h:H p=some (.tup vs)) (r:bO K H ds vs):cD K H (.tup ds) (.ref p):=.tup h r.1 r.2
theorem cD.mk_dict {ds:List (bJ×D)}{p:Addr}{vs:List (bJ×V)}(h:H p=some (.dK vs)) (r:gB K H ds vs):cD K H (.dict ds) (.ref p):=.dict h r.1 r.2
end
def D.scal:D->Bool
 | .non=>true
 | .bl _=>true
 | .int _=>true
 | .str _=>true
 | .ty _=>true
 | _=>false
theorem cD.scal {K:W.Frag}{H H':Hp}{d:D}{v:V}(h:cD K H d v) (s:d.scal=true):cD K H' d v:=by
 cases h with
 | non=>exact .non
 | bl=>exact .bl
 | int=>exact .int
 | str=>exact .str
 | ty=>exact .ty
 | _=>cases s
inductive AV where
 | sh (d:D)|ow (avs:List AV)|owd (kvs:List (bJ×D))|owl (kvs:List (bJ×List Int))
mutual
def aB:AV->D
 | .sh d=>d
 | .ow avs=>.list (rG avs)
 | .owd kvs=>.dict kvs
 | .owl kvs=>.dict (kvs.map fun x=>(x.1,.list (x.2.map .int)))
def rG:List AV->List D
 | []=>[]
 | a::as=>aB a::rG as
end
theorem tH:∀ avs:List AV,rG avs=avs.map aB
 | []=>by simp [rG]
 | a::as=>by simp [rG,tH as]
@[simp] theorem bK (d:D):aB (.sh d)=d:=by simp [aB]
@[simp] theorem kQ (avs:List AV):aB (.ow avs) = .list (avs.map aB):=by simp [aB,tH]
@[simp] theorem kW (kvs:List (bJ×D)):aB (.owd kvs) = .dict kvs:=by simp [aB]
theorem tO (kvs:List (bJ×List Int)):aB (.owl kvs) = .dict (kvs.map fun x=>(x.1,.list (x.2.map .int))):=by simp [aB]
inductive bD (K:W.Frag) (Hf H:Hp):AV->V->List Addr->Prop
 | sh {d:D}{v:V}(r:cD K Hf d v):bD K Hf H (.sh d) v []
 | ow {p:Addr}{vs:List V}{avs:List AV}{Fs:List (List Addr)}(h:H p=some (.lst vs)) (n:Hf p=none) (l:avs.length=vs.length) (lf:avs.length=Fs.length)
   (e:∀ (i:Nat) (a:AV) (v:V) (F:List Addr),avs[i]?=some a->vs[i]?=some v->Fs[i]?=some F->bD K Hf H a v F):bD K Hf H (.ow avs) (.ref p) (p::Fs.flatten)
 | owd {p:Addr}{kvs:List (bJ×V)}{ds:List (bJ×D)}(h:H p=some (.dK kvs)) (n:Hf p=none) (r:gB K Hf ds kvs):bD K Hf H (.owd ds) (.ref p) [p]
 | owl {p:Addr}{kvs:List (bJ×List Int)}{qs:List Addr}(h:H p=some (.dK (List.zipWith (fun x q=>(x.1,V.ref q)) kvs qs))) (n:Hf p=none) (l:kvs.length=qs.length) (e:∀ (i:Nat) (q:Addr) (x:bJ×List Int),qs[i]?=some q->kvs[i]?=some x->H q=some (.lst (x.2.map V.int))/\Hf q=none):bD K Hf H (.owl kvs) (.ref p) (p::qs)
theorem zp {K:W.Frag}{H:Hp}{p:Addr}{kvs:List (bJ×List Int)}{qs:List Addr}(h:H p=some (.dK (List.zipWith (fun x q=>(x.1,V.ref q)) kvs qs))) (l:kvs.length=qs.length) (e:∀ (i:Nat) (q:Addr) (x:bJ×List Int),qs[i]?=some q->kvs[i]?=some x->H q=some (.lst (x.2.map V.int))):cD K H (.dict (kvs.map fun x=>(x.1,.list (x.2.map .int)))) (.ref p):=by
 refine .dict h ?_ fun i d v h1 h2=>?_
 .refine List.ext_getElem? fun i=>?_
  rw [gMq,gMq,gMq,List.getElem?_zipWith]
  by_cases c:i<kvs.length
  .rw [gEg c,gEg (l ▸ c)];rfl
  .rw [List.getElem?_eq_none (Nat.le_of_not_lt c)];rfl
 .rw [gMq] at h1;rw [List.getElem?_zipWith] at h2;cases hk:kvs[i]? with
  | none=>rw [hk] at h1;cases h1
  | some x =>
   cases hq:qs[i]? with
   | none=>rw [hk,hq] at h2;cases h2
   | some q =>
    rw [hk] at h1 h2;rw [hq] at h2;cases h1;cases h2;refine .list (e i q x hq hk) (by rw [lMq,lMq]) fun j d v e1 e2=>?_
    rw [gMq] at e1 e2;cases hj:x.2[j]? with
    | none=>rw [hj] at e1;cases e1
    | some m =>
     rw [hj] at e1 e2;cases e1;cases e2;exact .int
theorem Hm {kvs:List (bJ×List Int)}{qs:List Addr}(l:kvs.length=qs.length) {q:Addr}(hq:q∈qs):∃ (i:Nat) (x:bJ×List Int),qs[i]?=some q/\kvs[i]?=some x:=by
 obtain ⟨i,hi⟩:=List.mem_iff_getElem?.mp hq;have hl:=(gSq.mp hi).1;exact ⟨i,_,hi,gEg (l ▸ hl)⟩
section
variable {K:W.Frag}{Hf Hf' H H':Hp}{av:AV}{v:V}{F:List Addr}
theorem bD.owned (h:bD K Hf H av v F):∀ q∈F,H q≠none/\Hf q=none:=by
 induction h with
 | sh _=>intro q hq;cases hq
 | @ow p vs avs Fs h n l lf e ih =>
  intro q hq;rcases List.mem_cons.mp hq with rfl|hq
  .exact ⟨by rw [h];simp,n⟩
  .obtain ⟨F,hF,hq⟩:=mFq.mp hq;obtain ⟨i,hi,rfl⟩:=List.mem_iff_getElem.mp hF;exact ih i avs[i] vs[i] Fs[i] (by simp) (by simp) (by simp) q hq
 | owd h n r =>
  intro q hq;have:=mSq.mp hq;subst this;exact ⟨by rw [h];simp,n⟩
 | owl h n l e =>
  intro q hq;rcases List.mem_cons.mp hq with z|z
  .rw [z];exact ⟨by rw [h];simp,n⟩
  .obtain ⟨i,x,h1,h2⟩:=Hm l z;obtain ⟨e1,e2⟩:=e i q x h1 h2;exact ⟨by rw [e1];simp,e2⟩
theorem bD.keep (h:bD K Hf H av v F) (s:bS Hf Hf') (hk:∀ q∈F,H' q=H q) (hn:∀ q∈F,Hf' q=none):bD K Hf' H' av v F:=by
 induction h with
 | sh r=>exact .sh (r.mono s)
 | @ow p vs avs Fs h n l lf e ih =>
  refine .ow (by rw [hk p (by simp)];exact h) (hn p (by simp)) l lf fun i a v F h1 h2 h3=>ih i a v F h1 h2 h3 (fun q hq=>hk q ?_) fun q hq=>hn q ?_
  all_goals exact mCo _ (mFq.mpr ⟨F,mGq h3,hq⟩)
 | owd h n r=>exact .owd (by rw [hk _ (by simp)];exact h) (hn _ (by simp)) (r.mono s)
 | @owl p kvs qs h n l e =>
  refine .owl (by rw [hk _ (List.mem_cons_self ..)];exact h) (hn _ (List.mem_cons_self ..)) l fun i q x h1 h2=>?_
  have m:q∈p::qs:=mCo _ (mGq h1);exact ⟨by rw [hk q m];exact (e i q x h1 h2).1,hn q m⟩
theorem bD.rep (h:bD K Hf H av v F) (s:bS Hf H):cD K H (aB av) v:=by
 induction h with
 | sh r=>rw [bK];exact r.mono s
 | @ow p vs avs Fs h n l lf e ih =>
  rw [kQ];refine .list h (by simp [l]) fun i d v h1 h2=>?_
  rw [gMq] at h1;cases ea:avs[i]? with
  | none=>rw [ea] at h1;cases h1
  | some a =>
   rw [ea] at h1;cases h1;have hi:i<Fs.length:=lf ▸ (gSq.mp ea).1;exact ih i a v Fs[i] ea h2 (gEg hi)
 | owd h n r=>rw [kW];exact .mk_dict h (r.mono s)
 | owl h n l e=>rw [tO];exact zp h l fun i q x h1 h2=>(e i q x h1 h2).1
def frz (Hf H:Hp) (F:List Addr):Hp:=fun b=>if b∈F then H b else Hf b
theorem mM {b:Addr}(h:b∈F):frz Hf H F b=H b:=if_pos h
theorem eX {b:Addr}(h:b∉F):frz Hf H F b=Hf b:=if_neg h
theorem cV (h:∀ q∈F,Hf q=none):bS Hf (frz Hf H F):=fun b o e=>by
 rw [eX fun m=>by rw [h b m] at e;cases e]
 exact e
theorem EL (s:bS Hf H):bS (frz Hf H F) H:=fun b o e=>by
 by_cases m:b∈F
 .rw [mM m] at e;exact e
 .rw [eX m] at e;exact s b o e
theorem bD.frozen (h:bD K Hf H av v F) (s:bS Hf Hf') (hk:∀ q∈F,Hf' q=H q):cD K Hf' (aB av) v:=by
 induction h with
 | sh r=>rw [bK];exact r.mono s
 | @ow p vs avs Fs h n l lf e ih =>
  rw [kQ];refine .list (by rw [hk p (by simp)];exact h) (by simp [l]) fun i d v h1 h2=>?_
  rw [gMq] at h1;cases ea:avs[i]? with
  | none=>rw [ea] at h1;cases h1
  | some a =>
   rw [ea] at h1;cases h1;have hi:i<Fs.length:=lf ▸ (gSq.mp ea).1;exact ih i a v Fs[i] ea h2 (gEg hi) fun q hq=>hk q (mCo _ (mFq.mpr ⟨Fs[i],gRq hi,hq⟩))
 | owd h n r=>rw [kW];exact .mk_dict (by rw [hk _ (by simp)];exact h) (r.mono s)
 | owl h n l e=>rw [tO];exact zp (by rw [hk _ (List.mem_cons_self ..)];exact h) l fun i q x h1 h2=>by rw [hk q (mCo _ (mGq h1))];exact (e i q x h1 h2).1
end
abbrev AS:=List (Option AV)
structure cm (K:W.Frag) (H₀ Hf₀ Hf:Hp) (S:AS) (σ:St) (H:Hp) (Fs:List (List Addr)):Prop where
 len:S.length=σ.length
 lenF:Fs.length=S.length
 rep:∀ (i:Nat) (av:AV),S[i]?=some (some av)->∃ v F,σ[i]?=some (some v)/\Fs[i]?=some F/\bD K Hf H av v F
 emp:∀ i:Nat,S[i]?=some none->Fs[i]?=some []
 nd:Fs.flatten.Nodup
 fresh:∀ p∈Fs.flatten,H₀ p=none
 sub:bS Hf H
 fr:bS H₀ H
 lim:∀ b,Hf₀ b=none->H₀ b≠none->Hf b=none
 sf:bS Hf₀ Hf
structure jW (Hf H:Hp) (Fs:List (List Addr)) (Hf' H':Hp) (Fs':List (List Addr)):Prop where
 sf:bS Hf Hf'
 sh:bS H H'
 own:∀ p∈Fs'.flatten,p∈Fs.flatten
 gr:∀ b,Hf b=none->Hf' b≠none->H b=none∨b∈Fs.flatten
theorem jW.refl {Hf H:Hp}{Fs:List (List Addr)}:jW Hf H Fs Hf H Fs:=⟨.refl _,.refl _,fun _ h=>h,fun b h g=>absurd h g⟩
theorem ED {H H':Hp}(s:bS H H') {b:Addr}(h:H b≠none):H' b≠none:=by
 cases e:H b with
 | none=>exact absurd e h
 | some o=>rw [s b o e];simp
theorem jW.trans {Hf H Hf1 H1 Hf2 H2:Hp}{Fs Fs1 Fs2:List (List Addr)}(a:jW Hf H Fs Hf1 H1 Fs1) (b:jW Hf1 H1 Fs1 Hf2 H2 Fs2):jW Hf H Fs Hf2 H2 Fs2 :=
 ⟨a.sf.trans b.sf,a.sh.trans b.sh,fun p h=>a.own p (b.own p h),fun c h g=>by
  by_cases e:Hf1 c=none
  .rcases b.gr c e g with q|q
   .exact .inl (a.sh.free q)
   .exact .inr (a.own c q)
  .exact a.gr c h e⟩
section
variable {K:W.Frag}{H₀ Hf₀ Hf Hf' H H':Hp}{S:AS}{σ:St}{Fs Fs':List (List Addr)}
theorem yI {b:Addr}(s:bS H H') (h:H b≠none):H' b=H b:=by
 cases e:H b with
 | none=>exact absurd e h
 | some o=>exact s b o e
theorem cm.mem (R:cm K H₀ Hf₀ Hf S σ H Fs) {q:Addr}(h:q∈Fs.flatten):H q≠none/\Hf q=none:=by
 obtain ⟨F,hF,hq⟩:=mFq.mp h;obtain ⟨i,hi,rfl⟩:=List.mem_iff_getElem.mp hF;have hiS:i<S.length:=R.lenF ▸ hi;cases e:S[i] with
 | none =>
  have:=R.emp i (by rw [gEg hiS,e])
  rw [gEg hi] at this;rw [Option.some.inj this] at hq;cases hq
 | some av =>
  obtain ⟨v,F,_,e2,r⟩:=R.rep i av (by rw [gEg hiS,e])
  rw [gEg hi] at e2;rw [Option.some.inj e2] at hq;exact r.owned q hq
theorem cm.more (R:cm K H₀ Hf₀ Hf S σ H Fs) (s:bS H H') (sf:bS Hf Hf') (sub:bS Hf' H') (hn:∀ q∈Fs.flatten,Hf' q=none) (lim:∀ b,Hf₀ b=none->H₀ b≠none->Hf' b=none):cm K H₀ Hf₀ Hf' S σ H' Fs where
 len:=R.len
 lenF:=R.lenF
 rep:=fun i av e=>by
  obtain ⟨v,F,e1,e2,r⟩:=R.rep i av e;refine ⟨v,F,e1,e2,r.keep sf (fun q hq=>yI s (r.owned q hq).1) fun q hq=>hn q (mFq.mpr ⟨F,mGq e2,hq⟩)⟩
 emp:=R.emp
 nd:=R.nd
 fresh:=R.fresh
 sub:=sub
 fr:=R.fr.trans s
 lim:=lim
 sf:=R.sf.trans sf
theorem cm.laid (R:cm K H₀ Hf₀ Hf S σ H Fs) (s:bS H H'):cm K H₀ Hf₀ Hf S σ H' Fs:=R.more s (.refl _) (R.sub.trans s) (fun q h=>(R.mem h).2) R.lim
theorem dF {F:List Addr}{i:Nat}{p:Addr}(h:p∈(Fs.set i F).flatten):p∈F∨p∈Fs.flatten:=by
 obtain ⟨G,hG,hp⟩:=mFq.mp h;rcases List.mem_or_eq_of_mem_set hG with q|q
 .exact .inr (mFq.mpr ⟨G,q,hp⟩)
 .subst q;exact .inl hp
theorem ed:∀ {Fs:List (List Addr)}{F:List Addr}(i:Nat),Fs.flatten.Nodup->F.Nodup->(∀ p∈F,p∉Fs.flatten)->(Fs.set i F).flatten.Nodup
 | [],F,i,h,_,_=>by simp
 | G::Gs,F,0,h,hF,hd=>by
  rw [List.set_cons_zero,fCq,nAq];rw [fCq,nAq] at h;refine ⟨hF,h.2.1,fun a ha b hb e=>hd a ha ?_⟩
  rw [fCq];exact List.mem_append_right _ (e ▸ hb)
 | G::Gs,F,i+1,h,hF,hd=>by
  rw [List.set_cons_succ,fCq,nAq];rw [fCq,nAq] at h;refine ⟨h.1,ed i h.2.1 hF fun p hp m=>hd p hp (by rw [fCq];exact List.mem_append_right _ m),fun a ha b hb e=>?_⟩
  rcases dF hb with q|q
  .exact hd b q (by rw [fCq];exact List.mem_append_left _ (e ▸ ha))
  .exact h.2.2 a ha b q e
theorem cm.set (R:cm K H₀ Hf₀ Hf S σ H Fs) {av:AV}{v:V}{F:List Addr}(i:Nat) (r:bD K Hf H av v F) (nd:F.Nodup) (hf:∀ q∈F,H₀ q=none/\q∉Fs.flatten) :
  cm K H₀ Hf₀ Hf (S.set i (some av)) (σ.set i (some v)) H (Fs.set i F) where
 len:=by simp [R.len]
 lenF:=by simp [R.lenF]
 rep:=fun j a e=>by
  rw [List.getElem?_set] at e
  by_cases hij:i=j
  .subst hij;rw [if_pos rfl] at e;split at e
   .rename_i hi;cases e;exact ⟨v,F,by rw [List.getElem?_set_self (R.len ▸ hi)],by rw [List.getElem?_set_self (R.lenF.symm ▸ hi)],r⟩
   .cases e
  .rw [if_neg hij] at e;obtain ⟨w,G,e1,e2,q⟩:=R.rep j a e;exact ⟨w,G,by rw [List.getElem?_set_ne hij];exact e1,by rw [List.getElem?_set_ne hij];exact e2,q⟩
 emp:=fun j e=>by
  rw [List.getElem?_set] at e
  by_cases hij:i=j
  .subst hij;rw [if_pos rfl] at e;split at e <;> cases e
  .rw [if_neg hij] at e;rw [List.getElem?_set_ne hij];exact R.emp j e
 nd:=ed i R.nd nd fun p hp=>(hf p hp).2
 fresh:=fun p hp=>by
  rcases dF hp with q|q
  .exact (hf p q).1
  .exact R.fresh p q
 sub:=R.sub
 fr:=R.fr
 lim:=R.lim
 sf:=R.sf
theorem dG {i:Nat}{p:Addr}(h:p∈(Fs.set i []).flatten):p∈Fs.flatten:=by
 rcases dF h with q|q
 .cases q
 .exact q
theorem gH:∀ {Fs:List (List Addr)}{F:List Addr}{i:Nat}{p:Addr},Fs.flatten.Nodup->Fs[i]?=some F->p∈F->p∉(Fs.set i []).flatten
 | [],F,i,p,_,e,_,_=>by simp at e
 | G::Gs,F,0,p,h,e,hp,m=>by
  simp at e;subst e;rw [List.set_cons_zero,fCq,List.nil_append] at m;rw [fCq,nAq] at h;exact h.2.2 p hp p m rfl
 | G::Gs,F,i+1,p,h,e,hp,m=>by
  rw [List.set_cons_succ,fCq] at m;rw [fCq,nAq] at h;have e':Gs[i]?=some F:=by simpa using e
  rcases mAq.mp m with q|q
  .exact h.2.2 p q p (mFq.mpr ⟨F,mGq e',hp⟩) rfl
  .exact gH h.2.1 e' hp q
theorem cm.move (R:cm K H₀ Hf₀ Hf S σ H Fs) {i:Nat}{av:AV}(e:S[i]?=some (some av)):∃ v F,σ[i]?=some (some v)/\Fs[i]?=some F/\bD K Hf H av v F/\F.Nodup/\(∀ q∈F,H₀ q=none/\q∉(Fs.set i []).flatten) /\
  cm K H₀ Hf₀ Hf (S.set i none) σ H (Fs.set i []):=by
 obtain ⟨v,F,e1,e2,r⟩:=R.rep i av e;have hin:∀ q∈F,q∈Fs.flatten:=fun q hq=>mFq.mpr ⟨F,mGq e2,hq⟩
 refine ⟨v,F,e1,e2,r,List.Pairwise.sublist (List.sublist_flatten_of_mem (mGq e2)) R.nd,fun q hq=>⟨R.fresh q (hin q hq),gH R.nd e2 hq⟩,?_⟩
 refine ⟨by simp [R.len],by simp [R.lenF],fun j a ej=>?_,fun j ej=>?_,ed i R.nd List.nodup_nil (fun p hp=>by cases hp),fun p hp=>R.fresh p (dG hp),R.sub,R.fr,R.lim,R.sf⟩
 .rw [List.getElem?_set] at ej
  by_cases hij:i=j
  .subst hij;rw [if_pos rfl] at ej;split at ej <;> cases ej
  .rw [if_neg hij] at ej;obtain ⟨w,G,f1,f2,q⟩:=R.rep j a ej;exact ⟨w,G,f1,by rw [List.getElem?_set_ne hij];exact f2,q⟩
 .rw [List.getElem?_set] at ej
  by_cases hij:i=j
  .subst hij;rw [if_pos rfl] at ej;split at ej
   .rename_i hi;rw [List.getElem?_set_self (R.lenF.symm ▸ hi)]
   .cases ej
  .rw [if_neg hij] at ej;rw [List.getElem?_set_ne hij];exact R.emp j ej
theorem cm.frz (R:cm K H₀ Hf₀ Hf S σ H Fs) {F:List Addr}(hf:∀ q∈F,H₀ q=none/\q∉Fs.flatten) (hn:∀ q∈F,Hf q=none):cm K H₀ Hf₀ (frz Hf H F) S σ H Fs:=by
 refine R.more (.refl _) (cV hn) (EL R.sub) (fun q hq=>?_) fun b h1 h2=>?_
 .rw [eX fun m=>(hf q m).2 hq]
  exact (R.mem hq).2
 .rw [eX fun m=>h2 (hf b m).1]
  exact R.lim b h1 h2
end
end Z
namespace Z
open PySem L2 Mr
abbrev ME:=AS->Option (D×AS)
abbrev MK:=AS->Option (AV×AS)
abbrev ML:=AS->Option (List D×AS)
abbrev MT:=AS->Option (Bool×AS)
abbrev MA:=AS->Option (List AV×AS)
def bZ (K:W.Frag) (Hf H:Hp) (avs:List AV) (vs:List V) (Gs:List (List Addr)):Prop :=
 avs.length=vs.length/\avs.length=Gs.length/\∀ (i:Nat) (a:AV) (v:V) (F:List Addr),avs[i]?=some a->vs[i]?=some v->Gs[i]?=some F->bD K Hf H a v F
structure jk (H₀ H:Hp) (Fs Fs':List (List Addr)) (F:List Addr):Prop where
 nd:F.Nodup
 fr:∀ q∈F,H₀ q=none
 out:∀ q∈F,q∉Fs'.flatten
 new:∀ q∈F,H q=none∨q∈Fs.flatten
theorem jk.nil {H₀ H:Hp}{Fs Fs':List (List Addr)}:jk H₀ H Fs Fs' []:=⟨List.nodup_nil,fun q h=>(by cases h),fun q h=>(by cases h),fun q h=>(by cases h)⟩
section
variable (K:W.Frag)
def SR (te:TE) (m:ME):Prop:=∀ {H₀ Hf₀ Hf:Hp}{S:AS}{σ:St}{H:Hp}{Fs:List (List Addr)}{d:D}{S':AS},cm K H₀ Hf₀ Hf S σ H Fs->m S=some (d,S')->∀ Q:VK,
 (∀ Hf' H' Fs' v,jW Hf H Fs Hf' H' Fs'->cm K H₀ Hf₀ Hf' S' σ H' Fs'->cD K H' d v->Q v H')->te σ H Q
def SK (te:TE) (m:MK):Prop:=∀ {H₀ Hf₀ Hf:Hp}{S:AS}{σ:St}{H:Hp}{Fs:List (List Addr)}{a:AV}{S':AS},cm K H₀ Hf₀ Hf S σ H Fs->m S=some (a,S')->∀ Q:VK,
 (∀ Hf' H' Fs' v F,jW Hf H Fs Hf' H' Fs'->cm K H₀ Hf₀ Hf' S' σ H' Fs'->bD K Hf' H' a v F->jk H₀ H Fs Fs' F->Q v H')->te σ H Q
def SL (te:TE) (m:ML):Prop:=∀ {H₀ Hf₀ Hf:Hp}{S:AS}{σ:St}{H:Hp}{Fs:List (List Addr)}{ds:List D}{S':AS},cm K H₀ Hf₀ Hf S σ H Fs->m S=some (ds,S')->∀ Q:VK,
 (∀ Hf' H' Fs' p vs,jW Hf H Fs Hf' H' Fs'->cm K H₀ Hf₀ Hf' S' σ H' Fs'->H' p=some (.lst vs)->bO K Hf' ds vs->Q (.ref p) H')->te σ H Q
def uy (tt:TT) (m:MT):Prop:=∀ {H₀ Hf₀ Hf:Hp}{S:AS}{σ:St}{H:Hp}{Fs:List (List Addr)}{b:Bool}{S':AS},cm K H₀ Hf₀ Hf S σ H Fs->m S=some (b,S')->∀ Q:Bool->Hp->Prop,
 (∀ Hf' H' Fs',jW Hf H Fs Hf' H' Fs'->cm K H₀ Hf₀ Hf' S' σ H' Fs'->Q b H')->tt σ H Q
def SA (ta:TA) (m:MA):Prop:=∀ {H₀ Hf₀ Hf:Hp}{S:AS}{σ:St}{H:Hp}{Fs:List (List Addr)}{as:List AV}{S':AS},cm K H₀ Hf₀ Hf S σ H Fs->m S=some (as,S')->∀ Q:List V->Hp->Prop,
 (∀ Hf' H' Fs' vs Gs,jW Hf H Fs Hf' H' Fs'->cm K H₀ Hf₀ Hf' S' σ H' Fs'->bZ K Hf' H' as vs Gs->jk H₀ H Fs Fs' Gs.flatten->Q vs H')->ta σ H Q
def EB (ta:TA) (m:ML):Prop:=∀ {H₀ Hf₀ Hf:Hp}{S:AS}{σ:St}{H:Hp}{Fs:List (List Addr)}{ds:List D}{S':AS},cm K H₀ Hf₀ Hf S σ H Fs->m S=some (ds,S')->∀ Q:List V->Hp->Prop,
 (∀ Hf' H' Fs' vs,jW Hf H Fs Hf' H' Fs'->cm K H₀ Hf₀ Hf' S' σ H' Fs'->bO K H' ds vs->Q vs H')->ta σ H Q
end
section
variable {K:W.Frag}{H₀ Hf₀ Hf Hf' H H':Hp}{S S':AS}{σ:St}{Fs Fs':List (List Addr)}
theorem bD.stp {av:AV}{v:V}{F:List Addr}(r:bD K Hf H av v F) (ho:∀ q∈F,q∉Fs.flatten) (t:jW Hf H Fs Hf' H' Fs'):bD K Hf' H' av v F :=
 r.keep t.sf (fun q hq=>yI t.sh (r.owned q hq).1) fun q hq=>by
  by_cases e:Hf' q=none
  .exact e
  .rcases t.gr q (r.owned q hq).2 e with z|z
   .exact absurd z (r.owned q hq).1
   .exact absurd z (ho q hq)
theorem cm.new (R:cm K H₀ Hf₀ Hf S σ H Fs) {p:Addr}{o:HO}(hp:H p=none):jW Hf H Fs Hf (cK H p o) Fs/\cm K H₀ Hf₀ Hf S σ (cK H p o) Fs/\Hf p=none/\H₀ p=none/\p∉Fs.flatten :=
 ⟨⟨.refl _,gV hp,fun _ h=>h,fun b h g=>absurd h g⟩,R.laid (gV hp),R.sub.free hp,R.fr.free hp,fun m=>(R.mem m).1 hp⟩
theorem fu (n:Nat):(List.replicate n ([]:List Addr)).flatten=[]:=by
 induction n with
 | zero=>rfl
 | succ n ih=>rw [List.replicate_succ,fCq,ih];rfl
theorem bD.new {p:Addr}{vs:List V}{ds:List D}(h:H p=some (.lst vs)) (n:Hf p=none) (r:bO K Hf ds vs):bD K Hf H (.ow (ds.map .sh)) (.ref p) [p]:=by
 have e:[p]=p::(List.replicate ds.length ([]:List Addr)).flatten:=by rw [fu]
 rw [e];refine .ow h n (by simp [r.1]) (by simp) fun i a v F h1 h2 h3=>?_
 rw [gMq] at h1;cases q:ds[i]? with
 | none=>rw [q] at h1;cases h1
 | some d =>
  rw [q] at h1;cases h1;have:F=[]:=List.eq_of_mem_replicate (mGq h3);subst this;exact .sh (r.2 i d v q h2)
theorem bD.news {p:Addr}{vs:List V}{avs:List AV}{Gs:List (List Addr)}(h:H p=some (.lst vs)) (n:Hf p=none) (r:bZ K Hf H avs vs Gs):bD K Hf H (.ow avs) (.ref p) (p::Gs.flatten):=.ow h n r.1 r.2.1 r.2.2
theorem bD.ow_inv {avs:List AV}{v:V}{F:List Addr}(h:bD K Hf H (.ow avs) v F):∃ p vs Gs,v = .ref p/\F=p::Gs.flatten/\H p=some (.lst vs)/\Hf p=none/\bZ K Hf H avs vs Gs:=by
 cases h with
 | ow h n l lf e=>exact ⟨_,_,_,rfl,rfl,h,n,l,lf,e⟩
theorem bD.owd_inv {ds:List (bJ×D)}{v:V}{F:List Addr}(h:bD K Hf H (.owd ds) v F):∃ p kvs,v = .ref p/\F=[p]/\H p=some (.dK kvs)/\Hf p=none/\gB K Hf ds kvs:=by
 cases h with
 | owd h n r=>exact ⟨_,_,rfl,rfl,h,n,r⟩
theorem bD.sh_inv {d:D}{v:V}{F:List Addr}(h:bD K Hf H (.sh d) v F):F=[]/\cD K Hf d v:=by
 cases h with
 | sh r=>exact ⟨rfl,r⟩
theorem cm.give {H1:Hp}{Fs1:List (List Addr)}(R:cm K H₀ Hf₀ Hf' S σ H1 Fs1) (t:jW Hf H Fs Hf' H1 Fs1) {av:AV}{v:V}{F:List Addr}(r:bD K Hf' H1 av v F) (o:jk H₀ H Fs Fs1 F) :
  cm K H₀ Hf₀ (Z.frz Hf' H1 F) S σ H1 Fs1/\cD K (Z.frz Hf' H1 F) (aB av) v/\jW Hf H Fs (Z.frz Hf' H1 F) H1 Fs1:=by
 have n:∀ q∈F,Hf' q=none:=fun q hq=>(r.owned q hq).2
 refine ⟨R.frz (fun q hq=>⟨o.fr q hq,o.out q hq⟩) n,r.frozen (cV n) fun q hq=>mM hq,t.sf.trans (cV n),t.sh,t.own,fun b h g=>?_⟩
 by_cases m:b∈F
 .exact o.new b m
 .rw [eX m] at g;exact t.gr b h g
theorem bZ.nil:bZ K Hf H [] [] []:=⟨rfl,rfl,fun i a v F h=>by simp at h⟩
theorem bZ.cons {a:AV}{v:V}{F:List Addr}{as:List AV}{vs:List V}{Gs:List (List Addr)}(h:bD K Hf H a v F) (t:bZ K Hf H as vs Gs):bZ K Hf H (a::as) (v::vs) (F::Gs) :=
 ⟨by simp [t.1],by simp [t.2.1],fun i b w G h1 h2 h3=>by
  cases i with
  | zero =>
   simp at h1 h2 h3;subst h1 h2 h3;exact h
  | succ i=>exact t.2.2 i b w G (by simpa using h1) (by simpa using h2) (by simpa using h3)⟩
theorem bZ.frozen (h:bZ K Hf H as vs Gs) (s:bS Hf Hf') (hk:∀ q∈Gs.flatten,Hf' q=H q):bO K Hf' (as.map aB) vs :=
 ⟨by simp [h.1],fun i d v h1 h2=>by
  rw [gMq] at h1;cases ea:as[i]? with
  | none=>rw [ea] at h1;cases h1
  | some a =>
   rw [ea] at h1;cases h1;have hi:i<Gs.length:=h.2.1 ▸ (gSq.mp ea).1;exact (h.2.2 i a v Gs[i] ea h2 (gEg hi)).frozen s fun q hq=>hk q (mFq.mpr ⟨Gs[i],gRq hi,hq⟩)⟩
theorem bZ.owned (h:bZ K Hf H as vs Gs):∀ q∈Gs.flatten,H q≠none/\Hf q=none:=fun q hq=>by
 obtain ⟨F,hF,hq⟩:=mFq.mp hq;obtain ⟨i,hi,rfl⟩:=List.mem_iff_getElem.mp hF;have h1:i<as.length:=h.2.1.symm ▸ hi;have h2:i<vs.length:=h.1 ▸ h1;exact (h.2.2 i as[i] vs[i] Gs[i] (gEg h1) (gEg h2) (gEg hi)).owned q hq
theorem cm.gives {H1:Hp}{Fs1:List (List Addr)}(R:cm K H₀ Hf₀ Hf' S σ H1 Fs1) (t:jW Hf H Fs Hf' H1 Fs1) {as:List AV}{vs:List V}{Gs:List (List Addr)}(r:bZ K Hf' H1 as vs Gs) (o:jk H₀ H Fs Fs1 Gs.flatten) :
  cm K H₀ Hf₀ (Z.frz Hf' H1 Gs.flatten) S σ H1 Fs1/\bO K (Z.frz Hf' H1 Gs.flatten) (as.map aB) vs/\jW Hf H Fs (Z.frz Hf' H1 Gs.flatten) H1 Fs1:=by
 have n:∀ q∈Gs.flatten,Hf' q=none:=fun q hq=>(r.owned q hq).2
 refine ⟨R.frz (fun q hq=>⟨o.fr q hq,o.out q hq⟩) n,r.frozen (cV n) fun q hq=>mM hq,t.sf.trans (cV n),t.sh,t.own,fun b h g=>?_⟩
 by_cases m:b∈Gs.flatten
 .exact o.new b m
 .rw [eX m] at g;exact t.gr b h g
theorem jk.stp {Hf1 H1 Hf2 H2:Hp}{Fs1 Fs2:List (List Addr)}{F:List Addr}(o:jk H₀ H Fs Fs1 F) (t:jW Hf1 H1 Fs1 Hf2 H2 Fs2):jk H₀ H Fs Fs2 F:=⟨o.nd,o.fr,fun q h m=>o.out q h (t.own q m),o.new⟩
theorem jk.back {Hf1 H1:Hp}{Fs1 Fs2:List (List Addr)}{F:List Addr}(t:jW Hf H Fs Hf1 H1 Fs1) (o:jk H₀ H1 Fs1 Fs2 F):jk H₀ H Fs Fs2 F:=⟨o.nd,o.fr,o.out,fun q h=>(o.new q h).elim (fun e=>.inl (t.sh.free e)) fun m=>.inr (t.own q m)⟩
theorem jk.app {F G:List Addr}(a:jk H₀ H Fs Fs' F) (b:jk H₀ H Fs Fs' G) (d:∀ q∈F,q∉G):jk H₀ H Fs Fs' (F++G) :=
 ⟨nAq.mpr ⟨a.nd,b.nd,fun x hx y hy e=>d x hx (e ▸ hy)⟩,fun q h=>(mAq.mp h).elim (a.fr q) (b.fr q),fun q h=>(mAq.mp h).elim (a.out q) (b.out q),fun q h=>(mAq.mp h).elim (a.new q) (b.new q)⟩
theorem jk.apart {Hf1 H1:Hp}{Fs1 Fs2:List (List Addr)}{F G:List Addr}(a:jk H₀ H Fs Fs1 F) (ha:∀ q∈F,H1 q≠none) (b:jk H₀ H1 Fs1 Fs2 G):∀ q∈F,q∉G:=fun q h m=>by
 rcases b.new q m with e|e
 .exact ha q h e
 .exact a.out q h e
theorem jk.one (R:cm K H₀ Hf₀ Hf S σ H Fs) {p:Addr}(hp:H p=none):jk H₀ H Fs Fs [p] :=
 ⟨by simp,fun q h=>by rw [mSq.mp h];exact R.fr.free hp,fun q h m=>by rw [mSq.mp h] at m;exact (R.mem m).1 hp,fun q h=>by rw [mSq.mp h];exact .inl hp⟩
end
end Z
namespace Z
open PySem L2 Mr
def ai (i:Nat):ME:=fun S=>(S[i]?.join).map fun a=>(aB a,S)
def aL (i:Nat):MK:=fun S=>(S[i]?.join).map fun a=>(.sh (aB a),S.set i (some (.sh (aB a))))
def uo (i:Nat):MK:=fun S=>(S[i]?.join).map fun a=>(a,S.set i none)
def rW (i:Nat):ML:=fun S=>match S[i]?.join with
 | some (.sh (.list ds))=>some (ds,S)
 | some (.ow avs)=>some (avs.map aB,S.set i (some (.ow ((avs.map aB).map .sh))))
 | _=>none
def rOf (k:MK):ME:=fun S=>(k S).map fun x=>(aB x.1,x.2)
def kSc (m:ME):MK:=fun S=>(m S).bind fun x=>if x.1.scal then some (.sh x.1,x.2) else none
def lOf (k:MK):ML:=fun S=>(k S).bind fun x=>match x.1 with
 | .sh (.list ds)=>some (ds,x.2)
 | .ow avs=>some (avs.map aB,x.2)
 | _=>none
def gW (k:MK):MK:=fun S=>(k S).map fun x=>(.sh (aB x.1),x.2)
def rC (d:D):ME:=fun S=>if d.scal then some (d,S) else none
section
variable {K:W.Frag}
theorem bH {S:AS}{i:Nat}{a:AV}(h:S[i]?.join=some a):S[i]?=some (some a):=by
 cases e:S[i]? with
 | none=>rw [e] at h;cases h
 | some z=>rw [e] at h;exact congrArg some h
theorem ae (i:Nat):SR K (lF i) (ai i):=by
 intro H₀ Hf₀ Hf S σ H Fs d S' R e Q q;obtain ⟨a,ea,e⟩:=oMq.mp e;cases e;obtain ⟨v,F,s1,s2,r⟩:=R.rep i a (bH ea);exact ⟨v,s1,q _ _ _ v .refl R (r.rep R.sub)⟩
theorem kJ (i:Nat):SK K (lF i) (uo i):=by
 intro H₀ Hf₀ Hf S σ H Fs a S' R e Q q;obtain ⟨b,ea,e⟩:=oMq.mp e;cases e;obtain ⟨v,F,s1,s2,r,nd,o,R1⟩:=R.move (bH ea);exact ⟨v,s1,q _ _ _ v F ⟨.refl _,.refl _,fun p hp=>dG hp,fun b h g=>absurd h g⟩ R1 r ⟨nd,fun q hq=>(o q hq).1,fun q hq=>(o q hq).2,fun q hq=>.inr (mFq.mpr ⟨F,mGq s2,hq⟩)⟩⟩
theorem cm.again {H₀ Hf₀ Hf H:Hp}{S:AS}{σ:St}{Fs:List (List Addr)}{i:Nat}{av:AV}{v:V}{F G:List Addr}(R:cm K H₀ Hf₀ Hf (S.set i none) σ H (Fs.set i [])) (s1:σ[i]?=some (some v)) (r:bD K Hf H av v G) (nd:G.Nodup) (hf:∀ q∈G,H₀ q=none/\q∉(Fs.set i []).flatten) :
  cm K H₀ Hf₀ Hf (S.set i (some av)) σ H (Fs.set i G):=by
 have R2:=R.set i r nd hf;rw [List.set_set,List.set_set] at R2;have e:σ.set i (some v)=σ:=by
  obtain ⟨hk,ev⟩:=gSq.mp s1;rw [← ev];exact List.set_getElem_self hk
 rw [e] at R2;exact R2
theorem aA (i:Nat):SK K (lF i) (aL i):=by
 intro H₀ Hf₀ Hf S σ H Fs a S' R e Q q;obtain ⟨b,ea,e⟩:=oMq.mp e;cases e;obtain ⟨v,F,s1,s2,r,nd,o,R1⟩:=R.move (bH ea);have n:∀ q∈F,Hf q=none:=fun q hq=>(r.owned q hq).2
 have R2:=R1.frz o n;have r2:=r.frozen (cV (H:=H) n) fun q hq=>mM hq
 have R3:=R2.again (F:=F) (G:=[]) s1 (.sh r2) List.nodup_nil fun q h=>(by cases h)
 refine ⟨v,s1,q _ _ _ v [] ⟨cV n,.refl _,fun p hp=>dG hp,fun b h g=>?_⟩ R3 (.sh r2) .nil⟩
 by_cases m:b∈F
 .exact .inr (mFq.mpr ⟨F,mGq s2,m⟩)
 .rw [eX m] at g;exact absurd h g
theorem nU (i:Nat):SL K (lF i) (rW i):=by
 intro H₀ Hf₀ Hf S σ H Fs ds S' R e Q q;unfold rW at e;split at e
 .rename_i ds' ea;cases e;obtain ⟨v,F,s1,s2,r⟩:=R.rep i _ (bH ea);obtain ⟨p,vs,rfl,h1,h2⟩:=r.sh_inv.2.list_inv;exact ⟨_,s1,q _ _ _ p vs .refl R (R.sub _ _ h1) h2⟩
 .rename_i avs ea;cases e;obtain ⟨v,F,s1,s2,r,nd,o,R1⟩:=R.move (bH ea);obtain ⟨p,vs,Gs,rfl,rfl,h1,h2,h3⟩:=r.ow_inv;have n:∀ q∈Gs.flatten,Hf q=none:=fun q hq=>(h3.owned q hq).2
  have R2:=R1.frz (F:=Gs.flatten) (fun q hq=>o q (mCo _ hq)) n
  have r2:=h3.frozen (cV (H:=H) n) fun q hq=>mM hq
  have np:p∉Gs.flatten:=(List.nodup_cons.mp nd).1;have r3:bD K (Z.frz Hf H Gs.flatten) H (.ow ((avs.map aB).map .sh)) (.ref p) [p]:=bD.new h1 (by rw [eX np];exact h2) r2
  have R3:=R2.again (F:=p::Gs.flatten) (G:=[p]) s1 r3 (by simp) fun q hq=>by rw [mSq.mp hq];exact o p (by simp)
  refine ⟨_,s1,q _ _ _ p vs ⟨cV n,.refl _,fun b hb=>?_,fun b h g=>?_⟩ R3 h1 r2⟩
  .rcases dF hb with z|z
   .rw [mSq.mp z];exact mFq.mpr ⟨_,mGq s2,by simp⟩
   .exact z
  .by_cases m:b∈Gs.flatten
   .exact .inr (mFq.mpr ⟨_,mGq s2,mCo _ m⟩)
   .rw [eX m] at g;exact absurd h g
 .cases e
theorem SK.rOf {te:TE}{k:MK}(h:SK K te k):SR K te (rOf k):=by
 intro H₀ Hf₀ Hf S σ H Fs d S' R e Q q;obtain ⟨x,ea,e⟩:=oMq.mp e;cases e;exact h R (a:=x.1) (S':=x.2) ea Q fun Hf' H' Fs' v F t R' r o=>q _ _ _ v t R' (r.rep R'.sub)
theorem SR.kSc {te:TE}{m:ME}(h:SR K te m):SK K te (kSc m):=by
 intro H₀ Hf₀ Hf S σ H Fs a S' R e Q q;obtain ⟨x,ea,e⟩:=oBq.mp e;split at e
 .rename_i hs;cases e;exact h R (d:=x.1) (S':=x.2) ea Q fun Hf' H' Fs' v t R' r=>q _ _ _ v [] t R' (.sh (r.scal hs)) .nil
 .cases e
theorem SK.frz {te:TE}{k:MK}(h:SK K te k):SK K te (gW k):=by
 intro H₀ Hf₀ Hf S σ H Fs a S' R e Q q;obtain ⟨x,ea,e⟩:=oMq.mp e;cases e;refine h R (a:=x.1) (S':=x.2) ea Q fun Hf' H' Fs' v F t R' r o=>?_
 obtain ⟨R2,r2,t2⟩:=R'.give t r o;exact q _ _ _ v [] t2 R2 (.sh r2) .nil
theorem SK.lOf {te:TE}{k:MK}(h:SK K te k):SL K te (lOf k):=by
 intro H₀ Hf₀ Hf S σ H Fs ds S' R e Q q;obtain ⟨x,ea,e⟩:=oBq.mp e;refine h R (a:=x.1) (S':=x.2) ea Q fun Hf' H' Fs' v F t R' r o=>?_
 split at e
 .rename_i ds' hx;cases e;rw [hx] at r;obtain ⟨p,vs,rfl,h1,h2⟩:=r.sh_inv.2.list_inv;exact q _ _ _ p vs t R' (R'.sub _ _ h1) h2
 .rename_i avs hx;cases e;obtain ⟨R2,r2,t2⟩:=R'.give t r o;rw [hx,kQ] at r2;obtain ⟨p,vs,rfl,h1,h2⟩:=r2.list_inv;exact q _ _ _ p vs t2 R2 (R2.sub _ _ h1) h2
 .cases e
theorem DK {v:V}{d:D}(h:∀ H,cD K H d v):SR K (tC v) (rC d):=by
 intro H₀ Hf₀ Hf S σ H Fs d' S' R e Q q;unfold rC at e;split at e
 .cases e;exact q _ _ _ v .refl R (h _)
 .cases e
theorem ak {i:Int}:SR K (tC (.int i)) (rC (.int i)):=DK fun _=>.int
theorem mD {i:Str}:SR K (tC (.str i)) (rC (.str i)):=DK fun _=>.str
theorem ft {i:Bool}:SR K (tC (.bl i)) (rC (.bl i)):=DK fun _=>.bl
theorem qW:SR K (tC .non) (rC .non):=DK fun _=>.non
theorem nO {T:String}:SR K (tC (.ty T)) (rC (.ty T)):=DK fun _=>.ty
end
noncomputable def jb {α:Type}(p:Prop) (x:Option α):Option α:=@ite (Option α) p (Classical.propDecidable p) x none
theorem dW {α:Type}{p:Prop}(h:p) (x:Option α):jb p x=x:=if_pos h
theorem gT {α:Type}(x:Option α):jb True x=x:=if_pos trivial
theorem bh {α:Type}{p:Prop}{x y:Option α}(h:jb p x=y):(p/\x=y)∨none=y:=by
 by_cases c:p
 .rw [dW c] at h;exact .inl ⟨c,h⟩
 .exact .inr ((@if_neg p (Classical.propDecidable p) c _ x none).symm.trans h)
def aN (f:D->D->Option D) (a b:ME):ME:=fun S=>(a S).bind fun x=>(b x.2).bind fun y=>(f x.1 y.1).map fun d=>(d,y.2)
def Cj (f:D->Option D) (a:ME):ME:=fun S=>(a S).bind fun x=>(f x.1).map fun d=>(d,x.2)
def pq (K:W.Frag) (r:R2) (f:D->D->Option D):Prop:=∀ {x y:V}{H:Hp}{Q:VK}{dx dy d:D},cD K H dx x->cD K H dy y->f dx dy=some d->(∀ v,cD K H d v->Q v H)->r x y H Q
def L8 (K:W.Frag) (r:V->Hp->VK->Prop) (f:D->Option D):Prop:=∀ {x:V}{H:Hp}{Q:VK}{dx d:D},cD K H dx x->f dx=some d->(∀ v,cD K H d v->Q v H)->r x H Q
section
variable {K:W.Frag}{r:R2}{f:D->D->Option D}{ta tb:TE}{a b:ME}
theorem aw (hr:pq K r f) (ha:SR K ta a) (hb:SR K tb b):SR K (DY r ta tb) (aN f a b):=by
 intro H₀ Hf₀ Hf S σ H Fs d S' R e Q q;obtain ⟨x,e1,e⟩:=oBq.mp e;obtain ⟨y,e2,e⟩:=oBq.mp e;obtain ⟨z,e3,e⟩:=oMq.mp e;cases e;refine ha R (d:=x.1) (S':=x.2) e1 _ fun Hf1 H1 Fs1 v1 t1 R1 r1=>hb R1 (d:=y.1) (S':=y.2) e2 _ fun Hf2 H2 Fs2 v2 t2 R2 r2=>?_
 exact hr (r1.mono t2.sh) r2 e3 fun v rv=>q _ _ _ v (t1.trans t2) R2 rv
theorem zk {r:V->Hp->VK->Prop}{f:D->Option D}(hr:L8 K r f) (ha:SR K ta a):SR K (LU r ta) (Cj f a):=by
 intro H₀ Hf₀ Hf S σ H Fs d S' R e Q q;obtain ⟨x,e1,e⟩:=oBq.mp e;obtain ⟨z,e3,e⟩:=oMq.mp e;cases e;exact ha R (d:=x.1) (S':=x.2) e1 _ fun Hf1 H1 Fs1 v1 t1 R1 r1=>hr r1 e3 fun v rv=>q _ _ _ v t1 R1 rv
end
noncomputable def wX (c:Int->Int->Prop) (g:Int->Int->D):D->D->Option D
 | .int i,.int j=>jb (c i j) (some (g i j))
 | _,_=>none
def Mg (g:Int->D):D->Option D
 | .int i=>some (g i)
 | _=>none
noncomputable abbrev fP:=wX (fun _ _=>True) fun i j=>.int (i+j)
noncomputable abbrev si:=wX (fun _ _=>True) fun i j=>.int (i-j)
noncomputable abbrev nT:=wX Ci fun i j=>.int (i*j)
noncomputable abbrev eU:=wX (fun _ j=>0<j) fun i j=>.int (i % j)
noncomputable abbrev kc:=wX Ic fun i j=>.int (i / j)
noncomputable abbrev vY:=wX HJ fun i j=>.int (i ^ j.toNat)
noncomputable abbrev BP:=wX (fun _ _=>True) fun i j=>.bl (decide (i<j))
noncomputable abbrev Jq:=wX (fun _ _=>True) fun i j=>.bl (decide (i<=j))
noncomputable abbrev G0:=wX (fun _ _=>True) fun i j=>.bl (decide (j<i))
noncomputable abbrev Nm:=wX (fun _ _=>True) fun i j=>.bl (decide (j<=i))
abbrev sD:=Mg fun i=>.int (-i)
def Bj (b:Bool):Option D:=some (.bl b)
def tG (x y:D):Option D:=match x with
 | .int i=>(match y with|.int j=>Bj (decide (i=j))|.non=>Bj false|.str _=>Bj false|_=>none)
 | .str i=>(match y with|.str j=>Bj (decide (i=j))|.non=>Bj false|.int _=>Bj false|_=>none)
 | .bl i=>(match y with|.bl j=>Bj (decide (i=j))|.non=>Bj false|_=>none)
 | .non=>(match y with|.non=>Bj true|.int _=>Bj false|.str _=>Bj false|.bl _=>Bj false|_=>none)
 | _=>none
def A9:D->Option D
 | .bl b=>some (.bl (!b))
 | _=>none
def pP (x y:D):Option D:=(tG x y).bind A9
section
variable {K:W.Frag}
theorem vy {C:Int->Int->Prop}{g:Int->Int->V}{g':Int->Int->D}(hg:∀ H i j,cD K H (g' i j) (g i j)):pq K (rI C g) (wX C g'):=by
 intro x y H Q dx dy d rx ry e q;unfold wX at e;split at e
 .rename_i i j;cases rx;cases ry;rcases bh e with ⟨h,e⟩|e
  .cases e;exact ⟨i,j,rfl,rfl,h,q _ (hg H i j)⟩
  .cases e
 .cases e
theorem rO {g:Int->Int->V}{g':Int->Int->D}(hg:∀ H i j,cD K H (g' i j) (g i j)):pq K (zH g) (wX (fun _ _=>True) g'):=by
 intro x y H Q dx dy d rx ry e q;unfold wX at e;split at e
 .rename_i i j;cases rx;cases ry;rw [gT] at e;cases e;exact ⟨i,j,rfl,rfl,q _ (hg H i j)⟩
 .cases e
theorem eP:pq K (zH fun i j=>.int (i+j)) fP:=rO fun _ _ _=>.int
theorem md:pq K (zH fun i j=>.int (i-j)) si:=rO fun _ _ _=>.int
theorem uT:pq K (rI Ci fun i j=>.int (i*j)) nT:=vy fun _ _ _=>.int
theorem df:pq K (rI (fun _ j=>0<j) fun i j=>.int (i % j)) eU:=vy fun _ _ _=>.int
theorem ky:pq K (rI Ic fun i j=>.int (i / j)) kc:=vy fun _ _ _=>.int
theorem xH:pq K (rI HJ fun i j=>.int (i ^ j.toNat)) vY:=vy fun _ _ _=>.int
theorem sJ:pq K (zH fun i j=>.bl (decide (i<j))) BP:=rO fun _ _ _=>.bl
theorem Jc:pq K (zH fun i j=>.bl (decide (i<=j))) Jq:=rO fun _ _ _=>.bl
theorem vD:pq K (zH fun i j=>.bl (decide (j<i))) G0:=rO fun _ _ _=>.bl
theorem uk:L8 K (rU fun i=>.int (-i)) sD:=by
 intro x H Q dx d rx e q;cases rx <;> simp only [Mg] at e
 all_goals first|(exfalso;simp at e;done)|skip
 rename_i i;cases e;exact ⟨i,rfl,q _ .int⟩
theorem lL:pq K Mw tG:=by
 intro x y H Q dx dy d rx ry e q;unfold tG at e;cases rx <;> first|(cases e;done)|(cases ry <;> first|(cases e;done)|skip)
 all_goals (cases e;refine ⟨rfl,q _ ?_⟩;simp only [reduceCtorEq,decide_false,decide_true,V.int.injEq,V.str.injEq,V.bl.injEq];exact .bl)
theorem km:pq K Mc pP:=by
 intro x y H Q dx dy d rx ry e q;obtain ⟨b,e1,e2⟩:=oBq.mp e;obtain ⟨h1,h2⟩:=lL rx ry e1 (Q:=fun v _=>cD K H b v) fun v h=>h
 cases h2;cases e2;exact ⟨h1,q _ .bl⟩
end
def Cm (a b:ME):ME:=fun S=>(a S).bind fun x=>match x.1 with
 | .bl true=>b x.2
 | .bl false=>some (.bl false,x.2)
 | _=>none
def Nj (a b:ME):ME:=fun S=>(a S).bind fun x=>match x.1 with
 | .bl true=>some (.bl true,x.2)
 | .bl false=>b x.2
 | _=>none
def HE (a:ME):ME:=Cj A9 a
def eM (a:ME):MT:=fun S=>(a S).bind fun x=>match x.1 with
 | .bl b=>some (b,x.2)
 | _=>none
def oZ (a b:MT):MT:=fun S=>(a S).bind fun x=>if x.1=true then b x.2 else some (false,x.2)
def iX (a b:MT):MT:=fun S=>(a S).bind fun x=>if x.1=true then some (true,x.2) else b x.2
def fh (a:MT):MT:=fun S=>(a S).map fun x=>(!x.1,x.2)
def Np (c:MT) (a b:ME):ME:=fun S=>(c S).bind fun x=>if x.1=true then a x.2 else b x.2
def Nl (c:MT) (a b:MK):MK:=fun S=>(c S).bind fun x=>if x.1=true then a x.2 else b x.2
section
variable {K:W.Frag}{ta tb:TE}{a b:ME}{ca cb:TT}{ma mb:MT}
theorem yp (ha:SR K ta a) (hb:SR K tb b):SR K (FM ta tb) (Cm a b):=by
 intro H₀ Hf₀ Hf S σ H Fs d S' R e Q q;obtain ⟨x,e1,e⟩:=oBq.mp e;refine ha R (d:=x.1) (S':=x.2) e1 _ fun Hf1 H1 Fs1 v1 t1 R1 r1=>?_
 split at e
 .rename_i hx;rw [hx] at r1;cases r1;exact ⟨true,rfl,wI (hb R1 e Q fun Hf2 H2 Fs2 v2 t2 R2 r2=>q _ _ _ v2 (t1.trans t2) R2 r2)⟩
 .rename_i hx;rw [hx] at r1;cases r1;cases e;exact ⟨false,rfl,wJ (q _ _ _ _ t1 R1 .bl)⟩
 .cases e
theorem Gn (ha:SR K ta a):SR K (FU ta) (HE a):=by
 intro H₀ Hf₀ Hf S σ H Fs d S' R e Q q;obtain ⟨x,e1,e⟩:=oBq.mp e;obtain ⟨z,e3,e⟩:=oMq.mp e;cases e;refine ha R (d:=x.1) (S':=x.2) e1 _ fun Hf1 H1 Fs1 v1 t1 R1 r1=>?_
 cases hx:x.1 <;> rw [hx] at e3 r1 <;> simp only [A9] at e3
 all_goals first|(exfalso;simp at e3;done)|skip
 cases r1;cases e3;exact ⟨_,rfl,q _ _ _ _ t1 R1 .bl⟩
theorem gA (ha:SR K ta a):uy K (tB ta) (eM a):=by
 intro H₀ Hf₀ Hf S σ H Fs d S' R e Q q;obtain ⟨x,e1,e⟩:=oBq.mp e;refine ha R (d:=x.1) (S':=x.2) e1 _ fun Hf1 H1 Fs1 v1 t1 R1 r1=>?_
 split at e
 .rename_i b hx;rw [hx] at r1;cases r1;cases e;exact ⟨_,rfl,q _ _ _ t1 R1⟩
 .cases e
theorem aU (ha:SR K ta a):uy K (CW ta) (eM a):=gA ha
theorem uD (ha:uy K ca ma) (hb:uy K cb mb):uy K (Ki ca cb) (oZ ma mb):=by
 intro H₀ Hf₀ Hf S σ H Fs d S' R e Q q;obtain ⟨x,e1,e⟩:=oBq.mp e;refine ha R (b:=x.1) (S':=x.2) e1 _ fun Hf1 H1 Fs1 t1 R1=>?_
 split at e
 .rename_i hx;rw [hx];exact wI (hb R1 e Q fun Hf2 H2 Fs2 t2 R2=>q _ _ _ (t1.trans t2) R2)
 .rename_i hx;cases e;rw [Bool.not_eq_true] at hx;rw [hx];exact wJ (q _ _ _ t1 R1)
theorem ic (ha:uy K ca ma) (hb:uy K cb mb):uy K (Mf ca cb) (iX ma mb):=by
 intro H₀ Hf₀ Hf S σ H Fs d S' R e Q q;obtain ⟨x,e1,e⟩:=oBq.mp e;refine ha R (b:=x.1) (S':=x.2) e1 _ fun Hf1 H1 Fs1 t1 R1=>?_
 split at e
 .rename_i hx;cases e;rw [hx];exact wI (q _ _ _ t1 R1)
 .rename_i hx;rw [Bool.not_eq_true] at hx;rw [hx];exact wJ (hb R1 e Q fun Hf2 H2 Fs2 t2 R2=>q _ _ _ (t1.trans t2) R2)
theorem eQ (ha:uy K ca ma):uy K (Kb ca) (fh ma):=by
 intro H₀ Hf₀ Hf S σ H Fs d S' R e Q q;obtain ⟨x,e1,e⟩:=oMq.mp e;cases e;exact ha R (b:=x.1) (S':=x.2) e1 _ fun Hf1 H1 Fs1 t1 R1=>q _ _ _ t1 R1
end
end Z
namespace Z
open PySem L2 Mr
abbrev eG:Nat:=16777216
theorem gw:sizeLine=eG:=sizeLine_eq
def SQ (K:W.Frag) (te:TE) (m:ML):Prop:=∀ {H₀ Hf₀ Hf:Hp}{S:AS}{σ:St}{H:Hp}{Fs:List (List Addr)}{ds:List D}{S':AS},cm K H₀ Hf₀ Hf S σ H Fs->m S=some (ds,S')->∀ Q:VK,
 (∀ Hf' H' Fs' p vs,jW Hf H Fs Hf' H' Fs'->cm K H₀ Hf₀ Hf' S' σ H' Fs'->eJ K H' p vs->bO K Hf' ds vs->Q (.ref p) H')->te σ H Q
theorem SL.q {K:W.Frag}{te:TE}{m:ML}(h:SL K te m):SQ K te m:=by
 intro H₀ Hf₀ Hf S σ H Fs ds S' R e Q q;exact h R e Q fun Hf' H' Fs' p vs t R' hp r=>q _ _ _ p vs t R' (eJ.of hp) r
def ji (i:Nat):ML:=fun S=>match S[i]?.join with
 | some (.sh (.scr ns))=>some (ns.map .int,S)
 | some (.sh (.list ds))=>some (ds,S)
 | some (.ow avs)=>some (avs.map aB,S.set i (some (.ow ((avs.map aB).map .sh))))
 | _=>none
theorem gL {K:W.Frag}{H:Hp}:∀ ns:List Int,bO K H (ns.map .int) (ns.map V.int)
 | []=>.nil
 | n::ns=>.cons .int (gL ns)
theorem eZ {K:W.Frag}(i:Nat):SQ K (lF i) (ji i):=by
 intro H₀ Hf₀ Hf S σ H Fs ds S' R e Q q;unfold ji at e;split at e
 .rename_i ns ea;cases e;obtain ⟨v,F,s1,s2,r⟩:=R.rep i _ (bH ea);cases r.sh_inv.2 with
  | scr h=>exact ⟨_,s1,q _ _ _ _ _ .refl R (R.sub.seq h) (gL ns)⟩
 .rename_i ds' ea;cases e;refine nU i R (ds:=ds) (S':=S) ?_ Q fun Hf' H' Fs' p vs t R' hp r=>q _ _ _ p vs t R' (eJ.of hp) r
  unfold rW;rw [ea]
 .rename_i avs ea;refine nU i R (ds:=ds) (S':=S') ?_ Q fun Hf' H' Fs' p vs t R' hp r=>q _ _ _ p vs t R' (eJ.of hp) r
  unfold rW;rw [ea];exact e
 .cases e
section
variable {K:W.Frag}{H₀ Hf₀ Hf Hf' H H':Hp}{S S':AS}{σ:St}{Fs Fs':List (List Addr)}
theorem bZ.stp {as:List AV}{vs:List V}{Gs:List (List Addr)}(r:bZ K Hf H as vs Gs) (ho:∀ q∈Gs.flatten,q∉Fs.flatten) (t:jW Hf H Fs Hf' H' Fs'):bZ K Hf' H' as vs Gs :=
 ⟨r.1,r.2.1,fun i a v F h1 h2 h3=>(r.2.2 i a v F h1 h2 h3).stp (fun q hq=>ho q (mFq.mpr ⟨F,mGq h3,hq⟩)) t⟩
theorem cm.layF (R:cm K H₀ Hf₀ Hf S σ H Fs) {p:Addr}{o:HO}(hp:H p=none):jW Hf H Fs (cK Hf p o) (cK H p o) Fs/\cm K H₀ Hf₀ (cK Hf p o) S σ (cK H p o) Fs:=by
 have hf:Hf p=none:=R.sub.free hp;refine ⟨⟨gV hf,gV hp,fun _ h=>h,fun b h g=>?_⟩,R.more (gV hp) (gV hf) (fun b u e=>?_) (fun q hq=>?_) fun b h1 h2=>?_⟩
 .by_cases m:b=p
  .subst m;exact .inl hp
  .rw [aR m] at g;exact absurd h g
 .by_cases m:b=p
  .subst m;rw [bb] at e ⊢;exact e
  .rw [aR m] at e ⊢;exact R.sub b u e
 .rw [aR fun e=>(R.mem hq).1 (by rw [e];exact hp)]
  exact (R.mem hq).2
 .rw [aR fun e=>h2 (by rw [e];exact R.fr.free hp)]
  exact R.lim b h1 h2
end
def bF:MA:=fun S=>some ([],S)
def aC (k:MK) (r:MA):MA:=fun S=>(k S).bind fun x=>(r x.2).map fun y=>(x.1::y.1,y.2)
def aE:ML:=fun S=>some ([],S)
def aj (k:ME) (r:ML):ML:=fun S=>(k S).bind fun x=>(r x.2).map fun y=>(x.1::y.1,y.2)
section
variable {K:W.Frag}{te ta tb:TE}{tr:TA}
theorem aJ:SA K ka bF:=by
 intro H₀ Hf₀ Hf S σ H Fs as S' R e Q q;cases e;exact q _ _ _ [] [] .refl R .nil .nil
theorem ax {k:MK}{r:MA}(hk:SK K te k) (hr:SA K tr r):SA K (gi te tr) (aC k r):=by
 intro H₀ Hf₀ Hf S σ H Fs as S' R e Q q;obtain ⟨x,e1,e⟩:=oBq.mp e;obtain ⟨y,e2,e⟩:=oMq.mp e;cases e;refine hk R (a:=x.1) (S':=x.2) e1 _ fun Hf1 H1 Fs1 v F t1 R1 r1 o1=>hr R1 (as:=y.1) (S':=y.2) e2 _ fun Hf2 H2 Fs2 vs Gs t2 R2 r2 o2=>?_
 refine q _ _ _ (v::vs) (F::Gs) (t1.trans t2) R2 (.cons (r1.stp o1.out t2) r2) ?_;rw [fCq];exact (o1.stp t2).app (o2.back t1) (o1.apart (Hf1:=Hf1) (fun q hq=>(r1.owned q hq).1) o2)
theorem ay:EB K ka aE:=by
 intro H₀ Hf₀ Hf S σ H Fs as S' R e Q q;cases e;exact q _ _ _ [] .refl R .nil
theorem ah {k:ME}{r:ML}(hk:SR K te k) (hr:EB K tr r):EB K (gi te tr) (aj k r):=by
 intro H₀ Hf₀ Hf S σ H Fs as S' R e Q q;obtain ⟨x,e1,e⟩:=oBq.mp e;obtain ⟨y,e2,e⟩:=oMq.mp e;cases e;refine hk R (d:=x.1) (S':=x.2) e1 _ fun Hf1 H1 Fs1 v t1 R1 r1=>hr R1 (ds:=y.1) (S':=y.2) e2 _ fun Hf2 H2 Fs2 vs t2 R2 r2=>?_
 exact q _ _ _ (v::vs) (t1.trans t2) R2 (.cons (r1.mono t2.sh) r2)
end
noncomputable def gF (a:MA):MK:=fun S=>(a S).bind fun x=>jb (x.1.length<=eG) (some (.ow x.1,x.2))
noncomputable def sj (a:MA):MK:=fun S=>(a S).bind fun x=>jb (x.1.length<=eG) (some (.sh (.tup (x.1.map aB)),x.2))
section
variable {K:W.Frag}{ta:TA}{a:MA}
theorem dv (ha:SA K ta a):SK K (JY ta) (gF a):=by
 intro H₀ Hf₀ Hf S σ H Fs av S' R e Q q;obtain ⟨x,e1,e⟩:=oBq.mp e;rcases bh e with ⟨hl,e⟩|e
 .skip
  cases e;refine ha R (as:=x.1) (S':=x.2) e1 _ fun Hf1 H1 Fs1 vs Gs t1 R1 r1 o1=>⟨by rw [gw,← r1.1];exact hl,fun p hp=>?_⟩
  obtain ⟨t2,R2,n1,n2,n3⟩:=R1.new (o:=.lst vs) hp;refine q _ _ _ (.ref p) (p::Gs.flatten) (t1.trans t2) R2 (bD.news bb n1 (r1.stp o1.out t2)) ?_;have o2:=(jk.one R1 hp).back t1;refine (show jk _ _ _ _ ([p]++Gs.flatten) from o2.app o1 fun q hq m=>?_)
  rw [mSq.mp hq] at m;exact (r1.owned p m).1 hp
 .cases e
theorem ko (ha:SA K ta a):SK K (JW ta) (sj a):=by
 intro H₀ Hf₀ Hf S σ H Fs av S' R e Q q;obtain ⟨x,e1,e⟩:=oBq.mp e;rcases bh e with ⟨hl,e⟩|e
 .skip
  cases e;refine ha R (as:=x.1) (S':=x.2) e1 _ fun Hf1 H1 Fs1 vs Gs t1 R1 r1 o1=>⟨by rw [gw,← r1.1];exact hl,fun p hp=>?_⟩
  obtain ⟨R2,r2,t2⟩:=R1.gives t1 r1 o1;obtain ⟨t3,R3⟩:=R2.layF (o:=.tup vs) hp;exact q _ _ _ (.ref p) [] (t2.trans t3) R3 (.sh (.mk_tup bb (r2.mono t3.sf))) .nil
 .cases e
end
noncomputable def xw (a b:ML):MK:=fun S=>(a S).bind fun x=>(b x.2).bind fun y=>jb (x.1.length+y.1.length<=eG) (some (.ow ((x.1++y.1).map .sh),y.2))
section
variable {K:W.Frag}{ta tb:TE}{a b:ML}
theorem qX (ha:SL K ta a) (hb:SL K tb b):SK K (DY JU ta tb) (xw a b):=by
 intro H₀ Hf₀ Hf S σ H Fs av S' R e Q q;obtain ⟨x,e1,e⟩:=oBq.mp e;obtain ⟨y,e2,e⟩:=oBq.mp e;rcases bh e with ⟨hl,e⟩|e
 .skip
  cases e;refine ha R (ds:=x.1) (S':=x.2) e1 _ fun Hf1 H1 Fs1 p1 vs1 t1 R1 h1 r1=>hb R1 (ds:=y.1) (S':=y.2) e2 _ fun Hf2 H2 Fs2 p2 vs2 t2 R2 h2 r2=>?_
  refine ⟨p1,p2,vs1,vs2,rfl,rfl,t2.sh _ _ h1,h2,by rw [gw,← r1.1,← r2.1];exact hl,fun p hp=>?_⟩
  obtain ⟨t3,R3,n1,n2,n3⟩:=R2.new (o:=.lst (vs1++vs2)) hp;exact q _ _ _ (.ref p) [p] ((t1.trans t2).trans t3) R3 (bD.new bb n1 ((r1.mono t2.sf).append r2)) ((jk.one R2 hp).back (t1.trans t2))
 .cases e
end
abbrev MO:=AS->Option (Option Int×AS)
def SO (K:W.Frag) (to:TO) (m:MO):Prop:=∀ {H₀ Hf₀ Hf:Hp}{S:AS}{σ:St}{H:Hp}{Fs:List (List Addr)}{o:Option Int}{S':AS},cm K H₀ Hf₀ Hf S σ H Fs->m S=some (o,S')->∀ Q:Option Int->Hp->Prop,
 (∀ Hf' H' Fs',jW Hf H Fs Hf' H' Fs'->cm K H₀ Hf₀ Hf' S' σ H' Fs'->Q o H')->to σ H Q
def rh:MO:=fun S=>some (none,S)
def ny (m:ME):MO:=fun S=>(m S).bind fun x=>match x.1 with
 | .int i=>some (some i,x.2)
 | _=>none
def iS {α:Type}(xs:List α) (lo hi:Option Int):List α:=(xs.drop (HT.sG xs.length 0 lo)).take (HT.sG xs.length xs.length hi-HT.sG xs.length 0 lo)
def FL (l:ML) (lo hi:MO):MK:=fun S=>(l S).bind fun x=>(lo x.2).bind fun y=>(hi y.2).map fun z=>(.ow ((iS x.1 y.1 z.1).map .sh),z.2)
section
variable {K:W.Frag}{te:TE}{tl th:TO}{l:ML}{lo hi:MO}{m:ME}
theorem mW:SO K yO rh:=by
 intro H₀ Hf₀ Hf S σ H Fs o S' R e Q q;cases e;exact q _ _ _ .refl R
theorem jD (h:SR K te m):SO K (FX te) (ny m):=by
 intro H₀ Hf₀ Hf S σ H Fs o S' R e Q q;obtain ⟨x,e1,e⟩:=oBq.mp e;refine h R (d:=x.1) (S':=x.2) e1 _ fun Hf1 H1 Fs1 v t1 R1 r1=>?_
 split at e
 .rename_i i hx;rw [hx] at r1;cases r1;cases e;exact ⟨i,rfl,q _ _ _ t1 R1⟩
 .cases e
theorem bO.cut {H:Hp}{ds:List D}{vs:List V}(r:bO K H ds vs) (lo hi:Option Int):bO K H (iS ds lo hi) (xk vs lo hi):=by
 unfold iS xk;rw [r.1];exact (r.drop _).take _
theorem sR (hl:SQ K te l) (hlo:SO K tl lo) (hhi:SO K th hi):SK K (Mh (J6 K) te tl th) (FL l lo hi):=by
 intro H₀ Hf₀ Hf S σ H Fs av S' R e Q q;obtain ⟨x,e1,e⟩:=oBq.mp e;obtain ⟨y,e2,e⟩:=oBq.mp e;obtain ⟨z,e3,e⟩:=oMq.mp e;cases e;refine hl R (ds:=x.1) (S':=x.2) e1 _ fun Hf1 H1 Fs1 p1 vs1 t1 R1 h1 r1=>hlo R1 (o:=y.1) (S':=y.2) e2 _ fun Hf2 H2 Fs2 t2 R2=>hhi R2 (o:=z.1) (S':=z.2) e3 _ fun Hf3 H3 Fs3 t3 R3=>?_
 refine ⟨p1,vs1,rfl,(t2.sh.trans t3.sh).seq h1,fun p hp=>?_⟩
 obtain ⟨t4,R4,n1,n2,n3⟩:=R3.new (o:=.lst (xk vs1 y.1 z.1)) hp;exact q _ _ _ (.ref p) [p] (((t1.trans t2).trans t3).trans t4) R4 (bD.new bb n1 ((r1.mono (t2.sf.trans t3.sf)).cut _ _)) ((jk.one R3 hp).back ((t1.trans t2).trans t3))
end
def sQ:D->D->Option D
 | .list ds,.int i=>atI ds i
 | .scr ns,.int i=>(atI ns i).map .int
 | _,_=>none
def bW:D->D->Option D
 | .tup ds,.int i=>atI ds i
 | _,_=>none
def Hh (l:ML) (b:ME):MK:=fun S=>(l S).bind fun x=>(b x.2).bind fun y=>match y.1 with
 | .int i=>(atI x.1 i).map fun d=>(.sh d,y.2)
 | _=>none
def wt (k:MK) (b:ME):MK:=fun S=>(k S).bind fun x=>(b x.2).bind fun y=>match x.1,y.1 with
 | .sh (.tup ds),.int i=>(atI ds i).map fun d=>(.sh d,y.2)
 | _,_=>none
section
variable {K:W.Frag}{ta tb:TE}
theorem bO.atI {H:Hp}{ds:List D}{vs:List V}{i:Int}{d:D}(r:bO K H ds vs) (h:L2.atI ds i=some d):∃ v,L2.atI vs i=some v/\cD K H d v:=by
 unfold L2.atI at h ⊢;rw [r.1] at h;obtain ⟨j,h1,h2⟩:=oBq.mp h;rw [h1];exact r.get h2
theorem nB:pq K (Fo K) sQ:=by
 intro x y H Q dx dy d rx ry e q;unfold sQ at e;split at e
 .rename_i ds i;cases ry;obtain ⟨p,vs,rfl,h,r⟩:=rx.list_inv;obtain ⟨l,e'⟩:=r;obtain ⟨v,h1,h2⟩:=bO.atI (K:=K) (H:=H) (ds:=ds) (vs:=vs) ⟨l,e'⟩ e;exact ⟨p,vs,i,v,rfl,rfl,eJ.of h,h1,q v h2⟩
 .rename_i ns i;cases ry;cases rx;rename_i p h;obtain ⟨n,h1,h2⟩:=oMq.mp e;subst h2;obtain ⟨v,h3,h4⟩:=bO.atI (K:=K) (H:=H) (gL ns) (i:=i) (d:=.int n) (by
   unfold L2.atI at h1 ⊢;rw [lMq];obtain ⟨j,g1,g2⟩:=oBq.mp h1;rw [g1];show (ns.map D.int)[j]?=_;rw [gMq,g2];rfl)
  exact ⟨p,_,i,v,rfl,rfl,h,h3,q v h4⟩
 .cases e
theorem cg:pq K (Hu K) bW:=by
 intro x y H Q dx dy d rx ry e q;unfold bW at e;split at e
 .rename_i ds i;cases ry;obtain ⟨p,vs,rfl,h,r⟩:=rx.tup_inv;obtain ⟨v,h1,h2⟩:=bO.atI (K:=K) (H:=H) (ds:=ds) (vs:=vs) r e;exact ⟨p,vs,i,v,rfl,rfl,oG.of h,h1,q v h2⟩
 .cases e
theorem we {l:ML}{b:ME}(hl:SQ K ta l) (hb:SR K tb b):SK K (DY (Fo K) ta tb) (Hh l b):=by
 intro H₀ Hf₀ Hf S σ H Fs av S' R e Q q;obtain ⟨x,e1,e⟩:=oBq.mp e;obtain ⟨y,e2,e⟩:=oBq.mp e;refine hl R (ds:=x.1) (S':=x.2) e1 _ fun Hf1 H1 Fs1 p1 vs1 t1 R1 h1 r1=>hb R1 (d:=y.1) (S':=y.2) e2 _ fun Hf2 H2 Fs2 v2 t2 R2 r2=>?_
 split at e
 .rename_i i hy;rw [hy] at r2;cases r2;obtain ⟨d,e3,e⟩:=oMq.mp e;cases e;obtain ⟨v,g1,g2⟩:=(r1.mono t2.sf).atI e3;exact ⟨p1,vs1,i,v,rfl,rfl,t2.sh.seq h1,g1,q _ _ _ v [] (t1.trans t2) R2 (.sh g2) .nil⟩
 .cases e
theorem xI {k:MK}{b:ME}(hk:SK K ta k) (hb:SR K tb b):SK K (DY (Hu K) ta tb) (wt k b):=by
 intro H₀ Hf₀ Hf S σ H Fs av S' R e Q q;obtain ⟨x,e1,e⟩:=oBq.mp e;obtain ⟨y,e2,e⟩:=oBq.mp e;refine hk R (a:=x.1) (S':=x.2) e1 _ fun Hf1 H1 Fs1 v1 F t1 R1 r1 o1=>hb R1 (d:=y.1) (S':=y.2) e2 _ fun Hf2 H2 Fs2 v2 t2 R2 r2=>?_
 split at e
 .rename_i ds i hx hy;rw [hy] at r2;rw [hx] at r1;cases r2;obtain ⟨d,e3,e⟩:=oMq.mp e;cases e;obtain ⟨p,vs,rfl,h1,h2⟩:=(r1.sh_inv.2.mono t2.sf).tup_inv;obtain ⟨v,g1,g2⟩:=h2.atI e3;exact ⟨p,vs,i,v,rfl,rfl,oG.of (R2.sub _ _ h1),g1,q _ _ _ v [] (t1.trans t2) R2 (.sh g2) .nil⟩
 .cases e
end
def Gj (K:W.Frag) (r:List V->Hp->VK->Prop) (f:List D->Option D):Prop:=∀ {vs:List V}{H:Hp}{Q:VK}{ds:List D}{d:D},bO K H ds vs->f ds=some d->(∀ v,cD K H d v->Q v H)->r vs H Q
def iQ (f:List D->Option D) (a:ML):ME:=fun S=>(a S).bind fun x=>(f x.1).map fun d=>(d,x.2)
theorem cF {K:W.Frag}{r:List V->Hp->VK->Prop}{f:List D->Option D}{ta:TA}{a:ML}(hr:Gj K r f) (ha:EB K ta a):SR K (Bk r ta) (iQ f a):=by
 intro H₀ Hf₀ Hf S σ H Fs d S' R e Q q;obtain ⟨x,e1,e⟩:=oBq.mp e;obtain ⟨z,e3,e⟩:=oMq.mp e;cases e;exact ha R (ds:=x.1) (S':=x.2) e1 _ fun Hf1 H1 Fs1 vs t1 R1 r1=>hr r1 e3 fun v rv=>q _ _ _ v t1 R1 rv
noncomputable def fe:List D->Option D
 | [.list ds]=>some (.int ds.length)
 | [.tup ds]=>some (.int ds.length)
 | [.scr ns]=>some (.int ns.length)
 | [.str x]=>jb (x.length<=eG) (some (.int x.length))
 | _=>none
def Ni:List D->Option D
 | [.int i]=>some (.int (if i<0 then -i else i))
 | _=>none
def LV:List D->Option D
 | [.int i,.int j]=>some (.int (if j>i then j else i))
 | _=>none
def nP:List D->Option D
 | [.int i,.int j]=>some (.int (if j<i then j else i))
 | _=>none
def Mb:List D->Option D
 | [.int i]=>some (.int i)
 | [.bl k]=>some (.int (if k then 1 else 0))
 | _=>none
def K5:D->String->Option D
 | .int _,T=>if T = "int" then some (.bl true) else if T = "bool" then some (.bl false) else none
 | .bl _,T=>if T = "bool" ∨ T = "int" then some (.bl true) else none
 | .str _,T=>if T = "str" then some (.bl true) else none
 | .list _,T=>if T = "list" then some (.bl true) else none
 | .tup _,T=>if T = "tuple" then some (.bl true) else none
 | .dict _,T=>if T = "dict" then some (.bl true) else none
 | _,_=>none
def mC:List D->Option D
 | [x,.ty T]=>K5 x T
 | _=>none
def cM:List D->Option (List Int)
 | []=>some []
 | .int i::ds=>(cM ds).map (i :: ·)
 | _=>none
theorem gb:∀ {ds:List D}{ns:List Int},cM ds=some ns->ds=ns.map .int
 | [],ns,h=>by cases h;rfl
 | d::ds,ns,h=>by
  cases d with
  | int i =>
   obtain ⟨ms,h1,h2⟩:=oMq.mp (show (cM ds).map (i :: ·)=some ns from h)
   subst h2;rw [gb h1];rfl
  | _=>cases h
@[simp] theorem fY (ns:List Int):cM (ns.map .int)=some ns:=by
 induction ns with
 | nil=>rfl
 | cons n ns ih=>show (cM (ns.map .int)).map (n :: ·)=_;rw [ih];rfl
theorem cX {K:W.Frag}{H:Hp}:∀ {ns:List Int}{vs:List V},bO K H (ns.map .int) vs->vs=ns.map V.int
 | [],vs,h=>h.nil_inv
 | n::ns,vs,h=>by
  obtain ⟨v,ws,rfl,h1,h2⟩:=bO.cons_inv (d:=.int n) (ds:=ns.map .int) h;cases h1;rw [cX h2];rfl
def zi:List Int->Option Int
 | []=>none
 | n::ns=>some (ns.foldl min n)
theorem iL:∀ (ns:List Int) (n:Int),ns.foldl min n∈n::ns
 | [],n=>by simp
 | m::ns,n=>by
  have h:=iL ns (min n m);rw [List.foldl_cons];rcases List.mem_cons.mp h with e|e
  .rw [e]
   by_cases c:n<=m
   .rw [Int.min_eq_left c];simp
   .rw [Int.min_eq_right (by lia)];simp
  .exact mCo _ (mCo _ e)
theorem gD:∀ (ns:List Int) (n:Int),(ns.foldl min n<=n)/\∀ x∈ns,ns.foldl min n<=x
 | [],n=>⟨Int.le_refl _,fun x h=>by cases h⟩
 | m::ns,n=>by
  obtain ⟨h1,h2⟩:=gD ns (min n m);rw [List.foldl_cons];refine ⟨by lia,fun x hx=>?_⟩
  rcases List.mem_cons.mp hx with e|e
  .subst e;lia
  .exact h2 x e
def El:List D->Option D
 | [.list ds]=>(cM ds).bind fun ns=>(zi ns).map .int
 | _=>none
section
variable {K:W.Frag}
theorem dg:Gj K (fun xs H Q=>∃ x n,xs=[x]/\JE K x H n/\Q (.int n) H) fe:=by
 intro vs H Q ds d r e q;unfold fe at e;split at e
 .obtain ⟨v,ws,rfl,h1,h2⟩:=r.cons_inv;rw [h2.nil_inv];obtain ⟨p,us,rfl,h3,h4⟩:=h1.list_inv;cases e;exact ⟨_,_,rfl,.inl ⟨us,eJ.of h3,h4.1⟩,q _ .int⟩
 .obtain ⟨v,ws,rfl,h1,h2⟩:=r.cons_inv;rw [h2.nil_inv];obtain ⟨p,us,rfl,h3,h4⟩:=h1.tup_inv;cases e;exact ⟨_,_,rfl,.inr ⟨us,oG.of h3,h4.1⟩,q _ .int⟩
 .obtain ⟨v,ws,rfl,h1,h2⟩:=r.cons_inv;rw [h2.nil_inv];cases e;cases h1 with
  | scr h=>exact ⟨_,_,rfl,.inl ⟨_,h,(lMq _).symm⟩,q _ .int⟩
 .rcases bh e with ⟨hl,e⟩|e
  .skip
   obtain ⟨v,ws,rfl,h1,h2⟩:=r.cons_inv;rw [h2.nil_inv];cases e;cases h1;exact ⟨_,_,rfl,⟨by rw [gw];exact hl,rfl⟩,q _ .int⟩
  .cases e
 .cases e
theorem ue:Gj K (fun xs H Q=>∃ i j,xs=[.int i,.int j]/\Q (.int (if j<i then j else i)) H) nP:=by
 intro vs H Q ds d r e q;unfold nP at e;split at e
 .obtain ⟨v,ws,rfl,h1,h2⟩:=r.cons_inv;obtain ⟨u,zs,rfl,h3,h4⟩:=h2.cons_inv;rw [h4.nil_inv];cases h1;cases h3;cases e;exact ⟨_,_,rfl,q _ .int⟩
 .cases e
theorem Hs:Gj K (fun xs H Q=>∃ (a:Addr) (ns:List Int),xs=[.ref a]/\eJ K H a (ns.map V.int)/\0<ns.length/\∀ M,M∈ns->(∀ x,x∈ns->M<=x)->Q (.int M) H) El:=by
 intro vs H Q ds d r e q;unfold El at e;split at e
 .obtain ⟨v,ws,rfl,h1,h2⟩:=r.cons_inv;rw [h2.nil_inv];obtain ⟨ns,e1,e⟩:=oBq.mp e;obtain ⟨m,e2,e⟩:=oMq.mp e;cases e;rw [gb e1] at h1;obtain ⟨p,us,rfl,h3,h4⟩:=h1.list_inv;rw [cX h4] at h3;cases ns with
  | nil=>cases e2
  | cons n ns =>
   cases e2;refine ⟨p,_,rfl,eJ.of h3,by simp,fun M hM hm=>?_⟩
   have e3:M=ns.foldl min n:=by
    have a1:=hm _ (iL ns n);have a2:=gD ns n;have a3:ns.foldl min n<=M:=by
     rcases List.mem_cons.mp hM with z|z
     .subst z;exact a2.1
     .exact a2.2 M z
    lia
   rw [e3];exact q _ .int
 .cases e
theorem mH:Gj K (fun xs H Q=>∃ x T b,xs=[x,.ty T]/\Ff K x H T b/\Q (.bl b) H) mC:=by
 intro vs H Q ds d r e q;unfold mC at e;split at e
 rotate_left
 .cases e
 rename_i x T;obtain ⟨v,ws,rfl,h1,h2⟩:=r.cons_inv;obtain ⟨u,zs,rfl,h3,h4⟩:=h2.cons_inv;rw [h4.nil_inv];cases h3;unfold K5 at e;cases x <;> first|(cases e;done)|dsimp only at e
 case int =>
  cases h1;split at e
  .rename_i hT;cases e;exact ⟨_,_,_,rfl,.inl ⟨hT,rfl⟩,q _ .bl⟩
  .split at e
   .rename_i hT;cases e;exact ⟨_,_,_,rfl,.inr ⟨hT,rfl⟩,q _ .bl⟩
   .cases e
 case bl =>
  cases h1;split at e
  .rename_i hT;cases e;rcases hT with hT|hT
   .exact ⟨_,_,_,rfl,.inl ⟨hT,rfl⟩,q _ .bl⟩
   .exact ⟨_,_,_,rfl,.inr ⟨hT,rfl⟩,q _ .bl⟩
  .cases e
 case str =>
  cases h1;split at e
  .rename_i hT;cases e;exact ⟨_,_,_,rfl,⟨hT,rfl⟩,q _ .bl⟩
  .cases e
 case list =>
  obtain ⟨p,us,rfl,g3,g4⟩:=h1.list_inv;split at e
  .rename_i hT;cases e;exact ⟨_,_,_,rfl,.inl ⟨hT,rfl,us,eJ.of g3⟩,q _ .bl⟩
  .cases e
 case tup =>
  obtain ⟨p,us,rfl,g3,g4⟩:=h1.tup_inv;split at e
  .rename_i hT;cases e;exact ⟨_,_,_,rfl,.inr (.inr ⟨hT,rfl,us,oG.of g3⟩),q _ .bl⟩
  .cases e
 case dict =>
  obtain ⟨p,us,rfl,g3,g4⟩:=h1.dict_inv;split at e
  .rename_i hT;cases e;exact ⟨_,_,_,rfl,.inr (.inl ⟨hT,rfl,us,g3⟩),q _ .bl⟩
  .cases e
end
end Z
namespace Z
open PySem L2 Mr
abbrev MF:=List D->Option AV
def bj (K:W.Frag) (f:MF):Sp:=fun vs H Q _=>∃ (Hf:Hp) (ds:List D) (a:AV),bS Hf H/\bO K Hf ds vs/\f ds=some a /\
 ∀ Hf' H' v F,bS Hf Hf'->bS H H'->bS Hf' H'->(∀ b,Hf b=none->H b≠none->Hf' b=none)->bD K Hf' H' a v F->F.Nodup->(∀ q∈F,H q=none)->Q v H'
def bV (f:MF) (a:MA):MK:=fun S=>(a S).bind fun x=>(f (x.1.map aB)).map fun r=>(r,x.2)
theorem bG {K:W.Frag}{f:MF}{ta:TA}{a:MA}(ha:SA K ta a):SK K (yT (bj K f) [] E0 ta) (bV f a):=by
 intro H₀ Hf₀ Hf S σ H Fs av S' R e Q q;obtain ⟨x,e1,e⟩:=oBq.mp e;obtain ⟨z,e3,e⟩:=oMq.mp e;cases e;refine ha R (as:=x.1) (S':=x.2) e1 _ fun Hf1 H1 Fs1 vs Gs t1 R1 r1 o1=>?_
 obtain ⟨R2,r2,t2⟩:=R1.gives t1 r1 o1;rw [aNq];refine ⟨_,_,av,R2.sub,r2,e3,fun Hf' H' v F s1 s2 s3 l r nd fr=>?_⟩
 have t3:jW (Z.frz Hf1 H1 Gs.flatten) H1 Fs1 Hf' H' Fs1:=⟨s1,s2,fun _ h=>h,fun b h g=>.inl (by
  by_cases e:H1 b=none
  .exact e
  .exact absurd (l b h e) g)⟩
 have hn:∀ q∈Fs1.flatten,Hf' q=none:=fun q hq=>l q (R2.mem hq).2 (R2.mem hq).1
 have R3:cm K H₀ Hf₀ Hf' x.2 σ H' Fs1:=R2.more s2 s1 s3 hn fun b h1 h2=>l b (R2.lim b h1 h2) (ED R2.fr h2)
 refine q _ _ _ v F (t2.trans t3) R3 r ⟨nd,fun q hq=>R2.fr.free (fr q hq),fun q hq m=>(R2.mem m).1 (fr q hq),fun q hq=>.inl (t1.sh.free (fr q hq))⟩
inductive vd where
 | nx (S:AS)|rt (a:AV)|bk (S:AS)|ct (S:AS)
abbrev MS:=AS->Option vd
def vL (K:W.Frag) (H₀ Hf₀ Hf:Hp) (D:pH):vd->Prop
 | .nx S=>∀ Hf' σ' H' Fs',bS Hf Hf'->cm K H₀ Hf₀ Hf' S σ' H' Fs'->D.nx σ' H'
 | .bk S=>∀ Hf' σ' H' Fs',bS Hf Hf'->cm K H₀ Hf₀ Hf' S σ' H' Fs'->D.bk σ' H'
 | .ct S=>∀ Hf' σ' H' Fs',bS Hf Hf'->cm K H₀ Hf₀ Hf' S σ' H' Fs'->D.ct σ' H'
 | .rt a=>∀ Hf' H' v F,bS Hf₀ Hf'->bS H₀ H'->bS Hf' H'->(∀ b,Hf₀ b=none->H₀ b≠none->Hf' b=none)->bD K Hf' H' a v F->F.Nodup->(∀ q∈F,H₀ q=none)->D.rt v H'
def SS (K:W.Frag) (t:TS) (m:MS):Prop:=∀ {H₀ Hf₀ Hf:Hp}{S:AS}{σ:St}{H:Hp}{Fs:List (List Addr)}{o:vd},cm K H₀ Hf₀ Hf S σ H Fs->m S=some o->∀ D:pH,vL K H₀ Hf₀ Hf D o->t D σ H
theorem vL.mono {K:W.Frag}{H₀ Hf₀ Hf Hf':Hp}{D:pH}{o:vd}(s:bS Hf Hf') (h:vL K H₀ Hf₀ Hf D o):vL K H₀ Hf₀ Hf' D o:=by
 cases o with
 | nx S=>exact fun Hf2 σ' H' Fs' s2 R=>h Hf2 σ' H' Fs' (s.trans s2) R
 | bk S=>exact fun Hf2 σ' H' Fs' s2 R=>h Hf2 σ' H' Fs' (s.trans s2) R
 | ct S=>exact fun Hf2 σ' H' Fs' s2 R=>h Hf2 σ' H' Fs' (s.trans s2) R
 | rt a=>exact h
def cu:MS:=fun S=>some (.nx S)
def LQ:MS:=fun S=>some (.bk S)
def L9:MS:=fun S=>some (.ct S)
def xK:MS:=fun _=>none
def aG (a b:MS):MS:=fun S=>(a S).bind fun o=>match o with
 | .nx S'=>b S'
 | o=>some o
def bz (i:Nat) (k:MK):MS:=fun S=>(k S).map fun x=>.nx (x.2.set i (some x.1))
def Mt (k:MK):MS:=fun S=>(k S).map fun x=>.nx x.2
def cB (k:MK):MS:=fun S=>(k S).map fun x=>.rt x.1
def jR (c:MT) (a b:MS):MS:=fun S=>(c S).bind fun x=>if x.1=true then a x.2 else b x.2
section
variable {K:W.Frag}{t u:TS}{a b:MS}{te:TE}{k:MK}
theorem bo:SS K FD cu:=by
 intro H₀ Hf₀ Hf S σ H Fs o R e D h;cases e;exact h _ _ _ _ (.refl _) R
theorem Ca:SS K Cv xK:=by
 intro H₀ Hf₀ Hf S σ H Fs o R e D h;cases e
theorem au (ha:SS K t a) (hb:SS K u b):SS K (Je t u) (aG a b):=by
 intro H₀ Hf₀ Hf S σ H Fs o R e D h;obtain ⟨x,e1,e⟩:=oBq.mp e;refine ha R e1 _ ?_;cases x with
 | nx S'=>exact fun Hf' σ' H' Fs' s R'=>hb R' e D (h.mono s)
 | rt a=>cases e;exact h
 | bk a=>cases e;exact h
 | ct a=>cases e;exact h
theorem aD {i:Nat}(hk:SK K te k):SS K (zU te (gQ i)) (bz i k):=by
 intro H₀ Hf₀ Hf S σ H Fs o R e D h;obtain ⟨x,e1,e⟩:=oMq.mp e;cases e;refine hk R (a:=x.1) (S':=x.2) e1 _ fun Hf1 H1 Fs1 v F t1 R1 r1 o1=>?_
 exact h _ _ _ _ t1.sf (R1.set i r1 o1.nd fun q hq=>⟨o1.fr q hq,o1.out q hq⟩)
theorem aV (hk:SK K te k):SS K (JN te) (cB k):=by
 intro H₀ Hf₀ Hf S σ H Fs o R e D h;obtain ⟨x,e1,e⟩:=oMq.mp e;cases e;exact hk R (a:=x.1) (S':=x.2) e1 _ fun Hf1 H1 Fs1 v F t1 R1 r1 o1=>h _ _ v F R1.sf R1.fr R1.sub R1.lim r1 o1.nd o1.fr
theorem cG {c:TT}{m:MT}(hc:uy K c m) (ha:SS K t a) (hb:SS K u b):SS K (Jj c t u) (jR m a b):=by
 intro H₀ Hf₀ Hf S σ H Fs o R e D h;obtain ⟨x,e1,e⟩:=oBq.mp e;refine hc R (b:=x.1) (S':=x.2) e1 _ fun Hf1 H1 Fs1 t1 R1=>?_
 split at e
 .rename_i hx;rw [hx];exact wI (ha R1 e D (h.mono t1.sf))
 .rename_i hx;rw [Bool.not_eq_true] at hx;rw [hx];exact wJ (hb R1 e D (h.mono t1.sf))
end
def dk (S:AS) (i:Nat):Option (List AV):=match S[i]?.join with
 | some (.ow avs)=>some avs
 | _=>none
def jP (S:AS) (i:Nat):Option (List (bJ×D)):=match S[i]?.join with
 | some (.owd kvs)=>some kvs
 | _=>none
noncomputable def rY (i:Nat) (k:MK):MS:=fun S=>(dk S i).bind fun _=>(k S).bind fun x=>(dk x.2 i).bind fun avs =>
 jb (avs.length<eG) (some (.nx (x.2.set i (some (.ow (avs++[x.1]))))))
noncomputable def Hg (i:Nat) (l:ML):MS:=fun S=>(dk S i).bind fun _=>(l S).bind fun x=>(dk x.2 i).bind fun avs =>
 jb (avs.length+x.1.length<=eG) (some (.nx (x.2.set i (some (.ow (avs++x.1.map .sh))))))
def intOf:D->Option Int
 | .int i=>some i
 | _=>none
def IE (i:Nat) (b:ME) (k:MK):MS:=fun S=>(gW k S).bind fun x=>(dk x.2 i).bind fun _=>(b x.2).bind fun y=>(dk y.2 i).bind fun avs=>(intOf y.1).bind fun j=>(uq avs.length j).map fun n =>
 .nx (y.2.set i (some (.ow (((avs.map aB).set n (aB x.1)).map .sh))))
def jT:D->Option bJ
 | .int i=>some (.inl i)
 | .str x=>some (.inr x)
 | _=>none
def oq (kvs:List (bJ×D)) (k:bJ) (d:D):List (bJ×D):=if kvs.any (fun kv=>decide (kv.1=k)) then kvs.map (fun kv=>if kv.1=k then (kv.1,d) else kv) else kvs++[(k,d)]
def getD (kvs:List (bJ×D)) (k:bJ):Option D:=(kvs.find? fun kv=>decide (kv.1=k)).map (·.2)
noncomputable def vq (i:Nat) (b:ME) (k:MK):MS:=fun S=>(gW k S).bind fun x=>(jP x.2 i).bind fun _=>(b x.2).bind fun y=>(jP y.2 i).bind fun kvs=>(jT y.1).bind fun key =>
 jb (kvs.length<eG) (some (.nx (y.2.set i (some (.owd (oq kvs key (aB x.1)))))))
section
variable {K:W.Frag}{H₀ Hf₀ Hf H:Hp}{S:AS}{σ:St}{Fs:List (List Addr)}
theorem cm.turn (R:cm K H₀ Hf₀ Hf S σ H Fs) {i:Nat}{av:AV}{p:Addr}{o:HO}{F F':List Addr}(s1:σ[i]?=some (some (.ref p))) (s2:Fs[i]?=some F) (hp:p∈F) (r:bD K Hf (cK H p o) av (.ref p) F') (nd:F'.Nodup)
  (hf:∀ q∈F',H₀ q=none/\q∉(Fs.set i []).flatten):cm K H₀ Hf₀ Hf (S.set i (some av)) σ (cK H p o) (Fs.set i F'):=by
 have hin:p∈Fs.flatten:=mFq.mpr ⟨F,mGq s2,hp⟩;have pn:Hf p=none:=(R.mem hin).2;have p0:H₀ p=none:=R.fresh p hin;have out:=gH R.nd s2 hp;have R1:cm K H₀ Hf₀ Hf (S.set i none) σ (cK H p o) (Fs.set i []):=by
  refine ⟨by simp [R.len],by simp [R.lenF],fun j a ej=>?_,fun j ej=>?_,ed i R.nd List.nodup_nil (fun p hp=>by cases hp),fun p hp=>R.fresh p (dG hp),fun b u e=>?_,fun b u e=>?_,R.lim,R.sf⟩
  .rw [List.getElem?_set] at ej
   by_cases hij:i=j
   .subst hij;rw [if_pos rfl] at ej;split at ej <;> cases ej
   .rw [if_neg hij] at ej;obtain ⟨w,G,f1,f2,q⟩:=R.rep j a ej;refine ⟨w,G,f1,by rw [List.getElem?_set_ne hij];exact f2,q.keep (.refl _) (fun c hc=>aR fun e=>out ?_) fun c hc=>(q.owned c hc).2⟩
    subst e;exact mFq.mpr ⟨G,mGq (i:=j) (by rw [List.getElem?_set_ne hij];exact f2),hc⟩
  .rw [List.getElem?_set] at ej
   by_cases hij:i=j
   .subst hij;rw [if_pos rfl] at ej;split at ej
    .rename_i hi;rw [List.getElem?_set_self (R.lenF.symm ▸ hi)]
    .cases ej
   .rw [if_neg hij] at ej;rw [List.getElem?_set_ne hij];exact R.emp j ej
  .rw [aR fun z=>by rw [z,pn] at e;cases e]
   exact R.sub b u e
  .rw [aR fun z=>by rw [z,p0] at e;cases e]
   exact R.fr b u e
 exact R1.again (F:=F) s1 r nd hf
theorem iF {i:Nat}{F:List Addr}{q:Addr}(s2:Fs[i]?=some F) (h:q∈F):q∈Fs.flatten:=mFq.mpr ⟨F,mGq s2,h⟩
theorem bZ.snoc {as:List AV}{vs:List V}{Gs:List (List Addr)}{a:AV}{v:V}{F:List Addr}(r:bZ K Hf H as vs Gs) (s:bD K Hf H a v F):bZ K Hf H (as++[a]) (vs++[v]) (Gs++[F]):=by
 obtain ⟨h1,h2,h3⟩:=r;refine ⟨by simp [h1],by simp [h2],fun i b w G e1 e2 e3=>?_⟩
 by_cases hi:i<as.length
 .rw [gZq hi] at e1;rw [gZq (h1 ▸ hi)] at e2;rw [gZq (h2 ▸ hi)] at e3;exact h3 i b w G e1 e2 e3
 .have hi':i=as.length:=by
   have:=(gSq.mp e1).1;rw [lAq,lSq] at this;lia
  subst hi';rw [gYq (Nat.le_refl _),Nat.sub_self] at e1;rw [h1,gYq (Nat.le_refl _),Nat.sub_self] at e2;rw [h2,gYq (Nat.le_refl _),Nat.sub_self] at e3;cases e1;cases e2;cases e3;exact s
theorem bZ.keepUpd {as:List AV}{vs:List V}{Gs:List (List Addr)}{p:Addr}{o:HO}(r:bZ K Hf H as vs Gs) (hp:p∉Gs.flatten):bZ K Hf (cK H p o) as vs Gs :=
 ⟨r.1,r.2.1,fun i a v F h1 h2 h3=>by
  have q:=r.2.2 i a v F h1 h2 h3;refine q.keep (.refl _) (fun c hc=>aR fun e=>hp ?_) fun c hc=>(q.owned c hc).2
  subst e;exact mFq.mpr ⟨F,mGq h3,hc⟩⟩
theorem bD.keepUpd {a:AV}{v:V}{F:List Addr}{p:Addr}{o:HO}(q:bD K Hf H a v F) (hp:p∉F):bD K Hf (cK H p o) a v F :=
 q.keep (.refl _) (fun c hc=>aR fun e=>hp (e ▸ hc)) fun c hc=>(q.owned c hc).2
theorem D0 {ds:List D}{vs:List V}(r:bO K Hf ds vs):bZ K Hf H (ds.map .sh) vs (List.replicate ds.length []) :=
 ⟨by simp [r.1],by simp,fun i a v F h1 h2 h3=>by
  rw [gMq] at h1;cases q:ds[i]? with
  | none=>rw [q] at h1;cases h1
  | some d =>
   rw [q] at h1;cases h1;have:F=[]:=List.eq_of_mem_replicate (mGq h3);subst this;exact .sh (r.2 i d v q h2)⟩
theorem bZ.append {as bs:List AV}{vs ws:List V}{Gs Es:List (List Addr)}(r:bZ K Hf H as vs Gs) (s:bZ K Hf H bs ws Es):bZ K Hf H (as++bs) (vs++ws) (Gs++Es):=by
 obtain ⟨h1,h2,h3⟩:=r;refine ⟨by simp [h1,s.1],by simp [h2,s.2.1],fun i b w G e1 e2 e3=>?_⟩
 by_cases hi:i<as.length
 .rw [gZq hi] at e1;rw [gZq (h1 ▸ hi)] at e2;rw [gZq (h2 ▸ hi)] at e3;exact h3 i b w G e1 e2 e3
 .rw [gYq (by lia)] at e1
  rw [gYq (by lia),← h1] at e2
  rw [gYq (by lia),← h2] at e3
  exact s.2.2 _ b w G e1 e2 e3
end
section
variable {K:W.Frag}{te ta tb:TE}{k:MK}{b:ME}{l:ML}
theorem cf {S:AS}{i:Nat}{avs:List AV}(h:dk S i=some avs):S[i]?=some (some (.ow avs)):=by
 unfold dk at h;split at h
 .rename_i z e;cases h;exact bH e
 .cases h
theorem qE {S:AS}{i:Nat}{kvs:List (bJ×D)}(h:jP S i=some kvs):S[i]?=some (some (.owd kvs)):=by
 unfold jP at h;split at h
 .rename_i z e;cases h;exact bH e
 .cases h
theorem cm.ow {H₀ Hf₀ Hf H:Hp}{S:AS}{σ:St}{Fs:List (List Addr)}(R:cm K H₀ Hf₀ Hf S σ H Fs) {i:Nat}{avs:List AV}(h:S[i]?=some (some (.ow avs))):∃ p vs Gs,σ[i]?=some (some (.ref p))/\Fs[i]?=some (p::Gs.flatten)/\H p=some (.lst vs)/\Hf p=none/\bZ K Hf H avs vs Gs /\
  p∉Gs.flatten/\Gs.flatten.Nodup/\∀ q∈p::Gs.flatten,H₀ q=none/\q∉(Fs.set i []).flatten:=by
 obtain ⟨v,F,s1,s2,r,nd,o,_⟩:=R.move h;obtain ⟨p,vs,Gs,rfl,rfl,h1,h2,h3⟩:=r.ow_inv;exact ⟨p,vs,Gs,s1,s2,h1,h2,h3,(List.nodup_cons.mp nd).1,(List.nodup_cons.mp nd).2,o⟩
theorem kq {i:Nat}(hk:SK K te k):SS K (vk (Gf K "list" um (lF i) (gi te ka))) (rY i k):=by
 intro H₀ Hf₀ Hf S σ H Fs o R e D h;obtain ⟨a0,e0,e⟩:=oBq.mp e;obtain ⟨x,e1,e⟩:=oBq.mp e;obtain ⟨avs,e2,e⟩:=oBq.mp e;rcases bh e with ⟨hl,e⟩|e
 .skip
  cases e;obtain ⟨p,vs,Gs,s1,_,h1,_⟩:=R.ow (cf e0);refine ⟨.ref p,s1,.inl ⟨rfl,vs,eJ.of h1⟩,hk R (a:=x.1) (S':=x.2) e1 _ fun Hf1 H1 Fs1 v F t1 R1 r1 o1=>?_⟩
  obtain ⟨p',vs',Gs',s1',s2',h1',h2',h3',h4',h5',h6'⟩:=R1.ow (cf e2);rw [s1] at s1';cases s1';have pF:p∉F:=fun m=>o1.out p m (iF s2' (by simp))
  refine ⟨p,vs',v,rfl,rfl,h1',by rw [gw,← h3'.1];exact hl,h _ _ _ _ t1.sf (R1.turn s1 s2' (by simp) (F':=p::(Gs'++[F]).flatten) (bD.news bb h2' ((h3'.keepUpd h4').snoc (r1.keepUpd pF))) ?_ fun q hq=>?_)⟩
  .rw [fAq,List.flatten_singleton];refine List.nodup_cons.mpr ⟨fun m=>(mAq.mp m).elim h4' pF,nAq.mpr ⟨h5',o1.nd,fun a ha b hb e=>o1.out b hb (iF s2' (mCo _ (e ▸ ha)))⟩⟩
  .rw [fAq,List.flatten_singleton] at hq;rcases List.mem_cons.mp hq with z|z
   .exact h6' q (by rw [z];simp)
   .rcases mAq.mp z with z|z
    .exact h6' q (mCo _ z)
    .exact ⟨o1.fr q z,fun m=>o1.out q z (dG m)⟩
 .cases e
theorem Gr {i:Nat}(hl:SL K te l):SS K (vk (Gf K "list" yL (lF i) (gi te ka))) (Hg i l):=by
 intro H₀ Hf₀ Hf S σ H Fs o R e D h;obtain ⟨a0,e0,e⟩:=oBq.mp e;obtain ⟨x,e1,e⟩:=oBq.mp e;obtain ⟨avs,e2,e⟩:=oBq.mp e;rcases bh e with ⟨hle,e⟩|e
 .skip
  cases e;obtain ⟨p,vs,Gs,s1,_,h1,_⟩:=R.ow (cf e0);refine ⟨.ref p,s1,.inl ⟨rfl,vs,eJ.of h1⟩,hl R (ds:=x.1) (S':=x.2) e1 _ fun Hf1 H1 Fs1 b ws t1 R1 hb r1=>?_⟩
  obtain ⟨p',vs',Gs',s1',s2',h1',h2',h3',h4',h5',h6'⟩:=R1.ow (cf e2);rw [s1] at s1';cases s1';refine ⟨p,b,vs',ws,rfl,rfl,h1',hb,by rw [gw,← h3'.1,← r1.1];exact hle,h _ _ _ _ t1.sf (R1.turn s1 s2' (by simp) (F':=p::(Gs'++List.replicate x.1.length []).flatten) (bD.news bb h2' ((h3'.keepUpd h4').append (D0 r1))) ?_ fun q hq=>?_)⟩
  .rw [fAq,fu,aNq];exact List.nodup_cons.mpr ⟨h4',h5'⟩
  .rw [fAq,fu,aNq] at hq;exact h6' q hq
 .cases e
theorem GE {i:Nat}(hk:SK K te k) (hb:SR K tb b):SS K (zU te (J9 (lF i) tb Ga)) (IE i b k):=by
 intro H₀ Hf₀ Hf S σ H Fs o R e D h;obtain ⟨x,e1,e⟩:=oBq.mp e;obtain ⟨a0,e0,e⟩:=oBq.mp e;obtain ⟨y,e2,e⟩:=oBq.mp e;obtain ⟨avs,e3,e⟩:=oBq.mp e;obtain ⟨j,e4,e⟩:=oBq.mp e;obtain ⟨n,e5,e⟩:=oMq.mp e;cases e;have hk':SK K te (gW k):=SK.frz hk;refine hk' R (a:=x.1) (S':=x.2) e1 _ fun Hf1 H1 Fs1 v F t1 R1 r1 o1=>?_
 obtain ⟨p',_,_,s1,_⟩:=R1.ow (cf e0);refine ⟨_,s1,hb R1 (d:=y.1) (S':=y.2) e2 _ fun Hf2 H2 Fs2 w t2 R2 r2=>?_⟩
 obtain ⟨q',vs',Gs',s1',s2',h1',h2',h3',h4',h5',h6'⟩:=R2.ow (cf e3);rw [s1] at s1';cases s1';cases hy:y.1 with
 | int z =>
  rw [hy] at e4 r2;cases e4;cases r2;obtain ⟨x1,hx1⟩:∃ d,x.1 = .sh d:=by
   obtain ⟨w,_,e⟩:=oMq.mp e1;rw [← e];exact ⟨_,rfl⟩
  rw [hx1] at r1;have rv:=(r1.sh_inv.2).mono t2.sf;have n1:∀ q∈Gs'.flatten,Hf2 q=none:=fun q hq=>(h3'.owned q hq).2
  refine ⟨p',vs',_,n,rfl,rfl,h1',by rw [← h3'.1];exact e5,?_⟩
  obtain ⟨v0,F0,t1',t2',r0,nd0,o0,R0⟩:=R2.move (cf e3);have R4:=R0.frz (F:=Gs'.flatten) (fun q hq=>h6' q (mCo _ hq)) n1
  have r4:=h3'.frozen (cV (H:=H2) n1) fun q hq=>mM hq
  have r5:bD K (Z.frz Hf2 H2 Gs'.flatten) H2 (.ow ((avs.map aB).map .sh)) (.ref p') [p']:=bD.new h1' (by rw [eX h4'];exact h2') r4
  have R5:=R4.again (F:=p'::Gs'.flatten) (G:=[p']) s1 r5 (by simp) fun q hq=>by rw [mSq.mp hq];exact h6' p' (by simp)
  have s5:(Fs2.set i [p'])[i]?=some [p']:=by
   have hi:i<Fs2.length:=(gSq.mp s2').1;rw [List.getElem?_set_self hi]
  have R6:=R5.turn (o:=.lst (vs'.set n v)) s1 s5 (by simp) (F':=[p']) (bD.new bb (by rw [eX h4'];exact h2') (r4.set (rv.mono (cV n1)) n)) (by simp) fun q hq=>by
   rw [mSq.mp hq,List.set_set];exact h6' p' (by simp)
  rw [List.set_set,List.set_set] at R6;rw [hx1,bK] at h;exact h _ _ _ _ ((t1.sf.trans t2.sf).trans (cV n1)) R6
 | _=>rw [hy] at e4;cases e4
theorem qr {H:Hp}:∀ {ds:List (bJ×D)}{kvs:List (bJ×V)}{key:bJ},gB K H ds kvs->match getD ds key with
  | some d=>∃ v,nu kvs key=some v/\cD K H d v
  | none=>nu kvs key=none
 | [],kvs,key,h=>by
  have:kvs=[]:=by
   have:=congrArg List.length h.1;simpa using this.symm
  subst this;rfl
 | d::ds,[],key,h=>by
  have:=congrArg List.length h.1;simp at this
 | d::ds,v::kvs,key,h=>by
  have h1:d.1=v.1/\ds.map (·.1)=kvs.map (·.1):=by
   have:=h.1;simpa using this
  have h2:cD K H d.2 v.2:=h.2 0 d v rfl rfl;have ht:gB K H ds kvs:=⟨h1.2,fun i a b e1 e2=>h.2 (i+1) a b (by simpa using e1) (by simpa using e2)⟩
  unfold getD nu
  by_cases c:d.1=key
  .rw [List.find?_cons_of_pos (by simp [c]),List.find?_cons_of_pos (by simp [← h1.1,c])]
   exact ⟨v.2,rfl,h2⟩
  .rw [List.find?_cons_of_neg (by simp [c]),List.find?_cons_of_neg (by simp [← h1.1,c])]
   exact qr ht
theorem oA {H:Hp}{d:D}{v:V}{key:bJ}(h:jT d=some key) (r:cD K H d v):v=kV key:=by
 cases r <;> simp only [jT] at h
 all_goals first|(exfalso;simp at h;done)|skip
 all_goals (cases h;rfl)
theorem gB.key {H:Hp}{ds:List (bJ×D)}{kvs:List (bJ×V)}(h:gB K H ds kvs) {i:Nat}{d:bJ×D}{v:bJ×V}(e1:ds[i]?=some d) (e2:kvs[i]?=some v):d.1=v.1:=by
 have:=congrArg (fun l=>l[i]?) h.1
 simp only [gMq,e1,e2,Option.map_some] at this;exact Option.some.inj this
theorem gB.len {H:Hp}{ds:List (bJ×D)}{kvs:List (bJ×V)}(h:gB K H ds kvs):ds.length=kvs.length:=by
 have:=congrArg List.length h.1;simpa using this
theorem Bq {H:Hp}{ds:List (bJ×D)}{kvs:List (bJ×V)}{key:bJ}{d:D}{v:V}(h:gB K H ds kvs) (r:cD K H d v):gB K H (oq ds key d) (oD kvs key v):=by
 have ha:(ds.any fun kv=>decide (kv.1=key))=kvs.any fun kv=>decide (kv.1=key):=by
  have e1:(ds.any fun kv=>decide (kv.1=key))=(ds.map (·.1)).any fun k=>decide (k=key):=by rw [List.any_map];rfl
  have e2:(kvs.any fun kv=>decide (kv.1=key))=(kvs.map (·.1)).any fun k=>decide (k=key):=by rw [List.any_map];rfl
  rw [e1,e2,h.1]
 unfold oq oD;rw [ha];split
 .refine ⟨?_,fun i a b e1 e2=>?_⟩
  .rw [mPq,mPq];have e1:((fun kv:bJ×D=>kv.1)∘fun kv:bJ×D=>if kv.1=key then (kv.1,d) else kv)=fun kv=>kv.1:=by
    funext kv;show (if kv.1=key then (kv.1,d) else kv).1=kv.1
    split <;> rfl
   have e2:((fun kv:bJ×V=>kv.1)∘fun kv:bJ×V=>if kv.1=key then (kv.1,v) else kv)=fun kv=>kv.1:=by
    funext kv;show (if kv.1=key then (kv.1,v) else kv).1=kv.1
    split <;> rfl
   rw [e1,e2];exact h.1
  .rw [gMq] at e1 e2;obtain ⟨a',f1,rfl⟩:=oMq.mp e1;obtain ⟨b',f2,rfl⟩:=oMq.mp e2;have hk:=h.key f1 f2
   by_cases c:a'.1=key
   .rw [if_pos c,if_pos (hk ▸ c)];exact r
   .rw [if_neg c,if_neg (hk ▸ c)];exact h.2 i a' b' f1 f2
 .refine ⟨by rw [mBq,mBq,h.1];rfl,fun i a b e1 e2=>?_⟩
  by_cases hi:i<ds.length
  .rw [gZq hi] at e1;rw [gZq (h.len ▸ hi)] at e2;exact h.2 i a b e1 e2
  .have hi':i=ds.length:=by
    have:=(gSq.mp e1).1;rw [lAq,lSq] at this;lia
   subst hi';rw [gYq (Nat.le_refl _),Nat.sub_self] at e1;rw [h.len,gYq (Nat.le_refl _),Nat.sub_self] at e2;cases e1;cases e2;exact r
def vz:MK:=fun S=>some (.owd [],S)
theorem pV:SK K BJ vz:=by
 intro H₀ Hf₀ Hf S σ H Fs av S' R e Q q;cases e;intro p hp;obtain ⟨t,R2,n1,n2,n3⟩:=R.new (o:=.dK []) hp;exact q _ _ _ (.ref p) [p] t R2 (.owd bb n1 ⟨rfl,fun i d v h=>by simp at h⟩) (jk.one R hp)
theorem cm.owd {H₀ Hf₀ Hf H:Hp}{S:AS}{σ:St}{Fs:List (List Addr)}(R:cm K H₀ Hf₀ Hf S σ H Fs) {i:Nat}{ds:List (bJ×D)}(h:S[i]?=some (some (.owd ds))):∃ p kvs,σ[i]?=some (some (.ref p))/\Fs[i]?=some [p]/\H p=some (.dK kvs)/\Hf p=none/\gB K Hf ds kvs /\
  H₀ p=none/\p∉(Fs.set i []).flatten:=by
 obtain ⟨v,F,s1,s2,r,nd,o,_⟩:=R.move h;obtain ⟨p,kvs,rfl,rfl,h1,h2,h3⟩:=r.owd_inv;exact ⟨p,kvs,s1,s2,h1,h2,h3,(o p (by simp)).1,(o p (by simp)).2⟩
theorem qh {i:Nat}(hk:SK K te k) (hb:SR K tb b):SS K (Gc (lF i) tb te) (vq i b k):=by
 intro H₀ Hf₀ Hf S σ H Fs o R e D h;obtain ⟨x,e1,e⟩:=oBq.mp e;obtain ⟨a0,e0,e⟩:=oBq.mp e;obtain ⟨y,e2,e⟩:=oBq.mp e;obtain ⟨kvs,e3,e⟩:=oBq.mp e;obtain ⟨key,e4,e⟩:=oBq.mp e;rcases bh e with ⟨hl,e⟩|e
 .skip
  cases e;have hk':SK K te (gW k):=SK.frz hk;refine hk' R (a:=x.1) (S':=x.2) e1 _ fun Hf1 H1 Fs1 v F t1 R1 r1 o1=>?_
  obtain ⟨p',_,s1,_⟩:=R1.owd (qE e0);refine ⟨_,s1,hb R1 (d:=y.1) (S':=y.2) e2 _ fun Hf2 H2 Fs2 w t2 R2 r2=>?_⟩
  obtain ⟨q',kv,s1',s2',h1',h2',h3',h4',h5'⟩:=R2.owd (qE e3);rw [s1] at s1';cases s1';obtain ⟨x1,hx1⟩:∃ d,x.1 = .sh d:=by
   obtain ⟨w,_,e⟩:=oMq.mp e1;rw [← e];exact ⟨_,rfl⟩
  rw [hx1] at r1;have rv:=(r1.sh_inv.2).mono t2.sf;have hw:=oA e4 r2;subst hw;refine ⟨p',_,rfl,Dk.k h1' (by rw [gw,← h3'.len];exact hl),h _ _ _ _ (t1.sf.trans t2.sf) (R2.turn s1 s2' (by simp) (F':=[p']) (.owd bb h2' ?_) (by simp) fun q hq=>by rw [mSq.mp hq];exact ⟨h4',h5'⟩)⟩
  rw [hx1,bK];exact Bq h3' rv
 .cases e
def MZ (a b:ME):ME:=fun S=>(a S).bind fun x=>(b x.2).bind fun y=>match y.1 with
 | .dict kvs=>(jT x.1).map fun key=>(.bl (getD kvs key).isSome,y.2)
 | _=>none
def mQ (a b:ME):ME:=fun S=>(a S).bind fun x=>(b x.2).bind fun y=>match y.1 with
 | .dict kvs=>(jT x.1).map fun key=>(.bl (!(getD kvs key).isSome),y.2)
 | _=>none
def qU (a b:ME):ME:=fun S=>(a S).bind fun x=>(b x.2).bind fun y=>match x.1 with
 | .dict kvs=>(jT y.1).bind fun key=>(getD kvs key).map fun d=>(d,y.2)
 | _=>none
theorem A3 {H:Hp}{kvs:List (bJ×D)}{x:V}{key:bJ}{d:D}(r:cD K H (.dict kvs) x) (e:getD kvs key=some d):∃ a v,x = .ref a/\qR H a (kV key) (some v)/\cD K H d v:=by
 obtain ⟨p,vs,rfl,h1,h2⟩:=r.dict_inv;have g:=qr (key:=key) h2;rw [e] at g;obtain ⟨v,g1,g2⟩:=g;exact ⟨p,v,rfl,by rw [← g1];exact qR.k h1,g2⟩
theorem CY {H:Hp}{kvs:List (bJ×D)}{x:V}{key:bJ}(r:cD K H (.dict kvs) x):∃ a o,x = .ref a/\qR H a (kV key) o/\o.isSome=(getD kvs key).isSome:=by
 obtain ⟨p,vs,rfl,h1,h2⟩:=r.dict_inv;have g:=qr (key:=key) h2;refine ⟨p,_,rfl,qR.k h1,?_⟩;cases e:getD kvs key with
 | none=>rw [e] at g;rw [g];rfl
 | some d=>rw [e] at g;obtain ⟨v,g1,_⟩:=g;rw [g1];rfl
theorem Ak {a:ME}(ha:SR K ta a) (hb:SR K tb b):SR K (zu ta tb) (mQ a b):=by
 intro H₀ Hf₀ Hf S σ H Fs d S' R e Q q;obtain ⟨x,e1,e⟩:=oBq.mp e;obtain ⟨y,e2,e⟩:=oBq.mp e;refine ha R (d:=x.1) (S':=x.2) e1 _ fun Hf1 H1 Fs1 v1 t1 R1 r1=>hb R1 (d:=y.1) (S':=y.2) e2 _ fun Hf2 H2 Fs2 v2 t2 R2 r2=>?_
 split at e
 .rename_i kvs hy;rw [hy] at r2;obtain ⟨key,e3,e⟩:=oMq.mp e;cases e;obtain ⟨p,o,rfl,g1,g2⟩:=CY (key:=key) r2;refine ⟨p,o,rfl,by rw [oA e3 r1];exact g1,?_⟩
  rw [g2];exact q _ _ _ _ (t1.trans t2) R2 .bl
 .cases e
theorem ud {a:ME}(ha:SR K ta a) (hb:SR K tb b):SR K (Gb ta tb) (qU a b):=by
 intro H₀ Hf₀ Hf S σ H Fs d S' R e Q q;obtain ⟨x,e1,e⟩:=oBq.mp e;obtain ⟨y,e2,e⟩:=oBq.mp e;refine ha R (d:=x.1) (S':=x.2) e1 _ fun Hf1 H1 Fs1 v1 t1 R1 r1=>hb R1 (d:=y.1) (S':=y.2) e2 _ fun Hf2 H2 Fs2 v2 t2 R2 r2=>?_
 split at e
 .rename_i kvs hy;rw [hy] at r1;obtain ⟨key,e3,e⟩:=oBq.mp e;obtain ⟨d',e4,e⟩:=oMq.mp e;cases e;obtain ⟨p,v,rfl,g1,g2⟩:=A3 (r1.mono t2.sh) e4;exact ⟨p,v,rfl,by rw [oA e3 r2];exact g1,q _ _ _ _ (t1.trans t2) R2 g2⟩
 .cases e
end
end Z
namespace Z
open PySem L2 Mr
def dX (x:Nat) (body:MS):List D->AS->Option vd
 | [],S=>some (.nx S)
 | d::ds,S=>(body (S.set x (some (.sh d)))).bind fun o=>match o with
  | .nx S'=>dX x body ds S'
  | .ct S'=>dX x body ds S'
  | .bk S'=>some (.nx S')
  | .rt a=>some (.rt a)
def eW:D->Option (List D)
 | .list ds=>some ds
 | .scr ns=>some (ns.map .int)
 | _=>none
def rJ (x:Nat) (k:MK) (body:MS):MS:=fun S=>(gW k S).bind fun y=>(eW (aB y.1)).bind fun ds=>dX x body ds y.2
def bA (lo:Int) (n:Nat):List D:=(List.range n).map fun i:Nat=>.int (lo+i)
noncomputable def oz:List D->Option (List D)
 | [.int j]=>jb (-(2 ^ 62)<=j/\j<2 ^ 62) (some (bA 0 j.toNat))
 | _=>none
noncomputable def LR:List D->Option (List D)
 | [.int i,.int j]=>jb (-(2 ^ 62)<=i/\i<2 ^ 62/\-(2 ^ 62)<=j/\j<2 ^ 62) (some (bA i (j-i).toNat))
 | _=>none
noncomputable def kr (x:Nat) (a:ML) (body:MS):MS:=fun S=>(a S).bind fun y=>(oz y.1).bind fun ds=>dX x body ds y.2
noncomputable def LN (x:Nat) (a:ML) (body:MS):MS:=fun S=>(a S).bind fun y=>(LR y.1).bind fun ds=>dX x body ds y.2
def mq (x y:Nat) (body:MS):Nat->List D->AS->Option vd
 | _,[],S=>some (.nx S)
 | i,d::ds,S=>(body ((S.set x (some (.sh (.int i)))).set y (some (.sh d)))).bind fun o=>match o with
  | .nx S'=>mq x y body (i+1) ds S'
  | .ct S'=>mq x y body (i+1) ds S'
  | .bk S'=>some (.nx S')
  | .rt a=>some (.rt a)
def oR (x y:Nat) (k:MK) (body:MS):MS:=fun S=>(gW k S).bind fun z=>(eW (aB z.1)).bind fun ds=>mq x y body 0 ds z.2
def xQ (x y:Nat) (body:MS):List D->List D->AS->Option vd
 | d::ds,e::es,S=>(body ((S.set x (some (.sh d))).set y (some (.sh e)))).bind fun o=>match o with
  | .nx S'=>xQ x y body ds es S'
  | .ct S'=>xQ x y body ds es S'
  | .bk S'=>some (.nx S')
  | .rt a=>some (.rt a)
 | _,_,S=>some (.nx S)
def Mi (x y:Nat) (k l:MK) (body:MS):MS:=fun S=>(gW k S).bind fun z=>(gW l z.2).bind fun w=>(eW (aB z.1)).bind fun ds=>(eW (aB w.1)).bind fun es =>
 if ds.length=es.length then xQ x y body ds es w.2 else none
def gq (c:MT) (body:MS):Nat->MS
 | 0,_=>none
 | n+1,S=>(c S).bind fun x=>if x.1=true then (body x.2).bind fun o=>match o with
   | .nx S'=>gq c body n S'
   | .ct S'=>gq c body n S'
   | .bk S'=>some (.nx S')
   | .rt a=>some (.rt a)
  else some (.nx x.2)
section
variable {K:W.Frag}{te tf:TE}{k l:MK}{tb:TS}{body:MS}{x y:Nat}
theorem kS {H:Hp}{d:D}{ds:List D}{v:V}(e:eW d=some ds) (r:cD K H d v):∃ a vs,v = .ref a/\eJ K H a vs/\bO K H ds vs:=by
 cases d with
 | list es =>
  cases e;obtain ⟨p,vs,rfl,h1,h2⟩:=r.list_inv;exact ⟨p,vs,rfl,eJ.of h1,h2⟩
 | scr ns =>
  cases e;cases r with
  | scr h=>exact ⟨_,_,rfl,h,gL ns⟩
 | _=>cases e
theorem mT {te:TE}{S:AS}{z:AV×AS}(e:gW k S=some z):∃ d,z.1 = .sh d:=by
 obtain ⟨w,_,e⟩:=oMq.mp e;rw [← e];exact ⟨_,rfl⟩
theorem cm.setD {H₀ Hf₀ Hf H:Hp}{S:AS}{σ:St}{Fs:List (List Addr)}{d:D}{v:V}(R:cm K H₀ Hf₀ Hf S σ H Fs) (i:Nat) (r:cD K Hf d v):cm K H₀ Hf₀ Hf (S.set i (some (.sh d))) (σ.set i (some v)) H (Fs.set i []) :=
 R.set i (.sh r) List.nodup_nil fun q h=>(by cases h)
theorem iP (hk:SK K te k) (hb:SS K tb body):SS K (Eu (DQ K te) (gQ x) tb) (rJ x k body):=by
 intro H₀ Hf₀ Hf S σ H Fs o R e D h;obtain ⟨z,e1,e⟩:=oBq.mp e;obtain ⟨ds,e2,e⟩:=oBq.mp e;have hk':SK K te (gW k):=SK.frz hk;refine hk' R (a:=z.1) (S':=z.2) e1 _ fun Hf1 H1 Fs1 v F t1 R1 r1 o1=>?_
 obtain ⟨d,hd⟩:=mT (te:=te) e1;rw [hd] at r1;rw [hd,bK] at e2;obtain ⟨a,vs,rfl,g1,g2⟩:=kS e2 r1.sh_inv.2;refine ⟨a,rfl,⟨vs,R1.sub.seq g1⟩,Bp (xs:=vs) (fun i σ' H'=>∃ Hf' S' Fs',cm K H₀ Hf₀ Hf' S' σ' H' Fs'/\bS Hf1 Hf'/\dX x body (ds.drop i) S'=some o) ⟨Hf1,z.2,Fs1,R1,.refl _,e⟩
  (fun i σ' H' _ ⟨Hf',S',Fs',R',s',_⟩=>R'.sub.seq (s'.seq g1)) ?_ ?_⟩
 .rintro i w σ' H' hw ⟨Hf',S',Fs',R',s',e'⟩;obtain ⟨di,hdi,rw'⟩:=g2.get' hw;have hlt:i<ds.length:=(gSq.mp hdi).1;rw [List.drop_eq_getElem_cons hlt] at e';have hdi':ds[i]=di:=(gSq.mp hdi).2;rw [hdi'] at e';obtain ⟨ob,e3,e4⟩:=oBq.mp e';refine hb (R'.setD x (rw'.mono s')) e3 _ ?_;cases ob with
  | nx S2=>exact fun Hf2 σ2 H2 Fs2 s2 R2=>⟨Hf2,S2,Fs2,R2,s'.trans s2,e4⟩
  | ct S2=>exact fun Hf2 σ2 H2 Fs2 s2 R2=>⟨Hf2,S2,Fs2,R2,s'.trans s2,e4⟩
  | bk S2=>cases e4;exact fun Hf2 σ2 H2 Fs2 s2 R2=>h _ _ _ _ ((t1.sf.trans s').trans s2) R2
  | rt a=>cases e4;exact h
 .rintro σ' H' ⟨Hf',S',Fs',R',s',e'⟩;rw [← g2.1,List.drop_length] at e';cases e';exact h _ _ _ _ (t1.sf.trans s') R'
theorem AB {H₀ Hf₀ Hf1 H1:Hp}{S1:AS}{σ:St}{Fs1:List (List Addr)}{o:vd}{D:pH}{lo:Int}{n:Nat}(hb:SS K tb body) (R1:cm K H₀ Hf₀ Hf1 S1 σ H1 Fs1) (e:dX x body (bA lo n) S1=some o) (h:vL K H₀ Hf₀ Hf1 D o) :
  ∃ W:Nat->Nat->St->Hp->Prop,(∃ m,W 0 m σ H1)/\∀ i m σ H,W i m σ H ->
   ((Fe lo n).stop i H/\D.nx σ H)∨((Fe lo n).go i H/\∃ N:St->Hp->Prop,(∀ σ' H',N σ' H'->∃ m',m'<m/\W (i+1) m' σ' H')/\∀ v H',(Fe lo n).yld i H v H'->gQ x v σ H' fun σ2 H2=>tb { D with nx:=N,ct:=N,bk:=D.nx } σ2 H2):=by
 refine Au (fun i σ' H'=>∃ Hf' S' Fs',cm K H₀ Hf₀ Hf' S' σ' H' Fs'/\bS Hf1 Hf'/\dX x body ((bA lo n).drop i) S'=some o) ⟨Hf1,S1,Fs1,R1,.refl _,e⟩ ?_ ?_
 .rintro i σ' H' hi ⟨Hf',S',Fs',R',s',e'⟩;have hlt:i<(bA lo n).length:=by unfold bA;rw [lMq,List.length_range];exact hi
  rw [List.drop_eq_getElem_cons hlt] at e';have hdi:(bA lo n)[i] = .int (lo+i):=by simp [bA]
  rw [hdi] at e';obtain ⟨ob,e3,e4⟩:=oBq.mp e';refine hb (R'.setD x .int) e3 _ ?_;cases ob with
  | nx S2=>exact fun Hf2 σ2 H2 Fs2 s2 R2=>⟨Hf2,S2,Fs2,R2,s'.trans s2,e4⟩
  | ct S2=>exact fun Hf2 σ2 H2 Fs2 s2 R2=>⟨Hf2,S2,Fs2,R2,s'.trans s2,e4⟩
  | bk S2=>cases e4;exact fun Hf2 σ2 H2 Fs2 s2 R2=>h _ _ _ _ (s'.trans s2) R2
  | rt a=>cases e4;exact h
 .rintro σ' H' ⟨Hf',S',Fs',R',s',e'⟩;have hl:(bA lo n).length=n:=by unfold bA;rw [lMq,List.length_range]
  rw [List.drop_eq_nil_of_le (Nat.le_of_eq hl)] at e';cases e';exact h _ _ _ _ s' R'
theorem kj {ta:TA}{a:ML}(ha:EB K ta a) (hb:SS K tb body):SS K (Eu (DE ta) (gQ x) tb) (kr x a body):=by
 intro H₀ Hf₀ Hf S σ H Fs o R e D h;obtain ⟨z,e1,e⟩:=oBq.mp e;obtain ⟨ds,e2,e⟩:=oBq.mp e;refine ha R (ds:=z.1) (S':=z.2) e1 _ fun Hf1 H1 Fs1 vs t1 R1 r1=>?_
 unfold oz at e2;split at e2
 .rename_i j hz;rcases bh e2 with ⟨hj,e2⟩|e2
  .skip
   cases e2;rw [hz] at r1;obtain ⟨v,ws,rfl,h1,h2⟩:=r1.cons_inv;rw [h2.nil_inv];cases h1;exact ⟨j,rfl,hj.1,hj.2,AB hb R1 e (h.mono t1.sf)⟩
  .cases e2
 .cases e2
theorem jJ (hk:SK K te k) (hb:SS K tb body):SS K (Eu (Bu K (gi te ka)) (EJ K 2 (qP (gQ x) (qP (gQ y) Ed))) tb) (oR x y k body):=by
 intro H₀ Hf₀ Hf S σ H Fs o R e D h;obtain ⟨z,e1,e⟩:=oBq.mp e;obtain ⟨ds,e2,e⟩:=oBq.mp e;have hk':SK K te (gW k):=SK.frz hk;refine hk' R (a:=z.1) (S':=z.2) e1 _ fun Hf1 H1 Fs1 v F t1 R1 r1 o1=>?_
 obtain ⟨d,hd⟩:=mT (te:=te) e1;rw [hd] at r1;rw [hd,bK] at e2;obtain ⟨a,vs,rfl,g1,g2⟩:=kS e2 r1.sh_inv.2;refine ⟨a,rfl,⟨vs,R1.sub.seq g1⟩,C8 (xs:=vs) (fun i σ' H'=>∃ Hf' S' Fs',cm K H₀ Hf₀ Hf' S' σ' H' Fs'/\bS Hf1 Hf'/\mq x y body i (ds.drop i) S'=some o) ⟨Hf1,z.2,Fs1,R1,.refl _,e⟩
  (fun i σ' H' _ ⟨Hf',S',Fs',R',s',_⟩=>R'.sub.seq (s'.seq g1)) ?_ ?_⟩
 .rintro i w σ' H' T hw ⟨Hf',S',Fs',R',s',e'⟩ hT;obtain ⟨di,hdi,rw'⟩:=g2.get' hw;have hlt:i<ds.length:=(gSq.mp hdi).1;rw [List.drop_eq_getElem_cons hlt] at e';have hdi':ds[i]=di:=(gSq.mp hdi).2;rw [hdi'] at e';obtain ⟨ob,e3,e4⟩:=oBq.mp e';have R2:=(R'.new (o:=.tup [.int i,w]) hT).2.1;refine hb ((R2.setD x .int).setD y (rw'.mono s')) e3 _ ?_;cases ob with
  | nx S2=>exact fun Hf2 σ2 H2 Fs2 s2 R2=>⟨Hf2,S2,Fs2,R2,s'.trans s2,e4⟩
  | ct S2=>exact fun Hf2 σ2 H2 Fs2 s2 R2=>⟨Hf2,S2,Fs2,R2,s'.trans s2,e4⟩
  | bk S2=>cases e4;exact fun Hf2 σ2 H2 Fs2 s2 R2=>h _ _ _ _ ((t1.sf.trans s').trans s2) R2
  | rt a=>cases e4;exact h
 .rintro σ' H' ⟨Hf',S',Fs',R',s',e'⟩;rw [← g2.1,List.drop_length] at e';cases e';exact h _ _ _ _ (t1.sf.trans s') R'
theorem wz {c:TT}{m:MT}(n:Nat) (hc:uy K c m) (hb:SS K tb body):SS K (CC c tb) (gq m body n):=by
 intro H₀ Hf₀ Hf S σ H Fs o R e D h;refine ⟨fun n σ' H'=>∃ Hf' S' Fs',cm K H₀ Hf₀ Hf' S' σ' H' Fs'/\bS Hf Hf'/\gq m body n S'=some o,⟨n,Hf,S,Fs,R,.refl _,e⟩,?_⟩
 rintro n σ' H' ⟨Hf',S',Fs',R',s',e'⟩;cases n with
 | zero=>cases e'
 | succ n =>
  obtain ⟨z,e1,e2⟩:=oBq.mp e';refine hc R' (b:=z.1) (S':=z.2) e1 _ fun Hf1 H1 Fs1 t1 R1=>?_
  split at e2
  .rename_i hz;rw [hz];refine wI ⟨fun σ2 H2=>∃ Hf' S' Fs',cm K H₀ Hf₀ Hf' S' σ2 H2 Fs'/\bS Hf Hf'/\gq m body n S'=some o,fun σ2 H2 w=>⟨n,Nat.lt_succ_self n,w⟩,?_⟩
   obtain ⟨ob,e3,e4⟩:=oBq.mp e2;refine hb R1 e3 _ ?_;cases ob with
   | nx S2=>exact fun Hf2 σ2 H2 Fs2 s2 R2=>⟨Hf2,S2,Fs2,R2,(s'.trans t1.sf).trans s2,e4⟩
   | ct S2=>exact fun Hf2 σ2 H2 Fs2 s2 R2=>⟨Hf2,S2,Fs2,R2,(s'.trans t1.sf).trans s2,e4⟩
   | bk S2=>cases e4;exact fun Hf2 σ2 H2 Fs2 s2 R2=>h _ _ _ _ ((s'.trans t1.sf).trans s2) R2
   | rt a=>cases e4;exact h
  .rename_i hz;rw [Bool.not_eq_true] at hz;rw [hz];cases e2;exact wJ (h _ _ _ _ (s'.trans t1.sf) R1)
end
def fA (np n:Nat) (m:MS):MF:=fun ds=>if ds.length=np then (m (ds.map (fun d=>some (.sh d))++List.replicate (n-ds.length) none)).bind fun o=>match o with
  | .rt a=>some a
  | .nx _=>some (.sh .non)
  | _=>none
 else none
theorem AW {K:W.Frag}{Hf H:Hp}{ds:List D}{vs:List V}(N:List Str) (s:bS Hf H) (r:bO K Hf ds vs) :
  cm K H Hf Hf (ds.map (fun d=>some (.sh d))++List.replicate (N.length-ds.length) none) (L2.jQ N vs) H (List.replicate (ds.length+(N.length-ds.length)) []):=by
 have fl:=fu (ds.length+(N.length-ds.length));refine ⟨by simp [L2.jQ,r.1],by simp,fun i av e=>?_,fun i e=>?_,by rw [fl];exact List.nodup_nil,fun p hp=>(by rw [fl] at hp;cases hp),s,bS.refl _,fun b h _=>h,bS.refl _⟩
 .by_cases hi:i<ds.length
  .rw [gZq (by simpa using hi),gMq] at e
   obtain ⟨d,e1,e2⟩:=oMq.mp e;cases e2;obtain ⟨v,e3,rv⟩:=r.get e1;refine ⟨v,[],?_,?_,.sh rv⟩
   .unfold L2.jQ;rw [gZq (by simpa [← r.1] using hi),gMq,e3]
    rfl
   .rw [List.getElem?_replicate,if_pos (by lia)]
  .rw [gYq (by simpa using hi)] at e
   have:=mGq e;rw [List.eq_of_mem_replicate this] at e;have h2:=List.eq_of_mem_replicate this;cases h2
 .rw [List.getElem?_replicate];have hi:=(gSq.mp e).1;rw [lAq,lMq,List.length_replicate] at hi;rw [if_pos hi]
theorem bg {K:W.Frag}{t:TS}{m:MS}{np:Nat}(N:List Str) (h:SS K t m) {vs:List V}{H:Hp}{Q:VK}{E:XK}(hs:bj K (fA np N.length m) vs H Q E):t { nx:=fun _ H'=>Q .non H',rt:=Q } (L2.jQ N vs) H:=by
 obtain ⟨Hf,ds,a,s,r,e,q⟩:=hs;unfold fA at e;split at e
 .obtain ⟨o,e1,e2⟩:=oBq.mp e;refine h (AW N s r) e1 _ ?_;cases o with
  | rt a' =>
   cases e2;exact fun Hf' H' v F s1 s2 s3 l r nd fr=>q Hf' H' v F s1 s2 s3 l r nd fr
  | nx S' =>
   cases e2;exact fun Hf' σ' H' Fs' s1 R=>q Hf' H' .non [] R.sf R.fr R.sub R.lim (.sh .non) List.nodup_nil fun q h=>(by cases h)
  | bk S'=>cases e2
  | ct S'=>cases e2
 .cases e
theorem cA {K:W.Frag}{m:MS}{np n:Nat}{vs:List V}{H:Hp}{Q:VK}{E:XK}(hs:bj K (fA np n m) vs H Q E):vs.length=np:=by
 obtain ⟨Hf,ds,a,s,r,e,q⟩:=hs;unfold fA at e;split at e
 .rename_i h;rw [← r.1,h]
 .cases e
end Z
namespace Z
open PySem L2 Mr
def fzAll:List Nat->AS->Option AS
 | [],S=>some S
 | j::js,S=>(S[j]?.join).bind fun a=>fzAll js (S.set j (some (.sh (aB a))))
def Ig:Option AV->Option AV
 | some (.sh d)=>some (.sh d)
 | _=>none
def ox (S:AS):List Nat->Option AS
 | []=>some []
 | j::js=>(Ig S[j]?.join).bind fun a=>(ox S js).map (some a :: ·)
def fb (tf:MT) (te:MK) (cap:AS):List D->Option (List AV)
 | []=>some []
 | d::ds=>(tf (some (.sh d)::cap)).bind fun b=>if b.1=true then (te b.2).bind fun a=>(fb tf te cap ds).map (a.1 :: ·) else fb tf te cap ds
abbrev MI:=AS->Option (List D×AS)
def AK (k:MK):MI:=fun S=>(gW k S).bind fun y=>(eW (aB y.1)).map fun ds=>(ds,y.2)
noncomputable def IW (a:ML):MI:=fun S=>(a S).bind fun y=>(oz y.1).map fun ds=>(ds,y.2)
noncomputable def lS (src:MI) (fr:List Nat) (tf:MT) (te:MK):MK:=fun S=>(src S).bind fun y=>(fzAll fr y.2).bind fun S2=>(ox S2 fr).bind fun cap=>jb (y.1.length<=eG) ((fb tf te cap y.1).map fun avs=>(.ow avs,S2))
def iR:MT:=fun S=>some (true,S)
section
variable {K:W.Frag}{H₀ Hf₀ Hf Hf' H H':Hp}{S S':AS}{σ:St}{Fs Fs':List (List Addr)}
theorem cm.fz (R:cm K H₀ Hf₀ Hf S σ H Fs) {j:Nat}{a:AV}(e:S[j]?.join=some a):∃ Hf' Fs',jW Hf H Fs Hf' H Fs'/\cm K H₀ Hf₀ Hf' (S.set j (some (.sh (aB a)))) σ H Fs':=by
 obtain ⟨v,F,s1,s2,r,nd,o,R1⟩:=R.move (bH e);have n:∀ q∈F,Hf q=none:=fun q hq=>(r.owned q hq).2
 have R2:=R1.frz o n;have r2:=r.frozen (cV (H:=H) n) fun q hq=>mM hq
 have R3:=R2.again (F:=F) (G:=[]) s1 (.sh r2) List.nodup_nil fun q h=>(by cases h)
 refine ⟨_,_,⟨cV n,.refl _,fun p hp=>dG hp,fun b h g=>?_⟩,R3⟩
 by_cases m:b∈F
 .exact .inr (mFq.mpr ⟨F,mGq s2,m⟩)
 .rw [eX m] at g;exact absurd h g
theorem cm.fzAll:∀ {fr:List Nat}{Hf:Hp}{S S':AS}{Fs:List (List Addr)},cm K H₀ Hf₀ Hf S σ H Fs->fzAll fr S=some S'->∃ Hf' Fs',jW Hf H Fs Hf' H Fs'/\cm K H₀ Hf₀ Hf' S' σ H Fs'
 | [],Hf,S,S',Fs,R,e=>by
  cases e;exact ⟨Hf,Fs,.refl,R⟩
 | j::js,Hf,S,S',Fs,R,e=>by
  obtain ⟨a,e1,e2⟩:=oBq.mp e;obtain ⟨Hf1,Fs1,t1,R1⟩:=R.fz e1;obtain ⟨Hf2,Fs2,t2,R2⟩:=cm.fzAll R1 e2;exact ⟨Hf2,Fs2,t1.trans t2,R2⟩
theorem qA (R:cm K H₀ Hf₀ Hf S σ H Fs):∀ {fr:List Nat}{cap:AS},ox S fr=some cap->cap.length=fr.length/\∀ (k:Nat) (a:AV),cap[k]?=some (some a)->∃ d v,a = .sh d/\(slots σ fr)[k]?=some (some v)/\cD K Hf d v
 | [],cap,e=>by
  cases e;exact ⟨rfl,fun k a h=>by simp at h⟩
 | j::js,cap,e=>by
  obtain ⟨a,e1,e2⟩:=oBq.mp e;obtain ⟨cap',e3,e4⟩:=oMq.mp e2;subst e4;obtain ⟨h1,h2⟩:=qA R e3;refine ⟨by simp [h1],fun k b hk=>?_⟩
  cases k with
  | zero =>
   cases hk;cases ej:S[j]?.join with
   | none=>rw [ej] at e1;cases e1
   | some c =>
    rw [ej] at e1;cases c with
    | sh d =>
     cases e1;obtain ⟨v,F,s1,s2,r⟩:=R.rep j _ (bH ej);refine ⟨d,v,rfl,?_,r.sh_inv.2⟩;show some ((σ[j]?).join)=_;rw [s1];rfl
    | _=>cases e1
  | succ k=>exact h2 k b (by simpa using hk)
theorem AL (R:cm K H₀ Hf₀ Hf S σ H Fs) {fr:List Nat}{cap:AS}(e:ox S fr=some cap) {d:D}{x:V}(rx:cD K Hf d x) :
  cm K H₀ Hf₀ Hf (some (.sh d)::cap) (some x::slots σ fr) H (List.replicate (cap.length+1) []):=by
 obtain ⟨h1,h2⟩:=qA R e;have fl:=fu (cap.length+1);refine ⟨by simp [slots,h1],by simp,fun i av ei=>?_,fun i ei=>?_,by rw [fl];exact List.nodup_nil,fun p hp=>(by rw [fl] at hp;cases hp),R.sub,R.fr,R.lim,R.sf⟩
 .cases i with
  | zero =>
   cases ei;exact ⟨x,[],rfl,by simp,.sh rx⟩
  | succ k =>
   have hk:k<cap.length:=(gSq.mp (by simpa using ei)).1
   obtain ⟨d',v,rfl,s1,r⟩:=h2 k av (by simpa using ei)
   exact ⟨v,[],by simpa using s1,by rw [List.getElem?_replicate,if_pos (by lia)],.sh r⟩
 .rw [List.getElem?_replicate];have hi:=(gSq.mp ei).1;rw [if_pos (by simpa using hi)]
theorem cm.updOut (R:cm K H₀ Hf₀ Hf S σ H Fs) {p:Addr}{o:HO}(h1:p∉Fs.flatten) (h2:Hf p=none) (h3:H₀ p=none):cm K H₀ Hf₀ Hf S σ (cK H p o) Fs where
 len:=R.len
 lenF:=R.lenF
 rep:=fun i av e=>by
  obtain ⟨v,F,s1,s2,r⟩:=R.rep i av e;exact ⟨v,F,s1,s2,r.keepUpd fun m=>h1 (iF s2 m)⟩
 emp:=R.emp
 nd:=R.nd
 fresh:=R.fresh
 sub:=fun b u e=>by
  rw [aR fun z=>by rw [z,h2] at e;cases e]
  exact R.sub b u e
 fr:=fun b u e=>by
  rw [aR fun z=>by rw [z,h3] at e;cases e]
  exact R.fr b u e
 lim:=R.lim
 sf:=R.sf
theorem cm.outer {σ2:St}{Fs2 Fs3:List (List Addr)}{Hf3 H3:Hp}{S3:AS}(R:cm K H₀ Hf₀ Hf S σ H Fs) (R3:cm K H₀ Hf₀ Hf3 S3 σ2 H3 Fs3) (t:jW Hf H Fs2 Hf3 H3 Fs3) (h0:Fs2.flatten=[]):jW Hf H Fs Hf3 H3 Fs/\cm K H₀ Hf₀ Hf3 S σ H3 Fs:=by
 have g:∀ b,Hf b=none->H b≠none->Hf3 b=none:=fun b h1 h2=>by
  by_cases e:Hf3 b=none
  .exact e
  .rcases t.gr b h1 e with z|z
   .exact absurd z h2
   .rw [h0] at z;cases z
 exact ⟨⟨t.sf,t.sh,fun _ h=>h,fun b h1 h2=>.inl (by
  by_cases e:H b=none
  .exact e
  .exact absurd (g b h1 e) h2)⟩,R.more t.sh t.sf R3.sub (fun q hq=>g q (R.mem hq).2 (R.mem hq).1) R3.lim⟩
end
section
variable {K:W.Frag}{tf:TT}{te:TE}{mf:MT}{me:MK}{fr:List Nat}
theorem tw {H₀ Hf₀ Hf1 H1:Hp}{S1:AS}{σ:St}{Fs1:List (List Addr)}{cap:AS}{ds:List D}{avs:List AV}{J:It}{Q:VK}(hf:uy K tf mf) (he:SK K te me)
  (R1:cm K H₀ Hf₀ Hf1 S1 σ H1 Fs1) (ec:ox S1 fr=some cap) (hl:ds.length<=eG) (e:fb mf me cap ds=some avs)
  (hgo:∀ i H,bS Hf1 H->i<ds.length->J.go i H) (mK:∀ H,bS Hf1 H->J.stop ds.length H) (hy:∀ i H x H',bS Hf1 H->i<ds.length->J.yld i H x H'->H'=H/\∃ d,ds[i]?=some d/\cD K Hf1 d x)
  (q:∀ Hf' H' v F,jW Hf1 H1 Fs1 Hf' H' Fs1->cm K H₀ Hf₀ Hf' S1 σ H' Fs1->bD K Hf' H' (.ow avs) v F->jk H₀ H1 Fs1 Fs1 F->Q v H') :
  ∀ acc,H1 acc=none->∃ W:Nat->Nat->Hp->Prop,(∃ m,W 0 m (cK H1 acc (.lst [])))/\∀ i m H,W i m H ->
   (J.stop i H/\Q (.ref acc) H) ∨
   (J.go i H/\∃ N:Hp->Prop,(∀ H',N H'->∃ m',m'<m/\W (i+1) m' H')/\∀ x H',J.yld i H x H'->tf (some x::slots σ fr) H' fun b H2 =>
    if b=true then te (some x::slots σ fr) H2 fun y H3=>∃ ys,H3 acc=some (.lst ys)/\ys.length<sizeLine/\N (cK H3 acc (.lst (ys++[y]))) else N H2):=by
 intro acc hacc;obtain ⟨t0,R0,n1,n2,n3⟩:=R1.new (o:=.lst []) hacc
 let P:Nat->Hp->Prop:=fun i H=>∃ Hf as vs Gs fZ,cm K H₀ Hf₀ Hf S1 σ H Fs1/\jW Hf1 H1 Fs1 Hf H Fs1/\H acc=some (.lst vs)/\Hf acc=none/\bZ K Hf H as vs Gs/\jk H₀ H1 Fs1 Fs1 (acc::Gs.flatten)/\as.length<=i /\
  fb mf me cap (ds.drop i)=some fZ/\avs=as++fZ
 refine ⟨fun i m H=>m=ds.length-i/\i<=ds.length/\P i H,⟨ds.length,by simp,Nat.zero_le _,Hf1,[],[],[],avs,R0,t0,bb,n1,.nil,jk.one R1 hacc,Nat.zero_le _,e,rfl⟩,?_⟩
 rintro i m H ⟨rfl,hi,Hf,as,vs,Gs,fZ,R,t,ha,hfa,ra,ow,la,er,ea⟩;have hs:bS Hf1 H:=t.sf.trans R.sub
 by_cases hlt:i<ds.length
 .refine .inr ⟨hgo i H hs hlt,P (i+1),fun H' p=>⟨ds.length-(i+1),by lia,rfl,hlt,p⟩,fun x H' y=>?_⟩
  obtain ⟨rfl,d,hd,rx⟩:=hy i H x H' hs hlt y;rw [List.drop_eq_getElem_cons hlt,(gSq.mp hd).2] at er;obtain ⟨b,e1,e2⟩:=oBq.mp er;have fl:=fu (cap.length+1);refine hf (AL R ec (rx.mono t.sf)) (b:=b.1) (S':=b.2) e1 _ fun Hf2 H2 Fs2 t2 R2=>?_
  obtain ⟨t2',R2'⟩:=R.outer R2 t2 fl;have ha2:H2 acc=some (.lst vs):=t2.sh _ _ ha;have hfa2:Hf2 acc=none:=by
   by_cases z:Hf2 acc=none
   .exact z
   .rcases t2.gr acc hfa z with z|z
    .rw [ha] at z;cases z
    .rw [fl] at z;cases z
  have ra2:=ra.stp (fun q hq=>ow.out q (mCo _ hq)) t2'
  split at e2
  .rename_i hb;rw [hb];refine wI ?_;obtain ⟨a,e3,e4⟩:=oBq.mp e2;obtain ⟨rest',e5,e6⟩:=oMq.mp e4;subst e6;refine he R2 (a:=a.1) (S':=a.2) e3 _ fun Hf3 H3 Fs3 v F t3 R3 r3 o3=>?_
   have fl2:Fs2.flatten=[]:=by
    cases hz:Fs2.flatten with
    | nil=>rfl
    | cons z zs =>
     have:=t2.own z (by rw [hz];simp)
     rw [fl] at this;cases this
   obtain ⟨t3',R3'⟩:=R2'.outer R3 t3 fl2;have ha3:H3 acc=some (.lst vs):=t3.sh _ _ ha2;have hfa3:Hf3 acc=none:=by
    by_cases z:Hf3 acc=none
    .exact z
    .rcases t3.gr acc hfa2 z with z|z
     .rw [ha2] at z;cases z
     .rw [fl2] at z;cases z
   have ra3:=ra2.stp (fun q hq=>ow.out q (mCo _ hq)) t3'
   have newF:∀ q∈F,H2 q=none:=fun q hq=>(o3.new q hq).elim id fun z=>by rw [fl2] at z;cases z
   have accF:acc∉F:=fun m=>by rw [newF acc m] at ha2;cases ha2
   have accG:acc∉Gs.flatten:=(List.nodup_cons.mp ow.nd).1;have tt:=(t.trans t2').trans t3';refine ⟨vs,ha3,?_,?_⟩
   .rw [gw,← ra.1];lia
   .refine ⟨Hf3,as++[a.1],vs++[v],Gs++[F],rest',R3'.updOut n3 hfa3 n2,⟨tt.sf,fun b o eb=>?_,fun _ h=>h,tt.gr⟩,bb,hfa3,(ra3.keepUpd accG).snoc (r3.keepUpd accF),?_,by rw [lAq,lSq];lia,e5,by rw [ea];simp⟩
    .rw [aR fun z=>by rw [z,hacc] at eb;cases eb]
     exact tt.sh b o eb
    .rw [fAq,List.flatten_singleton];have oF:jk H₀ H1 Fs1 Fs1 F:=⟨o3.nd,o3.fr,fun q hq m=>(R2'.mem m).1 (newF q hq),fun q hq=>.inl ((t.trans t2').sh.free (newF q hq))⟩
     refine (show jk H₀ H1 Fs1 Fs1 ((acc::Gs.flatten)++F) from ow.app oF fun q hq m=>?_)
     rcases List.mem_cons.mp hq with z|z
     .rw [z] at m;exact accF m
     .exact (ra2.owned q z).1 (newF q m)
  .rename_i hb;rw [Bool.not_eq_true] at hb;rw [hb];exact wJ ⟨Hf2,as,vs,Gs,fZ,R2',t.trans t2',ha2,hfa2,ra2,ow,by lia,e2,ea⟩
 .have e0:i=ds.length:=by lia
  subst e0;rw [List.drop_length] at er;cases er;rw [aNq] at ea;subst ea;exact .inl ⟨mK H hs,q Hf H (.ref acc) _ t R (bD.news ha hfa ra) ow⟩
theorem nc {tl:TE}{k:MK}(hk:SK K tl k) (hf:uy K tf mf) (he:SK K te me):SK K (za (DQ K tl) fr tf te) (lS (AK k) fr mf me):=by
 intro H₀ Hf₀ Hf S σ H Fs av S' R e Q q;obtain ⟨y,e1,e⟩:=oBq.mp e;obtain ⟨z,e0,e1⟩:=oBq.mp e1;obtain ⟨ds,e2,e1⟩:=oMq.mp e1;subst e1;obtain ⟨S2,e3,e⟩:=oBq.mp e;obtain ⟨cap,e4,e⟩:=oBq.mp e;rcases bh e with ⟨hl,e⟩|e
 .obtain ⟨avs,e5,e⟩:=oMq.mp e;cases e;have hk':SK K tl (gW k):=SK.frz hk;refine hk' R (a:=z.1) (S':=z.2) e0 _ fun Hf1 H1 Fs1 v F t1 R1 r1 o1=>?_
  obtain ⟨d,hd⟩:=mT (te:=tl) e0;rw [hd] at r1;rw [hd,bK] at e2;obtain ⟨Hf2,Fs2,t2,R2⟩:=R1.fzAll e3;obtain ⟨a,vs,rfl,g1,g2⟩:=kS e2 (r1.sh_inv.2.mono t2.sf);refine ⟨a,rfl,⟨vs,R2.sub.seq g1⟩,tw (K:=K) hf he R2 e4 hl e5 (fun i H s hi=>⟨vs,vs[i]'(g2.1 ▸ hi),s.seq g1,gEg (g2.1 ▸ hi)⟩) (fun H s=>⟨vs,s.seq g1,Nat.le_of_eq g2.1.symm⟩) (fun i H x H' s hi y=>?_) fun Hf' H' v F t R' r o=>q _ _ _ v F ((t1.trans t2).trans t) R' r (o.back (t1.trans t2))⟩
  obtain ⟨y1,y2⟩:=y;obtain ⟨di,h1,h2⟩:=g2.get' (y2 vs (s.seq g1));exact ⟨y1,di,h1,h2⟩
 .cases e
theorem fU {lo:Int}{n i:Nat}(h:i<n):(bA lo n)[i]?=some (.int (lo+i)):=by
 unfold bA;rw [gMq,List.getElem?_range h];rfl
theorem aY (lo:Int) (n:Nat):(bA lo n).length=n:=by unfold bA;rw [lMq,List.length_range]
theorem nY {ta:TA}{a:ML}(ha:EB K ta a) (hf:uy K tf mf) (he:SK K te me):SK K (za (DE ta) fr tf te) (lS (IW a) fr mf me):=by
 intro H₀ Hf₀ Hf S σ H Fs av S' R e Q q;obtain ⟨y,e1,e⟩:=oBq.mp e;obtain ⟨z,e0,e1⟩:=oBq.mp e1;obtain ⟨ds,e2,e1⟩:=oMq.mp e1;subst e1;obtain ⟨S2,e3,e⟩:=oBq.mp e;obtain ⟨cap,e4,e⟩:=oBq.mp e;rcases bh e with ⟨hl,e⟩|e
 .obtain ⟨avs,e5,e⟩:=oMq.mp e;cases e;refine ha R (ds:=z.1) (S':=z.2) e0 _ fun Hf1 H1 Fs1 vs t1 R1 r1=>?_
  unfold oz at e2;split at e2
  .rename_i j hz;rcases bh e2 with ⟨hj,e2⟩|e2
   .skip
    cases e2;rw [hz] at r1;obtain ⟨v,ws,rfl,h1,h2⟩:=r1.cons_inv;rw [h2.nil_inv];cases h1;obtain ⟨Hf2,Fs2,t2,R2⟩:=R1.fzAll e3;refine ⟨j,rfl,hj.1,hj.2,tw (K:=K) hf he R2 e4 hl e5 (fun i H s hi=>(by rw [aY] at hi;exact hi)) (fun H s=>(by rw [aY];exact Nat.le_refl _)) (fun i H x H' s hi y=>?_) fun Hf' H' v F t R' r o=>q _ _ _ v F ((t1.trans t2).trans t) R' r (o.back (t1.trans t2))⟩
    obtain ⟨y1,y2⟩:=y;rw [aY] at hi;exact ⟨y1,_,fU hi,by rw [y2];exact .int⟩
   .cases e2
  .cases e2
 .cases e
theorem rp:uy K JZ iR:=by
 intro H₀ Hf₀ Hf S σ H Fs b S' R e Q q;cases e;exact q _ _ _ .refl R
end
end Z
namespace Z
open PySem L2 Mr
mutual
def py:D->Option PyData
 | .non=>some .none
 | .bl b=>some (.bool b)
 | .int i=>some (.int i)
 | .str x=>some (.str x)
 | .list ds=>(zL ds).map .list
 | .tup ds=>(zL ds).map .tuple
 | _=>none
def zL:List D->Option (List PyData)
 | []=>some []
 | d::ds=>(py d).bind fun x=>(zL ds).map (x :: ·)
end
section
variable {X:Cx}
theorem kE {h:Heap}:∀ {ds:List D}{vs:List V}{its:List Value}{xs:List PyData},(∀ (i:Nat) (d:D) (v:V),ds[i]?=some d->vs[i]?=some v->∀ u x,bM v u->py d=some x->∃ as,Reads h u x as)->ds.length=vs.length->bu vs its->zL ds=some xs->∃ as,ReadsAll h its xs as
 | [],vs,its,xs,_,hl,hv,e=>by
  have:vs=[]:=List.length_eq_zero_iff.mp hl.symm;subst this;cases hv;simp only [zL] at e;cases e;exact ⟨_,.nil⟩
 | d::ds,vs,its,xs,ih,hl,hv,e=>by
  cases vs with
  | nil=>simp at hl
  | cons v vs =>
   cases hv with
   | cons r t =>
    simp only [zL] at e;obtain ⟨x,e1,e2⟩:=oBq.mp e;obtain ⟨ys,e3,e4⟩:=oMq.mp e2;subst e4;obtain ⟨as,h1⟩:=ih 0 d v rfl rfl _ x r e1;obtain ⟨bs,h2⟩:=kE (fun i d' v' q1 q2=>ih (i+1) d' v' (by simpa using q1) (by simpa using q2)) (by simpa using hl) t e3
    exact ⟨_,.cons h1 h2⟩
theorem wD {ab:List (Addr×Obj)}{σ:St}{H:Hp}{s:Shared}(I:aO X ab σ H s) {d:D}{v:V}(r:cD X.K H d v):∀ (u:Value) (x:PyData),bM v u->py d=some x->∃ as,Reads s.heap u x as:=by
 induction r with
 | non=>intro u x ru e;cases ru;simp only [py] at e;cases e;exact ⟨_,.none⟩
 | bl=>intro u x ru e;cases ru;simp only [py] at e;cases e;exact ⟨_,.bool _⟩
 | int=>intro u x ru e;obtain ⟨t,rfl⟩:=ru;simp only [py] at e;cases e;exact ⟨_,.int _ _⟩
 | str=>intro u x ru e;obtain ⟨t,rfl⟩:=ru;simp only [py] at e;cases e;exact ⟨_,.str _ _⟩
 | ty=>intro u x ru e;simp only [py] at e;cases e
 | list h l _ ih =>
  intro u x ru e;cases ru;simp only [py] at e;obtain ⟨xs,e1,rfl⟩:=oMq.mp e;obtain ⟨its,rv,hl,hz⟩:=I.list (eJ.of h);obtain ⟨o,ho,hc,n,hd⟩:=hl.isList;obtain ⟨as,e2⟩:=kE ih l rv e1;exact ⟨_,Reads.list ho hc hd (by simpa using e2)⟩
 | tup h l _ ih =>
  intro u x ru e;cases ru;simp only [py] at e;obtain ⟨xs,e1,rfl⟩:=oMq.mp e;obtain ⟨its,rv,⟨o,ho,hc,n,hd⟩,hz⟩:=I.tuple (oG.of h);obtain ⟨as,e2⟩:=kE ih l rv e1;exact ⟨_,Reads.tuple ho hc hd (by simpa using e2)⟩
 | dict h l _ ih=>intro u x ru e;simp only [py] at e;cases e
 | fd h l _ ih=>intro u x ru e;simp only [py] at e;cases e
 | scr h=>intro u x ru e;simp only [py] at e;cases e
 | exc rf nf h hx=>intro u x ru e;simp only [py] at e;cases e
 | exc0 rf h=>intro u x ru e;simp only [py] at e;cases e
 | cls h=>intro u x ru e;simp only [py] at e;cases e
 | ins rf h l _ ih=>intro u x ru e;simp only [py] at e;cases e
def Jm (K:W.Frag) (neg:Bool):R2:=fun x y H Q=>∃ (d e:D) (a b:PyData),cD K H d x/\cD K H e y/\py d=some a/\py e=some b/\SeqAt.shaped a=true/\SeqAt.shaped b=true/\SeqAt.noMix a b=true /\
 Q (.bl (if neg then !(PySem.Spec.same a b) else PySem.Spec.same a b)) H
theorem G9 (hu:X.A.units+64<cLine):oj X (compareOp .NotEq) (Jm X.K true):=by
 intro ab s σ H x y v u Q I rx ry h;obtain ⟨d,e,a,b,h1,h2,p1,p2,s1,s2,nm,q⟩:=h;obtain ⟨as,r1⟩:=wD I h1 _ _ rx p1;obtain ⟨bs,r2⟩:=wD I h2 _ _ ry p2;exact PyProof.Rows.ne_dataH_same r1 r2 s1 s2 hu nm (bE I q rfl)
end
def Cu (d e:D):Option D:=(py d).bind fun a=>(py e).bind fun b=>if SeqAt.shaped a=true/\SeqAt.shaped b=true/\SeqAt.noMix a b=true then some (.bl (PySem.Spec.same a b)) else none
def Af (d e:D):Option D:=(Cu d e).bind A9
section
variable {K:W.Frag}
theorem GW:pq K (Jm K true) Af:=by
 intro x y H Q dx dy d rx ry e q;obtain ⟨c,e,e'⟩:=oBq.mp e;obtain ⟨a,e1,e⟩:=oBq.mp e;obtain ⟨b,e2,e⟩:=oBq.mp e;split at e
 .rename_i h;cases e;cases e';exact ⟨dx,dy,a,b,rx,ry,e1,e2,h.1,h.2.1,h.2.2,q _ .bl⟩
 .cases e
end
abbrev dI (ns:List Int):D:=.list (ns.map .int)
abbrev dM (rs:List (List Int)):D:=.list (rs.map dI)
theorem CI (ns:List Int):zL (ns.map .int)=some (ns.map PyData.int):=by
 induction ns with
 | nil=>simp [zL]
 | cons n ns ih=>simp [zL,py,ih]
theorem GK (ns:List Int):py (dI ns)=some (iM ns):=by
 show py (.list _)=_;simp only [py,CI];rfl
theorem Bv (rs:List (List Int)):zL (rs.map dI)=some (rs.map iM):=by
 induction rs with
 | nil=>simp [zL]
 | cons r rs ih =>
  show zL (dI r::rs.map dI)=_;simp only [zL,GK,ih];rfl
theorem Kx (rs:List (List Int)):py (dM rs)=some (nh rs):=by
 show py (.list _)=_;simp only [py,Bv];rfl
theorem ql (r:List Int):SeqAt.shaped (iM r)=true:=by
 have h2:=W.depthAll_ints r;have h3:PyData.depth (iM r)<=64:=by simp only [iM,PyData.depth];lia
 show (PyData.canLay0 (iM r) && decide (PyData.depth (iM r)<=64))=true;rw [Bool.and_eq_true];exact ⟨by simp only [iM,PyData.canLay0];exact W.canLayAll0_ints r,decide_eq_true h3⟩
@[simp] theorem Li (ns ms:List Int):Cu (dI ns) (dI ms)=some (.bl (decide (ns=ms))):=by
 unfold Cu;rw [GK,GK];show (if _ then _ else _)=_
 rw [if_pos ⟨ql ns,ql ms,by simp only [iM,SeqAt.noMix];exact W.noMix_ints ns ms⟩]
 simp only [iM,PySem.Spec.same,W.same_ints]
@[simp] theorem Hc (rs ts:List (List Int)):Cu (dM rs) (dM ts)=some (.bl (decide (rs=ts))):=by
 unfold Cu;rw [Kx,Kx];show (if _ then _ else _)=_
 rw [if_pos ⟨oH rs,oH ts,by simp only [nh,SeqAt.noMix];exact qi rs ts⟩]
 simp only [nh,PySem.Spec.same,tT]
@[simp] theorem Hb (rs ts:List (List Int)):Af (dM rs) (dM ts)=some (.bl (!decide (rs=ts))):=by unfold Af;rw [Hc];rfl
def yz (l:ML):MK:=fun S=>(l S).map fun x=>(.ow (x.1.map .sh),x.2)
def LB (l:ML):MK:=fun S=>(l S).bind fun x=>(cM x.1).map fun ns=>(.ow ((pI ns).map fun n=>.sh (.int n)),x.2)
def kA:List D->Option (List (List Int))
 | []=>some []
 | .list ds::es=>(cM ds).bind fun r=>(kA es).map (r :: ·)
 | _=>none
theorem tS:∀ {ds:List D}{rs:List (List Int)},kA ds=some rs->ds=rs.map dI
 | [],rs,h=>by cases h;rfl
 | d::ds,rs,h=>by
  cases d with
  | list es =>
   obtain ⟨r,h1,h⟩:=oBq.mp (show (cM es).bind (fun r=>(kA ds).map (r :: ·))=some rs from h)
   obtain ⟨ts,h2,h3⟩:=oMq.mp h;subst h3;rw [tS h2,gb h1];rfl
  | _=>cases h
@[simp] theorem yi (rs:List (List Int)):kA (rs.map dI)=some rs:=by
 induction rs with
 | nil=>rfl
 | cons r rs ih =>
  show (cM (r.map .int)).bind (fun r=>(kA (rs.map dI)).map (r :: ·))=_
  rw [fY,ih];rfl
def xC (l:ML):MK:=fun S=>(l S).bind fun x=>(kA x.1).map fun rs=>(.ow ((wN rs).map fun r=>.sh (dI r)),x.2)
section
variable {K:W.Frag}{te:TE}{l:ML}
theorem Fw (hl:SQ K te l):SK K (Bk (fun xs H Q=>∃ p ys,xs=[.ref p]/\(eJ K H p ys∨oG K H p ys)/\∀ l,H l=none->Q (.ref l) (cK H l (.lst ys))) (gi te ka)) (yz l):=by
 intro H₀ Hf₀ Hf S σ H Fs av S' R e Q q;obtain ⟨x,e1,e⟩:=oMq.mp e;cases e;refine hl R (ds:=x.1) (S':=x.2) e1 _ fun Hf1 H1 Fs1 p1 vs1 t1 R1 h1 r1=>⟨p1,vs1,rfl,.inl h1,fun p hp=>?_⟩
 obtain ⟨t4,R4,n1,n2,n3⟩:=R1.new (o:=.lst vs1) hp;exact q _ _ _ (.ref p) [p] (t1.trans t4) R4 (bD.new bb n1 r1) ((jk.one R1 hp).back t1)
theorem vW (ns:List Int):(ns.map fun n=>AV.sh (.int n))=(ns.map D.int).map .sh:=by rw [mPq];rfl
theorem vf (rs:List (List Int)):(rs.map fun r=>AV.sh (dI r))=(rs.map dI).map .sh:=by rw [mPq];rfl
theorem lP {H:Hp}:∀ {rs:List (List Int)}{vs:List V},bO K H (rs.map dI) vs->∃ ps,vs=ps.map V.ref/\dw H ps rs
 | [],vs,h=>⟨[],h.nil_inv,.nil⟩
 | r::rs,vs,h=>by
  obtain ⟨v,ws,rfl,h1,h2⟩:=bO.cons_inv (d:=dI r) (ds:=rs.map dI) h;obtain ⟨p,us,rfl,h3,h4⟩:=h1.list_inv;rw [cX h4] at h3;obtain ⟨ps,rfl,h5⟩:=lP h2;exact ⟨p::ps,rfl,dw.cons_iff.mpr ⟨h3,h5⟩⟩
theorem sO {H:Hp}:∀ {rs:List (List Int)}{ps:List Addr},dw H ps rs->bO K H (rs.map dI) (ps.map V.ref)
 | [],[],_=>.nil
 | [],_::_,h=>by have:=h.length;simp at this
 | _::_,[],h=>by have:=h.length;simp at this
 | r::rs,p::ps,h=>by
  obtain ⟨h1,h2⟩:=dw.cons_iff.mp h;exact .cons (.mk_list h1 (gL r)) (sO h2)
theorem Ds (hl:SQ K te l):SK K (Bk (fun xs H Q=>∃ (a:Addr) (ps:List Addr) (rs:List (List Int)),xs=[.ref a]/\eJ K H a (ps.map V.ref)/\dw H ps rs /\
  ∀ p qs,H p=none->qs.Perm ps->dw (cK H p (.lst (qs.map V.ref))) qs (wN rs)->Q (.ref p) (cK H p (.lst (qs.map V.ref)))) (gi te ka)) (xC l):=by
 intro H₀ Hf₀ Hf S σ H Fs av S' R e Q q;obtain ⟨x,e1,e⟩:=oBq.mp e;obtain ⟨rs,e2,e⟩:=oMq.mp e;cases e;refine hl R (ds:=x.1) (S':=x.2) e1 _ fun Hf1 H1 Fs1 p1 vs1 t1 R1 h1 r1=>?_
 rw [tS e2] at r1;obtain ⟨ps,rfl,hE⟩:=lP r1;refine ⟨p1,ps,rs,rfl,h1,hE.same R1.sub,fun p qs hp hq hE2=>?_⟩
 obtain ⟨t4,R4,n1,n2,n3⟩:=R1.new (o:=.lst (qs.map V.ref)) hp;have hE3:dw Hf1 qs (wN rs):=hE2.keep fun b hb=>by
  obtain ⟨r,_,hr⟩:=hE.mem (hq.mem_iff.mp hb);rw [hr,R4.sub b _ hr]
 rw [vf] at q;exact q _ _ _ (.ref p) [p] (t1.trans t4) R4 (bD.new bb n1 (sO hE3)) ((jk.one R1 hp).back t1)
end
def JP:String->D->Bool
 | T,.list _=>T == "list"
 | T,.scr _=>T == "list"
 | T,.str _=>T == "str"
 | _,_=>false
def KM (T:String) (f:D->List D->Option D) (a:ME) (as:ML):ME:=fun S=>(a S).bind fun x=>if JP T x.1=true then (as x.2).bind fun y=>(f x.1 y.1).map fun d=>(d,y.2) else none
def Mz (K:W.Frag) (r:V->List V->Hp->VK->Prop) (f:D->List D->Option D):Prop:=∀ {x:V}{vs:List V}{H:Hp}{Q:VK}{dx:D}{ds:List D}{d:D},cD K H dx x->bO K H ds vs->f dx ds=some d->(∀ v,cD K H d v->Q v H)->r x vs H Q
section
variable {K:W.Frag}{te:TE}{ta:TA}{a:ME}{as:ML}{r:V->List V->Hp->VK->Prop}{f:D->List D->Option D}{T:String}
theorem Ia {H:Hp}{d:D}{v:V}(h:JP T d=true) (rv:cD K H d v):KB K T v H:=by
 cases rv <;> simp only [JP] at h
 all_goals first|(exfalso;simp at h;done)|skip
 .exact eq_of_beq h
 .rename_i p vs ds h1 l e;exact .inl ⟨eq_of_beq h,vs,eJ.of h1⟩
 .rename_i p ns h1;exact .inl ⟨eq_of_beq h,_,h1⟩
theorem FF (hr:Mz K r f) (ha:SR K te a) (hs:EB K ta as):SR K (Gf K T r te ta) (KM T f a as):=by
 intro H₀ Hf₀ Hf S σ H Fs d S' R e Q q;obtain ⟨x,e1,e⟩:=oBq.mp e;split at e
 .rename_i hT;obtain ⟨y,e2,e⟩:=oBq.mp e;obtain ⟨z,e3,e⟩:=oMq.mp e;cases e;refine ha R (d:=x.1) (S':=x.2) e1 _ fun Hf1 H1 Fs1 v t1 R1 r1=>⟨Ia hT r1,hs R1 (ds:=y.1) (S':=y.2) e2 _ fun Hf2 H2 Fs2 vs t2 R2 r2=>?_⟩
  exact hr (r1.mono t2.sh) r2 e3 fun v rv=>q _ _ _ v (t1.trans t2) R2 rv
 .cases e
def oa:D->List D->Option D
 | .list ds,[.int k]=>(cM ds).bind fun ns=>if k∈ns then some (.int (ns.idxOf k:Nat)) else none
 | _,_=>none
theorem wA:Mz K (CU K) oa:=by
 intro x vs H Q dx ds d rx rs e q;unfold oa at e;split at e
 .rename_i es k;obtain ⟨ns,e1,e⟩:=oBq.mp e;split at e
  .rename_i hk;cases e;obtain ⟨v,ws,rfl,h1,h2⟩:=rs.cons_inv;rw [h2.nil_inv];cases h1;rw [gb e1] at rx;obtain ⟨p,us,rfl,h3,h4⟩:=rx.list_inv;rw [cX h4] at h3;exact ⟨p,ns,k,rfl,rfl,eJ.of h3,hk,q _ .int⟩
  .cases e
 .cases e
def Mu (a:ME):ME:=fun S=>(a S).bind fun x=>match x.1 with
 | .list ds=>(kA ds).map fun rs=>(.int (rs.countP (·=([]:List Int)):Nat),x.2)
 | _=>none
def rH:D->Option Bool
 | .non=>some false
 | .bl b=>some b
 | .int i=>some (i != 0)
 | .list ds=>some (!ds.isEmpty)
 | .tup ds=>some (!ds.isEmpty)
 | .dict ds=>some (!ds.isEmpty)
 | _=>none
def AF (a:ME):MT:=fun S=>(a S).bind fun x=>(rH x.1).map fun b=>(b,x.2)
theorem jZ {α β:Type}{xs:List α}{ys:List β}(h:xs.length=ys.length):(!xs.isEmpty) = !ys.isEmpty:=by
 cases xs <;> cases ys <;> simp at h ⊢
theorem ur (ha:SR K te a):uy K (fun σ H Q=>te σ H fun x H'=>∃ k,HM K x H' k/\Q k H') (AF a):=by
 intro H₀ Hf₀ Hf S σ H Fs b S' R e Q q;obtain ⟨x,e1,e⟩:=oBq.mp e;obtain ⟨c,e2,e⟩:=oMq.mp e;cases e;refine ha R (d:=x.1) (S':=x.2) e1 _ fun Hf1 H1 Fs1 v t1 R1 r1=>⟨_,?_,q _ _ _ t1 R1⟩
 cases hx:x.1 <;> rw [hx] at e2 r1 <;> simp only [rH] at e2
 all_goals first|(exfalso;simp at e2;done)|skip
 .cases r1;cases e2;rfl
 .cases r1;cases e2;rfl
 .cases r1;cases e2;rfl
 .obtain ⟨p,us,rfl,h3,h4⟩:=r1.list_inv;cases e2;exact .inl ⟨us,eJ.of h3,jZ h4.1⟩
 .obtain ⟨p,us,rfl,h3,h4⟩:=r1.tup_inv;cases e2;exact .inr (.inl ⟨us,oG.of h3,jZ h4.1⟩)
 .obtain ⟨p,us,rfl,h3,h4⟩:=r1.dict_inv;cases e2;exact .inr (.inr ⟨us,h3,jZ h4.len⟩)
end
end Z
namespace Z
open PySem L2 Mr
def cQ:AV->List Nat->Option (List AV)
 | .ow avs,[]=>some avs
 | .ow avs,j::js=>(avs[j]?).bind fun a=>cQ a js
 | _,_=>none
def putAt:AV->List Nat->List AV->AV
 | .ow _,[],as=>.ow as
 | .ow avs,j::js,as=>match avs[j]? with
  | some a=>.ow (avs.set j (putAt a js as))
  | none=>.ow avs
 | a,_,_=>a
def xu (H:Hp):V->List Nat->V->Prop
 | v,[],w=>v=w
 | v,j::js,w=>∃ p vs u,v = .ref p/\H p=some (.lst vs)/\vs[j]?=some u/\xu H u js w
section
variable {K:W.Frag}{H₀ Hf₀ Hf Hf' H H':Hp}{S S':AS}{σ:St}{Fs Fs':List (List Addr)}
theorem jO:∀ {Fs:List (List Addr)}{F G:List Addr}(i:Nat),Fs.flatten.Nodup->Fs[i]?=some G->F.Nodup->(∀ p∈F,p∈G∨p∉Fs.flatten)->(Fs.set i F).flatten.Nodup
 | [],F,G,i,h,e,_,_=>by simp at e
 | E::Gs,F,G,0,h,e,hF,hd=>by
  simp at e;subst e;rw [List.set_cons_zero,fCq,nAq];rw [fCq,nAq] at h;refine ⟨hF,h.2.1,fun a ha b hb e=>?_⟩
  subst e;rcases hd a ha with z|z
  .exact h.2.2 a z a hb rfl
  .exact z (by rw [fCq];exact List.mem_append_right _ hb)
 | E::Gs,F,G,i+1,h,e,hF,hd=>by
  rw [List.set_cons_succ,fCq,nAq];rw [fCq,nAq] at h;have e':Gs[i]?=some G:=by simpa using e
  refine ⟨h.1,jO i h.2.1 e' hF fun p hp=>(hd p hp).imp id fun z m=>z (by rw [fCq];exact List.mem_append_right _ m),fun a ha b hb e=>?_⟩
  subst e;rcases dF hb with q|q
  .rcases hd a q with z|z
   .exact h.2.2 a ha a (mFq.mpr ⟨G,mGq e',z⟩) rfl
   .exact z (by rw [fCq];exact List.mem_append_left _ ha)
  .exact h.2.2 a ha a q rfl
theorem qH:∀ {Fs:List (List Addr)}{F G:List Addr}{i j:Nat}{p:Addr},Fs.flatten.Nodup->Fs[i]?=some F->Fs[j]?=some G->i≠j->p∈F->p∉G
 | [],F,G,i,j,p,_,e,_,_,_,_=>by simp at e
 | E::Es,F,G,0,0,p,h,e,f,n,_,_=>n rfl
 | E::Es,F,G,0,j+1,p,h,e,f,n,hp,m=>by
  simp at e;subst e;rw [fCq,nAq] at h;exact h.2.2 p hp p (mFq.mpr ⟨G,mGq (i:=j) (by simpa using f),m⟩) rfl
 | E::Es,F,G,i+1,0,p,h,e,f,n,hp,m=>by
  simp at f;subst f;rw [fCq,nAq] at h;exact h.2.2 p m p (mFq.mpr ⟨F,mGq (i:=i) (by simpa using e),hp⟩) rfl
 | E::Es,F,G,i+1,j+1,p,h,e,f,n,hp,m=>by
  rw [fCq,nAq] at h;exact qH h.2.1 (i:=i) (j:=j) (by simpa using e) (by simpa using f) (fun z=>n (by rw [z])) hp m
theorem bD.path:∀ {path:List Nat}{av:AV}{v:V}{F:List Addr}{as:List AV},bD K Hf H av v F->F.Nodup->cQ av path=some as->∃ p vs Gs,xu H v path (.ref p)/\H p=some (.lst vs)/\Hf p=none/\bZ K Hf H as vs Gs/\p∈F/\p∉Gs.flatten/\Gs.flatten.Nodup/\(∀ q∈Gs.flatten,q∈F) /\
  ∀ as' vs' Gs',bZ K Hf (cK H p (.lst vs')) as' vs' Gs'->(p::Gs'.flatten).Nodup->(∀ q∈Gs'.flatten,q∈Gs.flatten∨q∉F)->∃ F',bD K Hf (cK H p (.lst vs')) (putAt av path as') v F'/\F'.Nodup/\∀ q∈F',q∈F∨q∈Gs'.flatten
 | [],av,v,F,as,r,nd,e=>by
  cases av with
  | ow avs =>
   cases e;obtain ⟨p,vs,Gs,rfl,rfl,h1,h2,h3⟩:=r.ow_inv;have n:=List.nodup_cons.mp nd;refine ⟨p,vs,Gs,rfl,h1,h2,h3,by simp,n.1,n.2,fun q hq=>mCo _ hq,fun as' vs' Gs' r' nd' _=>⟨p::Gs'.flatten,bD.news bb h2 r',nd',fun q hq=>?_⟩⟩
   rcases List.mem_cons.mp hq with z|z
   .exact .inl (by rw [z];simp)
   .exact .inr z
  | _=>cases e
 | j::js,av,v,F,as,r,nd,e=>by
  cases av with
  | ow avs =>
   obtain ⟨a,e1,e2⟩:=oBq.mp (show (avs[j]?).bind (fun a=>cQ a js)=some as from e)
   obtain ⟨p0,vs0,Gs0,rfl,rfl,h1,h2,h3⟩:=r.ow_inv;have n:=List.nodup_cons.mp nd;have hj:j<avs.length:=(gSq.mp e1).1;have hv:vs0[j]?=some (vs0[j]'(h3.1 ▸ hj)):=gEg _;have hg:Gs0[j]?=some (Gs0[j]'(h3.2.1 ▸ hj)):=gEg _;generalize vs0[j]'(h3.1 ▸ hj)=vj at hv;generalize Gs0[j]'(h3.2.1 ▸ hj)=Fj at hg;have rj:=h3.2.2 j a vj Fj e1 hv hg;have ndj:Fj.Nodup:=List.Pairwise.sublist (List.sublist_flatten_of_mem (mGq hg)) n.2;have sub:∀ q∈Fj,q∈Gs0.flatten:=fun q hq=>iF hg hq
   obtain ⟨p,vs,Gs,g1,g2,g3,g4,g5,g6,g6',g7,g8⟩:=bD.path rj ndj e2;have pne:p0≠p:=fun z=>n.1 (z ▸ sub p g5)
   refine ⟨p,vs,Gs,⟨p0,vs0,vj,rfl,h1,hv,g1⟩,g2,g3,g4,mCo _ (sub p g5),g6,g6',fun q hq=>mCo _ (sub q (g7 q hq)),fun as' vs' Gs' r' nd' hd=>?_⟩
   obtain ⟨F',k1,k2,k3⟩:=g8 as' vs' Gs' r' nd' fun q hq=>(hd q hq).imp id fun z m=>z (mCo _ (sub q m))
   have hF':∀ q∈F',q∈Fj∨q∉Gs0.flatten:=fun q hq=>by
    rcases k3 q hq with z|z
    .exact .inl z
    .rcases hd q z with y|y
     .exact .inl (g7 q y)
     .exact .inr fun m=>y (mCo _ m)
   refine ⟨p0::(Gs0.set j F').flatten,?_,List.nodup_cons.mpr ⟨fun m=>?_,jO j n.2 hg k2 hF'⟩,fun q hq=>?_⟩
   .show bD K Hf (cK H p (.lst vs')) (match avs[j]? with|some a=>.ow (avs.set j (putAt a js as'))|none=>.ow avs) (.ref p0) _
    rw [e1];refine .ow (vs:=vs0) (by rw [aR pne];exact h1) h2 (by rw [lZq];exact h3.1) (by rw [lZq,lZq];exact h3.2.1) fun i b w G q1 q2 q3=>?_
    rw [List.getElem?_set] at q1 q3
    by_cases hij:j=i
    .subst hij;rw [if_pos rfl,if_pos hj] at q1;rw [if_pos rfl,if_pos (h3.2.1 ▸ hj)] at q3;rw [hv] at q2;cases q1;cases q2;cases q3;exact k1
    .rw [if_neg hij] at q1 q3;exact (h3.2.2 i b w G q1 q2 q3).keepUpd fun m=>qH n.2 hg q3 hij g5 m
   .rcases dF m with z|z
    .rcases k3 p0 z with y|y
     .exact n.1 (sub p0 y)
     .rcases hd p0 y with x|x
      .exact n.1 (sub p0 (g7 p0 x))
      .exact x (by simp)
    .exact n.1 z
   .rcases List.mem_cons.mp hq with z|z
    .exact .inl (by rw [z];simp)
    .rcases dF z with z|z
     .exact (k3 q z).imp (fun y=>mCo _ (sub q y)) id
     .exact .inl (mCo _ z)
  | _=>cases e
theorem cm.turnAny (R:cm K H₀ Hf₀ Hf S σ H Fs) {i:Nat}{av:AV}{p:Addr}{o:HO}{v:V}{F F':List Addr}(s1:σ[i]?=some (some v)) (s2:Fs[i]?=some F) (hp:p∈F) (r:bD K Hf (cK H p o) av v F') (nd:F'.Nodup)
  (hf:∀ q∈F',H₀ q=none/\q∉(Fs.set i []).flatten):cm K H₀ Hf₀ Hf (S.set i (some av)) σ (cK H p o) (Fs.set i F'):=by
 have hin:p∈Fs.flatten:=mFq.mpr ⟨F,mGq s2,hp⟩;have pn:Hf p=none:=(R.mem hin).2;have p0:H₀ p=none:=R.fresh p hin;have out:=gH R.nd s2 hp;have R1:cm K H₀ Hf₀ Hf (S.set i none) σ (cK H p o) (Fs.set i []):=by
  refine ⟨by simp [R.len],by simp [R.lenF],fun j a ej=>?_,fun j ej=>?_,ed i R.nd List.nodup_nil (fun p hp=>by cases hp),fun p hp=>R.fresh p (dG hp),fun b u e=>?_,fun b u e=>?_,R.lim,R.sf⟩
  .rw [List.getElem?_set] at ej
   by_cases hij:i=j
   .subst hij;rw [if_pos rfl] at ej;split at ej <;> cases ej
   .rw [if_neg hij] at ej;obtain ⟨w,G,f1,f2,q⟩:=R.rep j a ej;refine ⟨w,G,f1,by rw [List.getElem?_set_ne hij];exact f2,q.keep (.refl _) (fun c hc=>aR fun e=>out ?_) fun c hc=>(q.owned c hc).2⟩
    subst e;exact mFq.mpr ⟨G,mGq (i:=j) (by rw [List.getElem?_set_ne hij];exact f2),hc⟩
  .rw [List.getElem?_set] at ej
   by_cases hij:i=j
   .subst hij;rw [if_pos rfl] at ej;split at ej
    .rename_i hi;rw [List.getElem?_set_self (R.lenF.symm ▸ hi)]
    .cases ej
   .rw [if_neg hij] at ej;rw [List.getElem?_set_ne hij];exact R.emp j ej
  .rw [aR fun z=>by rw [z,pn] at e;cases e]
   exact R.sub b u e
  .rw [aR fun z=>by rw [z,p0] at e;cases e]
   exact R.fr b u e
 exact R1.again (F:=F) s1 r nd hf
end
end Z
namespace Z
open PySem L2 Mr
abbrev aI (ns:List Int):AV:=.ow (ns.map fun n=>.sh (.int n))
def yR:List AV->Option (List Int)
 | []=>some []
 | .sh (.int i)::r=>(yR r).map (i :: ·)
 | _=>none
def FH:List AV->Option (List (List Int))
 | []=>some []
 | .ow as::r=>(yR as).bind fun ns=>(FH r).map (ns :: ·)
 | _=>none
@[simp] theorem II (ns:List Int):yR (ns.map fun n=>.sh (.int n))=some ns:=by
 induction ns with
 | nil=>rfl
 | cons n ns ih=>show (yR (ns.map fun n=>.sh (.int n))).map (n :: ·)=_;rw [ih];rfl
def KO (k:MK):MK:=fun S=>(k S).bind fun x=>match x.1 with
 | .ow avs=>(FH avs).map fun rs=>(.ow ((wN rs).map aI),x.2)
 | _=>none
section
variable {K:W.Frag}{Hf H:Hp}
def C4:AV->Option D
 | .sh d=>if d.scal=true then some d else none
 | _=>none
def cN (f:MF) (a:ML):ME:=fun S=>(a S).bind fun x=>(f x.1).bind fun r=>(C4 r).map fun d=>(d,x.2)
theorem cj {f:MF}{ta:TA}{a:ML}(ha:EB K ta a):SR K (yT (bj K f) [] E0 ta) (cN f a):=by
 intro H₀ Hf₀ Hf S σ H Fs d S' R e Q q;obtain ⟨x,e1,e⟩:=oBq.mp e;obtain ⟨r,e2,e⟩:=oBq.mp e;obtain ⟨z,e3,e⟩:=oMq.mp e;cases e;refine ha R (ds:=x.1) (S':=x.2) e1 _ fun Hf1 H1 Fs1 vs t1 R1 r1=>?_
 rw [aNq];refine ⟨H1,x.1,r,.refl _,r1,e2,fun Hf' H' v F s1 s2 s3 l rv nd fr=>?_⟩
 have t2:jW Hf1 H1 Fs1 Hf1 H' Fs1:=⟨.refl _,s2,fun _ h=>h,fun b h g=>absurd h g⟩
 cases r with
 | sh d' =>
  simp only [C4] at e3;split at e3
  .rename_i hs;cases e3;exact q _ _ _ v (t1.trans t2) (R1.laid s2) (rv.sh_inv.2.scal hs)
  .cases e3
 | _=>cases e3
end
end Z
namespace Z
open PySem L2 Mr
section
variable (S:AS)
@[simp] theorem Kj (i:Nat):ai i S=(S[i]?.join).map fun a=>(aB a,S):=rfl
@[simp] theorem yy (i:Nat):aL i S=(S[i]?.join).map fun a=>(.sh (aB a),S.set i (some (.sh (aB a)))):=rfl
@[simp] theorem JA (i:Nat):uo i S=(S[i]?.join).map fun a=>(a,S.set i none):=rfl
@[simp] theorem Ld (k:MK):rOf k S=(k S).map fun x=>(aB x.1,x.2):=rfl
@[simp] theorem Lv (m:ME):kSc m S=(m S).bind fun x=>if x.1.scal then some (.sh x.1,x.2) else none:=rfl
@[simp] theorem Ku (k:MK):gW k S=(k S).map fun x=>(.sh (aB x.1),x.2):=rfl
@[simp] theorem Na (d:D):rC d S=if d.scal then some (d,S) else none:=rfl
@[simp] theorem Lk (f:D->D->Option D) (a b:ME):aN f a b S=(a S).bind fun x=>(b x.2).bind fun y=>(f x.1 y.1).map fun d=>(d,y.2):=rfl
@[simp] theorem LK (f:D->Option D) (a:ME):Cj f a S=(a S).bind fun x=>(f x.1).map fun d=>(d,x.2):=rfl
@[simp] theorem J1 (a:ME):HE a S=(a S).bind fun x=>(A9 x.1).map fun d=>(d,x.2):=rfl
@[simp] theorem Ij (a b:MT):oZ a b S=(a S).bind fun x=>if x.1=true then b x.2 else some (false,x.2):=rfl
@[simp] theorem Jp (a b:MT):iX a b S=(a S).bind fun x=>if x.1=true then some (true,x.2) else b x.2:=rfl
@[simp] theorem Hz (a:MT):fh a S=(a S).map fun x=>(!x.1,x.2):=rfl
def Iy:D->Option Bool
 | .bl b=>some b
 | _=>none
@[simp] theorem LH (a:ME):eM a S=(a S).bind fun x=>(Iy x.1).map fun b=>(b,x.2):=by
 show (a S).bind _=_;congr 1;funext x;obtain ⟨d,S'⟩:=x;cases d <;> rfl
@[simp] theorem Jf (a b:ME):Cm a b S=(a S).bind fun x=>(Iy x.1).bind fun c=>if c=true then b x.2 else some (.bl false,x.2):=by
 show (a S).bind _=_;congr 1;funext x;obtain ⟨d,S'⟩:=x;cases d <;> try rfl
 rename_i c;cases c <;> rfl
@[simp] theorem Eh (b:Bool):Iy (.bl b)=some b:=rfl
@[simp] theorem JX:bF S=some ([],S):=rfl
@[simp] theorem GZ (k:MK) (r:MA):aC k r S=(k S).bind fun x=>(r x.2).map fun y=>(x.1::y.1,y.2):=rfl
@[simp] theorem Ht:aE S=some ([],S):=rfl
@[simp] theorem Fx (k:ME) (r:ML):aj k r S=(k S).bind fun x=>(r x.2).map fun y=>(x.1::y.1,y.2):=rfl
@[simp] theorem Ko (a:MA):gF a S=(a S).bind fun x=>jb (x.1.length<=eG) (some (.ow x.1,x.2)):=rfl
@[simp] theorem Kq (a:MA):sj a S=(a S).bind fun x=>jb (x.1.length<=eG) (some (.sh (.tup (x.1.map aB)),x.2)):=rfl
@[simp] theorem Ja (a b:ML):xw a b S=(a S).bind fun x=>(b x.2).bind fun y=>jb (x.1.length+y.1.length<=eG) (some (.ow ((x.1++y.1).map .sh),y.2)):=rfl
@[simp] theorem GF:rh S=some (none,S):=rfl
@[simp] theorem HI (m:ME):ny m S=(m S).bind fun x=>(intOf x.1).map fun i=>(some i,x.2):=by
 show (m S).bind _=_;congr 1;funext x;obtain ⟨d,S'⟩:=x;cases d <;> rfl
@[simp] theorem zN (i:Int):intOf (.int i)=some i:=rfl
@[simp] theorem K3 (l:ML) (lo hi:MO):FL l lo hi S=(l S).bind fun x=>(lo x.2).bind fun y=>(hi y.2).map fun z=>(.ow ((iS x.1 y.1 z.1).map .sh),z.2):=rfl
@[simp] theorem La (l:ML) (b:ME):Hh l b S=(l S).bind fun x=>(b x.2).bind fun y=>(intOf y.1).bind fun i=>(atI x.1 i).map fun d=>(.sh d,y.2):=by
 show (l S).bind _=_;congr 1;funext x;show (b x.2).bind _=_;congr 1;funext y;obtain ⟨d,S'⟩:=y;cases d <;> rfl
@[simp] theorem Lf (f:List D->Option D) (a:ML):iQ f a S=(a S).bind fun x=>(f x.1).map fun d=>(d,x.2):=rfl
@[simp] theorem Hv (f:MF) (a:MA):bV f a S=(a S).bind fun x=>(f (x.1.map aB)).map fun r=>(r,x.2):=rfl
@[simp] theorem Hk (f:MF) (a:ML):cN f a S=(a S).bind fun x=>(f x.1).bind fun r=>(C4 r).map fun d=>(d,x.2):=rfl
@[simp] theorem G5:cu S=some (.nx S):=rfl
@[simp] theorem Fd:xK S=none:=rfl
def zo (o:Option vd) (b:MS):Option vd:=o.bind fun o=>match o with
 | .nx S'=>b S'
 | o=>some o
@[simp] theorem vi (b:MS):zo (some (.nx S)) b=b S:=rfl
@[simp] theorem BE (a:AV) (b:MS):zo (some (.rt a)) b=some (.rt a):=rfl
@[simp] theorem Gg (a b:MS):aG a b S=zo (a S) b:=rfl
@[simp] theorem JT (i:Nat) (k:MK):bz i k S=(k S).map fun x=>.nx (x.2.set i (some x.1)):=rfl
@[simp] theorem JB (k:MK):cB k S=(k S).map fun x=>.rt x.1:=rfl
@[simp] theorem Lr (c:MT) (a b:MS):jR c a b S=(c S).bind fun x=>if x.1=true then a x.2 else b x.2:=rfl
@[simp] theorem Kl (i:Nat) (k:MK):rY i k S=(dk S i).bind fun _=>(k S).bind fun x=>(dk x.2 i).bind fun avs=>jb (avs.length<eG) (some (.nx (x.2.set i (some (.ow (avs++[x.1])))))):=rfl
@[simp] theorem Jd (i:Nat) (l:ML):Hg i l S=(dk S i).bind fun _=>(l S).bind fun x=>(dk x.2 i).bind fun avs=>jb (avs.length+x.1.length<=eG) (some (.nx (x.2.set i (some (.ow (avs++x.1.map .sh)))))):=rfl
@[simp] theorem J3 (i:Nat) (b:ME) (k:MK):IE i b k S=(gW k S).bind fun x=>(dk x.2 i).bind fun _=>(b x.2).bind fun y=>(dk y.2 i).bind fun avs=>(intOf y.1).bind fun j=>(uq avs.length j).map fun n =>
 .nx (y.2.set i (some (.ow (((avs.map aB).set n (aB x.1)).map .sh)))):=rfl
@[simp] theorem G8 (i:Nat) (b:ME) (k:MK):vq i b k S=(gW k S).bind fun x=>(jP x.2 i).bind fun _=>(b x.2).bind fun y=>(jP y.2 i).bind fun kvs=>(jT y.1).bind fun key =>
 jb (kvs.length<eG) (some (.nx (y.2.set i (some (.owd (oq kvs key (aB x.1))))))):=rfl
def oy:D->Option (List (bJ×D))
 | .dict kvs=>some kvs
 | _=>none
@[simp] theorem wG (kvs:List (bJ×D)):oy (.dict kvs)=some kvs:=rfl
@[simp] theorem Bb (i:Int):jT (.int i)=some (.inl i):=rfl
@[simp] theorem DN (a b:ME):mQ a b S=(a S).bind fun x=>(b x.2).bind fun y=>(oy y.1).bind fun kvs=>(jT x.1).map fun key=>(.bl (!(getD kvs key).isSome),y.2):=by
 show (a S).bind _=_;congr 1;funext x;show (b x.2).bind _=_;congr 1;funext y;obtain ⟨d,S'⟩:=y;cases d <;> rfl
@[simp] theorem HS (a b:ME):qU a b S=(a S).bind fun x=>(b x.2).bind fun y=>(oy x.1).bind fun kvs=>(jT y.1).bind fun key=>(getD kvs key).map fun d=>(d,y.2):=by
 show (a S).bind _=_;congr 1;funext x;show (b x.2).bind _=_;congr 1;funext y;obtain ⟨d,S'⟩:=x;cases d <;> rfl
@[simp] theorem G4:vz S=some (.owd [],S):=rfl
@[simp] theorem Kr (x:Nat) (k:MK) (body:MS):rJ x k body S=(gW k S).bind fun y=>(eW (aB y.1)).bind fun ds=>dX x body ds y.2:=rfl
@[simp] theorem D7 (x:Nat) (a:ML) (body:MS):kr x a body S=(a S).bind fun y=>(oz y.1).bind fun ds=>dX x body ds y.2:=rfl
@[simp] theorem Gz (x y:Nat) (k:MK) (body:MS):oR x y k body S=(gW k S).bind fun z=>(eW (aB z.1)).bind fun ds=>mq x y body 0 ds z.2:=rfl
@[simp] theorem GQ (src:MI) (fr:List Nat) (tf:MT) (te:MK):lS src fr tf te S=(src S).bind fun y=>(fzAll fr y.2).bind fun S2=>(ox S2 fr).bind fun cap=>jb (y.1.length<=eG) ((fb tf te cap y.1).map fun avs=>(.ow avs,S2)):=rfl
@[simp] theorem Kd (k:MK):AK k S=(gW k S).bind fun y=>(eW (aB y.1)).map fun ds=>(ds,y.2):=rfl
@[simp] theorem LC (a:ML):IW a S=(a S).bind fun y=>(oz y.1).map fun ds=>(ds,y.2):=rfl
@[simp] theorem AO:fzAll [] S=some S:=rfl
@[simp] theorem ym (j:Nat) (js:List Nat):fzAll (j::js) S=(S[j]?.join).bind fun a=>fzAll js (S.set j (some (.sh (aB a)))):=rfl
@[simp] theorem Dg:ox S []=some []:=rfl
@[simp] theorem AZ (j:Nat) (js:List Nat):ox S (j::js)=(Ig S[j]?.join).bind fun a=>(ox S js).map (some a :: ·):=rfl
@[simp] theorem GO (l:ML):yz l S=(l S).map fun x=>(.ow (x.1.map .sh),x.2):=rfl
@[simp] theorem Fy (l:ML):xC l S=(l S).bind fun x=>(kA x.1).map fun rs=>(.ow ((wN rs).map fun r=>.sh (dI r)),x.2):=rfl
def Ks:AV->Option (List AV)
 | .ow avs=>some avs
 | _=>none
@[simp] theorem D5 (avs:List AV):Ks (.ow avs)=some avs:=rfl
@[simp] theorem Lb (T:String) (f:D->List D->Option D) (a:ME) (as:ML):KM T f a as S=(a S).bind fun x=>if JP T x.1=true then (as x.2).bind fun y=>(f x.1 y.1).map fun d=>(d,y.2) else none:=rfl
def Mv:D->Option (List D)
 | .list ds=>some ds
 | _=>none
@[simp] theorem Jz (a:ME):AF a S=(a S).bind fun x=>(rH x.1).map fun b=>(b,x.2):=rfl
def Jh:AV->Option (List D)
 | .sh (.list ds)=>some ds
 | .ow avs=>some (avs.map aB)
 | _=>none
@[simp] theorem Ih (ds:List D):Jh (.sh (.list ds))=some ds:=rfl
@[simp] theorem Gk (avs:List AV):Jh (.ow avs)=some (avs.map aB):=rfl
@[simp] theorem Lw (k:MK):lOf k S=(k S).bind fun x=>(Jh x.1).map fun ds=>(ds,x.2):=by
 show (k S).bind _=_;congr 1;funext x;obtain ⟨a,S'⟩:=x;cases a with
 | sh d=>cases d <;> rfl
 | _=>rfl
end
def KD:AV->AV
 | .ow avs=>.ow ((avs.map aB).map .sh)
 | a=>a
@[simp] theorem GA (d:D):KD (.sh d) = .sh d:=rfl
@[simp] theorem HD (avs:List AV):KD (.ow avs) = .ow ((avs.map aB).map .sh):=rfl
theorem rM {S:AS}{i:Nat}{a:AV}(h:S[i]?=some (some a)):S.set i (some a)=S:=by
 obtain ⟨hk,ev⟩:=gSq.mp h;rw [← ev];exact List.set_getElem_self hk
@[simp] theorem Kw (S:AS) (i:Nat):rW i S=(S[i]?.join).bind fun a=>(Jh a).map fun ds=>(ds,S.set i (some (KD a))):=by
 unfold rW;cases e:S[i]?.join with
 | none=>rfl
 | some a =>
  cases a with
  | sh d =>
   cases d with
   | list ds =>
    show some (ds,S)=some (ds,S.set i (some (.sh (.list ds))));rw [rM (bH e)]
   | _=>rfl
  | ow avs=>rfl
  | owd kvs=>rfl
  | owl kvs=>rfl
def KU:AV->Option (List D)
 | .sh (.scr ns)=>some (ns.map .int)
 | a=>Jh a
@[simp] theorem Ey (ns:List Int):KU (.sh (.scr ns))=some (ns.map .int):=rfl
@[simp] theorem HQ (ds:List D):KU (.sh (.list ds))=some ds:=rfl
@[simp] theorem Hd (avs:List AV):KU (.ow avs)=some (avs.map aB):=rfl
@[simp] theorem Jn (S:AS) (i:Nat):ji i S=(S[i]?.join).bind fun a=>(KU a).map fun ds=>(ds,S.set i (some (KD a))):=by
 unfold ji;cases e:S[i]?.join with
 | none=>rfl
 | some a =>
  cases a with
  | sh d =>
   cases d with
   | list ds =>
    show some (ds,S)=some (ds,S.set i (some (.sh (.list ds))));rw [rM (bH e)]
   | scr ns =>
    show some (ns.map D.int,S)=some (ns.map D.int,S.set i (some (.sh (.scr ns))));rw [rM (bH e)]
   | _=>rfl
  | ow avs=>rfl
  | owd kvs=>rfl
  | owl kvs=>rfl
@[simp] theorem Cg (i:Int):(D.int i).scal=true:=rfl
@[simp] theorem Ew (i:Bool):(D.bl i).scal=true:=rfl
@[simp] theorem CM (i:Str):(D.str i).scal=true:=rfl
@[simp] theorem Dn:D.non.scal=true:=rfl
@[simp] theorem D8 (i:String):(D.ty i).scal=true:=rfl
@[simp] theorem DF (i:Int):C4 (.sh (.int i))=some (.int i):=rfl
@[simp] theorem Fq (i:Bool):C4 (.sh (.bl i))=some (.bl i):=rfl
@[simp] theorem D1 (i j:Int):tG (.int i) (.int j)=some (.bl (decide (i=j))):=rfl
@[simp] theorem EA (b:Bool):A9 (.bl b)=some (.bl (!b)):=rfl
@[simp] theorem kX (i j:Int):pP (.int i) (.int j)=some (.bl (!decide (i=j))):=rfl
@[simp] theorem Az (ds:List D):fe [.list ds]=some (.int ds.length):=rfl
@[simp] theorem Bs (ns:List Int):fe [.scr ns]=some (.int ns.length):=rfl
@[simp] theorem Dt (ds:List D):fe [.tup ds]=some (.int ds.length):=rfl
@[simp] theorem oh (i j:Int):nP [.int i,.int j]=some (.int (if j<i then j else i)):=rfl
@[simp] theorem Aq (ds:List D):mC [.list ds,.ty "list"]=some (.bl true):=by simp [mC,K5]
@[simp] theorem uv (ds:List D):eW (.list ds)=some ds:=rfl
@[simp] theorem CT (ds:List D) (i:Int):sQ (.list ds) (.int i)=atI ds i:=rfl
@[simp] theorem EH (ns:List Int) (i:Int):sQ (.scr ns) (.int i)=(atI ns i).map .int:=rfl
@[simp] theorem EO (d:D):Ig (some (.sh d))=some (.sh d):=rfl
@[simp] theorem Dm (ds:List D):JP "list" (.list ds)=true:=rfl
theorem zC (S:AS) (i:Nat):dk S i=(S[i]?.join).bind Ks:=by
 unfold dk;cases S[i]?.join with
 | none=>rfl
 | some a=>cases a <;> rfl
def Br:AV->Option (List (bJ×D))
 | .owd kvs=>some kvs
 | _=>none
@[simp] theorem zM (kvs:List (bJ×D)):Br (.owd kvs)=some kvs:=rfl
theorem CQ (S:AS) (i:Nat):jP S i=(S[i]?.join).bind Br:=by
 unfold jP;cases S[i]?.join with
 | none=>rfl
 | some a=>cases a <;> rfl
end Z
namespace Z
open PySem L2 Mr
theorem vt {x:Nat}{body:MS}(P:Nat->AS->Prop):∀ {ds:List D}{S:AS}{k:Nat},P k S->(∀ i d S,ds[i]?=some d->P (k+i) S->∃ S',(body (S.set x (some (.sh d)))=some (.nx S')∨body (S.set x (some (.sh d)))=some (.ct S'))/\P (k+i+1) S')->∃ S',dX x body ds S=some (.nx S')/\P (k+ds.length) S'
 | [],S,k,h0,_=>⟨S,rfl,h0⟩
 | d::ds,S,k,h0,hs=>by
  obtain ⟨S',e,h1⟩:=hs 0 d S rfl h0;have hs':∀ i d S,ds[i]?=some d->P (k+1+i) S->∃ S',(body (S.set x (some (.sh d)))=some (.nx S')∨body (S.set x (some (.sh d)))=some (.ct S'))/\P (k+1+i+1) S':=fun i d S h p=>by
   have:=hs (i+1) d S (by simpa using h) (by rw [show k+(i+1)=k+1+i by lia];exact p)
   rw [show k+(i+1)=k+1+i by lia] at this
   exact this
  obtain ⟨S2,e2,h2⟩:=vt P (k:=k+1) h1 hs';refine ⟨S2,?_,by rw [lCq,show k+(ds.length+1)=k+1+ds.length by lia];exact h2⟩
  show (body _).bind _=_;rcases e with e|e <;> (rw [e];exact e2)
theorem jM {x:Nat}{body:MS}(P:Nat->AS->Prop) {ds:List D}{S:AS}(h0:P 0 S) (hs:∀ i d S,ds[i]?=some d->P i S->∃ S',body (S.set x (some (.sh d)))=some (.nx S')/\P (i+1) S'):∃ S',dX x body ds S=some (.nx S')/\P ds.length S':=by
 have:=vt (x:=x) (body:=body) P (ds:=ds) (k:=0) h0 fun i d S h p=>by
  rw [Nat.zero_add] at p ⊢;obtain ⟨S',e,q⟩:=hs i d S h p;exact ⟨S',.inl e,q⟩
 rw [Nat.zero_add] at this;exact this
theorem tx {x y:Nat}{body:MS}(P:Nat->AS->Prop):∀ {ds:List D}{S:AS}{k:Nat},P k S->(∀ i d S,ds[i]?=some d->P (k+i) S->∃ S',body ((S.set x (some (.sh (.int (k+i:Nat))))).set y (some (.sh d)))=some (.nx S')/\P (k+i+1) S')->∃ S',mq x y body k ds S=some (.nx S')/\P (k+ds.length) S'
 | [],S,k,h0,_=>⟨S,rfl,h0⟩
 | d::ds,S,k,h0,hs=>by
  obtain ⟨S',e,h1⟩:=hs 0 d S rfl h0;have hs':∀ i d S,ds[i]?=some d->P (k+1+i) S->∃ S',body ((S.set x (some (.sh (.int (k+1+i:Nat))))).set y (some (.sh d)))=some (.nx S')/\P (k+1+i+1) S':=fun i d S h p=>by
   have:=hs (i+1) d S (by simpa using h) (by rw [show k+(i+1)=k+1+i by lia];exact p)
   rw [show k+(i+1)=k+1+i by lia] at this
   exact this
  obtain ⟨S2,e2,h2⟩:=tx P (k:=k+1) h1 hs';refine ⟨S2,?_,by rw [lCq,show k+(ds.length+1)=k+1+ds.length by lia];exact h2⟩
  show (body ((S.set x (some (.sh (.int (k:Nat))))).set y (some (.sh d)))).bind _=_;rw [Nat.add_zero] at e;rw [e];exact e2
theorem ng {te:MK}{cap:AS}(g:D->AV):∀ {ds:List D},(∀ d∈ds,∃ S',te (some (.sh d)::cap)=some (g d,S'))->fb iR te cap ds=some (ds.map g)
 | [],_=>rfl
 | d::ds,h=>by
  obtain ⟨S',e⟩:=h d (by simp)
  show (te (some (.sh d)::cap)).bind (fun a=>(fb iR te cap ds).map (a.1 :: ·))=_
  rw [e,ng g fun x hx=>h x (mCo _ hx)]
  rfl
theorem iy {tf:MT}{te:MK}{cap:AS}(p:D->Bool) (g:D->AV):∀ {ds:List D},(∀ d∈ds,∃ S1,tf (some (.sh d)::cap)=some (p d,S1)/\(p d=true->∃ S',te S1=some (g d,S')))->fb tf te cap ds=some ((ds.filter p).map g)
 | [],_=>rfl
 | d::ds,h=>by
  obtain ⟨S1,e1,e2⟩:=h d (by simp)
  have ih:=iy (tf:=tf) (te:=te) (cap:=cap) p g fun x hx=>h x (mCo _ hx)
  show (tf (some (.sh d)::cap)).bind _=_;rw [e1];show (if p d=true then _ else _)=_
  by_cases c:p d=true
  .obtain ⟨S',e3⟩:=e2 c;rw [if_pos c,e3,List.filter_cons_of_pos c];show (fb tf te cap ds).map _=_;rw [ih];rfl
  .rw [if_neg c,List.filter_cons_of_neg c,ih]
theorem qF {α β:Type}(f:α->β) (xs:List α) (lo hi:Option Int):iS (xs.map f) lo hi=(iS xs lo hi).map f:=by
 unfold iS;rw [lMq,List.map_take,List.map_drop]
theorem Ab {α:Type}(xs:List α) (i:Nat) (h:i<=xs.length):iS xs (some (i:Int)) none=xs.drop i:=by
 unfold iS;rw [HT.kY,HT.nt,Nat.min_eq_left h,List.take_of_length_le (by rw [List.length_drop];exact Nat.le_refl _)]
theorem yW {α:Type}(xs:List α) (i:Nat) (h:i<=xs.length):iS xs none (some (i:Int))=xs.take i:=by
 unfold iS;rw [HT.kY,HT.nt,Nat.min_eq_left h,List.drop_zero,Nat.sub_zero]
theorem C6 {α:Type}(xs:List α) (i j:Nat):iS xs (some (i:Int)) (some (j:Int))=(xs.drop i).take (j-i):=by
 unfold iS;rw [HT.kY,HT.kY]
 by_cases h:i<=xs.length
 .rw [Nat.min_eq_left h]
  by_cases h2:j<=xs.length
  .rw [Nat.min_eq_left h2]
  .rw [Nat.min_eq_right (by lia),List.take_of_length_le (by rw [List.length_drop];exact Nat.le_refl _),List.take_of_length_le (by rw [List.length_drop];lia)]
 .have e:min i xs.length=xs.length:=Nat.min_eq_right (by lia)
  rw [e,List.drop_of_length_le (Nat.le_refl xs.length),List.drop_of_length_le (show xs.length<=i by lia)]
  simp
theorem E1 {α:Type}{xs:List α}{i:Int}(h0:0<=i):atI xs i=xs[i.toNat]?:=by
 unfold atI uq;rw [if_pos h0]
 by_cases h:i<xs.length
 .rw [if_pos h];rfl
 .rw [if_neg h,List.getElem?_eq_none (by lia)]
  rfl
theorem yS {n:Nat}{i:Nat}(h:i<n):uq n (i:Int)=some i:=by
 unfold uq;rw [if_pos (by lia),if_pos (by lia)]
 simp
theorem yQ (ns:List Int):(ns.map D.int).map AV.sh=ns.map fun n=>AV.sh (.int n):=by rw [mPq];rfl
theorem yE (ns:List Int):(ns.map fun n=>AV.sh (.int n)).map aB=ns.map D.int:=by rw [mPq];exact mCq fun n _=>by simp
theorem Ep (rs:List (List Int)):(rs.map dI).map AV.sh=rs.map fun r=>AV.sh (dI r):=by rw [mPq];rfl
theorem D4 (rs:List (List Int)):(rs.map fun r=>AV.sh (dI r)).map aB=rs.map dI:=by rw [mPq];exact mCq fun n _=>by simp
theorem cv (ns:List Int):aB (aI ns)=dI ns:=by
 show aB (.ow (ns.map fun n=>AV.sh (.int n)))=_
 rw [kQ,yE]
theorem EM (i j:Int):fP (.int i) (.int j)=some (.int (i+j)):=gT _
theorem ET (i j:Int):si (.int i) (.int j)=some (.int (i-j)):=gT _
theorem HY (i j:Int):BP (.int i) (.int j)=some (.bl (decide (i<j))):=gT _
theorem GD (i j:Int):Jq (.int i) (.int j)=some (.bl (decide (i<=j))):=gT _
theorem GY (i j:Int):G0 (.int i) (.int j)=some (.bl (decide (j<i))):=gT _
theorem GU (i:Int):sD (.int i)=some (.int (-i)):=rfl
theorem MW:vY (.int 10) (.int 60)=some (.int (10 ^ 60)):=dW ⟨by decide,by decide,by decide⟩ _
theorem Mq:vY (.int 10) (.int 59)=some (.int (10 ^ 59)):=dW ⟨by decide,by decide,by decide⟩ _
theorem L0:vY (.int 10) (.int 57)=some (.int (10 ^ 57)):=dW ⟨by decide,by decide,by decide⟩ _
theorem JR {i j:Int}(h1:-(2 ^ 64)<i) (h2:i<2 ^ 64):nT (.int i) (.int j)=some (.int (i*j)):=dW (.inl ⟨h1,h2⟩) _
theorem Dw {i j:Int}(h1:-(2 ^ 64)<j) (h2:j<2 ^ 64):nT (.int i) (.int j)=some (.int (i*j)):=dW (.inr ⟨h1,h2⟩) _
theorem dS {i j:Int}(h:0<j):eU (.int i) (.int j)=some (.int (i % j)):=dW h _
theorem mJ {i j:Int}(h:0<j) (h2:j<1073741824):kc (.int i) (.int j)=some (.int (i / j)):=dW ⟨h,h2⟩ _
theorem Ji:(0:Nat)<=eG:=by decide
theorem JI:(1:Nat)<=eG:=by decide
theorem JO:(2:Nat)<=eG:=by decide
theorem J7:(3:Nat)<=eG:=by decide
theorem fE {n:Nat}(h:n<=16777216):n<=eG:=h
theorem GB {n:Nat}(h:n<16777216):n<eG:=h
theorem gG {n:Nat}(h:n<1000000):oz [.int (n:Int)]=some (bA 0 n):=by
 have e:oz [.int (n:Int)]=some (bA 0 (n:Int).toNat):=dW ⟨by lia,by lia⟩ _
 rw [e,Int.toNat_natCast]
theorem pB (n:Nat):bA 0 n=(List.range n).map fun i:Nat=>D.int i:=by
 unfold bA;exact mCq fun i _=>by rw [Int.zero_add]
theorem JV (np n:Nat) (m:MS) (ds:List D):fA np n m ds=if ds.length=np then (m (ds.map (fun d=>some (.sh d))++List.replicate (n-ds.length) none)).bind fun o=>match o with
  | .rt a=>some a
  | .nx _=>some (.sh .non)
  | _=>none
 else none:=rfl
theorem MR {α:Type}{a b:α}{l:List α}:(a::b::l)[1]?=some b:=rfl
theorem HP {α:Type}{a b v:α}{l:List α}:(a::b::l).set 1 v=a::v::l:=rfl
theorem MQ {α:Type}{a b c:α}{l:List α}:(a::b::c::l)[2]?=some c:=rfl
theorem mI {α:Type}{a b c v:α}{l:List α}:(a::b::c::l).set 2 v=a::b::v::l:=rfl
theorem M9 {α:Type}{a b c d:α}{l:List α}:(a::b::c::d::l)[3]?=some d:=rfl
theorem KW {α:Type}{a b c d v:α}{l:List α}:(a::b::c::d::l).set 3 v=a::b::c::v::l:=rfl
theorem MY {α:Type}{a b c d:α}{l:List α}{n:Nat}:(a::b::c::d::l)[n+4]?=l[n]?:=rfl
theorem Gu {α:Type}{a b c d v:α}{l:List α}{n:Nat}:(a::b::c::d::l).set (n+4) v=a::b::c::d::l.set n v:=rfl
def zq:=And.intro @Z.gT (And.intro @Z.Ji (And.intro @Z.JI (And.intro @Z.JO (And.intro @Z.J7 (And.intro @Z.Kj (And.intro @Z.yy (And.intro @Z.JA (And.intro @Z.Ld (And.intro @Z.Lv (And.intro @Z.Ku (And.intro @Z.Na (And.intro @Z.Lk (And.intro @Z.LK (And.intro @Z.J1 (And.intro @Z.Ij (And.intro @Z.Jp (And.intro @Z.Hz (And.intro @Z.LH (And.intro @Z.Jf (And.intro @Z.Eh (And.intro @Z.JX (And.intro @Z.GZ (And.intro @Z.Ht (And.intro @Z.Fx (And.intro @Z.Ko (And.intro @Z.Kq (And.intro @Z.Ja (And.intro @Z.GF (And.intro @Z.HI (And.intro @Z.zN (And.intro @Z.K3 (And.intro @Z.La (And.intro @Z.Lf (And.intro @Z.Hv (And.intro @Z.Hk (And.intro @Z.G5 (And.intro @Z.Fd (And.intro @Z.vi (And.intro @Z.BE (And.intro @Z.Gg (And.intro @Z.JT (And.intro @Z.JB (And.intro @Z.Lr (And.intro @Z.Kl (And.intro @Z.Jd (And.intro @Z.J3 (And.intro @Z.G8 (And.intro @Z.wG (And.intro @Z.Bb (And.intro @Z.DN (And.intro @Z.HS (And.intro @Z.G4 (And.intro @Z.Kr (And.intro @Z.D7 (And.intro @Z.Gz (And.intro @Z.GQ (And.intro @Z.Kd (And.intro @Z.LC (And.intro @Z.AO (And.intro @Z.ym (And.intro @Z.Dg (And.intro @Z.AZ (And.intro @Z.GO (And.intro @Z.Fy (And.intro @Z.D5 (And.intro @Z.Lb (And.intro @Z.Jz (And.intro @Z.Ih (And.intro @Z.Gk (And.intro @Z.Lw (And.intro @Z.GA (And.intro @Z.HD (And.intro @Z.Kw (And.intro @Z.Ey (And.intro @Z.HQ (And.intro @Z.Hd (And.intro @Z.Jn (And.intro @Z.Cg (And.intro @Z.Ew (And.intro @Z.CM (And.intro @Z.Dn (And.intro @Z.D8 (And.intro @Z.DF (And.intro @Z.Fq (And.intro @Z.EM (And.intro @Z.ET (And.intro @Z.HY (And.intro @Z.GD (And.intro @Z.GY (And.intro @Z.GU (And.intro @Z.L0 (And.intro @Z.Mq (And.intro @Z.MW (And.intro @Z.yQ (And.intro @Z.yE (And.intro @Z.Ep (And.intro @Z.D4 (And.intro @Z.D1 (And.intro @Z.EA (And.intro @Z.kX (And.intro @Z.Az (And.intro @Z.Bs (And.intro @Z.Dt (And.intro @Z.Aq (And.intro @Z.uv (And.intro @Z.CT (And.intro @Z.EH (And.intro @Z.EO (And.intro @Z.Dm (And.intro @Z.zC (And.intro @Z.CQ (And.intro @Z.zM (And.intro @Z.bK (And.intro @Z.kQ (And.intro @Z.kW (And.intro @Z.JV (And.intro @Z.Hb (And.intro @Z.fY (And.intro @Z.yi (And.intro @List.getElem?_cons_zero.{0} (And.intro @Z.MR (And.intro @Z.MQ (And.intro @Z.M9 (And.intro @Z.MY (And.intro @List.set_cons_zero.{0} (And.intro @Z.HP (And.intro @Z.mI (And.intro @Z.KW (And.intro @Z.Gu (And.intro @Option.join_some.{0} (And.intro @Option.map_some.{0, 0} (And.intro @Option.bind_some.{0, 0} (And.intro @List.length_cons.{0} (And.intro @List.length_nil.{0} (And.intro @List.map_cons.{0, 0} (And.intro @List.map_nil.{0, 0} (And.intro @List.nil_append.{0} (And.intro @List.cons_append.{0} (And.intro @List.length_map.{0, 0} (And.intro @Bool.not_true (And.intro @Bool.not_false (And.intro @Bool.false_eq_true (And.intro @decide_true (And.intro @decide_false (And.intro @Nat.zero_add (And.intro @List.replicate_zero.{0} @List.append_nil.{0}))))))))))))))))))))))))))))))))))))))))))))))))))))))))))))))))))))))))))))))))))))))))))))))))))))))))))))))))))))))))))))))))))))))))))))))))))
theorem FA {K:W.Frag}{f:MF}(h:∀ ns:List Int,ns.length<=63->f [.scr ns]=some (.sh (.bl true))):∀ vs H Q E,yJ K vs H Q E->bj K f vs H Q E:=by
 rintro vs H Q E ⟨a,ns,rfl,hS,hl,q⟩;refine ⟨H,[.scr ns],_,.refl _,.cons (.scr hS) .nil,h ns hl,fun Hf' H' v F _ _ _ _ r _ _=>?_⟩
 cases r.sh_inv.2;exact q H'
end Z
namespace Mr
open PySem PySem.Spec PyProof.Rows L2
section
variable {X:Cx}{tg:Expr}
def su {α:Type}(P:α->Prop):List α->Prop
 | []=>True
 | a::l=>P a/\su P l
theorem su.mem {α:Type}{P:α->Prop}:∀ {l:List α},su P l->∀ a∈l,P a
 | [],_,a,h=>by cases h
 | b::l,hp,a,h=>(List.mem_cons.mp h).elim (fun e=>e ▸ hp.1) (su.mem hp.2 a)
theorem iD.of {scope:Scope}{cl:List (Str×Addr)}{x:Str}{N:List Str}{fr:List Nat}(h1:N.Nodup) (h2:N[0]?=some x) (h3:N.length=fr.length+1)
  (h4:su (fun p=>X.env.cells.lookup p.1=some p.2) cl) (h5:su (fun p=>(p.2 = .cell∨p.2 = .free)->∃ c,cl.lookup p.1=some c) (relabel scope X.env).names)
  (h6:su (fun p=>X.N[p.1]?=some p.2/\X.env.scope.names.lookup p.2=some .cell/\(relabel scope X.env).names.lookup p.2=some .cell) (fr.zip (N.drop 1))):iD X scope cl x N fr where
 names:=h1
 own:=h2
 len:=h3
 sub:=fun y c e=>h4.mem (y,c) (PySem.mem_of_lookup e)
 has:=fun y e=>by
  rcases e with e|e
  .exact h5.mem _ (PySem.mem_of_lookup e) (.inl rfl)
  .exact h5.mem _ (PySem.mem_of_lookup e) (.inr rfl)
 get:=fun k j y e1 e2=>by
  have hm:(j,y)∈fr.zip (N.drop 1):=by
   refine mGq (i:=k) ?_;rw [List.getElem?_zip_eq_some];exact ⟨e1,by rw [List.getElem?_drop,Nat.add_comm];exact e2⟩
  exact h6.mem _ hm
end
end Mr
namespace Z
open PySem L2 Mr
end Z
namespace Mr
open PySem PySem.W PySem.Spec PyProof.Rows L2
structure rq (X:Cx) (scope:Scope) (cl:List (Str×Addr)) (x x2:Str) (N:List Str) (fr:List Nat):Prop where
 names:N.Nodup
 own:N[0]?=some x
 own2:N[1]?=some x2
 len:N.length=fr.length+2
 sub:∀ y c,cl.lookup y=some c->X.env.cells.lookup y=some c
 has:∀ y,((relabel scope X.env).names.lookup y=some .cell∨(relabel scope X.env).names.lookup y=some .free)->∃ c,cl.lookup y=some c
 get:∀ (k j:Nat) (y:Str),fr[k]?=some j->N[k+2]?=some y->X.N[j]?=some y/\X.env.scope.names.lookup y=some .cell/\(relabel scope X.env).names.lookup y=some .cell
theorem rq.of {X:Cx}{scope:Scope}{cl:List (Str×Addr)}{x x2:Str}{N:List Str}{fr:List Nat}(h1:N.Nodup) (h2:N[0]?=some x) (h2':N[1]?=some x2) (h3:N.length=fr.length+2)
  (h4:su (fun p=>X.env.cells.lookup p.1=some p.2) cl) (h5:su (fun p=>(p.2 = .cell∨p.2 = .free)->∃ c,cl.lookup p.1=some c) (relabel scope X.env).names)
  (h6:su (fun p=>X.N[p.1]?=some p.2/\X.env.scope.names.lookup p.2=some .cell/\(relabel scope X.env).names.lookup p.2=some .cell) (fr.zip (N.drop 2))):rq X scope cl x x2 N fr where
 names:=h1
 own:=h2
 own2:=h2'
 len:=h3
 sub:=fun y c e=>h4.mem (y,c) (PySem.mem_of_lookup e)
 has:=fun y e=>by
  rcases e with e|e
  .exact h5.mem _ (PySem.mem_of_lookup e) (.inl rfl)
  .exact h5.mem _ (PySem.mem_of_lookup e) (.inr rfl)
 get:=fun k j y e1 e2=>by
  have hm:(j,y)∈fr.zip (N.drop 2):=by
   refine mGq (i:=k) ?_;rw [List.getElem?_zip_eq_some];exact ⟨e1,by rw [List.getElem?_drop,Nat.add_comm];exact e2⟩
  exact h6.mem _ hm
abbrev g2 (K:W.Frag):TG:=EJ K 2 (qP (gQ 0) (qP (gQ 1) Ed))
def BV (K:W.Frag) (wi:TI) (fr:List Nat) (tf:TT) (te:TE):TE:=fun σ H Q=>wi σ H fun J H1=>∀ acc,H1 acc=none->∃ W:Nat->Nat->Hp->Prop,(∃ m,W 0 m (cK H1 acc (.lst [])))/\∀ i m H,W i m H ->
 (J.stop i H/\Q (.ref acc) H) ∨
 (J.go i H/\∃ N:Hp->Prop,(∀ H',N H'->∃ m',m'<m/\W (i+1) m' H')/\∀ x H',J.yld i H x H'->∀ v0 v1,g2 K x (v0::v1::slots σ fr) H' fun σ2 H1=>(∃ a b,σ2=a::b::slots σ fr)/\tf σ2 H1 fun b H2 =>
  if b=true then te σ2 H2 fun y H3=>∃ ys,H3 acc=some (.lst ys)/\ys.length<sizeLine/\N (cK H3 acc (.lst (ys++[y]))) else N H2)
section
variable {X:Cx}{scope:Scope}{cl:List (Str×Addr)}{N:List Str}{fr:List Nat}{x x2:Str}{px px2 pos tp:Pos}{tk:Nat}{elt iter:Expr}{ifs:List Expr}{tf:TT}{te:TE}
theorem vX {ab:List (Addr×Obj)}{σ:St}{H:Hp}{s:Shared}{E:Value->Shared->Prop}{J:It}{fp:List Addr}{it:Addr}{tn:Nat->Heap->Prop}{RR:Value->Addr->Result->Shared->Prop}{Q:VK}
  (hc:X.calm=true) (hcell:∀ y∈scope.names,y.2 ≠ .cell) (hkind:scope.kind = .function) (hx:scope.names.lookup x=some .local) (hy:scope.names.lookup x2=some .local) (hF:rq X scope cl x x2 N fr)
  (hf:∀ C s H fp,PF (bU X scope cl N C s H fp) ifs tf) (he:∀ C s H fp,PE (bU X scope cl N C s H fp) elt te)
  (I:aO X ab σ H s) (T:Am X.prog X.w X.K (.Tuple [.Name x px,.Name x2 px2] tk tp) J fp it tn) (st:tn 0 s.heap) (fpo:∀ b∈fp,mU X ab H b)
  (h:∀ acc,H acc=none->∃ W:Nat->Nat->Hp->Prop,(∃ m,W 0 m (cK H acc (.lst [])))/\∀ i m H,W i m H ->
   (J.stop i H/\Q (.ref acc) H) ∨
   (J.go i H/\∃ N:Hp->Prop,(∀ H',N H'->∃ m',m'<m/\W (i+1) m' H')/\∀ x H',J.yld i H x H'->∀ v0 v1,g2 X.K x (v0::v1::slots σ fr) H' fun σ2 H1=>(∃ a b,σ2=a::b::slots σ fr)/\tf σ2 H1 fun b H2 =>
    if b=true then te σ2 H2 fun y H3=>∃ ys,H3 acc=some (.lst ys)/\ys.length<sizeLine/\N (cK H3 acc (.lst (ys++[y]))) else N H2))
  (fin:∀ acc C s' Hf m,aO X ab σ Hf s'->s'.heap.Ns C m->mU X ab Hf C->Q (.ref acc) Hf->RR (.ref acc) C (.ok .next) s') :
  wpAny (model X.prog X.w) X.A (newList []) (fun acc s₃=>wpAny (model X.prog X.w) X.A (newFunctionEnv scope X.env.globals cl [] X.env.qual none .none (some X.env)) (fun cenv s₄ =>
   codeAny (model X.prog X.w) X.A (.compStart (.ListComp elt [⟨.Tuple [.Name x px,.Name x2 px2] tk tp,iter,ifs,0⟩] scope pos) 0 (.ref it) acc { cenv with scope:=relabel scope X.env }) (RR acc cenv.locals) s₄) E s₃) E s:=by
 refine wpAny_newObj_type (wpAny_newFunctionEnv hcell (by intro y hy;simp at hy) (fun h₁ hns₁ hsb₁=>?_) hkind)
 dsimp only at hns₁ hsb₁ ⊢;generalize hG:s.heap.push { cls:=.type "list", dict:=none,data:=.seq ([]:List Value).toArray }=G at hns₁ hsb₁ ⊢;have hC:G.objs.size=s.heap.objs.size+1:=by rw [← hG,Heap.size_push]
 have hCle:s.heap.objs.size<=G.objs.size:=by rw [hC];exact Nat.le_succ _
 have hDC:s.heap.objs.size≠G.objs.size:=by rw [hC];exact Nat.ne_of_lt (Nat.lt_succ_self _)
 have below:∀ b,b<s.heap.objs.size->b≠G.objs.size:=fun b hb=>by rw [hC];exact Nat.ne_of_lt (Nat.lt_succ_of_lt hb)
 have old:∀ b o,s.heap.get? b=some o->h₁.get? b=some o:=fun b o e=>hsb₁.extBut b o (below b (Heap.lt_size e)) (Heap.get?_push_of_some _ (hG ▸ Heap.get?_push_of_some _ e))
 have hacc:h₁.get? s.heap.objs.size=some { cls:=.type "list", data:=.seq ([]:List Value).toArray }:=hsb₁.extBut _ _ hDC (Heap.get?_push_of_some _ (hG ▸ Heap.get?_push_size _ rfl));have hn:H s.heap.objs.size=none:=I.hok.fresh (Nat.le_refl _);have hnC:H G.objs.size=none:=I.hok.fresh hCle;have fpl:∀ b∈fp,b<s.heap.objs.size:=fun b hb=>by
  obtain ⟨o,q,_⟩:=T.obj 0 _ st b hb;exact Heap.lt_size q
 obtain ⟨W,⟨m0,w0⟩,turn⟩:=h _ hn;have ok':(bU X scope cl N G.objs.size s H fp).Ok:=by
  refine ⟨I.ok.mod,by show (relabel scope X.env).kind = .function;exact hkind,I.ok.glob,I.ok.blt,hCle,fun y z c h1 h2=>I.ok.inj y z c (hF.sub y c h1) (hF.sub z c h2),hF.has,fun _ _ z _=>(by cases z),I.ok.hd,I.ok.frames,.inl rfl,
   fun b hb=>⟨below b (fpl b hb),fun y c e=>(fpo b hb).2.2.2.2.1 y c (hF.sub y c e)⟩,fun b o e=>⟨(I.bs b o e).1,(I.bs b o e).2⟩,Nat.le_trans I.ok.bsz I.sz,fun b o e hb=>?_,fun b hb z=>?_,I.stack,I.stkFree⟩
  .rcases (fpo b hb).2.2.2.1 with q|q
   .exact I.ok.noex b o e q
   .exact absurd (Nat.lt_of_lt_of_le (Heap.lt_size (I.ok.bs b o e).1) q) (Nat.lt_irrefl _)
  .rcases List.mem_cons.mp (I.stkSub b z) with q|q
   .exact (fpo b hb).2.1 q
   .exact (fpo b hb).2.2.1 q
 have I0:aO (bU X scope cl N G.objs.size s H fp) [] (none::none::slots σ fr) (cK H s.heap.objs.size (.lst [])) { s with heap:=h₁,toks:=s.toks+([]:List (Str×Value)).length }:=by
  have hok1:mF X.prog X.w (cK H s.heap.objs.size (.lst [])) h₁:=I.hok.laid old (Nat.le_refl _) ⟨Nat.zero_le _,[],0,.nil,hacc⟩;refine ⟨ok',rfl,I.bare,Un.laid old (Nat.le_refl _) hn,⟨_,hns₁,fun k y v e1 e2 e3=>?_⟩,fun y c e=>?_,?_,fun y c e=>?_,fun p hp=>absurd (show p∈([]:List (Addr×Obj)) from hp) (by simp),hok1,?_⟩
  .match k,e1,e2 with
   | 0,e1,e2=>cases e2
   | 1,e1,e2=>cases e2
   | k+2,e1,e2 =>
    have e2':(slots σ fr)[k]?=some (some v):=e2;unfold slots at e2';rw [gMq] at e2';cases ej:fr[k]? with
    | none=>rw [ej] at e2';cases e2'
    | some j =>
     rw [ej] at e2';have e2j:(σ[j]?).join=some v:=Option.some.inj e2';have e2s:σ[j]?=some (some v):=by
      cases q:σ[j]? with
      | none=>rw [q] at e2j;cases e2j
      | some z=>rw [q] at e2j;exact congrArg some e2j
     obtain ⟨g1,g2,g3⟩:=hF.get k j y ej e1;obtain ⟨m,_,hl⟩:=I.loc;obtain ⟨u,r,l⟩:=hl j y v g1 e2s (.inr (.inl g2));refine ⟨u,r,.inr ⟨.inl g3,?_⟩⟩;obtain ⟨c,e⟩:=hF.has y (.inl g3);have e':=hF.sub y c e;rcases l with ⟨l1,_⟩|⟨_,c',ec,hcell'⟩
     .have l1':X.env.scope.names.lookup y=some .local:=l1;rw [g2] at l1';cases l1'
     .rw [e'] at ec;cases ec;obtain ⟨o,ho,hd⟩:=hcell';exact ⟨c,e,o,old c o ho,hd⟩
  .obtain ⟨v,o,ho,hd⟩:=I.cell y c (hF.sub y c e);exact ⟨v,o,old c o ho,hd⟩
  .show cK H s.heap.objs.size (.lst []) G.objs.size=none;rw [aR (Ne.symm hDC)];exact hnC
  .obtain ⟨v,o,ho,hd⟩:=I.cell y c (hF.sub y c e);rw [aR (Nat.ne_of_lt (Heap.lt_size ho))];exact I.freeC y c (hF.sub y c e)
  .show (none::none::slots σ fr).length=N.length;rw [hF.len,lCq,lCq];unfold slots;rw [lMq]
 have HP:tn 0 h₁:=T.keep 0 _ _ st fun b _ o e=>old b o e
 have nd:N.Nodup:=hF.names;have nf0:∀ b∈fp,cK H s.heap.objs.size (.lst []) b=none:=fun b hb=>by
  rw [aR (Nat.ne_of_lt (fpl b hb))];exact (fpo b hb).1
 have stat:∀ {H':Hp},(∀ b∈fp,H' b=none)->∀ b∈fp,mU (bU X scope cl N G.objs.size s H fp) [] H' b:=fun hn' b hb =>
  ⟨hn' b hb,below b (fpl b hb),ok'.exfs b hb,.inl hb,fun y c e=>(ok'.exf b hb).2 y c e,fun p hp=>absurd (show p∈([]:List (Addr×Obj)) from hp) (by simp)⟩
 have loop:∀ s₃:Shared,s₃={ s with heap:=h₁,toks:=s.toks+([]:List (Str×Value)).length } ->
   codeAny (model X.prog X.w) X.A (.compLoop (.ListComp elt [⟨.Tuple [.Name x px,.Name x2 px2] tk tp,iter,ifs,0⟩] scope pos) 0 (.ref it) (.ref s.heap.objs.size) (compEnvC scope cl G.objs.size X.env)) (RR (.ref s.heap.objs.size) G.objs.size) s₃:=by
  rintro s₃ rfl;refine oW (fun n s'=>∃ i v0 v1 H',aO (bU X scope cl N G.objs.size s H fp) [] (v0::v1::slots σ fr) H' s'/\tn i s'.heap/\(∀ b∈fp,H' b=none)/\W i n H') ?_ m0 ⟨0,none,none,_,I0,HP,nf0,w0⟩
  rintro n s4 ⟨i,v0,v1,H4,I4,Gu,nf4,w4⟩;rcases turn i n H4 w4 with ⟨stop,q⟩|⟨go,Nx,hNx,step⟩
  .refine cP (T.done (bU X scope cl N G.objs.size s H fp) rfl rfl rfl hc i [] s4 (v0::v1::slots σ fr) H4 (fun _ _=>False) I4 (stat nf4) Gu stop) fun r s5 hz1=>?_
   obtain ⟨hr,I5⟩:=hz1;subst hr;obtain ⟨m,hm,_⟩:=I5.loc;have I6:aO X ab σ H4 s5:=I.call' (ch:=fp) I5.os I5.base I5.hok I5.bare fun b hb=>⟨(fpo b hb).2.2.2.1,(fpo b hb).2.1,(fpo b hb).2.2.2.2.1,(fpo b hb).2.2.2.2.2⟩
   exact fin _ _ s5 H4 m I6 hm (I.fpOk hCle I5.free) q
  .refine cP (T.item (bU X scope cl N G.objs.size s H fp) rfl rfl rfl hc i [] s4 (v0::v1::slots σ fr) H4 (fun _ _=>False) I4 (stat nf4) Gu go) fun r s5 hz1=>?_
   obtain ⟨u,hr,h5⟩:=hz1;subst hr;refine cP h5 fun _ s6 hz1=>?_
   obtain ⟨y,H6,I6,r6,y6,st6,nf6⟩:=hz1;have I6':=I6.pinned (stat nf6) (T.obj _ _ st6);have pg:PG (bU X scope cl N G.objs.size s H fp) (.Tuple [.Name x px,.Name x2 px2] tk tp) (g2 X.K):=ku hc (cE (aZ nd hF.own (.inl (lookup_relabel_local hx)) (.inr (lookup_relabel_local hx))) (cE (aZ nd hF.own2 (.inl (lookup_relabel_local hy)) (.inr (lookup_relabel_local hy))) iG));refine cP (pg _ s6 (v0::v1::slots σ fr) H6 y u _ I6' r6 (step y _ y6 v0 v1)) fun _ s7 hz1=>?_
   obtain ⟨σ7,H7,I7,⟨a7,b7,e7⟩,q7⟩:=hz1;subst e7;refine cP (hf _ _ _ _ _ s7 _ _ _ I7 q7) fun b s8 hz1=>?_
   obtain ⟨H8,I8,q8⟩:=hz1;have again:∀ {s9:Shared}{H9:Hp},aO (bU X scope cl N G.objs.size s H fp) ([]++nR fp s6.heap) (a7::b7::slots σ fr) H9 s9->Nx H9->∃ m,m<n/\∃ i v0 v1 H',aO (bU X scope cl N G.objs.size s H fp) [] (v0::v1::slots σ fr) H' s9/\tn i s9.heap/\(∀ b∈fp,H' b=none)/\W i m H':=fun {s9 H9} I9 n9=>by
    obtain ⟨m',hm,w9⟩:=hNx H9 n9;refine ⟨m',hm,i+1,a7,b7,H9,I9.unpinned,T.keep _ _ _ st6 fun b hb o e=>(I9.pin (b,o) (List.mem_append_right _ (List.mem_append_right _ (fX hb e)))).1,fun b hb=>?_,w9⟩
    obtain ⟨o,e,d⟩:=T.obj _ _ st6 b hb;exact (I9.pin (b,o) (List.mem_append_right _ (List.mem_append_right _ (fX hb e)))).2.1
   cases b with
   | false=>exact again I8 q8
   | true =>
    refine cP (he _ _ _ _ _ s8 _ _ _ I8 q8) fun z s9 hz1=>?_
    obtain ⟨zv,H9,I9,r9,ys,a9,l9,n9⟩:=hz1;refine cP (dh (X:=bU X scope cl N G.objs.size s H fp) _ s9 _ H9 (.ref s.heap.objs.size) [zv] (.ref s.heap.objs.size) [z] (fun _ H'=>H'=cK H9 s.heap.objs.size (.lst (ys++[zv]))) I9 rfl (.cons r9 .nil) ⟨_,ys,zv,rfl,rfl,a9,l9,rfl⟩) fun _ s10 hz1=>?_
    obtain ⟨_,H10,I10,_,e10⟩:=hz1;subst e10;exact again I10 n9
 exact codeAny_compStart_list (loop _ rfl) (T.self X.A 0 _ _ _ HP (loop _ rfl))
theorem B0 {wi:TI}(hc:X.calm=true) (hclos:closureFor scope X.env=pure cl) (hcell:∀ y∈scope.names,y.2 ≠ .cell) (hkind:scope.kind = .function) (hnames:∀ y∈scope.names,y.2 = .local->scope.names.lookup y.1=some .local)
  (hx:scope.names.lookup x=some .local) (hy:scope.names.lookup x2=some .local) (hF:rq X scope cl x x2 N fr) (hi:PI X (.Tuple [.Name x px,.Name x2 px2] tk tp) iter wi) (hf:∀ C s H fp,PF (bU X scope cl N C s H fp) ifs tf) (he:∀ C s H fp,PE (bU X scope cl N C s H fp) elt te)
  (hs:∀ x,foldedSetIterable iter X.env x=pure x:=by intro _;rfl):PE X (.ListComp elt [⟨.Tuple [.Name x px,.Name x2 px2] tk tp,iter,ifs,0⟩] scope pos) (BV X.K wi fr tf te):=by
 intro ab s σ H Q I h;rw [eval_ListComp];refine wpAny_comprehension_free (use:=none) rfl hs hclos hkind hnames (cP (hi ab s σ H _ I h) fun v s1 h1=>cP h1 fun itv s2 h2=>?_)
 obtain ⟨it,fp,tn,J,H2,e,I2,T,mI,f2,q2⟩:=h2;subst e;refine vX (RR:=fun acc C=>compPost (model X.prog X.w) X.A X.xe none (EP X ab σ Q) acc C) hc hcell hkind hx hy hF hf he I2 T mI f2 q2 ?_
 intro acc C s' Hf m I' hm fC q;refine ⟨m,hm,fun h' sb=>⟨.ref acc,Hf,?_,rfl,q⟩⟩
 exact I'.turned (t':=s'.toks) (fun b o hb e=>(sb.2 b hb).trans e) fC.1 fC.2.1 fC.2.2.2.1 fC.2.2.2.2.1 fC.2.2.2.2.2
end
end Mr
namespace Mr
open PySem L2
end Mr
namespace Xe
open PySem PySem.Spec PySem.W PyProof.Rows L2 Mr
end Xe
namespace Mr
open PySem PySem.Spec PyProof.Rows L2
end Mr
namespace Z
open PySem L2 Mr
theorem E9 (c:MT) (body:MS) (n:Nat) (S:AS):gq c body (n+1) S=(c S).bind fun x=>if x.1=true then (body x.2).bind fun o=>match o with
   | .nx S'=>gq c body n S'
   | .ct S'=>gq c body n S'
   | .bk S'=>some (.nx S')
   | .rt a=>some (.rt a)
  else some (.nx x.2):=rfl
end Z
namespace Z
open PySem L2 Mr Xe
inductive IL where
 | ok (a:AV)|ex (c:Str) (fs:List (Str×Int))
abbrev J2:=List D->Option IL
def MN:IL->Option AV
 | .ok a=>some a
 | _=>none
def Nk (f:J2):MF:=fun ds=>(f ds).bind MN
inductive xZ where
 | ok (o:vd)|ex (c:Str) (fs:List (Str×Int))
abbrev MX:=AS->Option xZ
def Nu (m:MS):MX:=fun S=>(m S).map .ok
def M6 (a b:MX):MX:=fun S=>(a S).bind fun o=>match o with
 | .ok (.nx S')=>b S'
 | o=>some o
def Nn (c:MT) (a b:MX):MX:=fun S=>(c S).bind fun x=>if x.1=true then a x.2 else b x.2
def Le (c fld:Str) (a:ML):MX:=fun S=>(a S).bind fun x=>match x.1 with
 | [.int n]=>some (.ex c [(fld,n)])
 | _=>none
def MV (np n:Nat) (m:MX):J2:=fun ds=>if ds.length=np then (m (ds.map (fun d=>some (.sh d))++List.replicate (n-ds.length) none)).bind fun o=>match o with
  | .ok (.rt a)=>some (.ok a)
  | .ok (.nx _)=>some (.ok (.sh .non))
  | .ex c fs=>some (.ex c fs)
  | _=>none
 else none
abbrev MH:=Str->List (Str×Int)->MS
def Dr (c c':Str):Bool:=decide (c'=c∨c' = "MapError")
def MB (i:Nat):vd->vd
 | .nx S=>.nx (S.set i none)
 | .bk S=>.bk (S.set i none)
 | .ct S=>.ct (S.set i none)
 | .rt a=>.rt a
def Nt (c':Str) (i:Nat) (mb:MS) (fZ:MH):MH:=fun c fs S=>if Dr c c'=true then (mb (S.set i (some (.sh (.exc c fs))))).map (MB i) else fZ c fs S
def Nq (c':Str) (mb:MS) (fZ:MH):MH:=fun c fs S=>if Dr c c'=true then mb S else fZ c fs S
def Mo (f:J2) (a:MA) (hm:MH):MS:=fun S=>(a S).bind fun x=>(f (x.1.map aB)).bind fun r=>match r with
 | .ok _=>some (.nx x.2)
 | .ex c fs=>hm c fs x.2
def LS (i:Nat) (f:J2) (a:MA) (hm:MH):MS:=fun S=>(a S).bind fun x=>(f (x.1.map aB)).bind fun r=>match r with
 | .ok r=>some (.nx (x.2.set i (some r)))
 | .ex c fs=>hm c fs x.2
def LX (f:Str):D->Option D
 | .exc _ fs=>(fs.lookup f).map .int
 | _=>none
section
variable {K:W.Frag}{te:TE}{m:ME}{f:Str}
def MD (c:Str):ME:=fun S=>some (.cls c,S)
def B2 (c:Str):D->Option Bool
 | .cls c'=>some (Dr c c')
 | .ty T=>if T = "ValueError" then some true else none
 | _=>none
def wa (c:Str):List D->Option Bool
 | []=>some false
 | d::ds=>(B2 c d).bind fun b=>(wa c ds).map fun b2=>b || b2
def Nh:List D->Option D
 | [.exc c _,.tup ds]=>(wa c ds).map .bl
 | [.exc c _,d]=>(B2 c d).map .bl
 | _=>none
end
end Z
namespace Z
open PySem L2 Mr Xe
def kD:bJ->D
 | .inl i=>.int i
 | .inr x=>.str x
theorem Fv {K:W.Frag}{H:Hp}(k:bJ):cD K H (kD k) (kV k):=by
 cases k with
 | inl i=>exact .int
 | inr x=>exact .str
def ya (x y:Nat) (body:MS):List (bJ×D)->AS->Option vd
 | [],S=>some (.nx S)
 | p::ps,S=>(body ((S.set x (some (.sh (kD p.1)))).set y (some (.sh p.2)))).bind fun o=>match o with
  | .nx S'=>ya x y body ps S'
  | .ct S'=>ya x y body ps S'
  | .bk S'=>some (.nx S')
  | .rt a=>some (.rt a)
def Ma (x y:Nat) (k:MK) (body:MS):MS:=fun S=>(k S).bind fun z=>(Br z.1).bind fun kvs=>ya x y body kvs z.2
section
variable {K:W.Frag}{te tf:TE}{k:MK}{tb:TS}{body:MS}{x y:Nat}
def xr (a:ME):MK:=fun S=>(a S).bind fun x=>(oy x.1).map fun kvs=>(.ow (kvs.map fun p=>.sh (kD p.1)),x.2)
end
end Z
namespace Z
open PySem L2 Mr Xe
structure LL (K:W.Frag) (mg:Str->Option Value) (cn:Str) (C:Addr) (bm:List Value):Prop where
 c:Lu K cn C
 xc:rX K cn C bm=true
 base:bm.contains (.type "BaseException")=true
 mgc:mg cn=some (.ref C)
theorem GG (M:Addr):(Value.ref M::yM).contains (.type "BaseException")=true:=by rw [List.contains_cons,show yM.contains (Value.type "BaseException")=true by decide,Bool.or_true]
section
variable {K:W.Frag}{h:Heap}{mg:Str->Option Value}{c:Str}{C M:Addr}
theorem GL (a:W.nsIn K mainGlobals c=some (some (.ref C))) (aM:W.nsIn K mainGlobals "MapError" = some (some (.ref M))) (x:rX K c C (.ref M::yM)=true) (xM:rX K "MapError" M yM=true) (l:LJ K C=true):IS K c C M:=⟨a,aM,x,xM,l⟩
theorem Fk (X:K.In h) (G:h.Ns mainGlobals mg) (aM:W.nsIn K mainGlobals "MapError" = some (some (.ref M))) (xM:rX K "MapError" M yM=true):LL K mg "MapError" M yM:=⟨⟨aM,.inr ⟨rfl,xM⟩⟩,xM,by decide,W.mg_of X G aM⟩
end
def MU (c:Str):MK:=fun S=>some (.sh (.cls c),S)
end Z
namespace Z
open PySem L2 Mr Xe
def Ml:Option xZ->MX->Option xZ
 | none,_=>none
 | some (.ok (.nx S)),b=>b S
 | some o,_=>some o
def Kz (c fld:Str):List D->Option xZ
 | [.int n]=>some (.ex c [(fld,n)])
 | _=>none
def LY:xZ->Option IL
 | .ok (.rt a)=>some (.ok a)
 | .ok (.nx _)=>some (.ok (.sh .non))
 | .ex c fs=>some (.ex c fs)
 | _=>none
def MC (hm:MH) (S:AS):IL->Option vd
 | .ok _=>some (.nx S)
 | .ex c fs=>hm c fs S
def M4 (i:Nat) (hm:MH) (S:AS):IL->Option vd
 | .ok r=>some (.nx (S.set i (some r)))
 | .ex c fs=>hm c fs S
variable (S:AS)
theorem Ec (a:ME):xr a S=(a S).bind fun x=>(oy x.1).map fun kvs=>(.ow (kvs.map fun p=>.sh (kD p.1)),x.2):=rfl
def Nf:=@Ec
end Z
namespace Z
open PySem L2 Mr Xe
def IY (f:AV->Option xZ):IL->Option xZ
 | .ok r=>f r
 | .ex c fs=>some (.ex c fs)
structure FB (K:W.Frag) (mg:Str->Option Value) (cn:Str) (C M:Addr):Prop where
 c:Lu K cn C
 xc:rX K cn C (.ref M::yM)=true
 base:(Value.ref M::yM).contains (.type "BaseException")=true
 mgc:mg cn=some (.ref C)
 i:Lc K mg cn C M
theorem Fi {K:W.Frag}{h:Heap}{mg:Str->Option Value}{c:Str}{C M:Addr}(X:K.In h) (G:h.Ns mainGlobals mg) (r:IS K c C M) (ini:W.findIn K (.ref C) "__init__" = some (some (.builtin "ValueError.__init__"))) (kp:W.keepIn K (.ref C)=true):FB K mg c C M :=
 ⟨⟨r.nm,.inl ⟨M,r⟩⟩,r.xc,GG M,W.mg_of X G r.nm,⟨r,ini,kp,W.mg_of X G r.nm⟩⟩
end Z
namespace Z
open PySem L2 Mr Xe
def CK (x y:D):Option D:=match y with
 | .non=>(match x with|.non=>some (.bl true)|.int _=>some (.bl false)|.str _=>some (.bl false)|.bl _=>some (.bl false)|.list _=>some (.bl false)|.tup _=>some (.bl false)|_=>none)
 | _=>none
section
variable {K:W.Frag}
theorem BQ:pq K (fun x y H Q=>y = .non/\Q (.bl (decide (x = .non))) H) CK:=by
 intro x y H Q dx dy d rx ry e q;unfold CK at e;cases ry <;> first|(cases e;done)|skip
 cases rx <;> first|(cases e;done)|(cases e;exact ⟨rfl,q _ (by simpa using cD.bl)⟩)
end
end Z
namespace Z
open PySem L2 Mr Xe
end Z
namespace Z
open PySem L2 Mr Xe
noncomputable abbrev BL:=wX Bw fun i j=>.int (i / j)
def SM (K:W.Frag) (te:TE) (m:ME):Prop:=∀ {H₀ Hf₀ Hf:Hp}{S:AS}{σ:St}{H:Hp}{Fs:List (List Addr)}{d:D}{S':AS},cm K H₀ Hf₀ Hf S σ H Fs->m S=some (d,S')->∀ Q:VK,
 (∀ Hf' H' Fs' v,bS Hf Hf'->cm K H₀ Hf₀ Hf' S' σ H' Fs'->cD K Hf' d v->Q v H')->te σ H Q
def FO:AV->Option D
 | .sh d=>some d
 | _=>none
theorem Cf {a:AV}{d:D}(h:FO a=some d):a = .sh d:=by
 unfold FO at h;split at h <;> cases h
 rfl
noncomputable def uG (i:Nat) (b:ME):ME:=fun S=>(dk S i).bind fun _=>(b S).bind fun y=>(intOf y.1).bind fun z=>(dk y.2 i).bind fun avs=>jb (0<=z/\z<avs.length/\avs.length<=eG) ((avs[z.toNat]?.bind FO).map fun d=>(d,y.2.set i (some (.ow (avs.eraseIdx z.toNat)))))
noncomputable def vR (i:Nat):ME:=fun S=>(dk S i).bind fun avs=>(avs[avs.length-1]?.bind FO).map fun d=>(d,S.set i (some (.ow avs.dropLast)))
def Jg (kvs:List (bJ×D)) (k:bJ):List (bJ×D):=kvs.filter fun kv=>decide (kv.1≠k)
noncomputable def My (i:Nat) (b:ME):ME:=fun S=>(jP S i).bind fun _=>(b S).bind fun y=>(jT y.1).bind fun key=>(jP y.2 i).bind fun kvs=>(getD kvs key).map fun d=>(d,y.2.set i (some (.owd (Jg kvs key))))
section
variable {K:W.Frag}
theorem Ft:pq K (rI Bw fun i j=>.int (i / j)) BL:=vy fun _ _ _=>.int
theorem bZ.erase {Hf H:Hp}{as:List AV}{vs:List V}{Gs:List (List Addr)}(r:bZ K Hf H as vs Gs) (k:Nat):bZ K Hf H (as.eraseIdx k) (vs.eraseIdx k) (Gs.eraseIdx k):=by
 obtain ⟨h1,h2,h3⟩:=r;refine ⟨by rw [List.length_eraseIdx,List.length_eraseIdx,h1],by rw [List.length_eraseIdx,List.length_eraseIdx,h2],fun i b w G e1 e2 e3=>?_⟩
 rw [List.getElem?_eraseIdx] at e1 e2 e3;split at e1
 .rename_i q;rw [if_pos q] at e2 e3;exact h3 i b w G e1 e2 e3
 .rename_i q;rw [if_neg q] at e2 e3;exact h3 (i+1) b w G e1 e2 e3
theorem xg {Gs:List (List Addr)}{k:Nat}(h:Gs[k]?=some []):(Gs.eraseIdx k).flatten=Gs.flatten:=by
 induction Gs generalizing k with
 | nil=>cases h
 | cons g r ih =>
  cases k with
  | zero =>
   simp at h;subst h;rfl
  | succ k =>
   rw [List.eraseIdx_cons_succ,fCq,fCq,ih (by simpa using h)]
theorem cm.lose {H₀ Hf₀ Hf H:Hp}{S:AS}{σ:St}{Fs:List (List Addr)}(R:cm K H₀ Hf₀ Hf S σ H Fs) {i k:Nat}{avs:List AV}{d:D}(h:S[i]?=some (some (.ow avs))) (hk:avs[k]?=some (.sh d)) :
  ∃ p vs y F',σ[i]?=some (some (.ref p))/\H p=some (.lst vs)/\avs.length=vs.length/\vs[k]?=some y/\cD K Hf d y/\cm K H₀ Hf₀ Hf (S.set i (some (.ow (avs.eraseIdx k)))) σ (cK H p (.lst (vs.eraseIdx k))) (Fs.set i F'):=by
 obtain ⟨p,vs,Gs,s1,s2,h1,h2,h3,h4,h5,h6⟩:=R.ow h;have lk:k<avs.length:=(gSq.mp hk).1;obtain ⟨y,hy⟩:∃ y,vs[k]?=some y:=⟨_,gEg (by rw [← h3.1];exact lk)⟩
 obtain ⟨G,hG⟩:∃ G,Gs[k]?=some G:=⟨_,gEg (by rw [← h3.2.1];exact lk)⟩
 obtain ⟨hG0,ry⟩:=(h3.2.2 k _ _ _ hk hy hG).sh_inv;subst hG0;have hf:=xg hG;refine ⟨p,vs,y,p::(Gs.eraseIdx k).flatten,s1,h1,h3.1,hy,ry,R.turn s1 s2 (by simp) (bD.news bb h2 ((h3.keepUpd h4).erase k)) ?_ ?_⟩
 .rw [hf];exact List.nodup_cons.mpr ⟨h4,h5⟩
 .rw [hf];exact h6
theorem DI {i:Nat}{tb:TE}{b:ME}(hb:SR K tb b):SM K (Gf K "list" B1 (lF i) (gi tb ka)) (uG i b):=by
 intro H₀ Hf₀ Hf S σ H Fs d S' R e Q q;obtain ⟨a0,e0,e⟩:=oBq.mp e;obtain ⟨y,e1,e⟩:=oBq.mp e;obtain ⟨z,e2,e⟩:=oBq.mp e;obtain ⟨avs,e3,e⟩:=oBq.mp e;rcases bh e with ⟨⟨z0,z1,z2⟩,e⟩|e
 .obtain ⟨d',e4,e⟩:=oMq.mp e;cases e;obtain ⟨a,e4,e5⟩:=oBq.mp e4;have e5:=Cf e5;subst e5;obtain ⟨p,vs,Gs,s1,_,h1,_⟩:=R.ow (cf e0);refine ⟨.ref p,s1,.inl ⟨rfl,vs,eJ.of h1⟩,hb R (d:=y.1) (S':=y.2) e1 _ fun Hf1 H1 Fs1 v t1 R1 r1=>?_⟩
  obtain ⟨p',vs',w,F',s1',hp,hl,hw,rw',R2⟩:=R1.lose (cf e3) e4;rw [s1] at s1';cases s1';have hv:v = .int z:=by
   have:y.1 = .int z:=by
    revert e2
    unfold intOf;split <;> intro e2 <;> cases e2
    assumption
   rw [this] at r1;cases r1;rfl
  subst hv;have hz:(avs.length:Int)<=16777216:=by
   have:avs.length<=16777216:=z2;lia
  refine ⟨p,vs',z,z.toNat,w,rfl,rfl,hp,by lia,by lia,?_,hw,q _ _ _ _ t1.sf R2 rw'⟩
  rw [← hl];unfold seqIndex?;have n1:¬ z<0:=by lia
  have n2:(decide (0<=z) && decide (z<(avs.length:Int)))=true:=by
   rw [decide_eq_true z0,decide_eq_true z1];rfl
  simp only [n1,if_false];exact if_pos n2
 .cases e
theorem HW {i:Nat}:SM K (Gf K "list" Gw (lF i) ka) (vR i):=by
 intro H₀ Hf₀ Hf S σ H Fs d S' R e Q q;obtain ⟨avs,e0,e⟩:=oBq.mp e;obtain ⟨d',e4,e⟩:=oMq.mp e;cases e;obtain ⟨a,e4,e5⟩:=oBq.mp e4;have e5:=Cf e5;subst e5;obtain ⟨p,vs,w,F',s1,hp,hl,hw,rw',R2⟩:=R.lose (cf e0) e4;refine ⟨.ref p,s1,.inl ⟨rfl,vs,eJ.of hp⟩,p,vs,w,rfl,rfl,hp,by rw [← hl];exact hw,?_⟩
 rw [lY,hl,lY] at R2;exact q _ _ _ _ (.refl _) R2 rw'
def zd (i:Nat) (m:ME):MS:=fun S=>(m S).map fun x=>.nx (x.2.set i (some (.sh x.1)))
theorem EV {i:Nat}{te:TE}{m:ME}(h:SM K te m):SS K (zU te (gQ i)) (zd i m):=by
 intro H₀ Hf₀ Hf S σ H Fs o R e D hd;obtain ⟨x,e1,e⟩:=oMq.mp e;cases e;refine h R (d:=x.1) (S':=x.2) e1 _ fun Hf1 H1 Fs1 v t1 R1 r1=>?_
 exact hd _ _ _ _ t1 (R1.setD i r1)
noncomputable def CH (i:Nat) (m:ME):MS:=fun S=>(dk S i).bind fun _=>(m S).bind fun x=>(dk x.2 i).bind fun avs=>jb (avs.length<eG) (some (.nx (x.2.set i (some (.ow (avs++[.sh x.1]))))))
theorem Ez {i:Nat}{te:TE}{m:ME}(hk:SM K te m):SS K (vk (Gf K "list" um (lF i) (gi te ka))) (CH i m):=by
 intro H₀ Hf₀ Hf S σ H Fs o R e D h;obtain ⟨a0,e0,e⟩:=oBq.mp e;obtain ⟨x,e1,e⟩:=oBq.mp e;obtain ⟨avs,e2,e⟩:=oBq.mp e;rcases bh e with ⟨hl,e⟩|e
 .cases e;obtain ⟨p,vs,Gs,s1,_,h1,_⟩:=R.ow (cf e0);refine ⟨.ref p,s1,.inl ⟨rfl,vs,eJ.of h1⟩,hk R (d:=x.1) (S':=x.2) e1 _ fun Hf1 H1 Fs1 v t1 R1 r1=>?_⟩
  obtain ⟨p',vs',Gs',s1',s2',h1',h2',h3',h4',h5',h6'⟩:=R1.ow (cf e2);rw [s1] at s1';cases s1';refine ⟨p,vs',v,rfl,rfl,h1',by rw [gw,← h3'.1];exact hl,h _ _ _ _ t1 (R1.turn s1 s2' (by simp) (F':=p::(Gs'++[[]]).flatten) (bD.news bb h2' ((h3'.keepUpd h4').snoc (.sh r1))) ?_ fun q hq=>?_)⟩
  .rw [fAq,List.flatten_singleton,aNq];exact List.nodup_cons.mpr ⟨h4',h5'⟩
  .rw [fAq,List.flatten_singleton,aNq] at hq;exact h6' q hq
 .cases e
noncomputable def Lh (i:Nat) (b:ME) (m:ME):MS:=fun S=>(m S).bind fun x=>(jP x.2 i).bind fun _=>(b x.2).bind fun y=>(jP y.2 i).bind fun kvs=>(jT y.1).bind fun key =>
 jb (kvs.length<eG) (some (.nx (y.2.set i (some (.owd (oq kvs key x.1))))))
end
theorem IH (d:D):FO (.sh d)=some d:=rfl
theorem Du (S:AS) (i:Nat) (b:ME):uG i b S=(dk S i).bind fun _=>(b S).bind fun y=>(intOf y.1).bind fun z=>(dk y.2 i).bind fun avs=>jb (0<=z/\z<avs.length/\avs.length<=eG) ((avs[z.toNat]?.bind FO).map fun d=>(d,y.2.set i (some (.ow (avs.eraseIdx z.toNat))))):=rfl
theorem Il (S:AS) (i:Nat):vR i S=(dk S i).bind fun avs=>(avs[avs.length-1]?.bind FO).map fun d=>(d,S.set i (some (.ow avs.dropLast))):=rfl
theorem Ib (S:AS) (i:Nat) (m:ME):zd i m S=(m S).map fun x=>.nx (x.2.set i (some (.sh x.1))):=rfl
theorem HA (S:AS) (i:Nat) (m:ME):CH i m S=(dk S i).bind fun _=>(m S).bind fun x=>(dk x.2 i).bind fun avs=>jb (avs.length<eG) (some (.nx (x.2.set i (some (.ow (avs++[.sh x.1])))))):=rfl
def M8:=And.intro @IH (And.intro @Du (And.intro @Il (And.intro @Ib @HA)))
end Z
namespace Z
open PySem L2 Mr Xe
def rF:MF:=fun _=>none
section
variable {K:W.Frag}
theorem uf {P:Program}{w:World}{mg:Str->Option Value}{base:Heap}{k:Nat}{x:Str}{st:Stmt}{ps:List Str}{f:Addr}{fd:FuncData}(D:lH K mg x st ps f fd):Fn P w K mg base k x st ps (bj K rF) f fd :=
 ⟨D,⟨fun vs H Q E h=>(by obtain ⟨Hf,ds,a,s,r,e,q⟩:=h;cases e),fun A outer s H args us vs Q E _ _ _ _ h=>(by obtain ⟨Hf,ds,a,s,r,e,q⟩:=h;cases e)⟩⟩
theorem bZ.ins {Hf H:Hp}{as:List AV}{vs:List V}{Gs:List (List Addr)}{d:D}{v:V}(r:bZ K Hf H as vs Gs) (rv:cD K Hf d v) (n:Nat) (hn:n<=as.length):bZ K Hf H (as.take n ++ .sh d::as.drop n) (vs.take n++v::vs.drop n) (Gs.take n++[]::Gs.drop n):=by
 obtain ⟨h1,h2,h3⟩:=r;have e1:(as.take n).length=n:=by rw [lTq];lia
 have e2:(vs.take n).length=n:=by rw [lTq];lia
 have e3:(Gs.take n).length=n:=by rw [lTq];lia
 refine ⟨by simp [h1],by simp [h2],fun i b w G g1 g2 g3=>?_⟩
 by_cases hi:i<n
 .rw [gZq (by lia),List.getElem?_take_of_lt hi] at g1
  rw [gZq (by lia),List.getElem?_take_of_lt hi] at g2
  rw [gZq (by lia),List.getElem?_take_of_lt hi] at g3
  exact h3 i b w G g1 g2 g3
 .rw [gYq (by lia),e1] at g1
  rw [gYq (by lia),e2] at g2
  rw [gYq (by lia),e3] at g3
  cases hj:i-n with
  | zero =>
   rw [hj] at g1 g2 g3;simp at g1 g2 g3;subst g1;subst g2;subst g3;exact .sh rv
  | succ j =>
   rw [hj,List.getElem?_cons_succ,List.getElem?_drop] at g1 g2 g3;exact h3 (n+j) b w G g1 g2 g3
end
end Z
namespace Z
open PySem L2 Mr Xe
def Mx:D->String->Option D
 | .int _,T=>if T = "list" ∨ T = "tuple" ∨ T = "str" then some (.bl false) else none
 | .str _,T=>if T = "list" ∨ T = "tuple" then some (.bl false) else none
 | .non,T=>if T = "list" ∨ T = "tuple" then some (.bl false) else none
 | .list _,T=>if T = "tuple" then some (.bl false) else none
 | .tup _,T=>if T = "list" then some (.bl false) else none
 | _,_=>none
def ID:List D->Option D
 | [x,.ty T]=>Mx x T
 | _=>none
def Bl (ds:List D):Option D:=match mC ds with
 | some d=>some d
 | none=>ID ds
section
variable {K:W.Frag}
theorem Iq:Gj K (fun xs H Q=>∃ x T,xs=[x,.ty T]/\E3 K x H T/\Q (.bl false) H) ID:=by
 intro vs H Q ds d r e q;unfold ID at e;split at e
 rotate_left
 .cases e
 rename_i x T;obtain ⟨v,ws,rfl,h1,h2⟩:=r.cons_inv;obtain ⟨u,zs,rfl,h3,h4⟩:=h2.cons_inv;rw [h4.nil_inv];cases h3;unfold Mx at e;cases x <;> first|(cases e;done)|dsimp only at e
 all_goals
  split at e
  rotate_left
  .cases e
  rename_i hT;cases e
 .cases h1;exact ⟨_,_,rfl,hT,q _ .bl⟩
 .cases h1;exact ⟨_,_,rfl,hT,q _ .bl⟩
 .cases h1;exact ⟨_,_,rfl,hT,q _ .bl⟩
 .obtain ⟨p,xs,rfl,h,_⟩:=h1.list_inv;exact ⟨_,_,rfl,.inl ⟨hT,xs,eJ.of h⟩,q _ .bl⟩
 .obtain ⟨p,xs,rfl,h,_⟩:=h1.tup_inv;exact ⟨_,_,rfl,.inr ⟨hT,xs,oG.of h⟩,q _ .bl⟩
theorem BX:Gj K (fun xs H Q=>(∃ x T b,xs=[x,.ty T]/\Ff K x H T b/\Q (.bl b) H)∨∃ x T,xs=[x,.ty T]/\E3 K x H T/\Q (.bl false) H) Bl:=by
 intro vs H Q ds d r e q;unfold Bl at e;split at e
 .rename_i e';cases e;exact .inl (mH r e' q)
 .exact .inr (Iq r e q)
end
end Z
namespace Z
open PySem L2 Mr Xe
section
variable {K:W.Frag}{H₀ Hf₀ Hf H:Hp}{S:AS}{σ:St}{Fs:List (List Addr)}{te tb:TE}{k:MK}{b:ME}
theorem D6 {i:Nat}:SM K (JK K "list" Gw (lF i)) (vR i):=HW
end
end Z
namespace Z
open PySem L2 Mr Xe
def BW:D->Option V
 | .non=>some .non
 | .bl b=>some (.bl b)
 | .int i=>some (.int i)
 | .str s=>some (.str s)
 | _=>none
def qY:List D->Option (List V)
 | []=>some []
 | d::ds=>(BW d).bind fun v=>(qY ds).map (v :: ·)
def HC:D->Option (List D)
 | .list ds=>some ds
 | .tup ds=>some ds
 | _=>none
def Iv (neg:Bool) (x y:D):Option D:=(BW x).bind fun v=>(HC y).bind fun ds=>(qY ds).map fun vs=>.bl (if neg then !IP v vs else IP v vs)
section
variable {K:W.Frag}{te:TE}
theorem sU {H:Hp}{d:D}{v w:V}(e:BW d=some v) (r:cD K H d w):w=v/\lQ v=true:=by
 cases d <;> first|(cases e;cases r;exact ⟨rfl,rfl⟩)|cases e
theorem kF {H:Hp}:∀ {ds:List D}{vs ws:List V},qY ds=some vs->bO K H ds ws->ws=vs/\vs.all lQ=true
 | [],vs,ws,e,r=>by
  cases e;exact ⟨r.nil_inv,rfl⟩
 | d::ds,vs,ws,e,r=>by
  obtain ⟨v,e1,e⟩:=oBq.mp e;obtain ⟨us,e2,rfl⟩:=oMq.mp e;obtain ⟨w,ws',rfl,r1,r2⟩:=r.cons_inv;obtain ⟨rfl,f1⟩:=sU e1 r1;obtain ⟨rfl,f2⟩:=kF e2 r2;exact ⟨rfl,by rw [List.all_cons,f1,f2];rfl⟩
theorem HU (neg:Bool):pq K (L3 K neg) (Iv neg):=by
 intro x y H Q dx dy d rx ry e q;obtain ⟨v,e1,e⟩:=oBq.mp e;obtain ⟨ds,e2,e⟩:=oBq.mp e;obtain ⟨vs,e3,e⟩:=oMq.mp e;subst e;obtain ⟨rfl,f1⟩:=sU e1 rx;cases dy with
 | list xs =>
  cases e2;obtain ⟨p,us,rfl,h1,h2⟩:=ry.list_inv;obtain ⟨rfl,f2⟩:=kF e3 h2;exact ⟨p,us,rfl,.inl (eJ.of h1),f1,f2,q _ .bl⟩
 | tup xs =>
  cases e2;obtain ⟨p,us,rfl,h1,h2⟩:=ry.tup_inv;obtain ⟨rfl,f2⟩:=kF e3 h2;exact ⟨p,us,rfl,.inr (oG.of h1),f1,f2,q _ .bl⟩
 | _=>cases e2
theorem C9 {a:ME}(ha:SR K te a):SK K (Bk (fun xs H Q=>∃ a kvs,xs=[V.ref a]/\H a=some (.dK kvs)/\∀ l,H l=none->Q (.ref l) (cK H l (.lst (kvs.map fun p=>kV p.1)))) (gi te ka)) (xr a):=by
 intro H₀ Hf₀ Hf S σ H Fs av S' R e Q q;obtain ⟨z,e1,e⟩:=oBq.mp e;obtain ⟨ds,e2,e⟩:=oMq.mp e;cases e;refine ha R (d:=z.1) (S':=z.2) e1 _ fun Hf1 H1 Fs1 v t1 R1 r1=>?_
 have hz:z.1 = .dict ds:=by
  cases hx:z.1 <;> rw [hx] at e2 <;> simp only [oy] at e2
  all_goals first|(exfalso;simp at e2;done)|skip
  cases e2;rfl
 rw [hz] at r1;obtain ⟨p,kvs,rfl,g1,g2⟩:=r1.dict_inv;refine ⟨p,kvs,rfl,g1,fun l hl=>?_⟩
 obtain ⟨t3,R3,n4,n5,n6⟩:=R1.new (o:=.lst (kvs.map fun p=>kV p.1)) hl
 have e3:ds.map (fun p:bJ×D=>AV.sh (kD p.1))=(ds.map fun p=>kD p.1).map AV.sh:=by rw [mPq];rfl
 rw [e3] at q;refine q _ _ _ (.ref l) [l] (t1.trans t3) R3 (bD.new bb n4 ?_) ((jk.one R1 hl).back t1);have e4:kvs.map (fun p=>kV p.1)=(ds.map fun p=>p.1).map kV:=by rw [g2.1,mPq];rfl
 have e5:(ds.map fun p:bJ×D=>kD p.1)=(ds.map fun p=>p.1).map kD:=by rw [mPq];rfl
 rw [e4,e5];refine ⟨by simp,fun i d v h1 h2=>?_⟩
 rw [gMq] at h1 h2;cases hk:(ds.map fun p:bJ×D=>p.1)[i]? with
 | none=>rw [hk] at h1;cases h1
 | some k=>rw [hk] at h1 h2;cases h1;cases h2;exact Fv k
end
theorem Gh (ns:List Int):qY (ns.map D.int)=some (ns.map V.int):=by
 induction ns with
 | nil=>rfl
 | cons n ns ih=>rw [List.map_cons,qY,ih];rfl
theorem JF (i:Int) (ns:List Int):IP (.int i) (ns.map V.int)=decide (i∈ns):=by
 unfold IP
 induction ns with
 | nil=>rfl
 | cons n ns ih =>
  rw [List.map_cons,List.any_cons,ih];show (n == i || decide (i∈ns))=_
  by_cases h:i=n
  .subst h;simp
  .have h':¬ n=i:=fun z=>h z.symm
   simp [h,h']
end Z
namespace Z
open PySem L2 Mr Xe
def jC (tf:MT) (te:MK) (cap:AS):List (D×D)->Option (List AV)
 | []=>some []
 | d::ds=>(tf (some (.sh d.1)::some (.sh d.2)::cap)).bind fun b=>if b.1=true then (te b.2).bind fun a=>(jC tf te cap ds).map (a.1 :: ·) else jC tf te cap ds
def lU:Nat->List D->List (D×D)
 | _,[]=>[]
 | n,d::ds=>(.int (n:Int),d)::lU (n+1) ds
noncomputable def xS (k:MK) (fr:List Nat) (tf:MT) (te:MK):MK:=fun S=>(gW k S).bind fun y=>(eW (aB y.1)).bind fun ds=>(fzAll fr y.2).bind fun S2=>(ox S2 fr).bind fun cap=>jb (ds.length<=eG) ((jC tf te cap (lU 0 ds)).map fun avs=>(.ow avs,S2))
theorem nV:∀ (ds:List D) (n:Nat),(lU n ds).length=ds.length
 | [],_=>rfl
 | d::ds,n=>by rw [lU,lCq,nV ds (n+1),lCq]
theorem ot:∀ {ds:List D}{n i:Nat}{d:D},ds[i]?=some d->(lU n ds)[i]?=some (.int ((n+i:Nat):Int),d)
 | [],_,_,_,h=>by simp at h
 | x::ds,n,0,d,h=>by cases h;rfl
 | x::ds,n,i+1,d,h=>by
  rw [lU,List.getElem?_cons_succ,ot (n:=n+1) (by simpa using h),show n+1+i=n+(i+1) by lia]
section
variable {K:W.Frag}{H₀ Hf₀ Hf Hf' H H':Hp}{S S':AS}{σ:St}{Fs Fs':List (List Addr)}
theorem yr (R:cm K H₀ Hf₀ Hf S σ H Fs) {fr:List Nat}{cap:AS}(e:ox S fr=some cap) {d d2:D}{x x2:V}(rx:cD K Hf d x) (rx2:cD K Hf d2 x2) :
  cm K H₀ Hf₀ Hf (some (.sh d)::some (.sh d2)::cap) (some x::some x2::slots σ fr) H (List.replicate (cap.length+2) []):=by
 obtain ⟨h1,h2⟩:=qA R e;have fl:=fu (cap.length+2);refine ⟨by simp [slots,h1],by simp,fun i av ei=>?_,fun i ei=>?_,by rw [fl];exact List.nodup_nil,fun p hp=>(by rw [fl] at hp;cases hp),R.sub,R.fr,R.lim,R.sf⟩
 .match i,ei with
  | 0,ei =>
   cases ei;exact ⟨x,[],rfl,by simp,.sh rx⟩
  | 1,ei =>
   cases ei;exact ⟨x2,[],rfl,by simp,.sh rx2⟩
  | k+2,ei =>
   have hk:k<cap.length:=(gSq.mp (by simpa using ei)).1
   obtain ⟨d',v,rfl,s1,r⟩:=h2 k av (by simpa using ei)
   exact ⟨v,[],by simpa using s1,by rw [List.getElem?_replicate,if_pos (by lia)],.sh r⟩
 .rw [List.getElem?_replicate];have hi:=(gSq.mp ei).1;rw [if_pos (by simpa using hi)]
end
section
variable {K:W.Frag}{tf:TT}{te:TE}{mf:MT}{me:MK}{fr:List Nat}
theorem xY {H₀ Hf₀ Hf1 H1:Hp}{S1:AS}{σ:St}{Fs1:List (List Addr)}{cap:AS}{ds:List (D×D)}{avs:List AV}{J:It}{Q:VK}(hf:uy K tf mf) (he:SK K te me)
  (R1:cm K H₀ Hf₀ Hf1 S1 σ H1 Fs1) (ec:ox S1 fr=some cap) (hl:ds.length<=eG) (e:jC mf me cap ds=some avs)
  (hgo:∀ i H,bS Hf1 H->i<ds.length->J.go i H) (mK:∀ H,bS Hf1 H->J.stop ds.length H) (hy:∀ i H x H',bS Hf1 H->i<ds.length->J.yld i H x H'->∃ a v1 v2 d,x = .ref a/\oG K H' a [v1,v2]/\ds[i]?=some d/\cD K Hf1 d.1 v1/\cD K Hf1 d.2 v2/\(H'=H∨∃ o,H a=none/\H'=cK H a o))
  (q:∀ Hf' H' v F,jW Hf1 H1 Fs1 Hf' H' Fs1->cm K H₀ Hf₀ Hf' S1 σ H' Fs1->bD K Hf' H' (.ow avs) v F->jk H₀ H1 Fs1 Fs1 F->Q v H') :
  ∀ acc,H1 acc=none->∃ W:Nat->Nat->Hp->Prop,(∃ m,W 0 m (cK H1 acc (.lst [])))/\∀ i m H,W i m H ->
   (J.stop i H/\Q (.ref acc) H) ∨
   (J.go i H/\∃ N:Hp->Prop,(∀ H',N H'->∃ m',m'<m/\W (i+1) m' H')/\∀ x H',J.yld i H x H'->∀ v0 v1,g2 K x (v0::v1::slots σ fr) H' fun σ2 H1=>(∃ a b,σ2=a::b::slots σ fr)/\tf σ2 H1 fun b H2 =>
    if b=true then te σ2 H2 fun y H3=>∃ ys,H3 acc=some (.lst ys)/\ys.length<sizeLine/\N (cK H3 acc (.lst (ys++[y]))) else N H2):=by
 intro acc hacc;obtain ⟨t0,R0,n1,n2,n3⟩:=R1.new (o:=.lst []) hacc
 let P:Nat->Hp->Prop:=fun i H=>∃ Hf as vs Gs fZ,cm K H₀ Hf₀ Hf S1 σ H Fs1/\jW Hf1 H1 Fs1 Hf H Fs1/\H acc=some (.lst vs)/\Hf acc=none/\bZ K Hf H as vs Gs/\jk H₀ H1 Fs1 Fs1 (acc::Gs.flatten)/\as.length<=i /\
  jC mf me cap (ds.drop i)=some fZ/\avs=as++fZ
 refine ⟨fun i m H=>m=ds.length-i/\i<=ds.length/\P i H,⟨ds.length,by simp,Nat.zero_le _,Hf1,[],[],[],avs,R0,t0,bb,n1,.nil,jk.one R1 hacc,Nat.zero_le _,e,rfl⟩,?_⟩
 rintro i m H ⟨rfl,hi,Hf,as,vs,Gs,fZ,R,t,ha,hfa,ra,ow,la,er,ea⟩;have hs:bS Hf1 H:=t.sf.trans R.sub
 by_cases hlt:i<ds.length
 .refine .inr ⟨hgo i H hs hlt,P (i+1),fun H' p=>⟨ds.length-(i+1),by lia,rfl,hlt,p⟩,fun x H' y=>?_⟩
  intro w0 w1;obtain ⟨a0,u1,u2,d,rfl,hT,hd,rx1,rx2,hH⟩:=hy i H x H' hs hlt y;rw [List.drop_eq_getElem_cons hlt,(gSq.mp hd).2] at er;obtain ⟨b,e1,e2⟩:=oBq.mp er;have fl:=fu (cap.length+2);refine ⟨a0,[u1,u2],rfl,hT,rfl,u1,[u2],rfl,u2,[],rfl,rfl,⟨some u1,some u2,rfl⟩,?_⟩;obtain ⟨R,t,ha,ra⟩:cm K H₀ Hf₀ Hf S1 σ H' Fs1/\jW Hf1 H1 Fs1 Hf H' Fs1/\H' acc=some (.lst vs)/\bZ K Hf H' as vs Gs:=by
   rcases hH with rfl|⟨o,hn,rfl⟩
   .exact ⟨R,t,ha,ra⟩
   .obtain ⟨tn,Rn,m1,m2,m3⟩:=R.new (o:=o) hn;exact ⟨Rn,t.trans tn,tn.sh _ _ ha,ra.stp (fun q hq=>ow.out q (mCo _ hq)) tn⟩
  refine hf (yr R ec (rx1.mono t.sf) (rx2.mono t.sf)) (b:=b.1) (S':=b.2) e1 _ fun Hf2 H2 Fs2 t2 R2=>?_
  obtain ⟨t2',R2'⟩:=R.outer R2 t2 fl;have ha2:H2 acc=some (.lst vs):=t2.sh _ _ ha;have hfa2:Hf2 acc=none:=by
   by_cases z:Hf2 acc=none
   .exact z
   .rcases t2.gr acc hfa z with z|z
    .rw [ha] at z;cases z
    .rw [fl] at z;cases z
  have ra2:=ra.stp (fun q hq=>ow.out q (mCo _ hq)) t2'
  split at e2
  .rename_i hb;rw [hb];refine wI ?_;obtain ⟨a,e3,e4⟩:=oBq.mp e2;obtain ⟨rest',e5,e6⟩:=oMq.mp e4;subst e6;refine he R2 (a:=a.1) (S':=a.2) e3 _ fun Hf3 H3 Fs3 v F t3 R3 r3 o3=>?_
   have fl2:Fs2.flatten=[]:=by
    cases hz:Fs2.flatten with
    | nil=>rfl
    | cons z zs =>
     have:=t2.own z (by rw [hz];simp)
     rw [fl] at this;cases this
   obtain ⟨t3',R3'⟩:=R2'.outer R3 t3 fl2;have ha3:H3 acc=some (.lst vs):=t3.sh _ _ ha2;have hfa3:Hf3 acc=none:=by
    by_cases z:Hf3 acc=none
    .exact z
    .rcases t3.gr acc hfa2 z with z|z
     .rw [ha2] at z;cases z
     .rw [fl2] at z;cases z
   have ra3:=ra2.stp (fun q hq=>ow.out q (mCo _ hq)) t3'
   have newF:∀ q∈F,H2 q=none:=fun q hq=>(o3.new q hq).elim id fun z=>by rw [fl2] at z;cases z
   have accF:acc∉F:=fun m=>by rw [newF acc m] at ha2;cases ha2
   have accG:acc∉Gs.flatten:=(List.nodup_cons.mp ow.nd).1;have tt:=(t.trans t2').trans t3';refine ⟨vs,ha3,?_,?_⟩
   .rw [gw,← ra.1];lia
   .refine ⟨Hf3,as++[a.1],vs++[v],Gs++[F],rest',R3'.updOut n3 hfa3 n2,⟨tt.sf,fun b o eb=>?_,fun _ h=>h,tt.gr⟩,bb,hfa3,(ra3.keepUpd accG).snoc (r3.keepUpd accF),?_,by rw [lAq,lSq];lia,e5,by rw [ea];simp⟩
    .rw [aR fun z=>by rw [z,hacc] at eb;cases eb]
     exact tt.sh b o eb
    .rw [fAq,List.flatten_singleton];have oF:jk H₀ H1 Fs1 Fs1 F:=⟨o3.nd,o3.fr,fun q hq m=>(R2'.mem m).1 (newF q hq),fun q hq=>.inl ((t.trans t2').sh.free (newF q hq))⟩
     refine (show jk H₀ H1 Fs1 Fs1 ((acc::Gs.flatten)++F) from ow.app oF fun q hq m=>?_)
     rcases List.mem_cons.mp hq with z|z
     .rw [z] at m;exact accF m
     .exact (ra2.owned q z).1 (newF q m)
  .rename_i hb;rw [Bool.not_eq_true] at hb;rw [hb];exact wJ ⟨Hf2,as,vs,Gs,fZ,R2',t.trans t2',ha2,hfa2,ra2,ow,by lia,e2,ea⟩
 .have e0:i=ds.length:=by lia
  subst e0;rw [List.drop_length] at er;cases er;rw [aNq] at ea;subst ea;exact .inl ⟨mK H hs,q Hf H (.ref acc) _ t R (bD.news ha hfa ra) ow⟩
theorem By {tl:TE}{k:MK}(hk:SK K tl k) (hf:uy K tf mf) (he:SK K te me):SK K (BV K (Bu K (gi tl ka)) fr tf te) (xS k fr mf me):=by
 intro H₀ Hf₀ Hf S σ H Fs av S' R e Q q;obtain ⟨z,e0,e⟩:=oBq.mp e;obtain ⟨ds,e2,e⟩:=oBq.mp e;obtain ⟨S2,e3,e⟩:=oBq.mp e;obtain ⟨cap,e4,e⟩:=oBq.mp e;rcases bh e with ⟨hl,e⟩|e
 .obtain ⟨avs,e5,e⟩:=oMq.mp e;cases e;have hk':SK K tl (gW k):=SK.frz hk;refine hk' R (a:=z.1) (S':=z.2) e0 _ fun Hf1 H1 Fs1 v F t1 R1 r1 o1=>?_
  obtain ⟨d,hd⟩:=mT (te:=tl) e0;rw [hd] at r1;rw [hd,bK] at e2;obtain ⟨Hf2,Fs2,t2,R2⟩:=R1.fzAll e3;obtain ⟨a,vs,rfl,g1,g2⟩:=kS e2 (r1.sh_inv.2.mono t2.sf);have hlen:=nV ds 0;refine ⟨a,rfl,⟨vs,R2.sub.seq g1⟩,xY (K:=K) hf he R2 e4 (by rw [hlen];exact hl) e5 (fun i H s hi=>⟨vs,vs[i]'(g2.1 ▸ hlen ▸ hi),s.seq g1,gEg (g2.1 ▸ hlen ▸ hi)⟩) (fun H s=>⟨vs,s.seq g1,Nat.le_of_eq (by rw [hlen];exact g2.1.symm)⟩) (fun i H x H' s hi y=>?_) fun Hf' H' v F t R' r o=>q _ _ _ v F ((t1.trans t2).trans t) R' r (o.back (t1.trans t2))⟩
  obtain ⟨T,x',hT,rfl,rfl,hx⟩:=y;obtain ⟨di,h1,h2⟩:=g2.get' (hx vs (s.seq g1));have hE:=ot (n:=0) h1;rw [Nat.zero_add] at hE;exact ⟨T,.int i,x',_,rfl,oG.of bb,hE,.int,h2,.inr ⟨_,hT,rfl⟩⟩
 .cases e
end
theorem Ej (S:AS) (k:MK) (fr:List Nat) (tf:MT) (te:MK):xS k fr tf te S=(gW k S).bind fun y=>(eW (aB y.1)).bind fun ds=>(fzAll fr y.2).bind fun S2=>(ox S2 fr).bind fun cap=>jb (ds.length<=eG) ((jC tf te cap (lU 0 ds)).map fun avs=>(.ow avs,S2)):=rfl
theorem tK {te:MK}{cap:AS}(g:D×D->AV):∀ {ds:List (D×D)},(∀ d∈ds,∃ S',te (some (.sh d.1)::some (.sh d.2)::cap)=some (g d,S'))->jC iR te cap ds=some (ds.map g)
 | [],_=>rfl
 | d::ds,h=>by
  obtain ⟨S',e⟩:=h d (by simp)
  show ((iR _).bind _)=_;rw [show iR (some (.sh d.1)::some (.sh d.2)::cap)=some (true,some (.sh d.1)::some (.sh d.2)::cap) from rfl,Option.bind_some,if_pos rfl,e,Option.bind_some,tK g fun x hx=>h x (by simp [hx])]
  rfl
def Nb:=@Ej
end Z
namespace Z
open PySem L2 Mr Xe
def oM:D->D->Option D
 | .non,.non=>some (.bl false)
 | .int _,.non=>some (.bl true)
 | .str _,.non=>some (.bl true)
 | .bl _,.non=>some (.bl true)
 | .list _,.non=>some (.bl true)
 | .tup _,.non=>some (.bl true)
 | _,_=>none
section
variable {K:W.Frag}
theorem yV:pq K (fun x y H Q=>y = .non/\Q (.bl (!decide (x = .non))) H) oM:=by
 intro x y H Q dx dy d rx ry e q;unfold oM at e;split at e
 all_goals first|(cases e;done)|skip
 .cases e;cases rx;cases ry;exact ⟨rfl,q _ (by simpa using cD.bl)⟩
 .cases e;cases rx;cases ry;exact ⟨rfl,q _ (by simpa using cD.bl)⟩
 .cases e;cases rx;cases ry;exact ⟨rfl,q _ (by simpa using cD.bl)⟩
 .cases e;cases rx;cases ry;exact ⟨rfl,q _ (by simpa using cD.bl)⟩
 .cases e;cases ry;obtain ⟨p,vs,rfl,_⟩:=rx.list_inv;exact ⟨rfl,q _ (by simpa using cD.bl)⟩
 .cases e;cases ry;obtain ⟨p,vs,rfl,_⟩:=rx.tup_inv;exact ⟨rfl,q _ (by simpa using cD.bl)⟩
end
theorem kU:oM .non .non=some (.bl false):=rfl
def Nc:=@kU
end Z
namespace Z
open PySem L2 Mr Xe
section
variable {K:W.Frag}{H₀ Hf₀ Hf Hf' H H':Hp}{S S':AS}{σ σ':St}{Fs Fs':List (List Addr)}
theorem xu.same (s:bS H H'):∀ {path:List Nat}{v w:V},xu H v path w->xu H' v path w
 | [],v,w,h=>h
 | j::js,v,w,⟨p,vs,u,h1,h2,h3,h4⟩=>⟨p,vs,u,h1,s _ _ h2,h3,xu.same s h4⟩
theorem xu.one:∀ {path:List Nat}{v w w':V},xu H v path w->xu H v path w'->w=w'
 | [],v,w,w',h,h'=>h.symm.trans h'
 | j::js,v,w,w',hz,hy=>by
  obtain ⟨p,vs,u,h1,h2,h3,h4⟩:=hz;obtain ⟨p',vs',u',g1,g2,g3,g4⟩:=hy;rw [h1] at g1;cases g1;rw [h2] at g2;cases g2;rw [h3] at g3;cases g3;exact h4.one g4
theorem xu.snoc:∀ {path:List Nat}{v:V}{p:Addr}{vs:List V}{n:Nat}{u:V},xu H v path (.ref p)->H p=some (.lst vs)->vs[n]?=some u->xu H v (path++[n]) u
 | [],v,p,vs,n,u,h,h1,h2=>⟨p,vs,u,h,h1,h2,rfl⟩
 | j::js,v,p,vs,n,u,⟨p',vs',u',g1,g2,g3,g4⟩,h1,h2=>⟨p',vs',u',g1,g2,g3,g4.snoc h1 h2⟩
end
abbrev MP:=AS->Option (List Nat×AS)
def uz (i:Nat):MP:=fun S=>(dk S i).map fun _=>([],S)
noncomputable def Im (i:Nat) (pf:MP) (b:ME):MP:=fun S=>(pf S).bind fun x=>(b x.2).bind fun y=>(intOf y.1).bind fun j=>(dk y.2 i).bind fun avs=>(cQ (.ow avs) x.1).bind fun as=>(uq as.length j).map fun n=>(x.1++[n],y.2)
def KR (K:W.Frag) (i:Nat) (te:TE) (pf:MP):Prop:=∀ {H₀ Hf₀ Hf:Hp}{S:AS}{σ:St}{H:Hp}{Fs:List (List Addr)}{path:List Nat}{S':AS},cm K H₀ Hf₀ Hf S σ H Fs->pf S=some (path,S')->∀ Q:VK,
 (∀ Hf' H' Fs' v w,jW Hf H Fs Hf' H' Fs'->cm K H₀ Hf₀ Hf' S' σ H' Fs'->σ[i]?=some (some v)->xu H' v path w->Q w H')->te σ H Q
section
variable {K:W.Frag}
theorem yC (i:Nat):KR K i (lF i) (uz i):=by
 intro H₀ Hf₀ Hf S σ H Fs path S' R e Q q;obtain ⟨avs,e1,e⟩:=oMq.mp e;cases e;obtain ⟨p,vs,Gs,s1,_⟩:=R.ow (cf e1);exact ⟨_,s1,q _ _ _ _ _ .refl R s1 rfl⟩
theorem yF {H₀ Hf₀ Hf H:Hp}{S:AS}{σ:St}{Fs:List (List Addr)}{i:Nat}{avs as:List AV}{path:List Nat}{v w:V}(R:cm K H₀ Hf₀ Hf S σ H Fs) (e:S[i]?=some (some (.ow avs))) (s1:σ[i]?=some (some v)) (en:cQ (.ow avs) path=some as) (h:xu H v path w) :
  ∃ p vs,w = .ref p/\H p=some (.lst vs)/\vs.length=as.length:=by
 obtain ⟨v',F,t1,t2,r,nd,_⟩:=R.move e;rw [s1] at t1;cases t1;obtain ⟨p,vs,Gs,g1,g2,g3,g4,_⟩:=r.path nd en;exact ⟨p,vs,h.one g1,g2,g4.1.symm⟩
theorem Cc {i:Nat}{te tb:TE}{pf:MP}{b:ME}(hp:KR K i te pf) (hb:SR K tb b):KR K i (DY (Fo K) te tb) (Im i pf b):=by
 intro H₀ Hf₀ Hf S σ H Fs path S' R e Q q;obtain ⟨x,e1,e⟩:=oBq.mp e;obtain ⟨y,e2,e⟩:=oBq.mp e;obtain ⟨j,e3,e⟩:=oBq.mp e;obtain ⟨avs,e4,e⟩:=oBq.mp e;obtain ⟨as,e5,e⟩:=oBq.mp e;obtain ⟨n,e6,e⟩:=oMq.mp e;cases e;refine hp R (path:=x.1) (S':=x.2) e1 _ fun Hf1 H1 Fs1 v w t1 R1 s1 a1=>hb R1 (d:=y.1) (S':=y.2) e2 _ fun Hf2 H2 Fs2 u t2 R2 r2=>?_
 have hy:y.1 = .int j:=by
  cases hx:y.1 <;> rw [hx] at e3 <;> first|(cases e3;rfl)|cases e3
 rw [hy] at r2;cases r2;have a2:=a1.same t2.sh;obtain ⟨p,vs,rfl,h1,h2⟩:=yF R2 (cf e4) s1 e5 a2;have hix:=e6;obtain ⟨_,hn,_⟩:=uJ e6;have hn':n<vs.length:=by rw [h2];exact hn
 obtain ⟨u,hv⟩:∃ u,vs[n]?=some u:=⟨_,gEg hn'⟩;refine ⟨p,vs,j,u,rfl,rfl,eJ.of h1,?_,q _ _ _ v _ (t1.trans t2) R2 s1 (a2.snoc h1 hv)⟩;unfold atI;rw [h2,e6];exact hv
end
end Z
namespace Z
open PySem L2 Mr Xe
theorem vG (avs:List AV) (j:Nat) (js:List Nat):cQ (.ow avs) (j::js)=(avs[j]?).bind fun a=>cQ a js:=rfl
theorem yt {avs:List AV}{j:Nat}{js:List Nat}{as:List AV}{a:AV}(h:avs[j]?=some a):putAt (.ow avs) (j::js) as = .ow (avs.set j (putAt a js as)):=by
 show (match avs[j]? with|some a=>_|none=>_)=_
 rw [h]
end Z
namespace Z
open PySem L2 Mr Xe
end Z
namespace Z
open PySem L2 Mr Xe
end Z
namespace Mr
open PySem PySem.Spec PyProof.Rows L2
end Mr
namespace Z
open PySem L2 Mr
end Z
namespace Xe
open PySem PySem.Spec PySem.W PyProof.Rows L2 Mr
end Xe
namespace Z
open PySem L2 Mr Xe
end Z
namespace HT
open PySem PyProof.Rows
open PySem.SeqAt
open PySem.AutoSeq1 (wpAny_loadPart')
open PySem.MeetsSeq PySem.MeetsSeq2 PySem.MeetsSeq3
end HT
namespace Mr
open PySem PySem.Spec PyProof.Rows L2
end Mr
namespace Z
open PySem L2 Mr
end Z
namespace Z
open PySem L2 Mr
end Z
namespace Z
open PySem L2 Mr Xe
end Z
namespace Xe
open PySem PySem.Spec PySem.W PyProof.Rows L2 Mr
end Xe
namespace Z
open PySem L2 Mr Xe
end Z
namespace Z
open PySem L2 Mr Xe
end Z
namespace Z
open PySem L2 Mr Xe
end Z
namespace Mr
open PySem PySem.Spec PySem.W PyProof.Rows L2 HT
end Mr
namespace Z
open PySem L2 Mr Xe
end Z
namespace Z
open PySem PySem.Spec PySem.W PyProof.Rows L2 Mr Xe
end Z
namespace Mr
open PySem L2
open PySem.Spec PyProof.Rows
end Mr
namespace Z
open PySem L2 Mr Xe
noncomputable def ES (f:D->D->Option D) (m b:ME):ME:=fun S=>(m S).bind fun x=>(b x.2).bind fun y=>(f x.1 y.1).bind fun d=>if d.scal then some (d,y.2) else none
noncomputable def HL (i:Nat) (g:Int->Int->Int) (b:ME):MS:=fun S=>(ai i S).bind fun x=>(intOf x.1).bind fun a=>(b x.2).bind fun y=>(intOf y.1).map fun c=>.nx (y.2.set i (some (.sh (.int (g a c)))))
noncomputable def LP (i:Nat) (pf:MP) (mm:ME):MS:=fun S=>(pf S).bind fun x=>(dk x.2 i).bind fun avs=>(cQ (.ow avs) x.1).bind fun as=>(mm (x.2.set i none)).bind fun y=>jb (y.2[i]?=some none/\as.length<eG) (some (.nx (y.2.set i (some (putAt (.ow avs) x.1 (as++[.sh y.1]))))))
def LZ (g:MF) (f:J2) (a:MA):MX:=fun S=>(a S).bind fun x=>(f (x.1.map aB)).bind (IY fun r=>(g [aB r]).map fun z=>.ok (.rt z))
section
variable {K:W.Frag}
theorem wH {d:D}{z:Int}(h:intOf d=some z):d = .int z:=by
 cases d <;> first|(cases h;rfl)|cases h
theorem JD {r:R2}{f:D->D->Option D}{ta tb:TE}{m b:ME}(hr:pq K r f) (ha:SM K ta m) (hb:SR K tb b):SM K (DY r ta tb) (ES f m b):=by
 intro H₀ Hf₀ Hf S σ H Fs d S' R e Q q;obtain ⟨x,e1,e⟩:=oBq.mp e;obtain ⟨y,e2,e⟩:=oBq.mp e;obtain ⟨z,e3,e⟩:=oBq.mp e;split at e
 .rename_i hs;cases e;refine ha R (d:=x.1) (S':=x.2) e1 _ fun Hf1 H1 Fs1 v1 t1 R1 r1=>hb R1 (d:=y.1) (S':=y.2) e2 _ fun Hf2 H2 Fs2 v2 t2 R2 r2=>?_
  exact hr ((r1.mono R1.sub).mono t2.sh) r2 e3 fun v rv=>q _ _ _ v (t1.trans t2.sf) R2 (rv.scal hs)
 .cases e
theorem GV {i:Nat}{g:Int->Int->Int}{te:TE}{b:ME}(hb:SR K te b):SS K (Kv i te (Lz g)) (HL i g b):=by
 intro H₀ Hf₀ Hf S σ H Fs o R e D hd;obtain ⟨x,e1,e⟩:=oBq.mp e;obtain ⟨a,e2,e⟩:=oBq.mp e;obtain ⟨y,e3,e⟩:=oBq.mp e;obtain ⟨c,e4,e⟩:=oMq.mp e;cases e;refine ae i R (d:=x.1) (S':=x.2) e1 (fun v H1=>te σ H1 fun w H2=>Lz g v w H2 fun z H3=>D.nx (σ.set i (some z)) H3) fun Hf1 H1 Fs1 v t1 R1 r1=>?_
 refine hb R1 (d:=y.1) (S':=y.2) e3 _ fun Hf2 H2 Fs2 w t2 R2 r2=>?_
 rw [wH e2] at r1;rw [wH e4] at r2;cases r1;cases r2;exact ⟨a,c,rfl,rfl,hd _ _ _ _ (t1.sf.trans t2.sf) (R2.setD i .int)⟩
end
theorem Km (S:AS) (f:D->D->Option D) (m b:ME):ES f m b S=(m S).bind fun x=>(b x.2).bind fun y=>(f x.1 y.1).bind fun d=>if d.scal then some (d,y.2) else none:=rfl
theorem JL (S:AS) (i:Nat) (g:Int->Int->Int) (b:ME):HL i g b S=(ai i S).bind fun x=>(intOf x.1).bind fun a=>(b x.2).bind fun y=>(intOf y.1).map fun c=>.nx (y.2.set i (some (.sh (.int (g a c))))):=rfl
def MJ:=And.intro @Km @JL
def Ng:=And.intro zq (And.intro Nf (And.intro M8 (And.intro Nb (And.intro Nc (MJ)))))
end Z
local macro_rules | `(tactic| simp_arith [$ls,*]) => `(tactic| simp -implicitDefEqProofs only [Z.Ng,Nat.reduceAdd,Nat.reduceSub,Nat.reduceEqDiff,Nat.reduceLeDiff,List.reduceReplicate,↓reduceIte,reduceCtorEq,$ls,*])
namespace Z
open PySem PySem.Spec PySem.W PyProof.Rows L2 Mr Xe
end Z
namespace Z
open PySem L2 Mr Xe
end Z
namespace Z
open PySem L2 Mr Xe
end Z
namespace HT
open PySem PyProof.Rows
open PySem.SeqAt
open PySem.AutoSeq1 (wpAny_loadPart')
open PySem.MeetsSeq PySem.MeetsSeq2 PySem.MeetsSeq3
end HT
namespace HT
open PySem PyProof.Rows
open PySem.SeqAt
end HT
namespace HT
open PySem PyProof.Rows
open PySem.SeqAt
end HT
namespace HT
open PySem PyProof.Rows
end HT
namespace Mr
open PySem L2
open PySem.Spec PyProof.Rows
end Mr
namespace Z
open PySem L2 Mr Xe
end Z
namespace Z
open PySem L2 Mr Xe
section
variable {K:W.Frag}{H₀ Hf₀ Hf H:Hp}{S:AS}{σ:St}{Fs:List (List Addr)}
theorem cm.insP {i:Nat}{avs as:List AV}{path:List Nat}{v:V}{p:Addr}(R:cm K H₀ Hf₀ Hf S σ H Fs) (e:S[i]?=some (some (.ow avs))) (s1:σ[i]?=some (some v)) (en:cQ (.ow avs) path=some as) (h:xu H v path (.ref p)) :
  ∃ vs,H p=some (.lst vs)/\as.length=vs.length/\cD K H (aB (.ow as)) (.ref p)/\∀ (d:D) (w:V) (n:Nat),n<=as.length->cD K Hf d w ->
   ∃ Fs',cm K H₀ Hf₀ Hf (S.set i (some (putAt (.ow avs) path (as.take n ++ .sh d::as.drop n)))) σ (cK H p (.lst (vs.take n++w::vs.drop n))) Fs':=by
 obtain ⟨v',F,t1,t2,r,nd,oo,_⟩:=R.move e;rw [s1] at t1;cases t1;obtain ⟨p',vs,Es,g1,g2,g3,g4,g5,g6,g6',g7,g8⟩:=r.path nd en;have hpp:V.ref p=V.ref p':=h.one g1;cases hpp;refine ⟨vs,g2,g4.1,(bD.news g2 g3 g4).rep R.sub,fun d w n hn rd=>?_⟩
 have hfl:(Es.take n++[]::Es.drop n).flatten=Es.flatten:=by
  rw [fAq,fCq,List.nil_append,← fAq,List.take_append_drop]
 obtain ⟨F',k1,k2,k3⟩:=g8 (as.take n ++ .sh d::as.drop n) (vs.take n++w::vs.drop n) (Es.take n++[]::Es.drop n) ((g4.ins rd n hn).keepUpd (by rw [hfl];exact g6)) (by
  rw [hfl];exact List.nodup_cons.mpr ⟨g6,g6'⟩) (fun q hq=>by
  rw [hfl] at hq;exact .inl hq)
 refine ⟨_,R.turnAny s1 t2 g5 k1 k2 fun q hq=>?_⟩
 rcases k3 q hq with z|z
 .exact oo q z
 .rw [hfl] at z;exact oo q (g7 q z)
end
end Z
namespace Mr
open PySem PySem.Calls PySem.Spec PyProof.Rows L2
end Mr
namespace Z
open PySem L2 Mr Xe
end Z
namespace Mr
open PySem PySem.Spec PyProof.Rows L2
end Mr
namespace Mr
open PySem PySem.Spec PyProof.Rows L2
theorem Ar (a v:Value):argsOk "min" ⟨[a],[(Str.ofString "default", v)]⟩:=by unfold argsOk;kernel_rfl
section
variable {P:Program}{w:World}{A:Around}{R:Result->Shared->Prop}{l I S:Addr}{vs:List Value}{ns:List Int}{d:Value}
theorem Bd (hh:A.handled=none) (hi:IntsAre vs ns) (hlI:l≠I) (hSI:S≠I) (hSl:S≠l):∀ (k j:Nat) (z:Shared) (M:Int) (t:Tok) (c:Nat),vs.length-j=k->0<j->j<=vs.length->z.heap.IsListIter I l j->z.heap.IsList l vs.toArray->M∈ns->(∀ x∈ns.take j,M<=x) ->
  z.heap.get? S=some { cls:=.type "list", dict:=none,data:=.seq #[.int M t,.int M t] c,slots:=#[] } ->
  (∀ M t h' tk,M∈ns->(∀ x∈ns,M<=x)->(∀ b o,b≠I->b≠S->z.heap.get? b=some o->h'.get? b=some o)->R (.ok (.ret (.int M t))) { z with heap:=h',toks:=tk }) ->
  codeAny (model P w) A (.builtin "min.loop" ⟨[.ref I,.none,.ref S],[(Str.ofString "default", d)]⟩) R z:=by
 have nm:(toString "min" ++ toString ".loop" : String) = "min.loop" := by decide
 have W:=Walks.list (prog:=P) (w:=w) (A:=A.in1) hh I l hlI vs.toArray;have vl:vs.toArray.size=vs.length:=List.size_toArray ..;have hln:=hi.length;intro k
 induction k with
 | zero =>
  intro j z M t c hk h0 hj mK hL hM hb hS hR;have hjn:j=vs.toArray.size:=by rw [vl];lia
  refine codeAny_builtin PySem.F.entry_min_loop ?_;rw [Around.under_plainId PySem.F.plain_min_loop _];show wpAny _ A.in1 (seqItems? (.ref S) >>= _) _ _ z;refine wpAny_bind (wpAny_seqItems hS rfl ?_);show wpAny _ A.in1 (tryCatch (pyNext (.ref I)) _ >>= _) _ _ z;refine wpAny_bind (wpAny_tryCatch (W.done z _ _ ⟨hjn ▸ mK,hL⟩ fun h' tk kp=>?_))
  have hS':=kp S _ (by simpa using hSI) hS
  show wpAny _ A.in1 (updateSeq S (fun _=>#[]) >>= _) _ _ _
  refine wpAny_bind ?_;refine wpAny_updateSeq hS' rfl (wpAny_bind (wpAny_letGo (wpAny_pure ?_)));refine hR M t _ tk hM (fun x hx=>hb x ?_) fun b o nI nS e=>(Heap.get?_update_other _ _ (Ne.symm nS)).trans (kp b o (by simpa using nI) e)
  rw [List.take_of_length_le (by lia)]
  exact hx
 | succ k ih =>
  intro j z M t c hk h0 hj mK hL hM hb hS hR;have hlt:j<vs.toArray.size:=by rw [vl];lia
  have hjv:j<vs.length:=by lia
  refine codeAny_builtin PySem.F.entry_min_loop ?_;rw [Around.under_plainId PySem.F.plain_min_loop _];show wpAny _ A.in1 (seqItems? (.ref S) >>= _) _ _ z;refine wpAny_bind (wpAny_seqItems hS rfl ?_);show wpAny _ A.in1 (tryCatch (pyNext (.ref I)) _ >>= _) _ _ z;refine wpAny_bind (wpAny_tryCatch (W.item j z _ _ hlt ⟨mK,hL⟩ fun v h' tk hP mI kp=>?_))
  have hS':=kp S _ (by simpa using hSI) hS
  obtain ⟨n,hn⟩:∃ n,ns[j]?=some n:=⟨_,gEg (by lia)⟩
  obtain ⟨u,hu⟩:=hi.get j n hn;have hv:vs[j]?=some v:=by simpa using hP
  rw [hu] at hv;cases hv;have ht:ns.take (j+1)=ns.take j++[n]:=by rw [List.take_add_one,hn];rfl
  show wpAny _ A.in1 (tryCatch (holding [.int n u,.int n u] (richCompare .Lt (.int n u) (.int M t) >>= _)) _ >>= _) _ _ _;refine wpAny_bind (wpAny_tryCatch (wpAny_holding (wpAny_bind (CmpOf.ints_lt (prog:=P) (w:=w) (A:=A.in1) (P:=fun i v=>∃ t,v = .int (if i=0 then n else M) t) (fun i=>if i=0 then n else M) (fun i v h=>h) 0 1 _ _ _ _ _ ⟨u,rfl⟩ ⟨t,rfl⟩ ?_))))
  refine wpAny_bind (wpAny_holding (wpAny_truthy_bool ?_));refine wpAny_bind (wpAny_letGo (wpAny_pure ?_))
  by_cases g:n<M
  .show wpAny _ _ (if decide (n<M)=true then _ else _) _ _ _
   rw [decide_eq_true g,if_pos rfl];refine wpAny_bind ?_;refine wpAny_updateSeq hS' rfl (wpAny_bind (wpAny_letGo ?_));rw [nm];have sb:=Heap.SameBut.update h' S (Obj.mapSeq fun _=>#[.int n u,.int n u])
   refine wpAny_pure ⟨plainId_quiet PySem.F.plain_min_loop _,ih (j+1) _ n u _ (by lia) (by lia) (by lia) (mI.1.extBut sb.extBut (Ne.symm hSI)) (mI.2.extBut sb.extBut (Ne.symm hSl)) (mGq hn) (fun x hx=>?_) (Heap.get?_update_self _ hS' rfl) fun M' t' h2 tk2 m1 m2 kp2=>hR M' t' h2 tk2 m1 m2 fun b o nI nS e=>kp2 b o nI nS ((Heap.get?_update_other _ _ (Ne.symm nS)).trans (kp b o (by simpa using nI) e))⟩
   rw [ht] at hx;rcases mAq.mp hx with y|y
   .have:=hb x y;lia
   .rw [mSq.mp y];lia
  .show wpAny _ _ (if decide (n<M)=true then _ else _) _ _ _
   rw [decide_eq_false g,if_neg Bool.false_ne_true];refine wpAny_bind (wpAny_letGo ?_);rw [nm];refine wpAny_pure ⟨plainId_quiet PySem.F.plain_min_loop _,ih (j+1) _ M t c (by lia) (by lia) (by lia) mI.1 mI.2 hM (fun x hx=>?_) hS' fun M' t' h2 tk2 m1 m2 kp2=>hR M' t' h2 tk2 m1 m2 fun b o nI nS e=>kp2 b o nI nS (kp b o (by simpa using nI) e)⟩
   rw [ht] at hx;rcases mAq.mp hx with y|y
   .exact hb x y
   .rw [mSq.mp y];lia
theorem zV {E:Value->Shared->Prop}{Q:Value->Shared->Prop}{s:Shared}(hh:A.handled=none) (hl:s.heap.IsList l vs.toArray) (hi:IntsAre vs ns) (h0:ns=[]->∀ h' tk,(∀ b o,s.heap.get? b=some o->h'.get? b=some o)->Q d { s with heap:=h',toks:=tk })
  (h1:∀ M t h' tk,M∈ns->(∀ x∈ns,M<=x)->(∀ b o,s.heap.get? b=some o->h'.get? b=some o)->Q (.int M t) { s with heap:=h',toks:=tk }) :
  wpAny (model P w) A (call (.builtin "min") [.ref l] [(Str.ofString "default", d)]) Q E s:=by
 have nm:(toString "min" ++ toString ".loop" : String) = "min.loop" := by decide
 have hlt:l<s.heap.objs.size:=by obtain ⟨_,e,_⟩:=hl;exact Heap.lt_size e
 have vl:vs.toArray.size=vs.length:=List.size_toArray ..;have hln:=hi.length;refine kmk_tree PySem.F.kind_min PySem.F.plain_min PySem.F.entry_min (Ar _ _) ?_;show wpAny _ A.in1 (Builtin.Builtins.bindParams "min" ["key", "default"] 0 ⟨[],[(Str.ofString "default", d)]⟩ >>= _) _ _ s;refine wpAny_bind (wpAny_of_eq (show Builtin.Builtins.bindParams "min" ["key", "default"] 0 ⟨[],[(Str.ofString "default", d)]⟩=pure [none,some d] from rfl) ?_)
 refine wpAny_bind (wpAny_pure ?_);refine wpAny_bind (wpAny_pyIter_list hl ?_);refine wpAny_bind (wpAny_newList ?_ (Nat.zero_le _));rw [nm];generalize hg1:s.heap.push { cls:=.type "list_iterator", data:=.fields #[.ref l,.int 0 0] }=g1;have z1:g1.objs.size=s.heap.objs.size+1:=by rw [← hg1];exact Heap.size_push ..
 have k1:∀ b o,s.heap.get? b=some o->g1.get? b=some o:=fun b o e=>by rw [← hg1];exact Heap.get?_push_of_some _ e
 have it1:g1.IsListIter s.heap.objs.size l 0:=by rw [← hg1];exact ⟨_,Heap.get?_push_size _ rfl,rfl,rfl⟩
 have hl1:g1.IsList l vs.toArray:=hl.at fun o e=>k1 l o e
 generalize hg2:g1.push (seqObj "list" #[] 0)=g2;have k2:∀ b o,g1.get? b=some o->g2.get? b=some o:=fun b o e=>by rw [← hg2];exact Heap.get?_push_of_some _ e
 have hS:g2.get? g1.objs.size=some { cls:=.type "list", dict:=none,data:=.seq #[] 0,slots:=#[] }:=by rw [← hg2];exact Heap.get?_push_size _ rfl
 have it2:g2.IsListIter s.heap.objs.size l 0:=it1.at fun o e=>k2 _ o e
 have hl2:g2.IsList l vs.toArray:=hl1.at fun o e=>k2 l o e
 have hlI:l≠s.heap.objs.size:=Nat.ne_of_lt hlt;have hSI:g1.objs.size≠s.heap.objs.size:=by rw [z1];exact Nat.succ_ne_self _
 have hSl:g1.objs.size≠l:=by rw [z1];exact Nat.ne_of_gt (Nat.lt_succ_of_lt hlt)
 have old:∀ b o,s.heap.get? b=some o->b≠s.heap.objs.size/\b≠g1.objs.size:=fun b o e=>by
  have:=Heap.lt_size e;rw [z1];exact ⟨Nat.ne_of_lt this,Nat.ne_of_lt (Nat.lt_succ_of_lt this)⟩
 have W:=Walks.list (prog:=P) (w:=w) (A:=A.in1) hh s.heap.objs.size l hlI vs.toArray;refine wpAny_pure ⟨plainId_quiet PySem.F.plain_min_loop _,codeAny_builtin PySem.F.entry_min_loop ?_⟩;rw [Around.under_plainId PySem.F.plain_min_loop _];show wpAny _ A.in1 (seqItems? (.ref g1.objs.size) >>= _) _ _ _;refine wpAny_bind (wpAny_seqItems hS rfl ?_);show wpAny _ A.in1 (tryCatch (pyNext (.ref s.heap.objs.size)) _ >>= _) _ _ _;cases hns:ns with
 | nil =>
  have hv0:vs.toArray.size=0:=by rw [vl,hln,hns];rfl
  refine wpAny_bind (wpAny_tryCatch (W.done _ _ _ ⟨hv0 ▸ it2,hl2⟩ fun h' tk kp=>?_))
  refine wpAny_bind (wpAny_rule (wpAny_pure ?_));exact h0 hns h' tk fun b o e=>kp b o (by simpa using (old b o e).1) (k2 b o (k1 b o e))
 | cons n r =>
  have hv0:0<vs.toArray.size:=by rw [vl,hln,hns];simp
  refine wpAny_bind (wpAny_tryCatch (W.item 0 _ _ _ hv0 ⟨it2,hl2⟩ fun v h' tk hP mI kp=>?_))
  have hS':=kp _ _ (by simpa using hSI) hS
  have hn:ns[0]?=some n:=by rw [hns];rfl
  obtain ⟨u,hu⟩:=hi.get 0 n hn;have hv:vs[0]?=some v:=by simpa using hP
  rw [hu] at hv;cases hv;show wpAny _ A.in1 (updateSeq g1.objs.size (fun _=>#[.int n u,.int n u]) >>= _) _ _ _
  refine wpAny_bind ?_;refine wpAny_updateSeq hS' rfl ?_;rw [nm];have sb:=Heap.SameBut.update h' g1.objs.size (Obj.mapSeq fun _=>#[.int n u,.int n u])
  refine wpAny_pure ⟨plainId_quiet PySem.F.plain_min_loop _,Bd hh hi hlI hSI hSl _ 1 _ n u _ rfl (by lia) (by rw [← vl];exact hv0) (mI.1.extBut sb.extBut (Ne.symm hSI)) (mI.2.extBut sb.extBut (Ne.symm hSl)) (mGq hn) (fun x hx=>?_) (Heap.get?_update_self _ hS' rfl) fun M t h2 tk2 m1 m2 kp2=>?_⟩
  .rw [hns] at hx;have:x=n:=by simpa using hx
   rw [this];exact Int.le_refl _
  .exact h1 M t h2 tk2 m1 m2 fun b o e=>kp2 b o (old b o e).1 (old b o e).2 ((Heap.get?_update_other _ _ (Ne.symm (old b o e).2)).trans (kp b o (by simpa using (old b o e).1) (k2 b o (k1 b o e))))
end
section
variable {X:Cx}
def Ge (K:W.Frag) (ta:TA):TE:=fun σ H Q=>ta σ H fun vs H1=>∃ (a:Addr) (ns:List Int),vs=[.ref a]/\eJ K H1 a (ns.map V.int)/\(ns=[]->Q .non H1)/\∀ M,M∈ns->(∀ x∈ns,M<=x)->Q (.int M) H1
theorem E4 {e:Expr}{ta:TA}{p pos kp cp:Pos}{j:Nat}(hc:X.calm=true) (hg:Gl X "min") (hm:X.mg "min" = none) (ha:PA X [e] ta)
  (he:backTo pos (starEach [e] X.env)=(false,eval e X.env)::backTo pos (starEach [] X.env):=by rfl) (hpl:(backTo pos (starEach [e] X.env)).any (·.1)=false:=by rfl) :
  PE X (.Call (.Name "min" p) [e] [⟨some "default", .Constant .none j cp,kp⟩] pos) (Ge X.K ta):=by
 intro ab s σ H Q I h;refine wpAny_Call_Name_kw (gu I hg hm boot_min ?_ (by decide) (by decide))
 refine callWith_kw (cP (ha pos ab s σ H _ I h) fun us s1 hz1=>kws_cons ?_) he hpl rfl rfl
 obtain ⟨vs,H1,I1,r1,a,ns,e1,hS,q0,q1⟩:=hz1;subst e1;obtain ⟨u,rfl,ru⟩:=kx r1;cases ru;refine wpAny_Constant_none (kws_nil ?_);have I2:=I1.tok (s1.toks+1);obtain ⟨ws,hl,hi,_⟩:=nA I2 hS;refine zV (I1.ok.hd hc) hl hi (fun e0 h' tk kp2=>?_) fun M t h' tk m1 m2 kp2=>?_
 .exact ⟨.non,H1,I2.kept kp2,rfl,q0 e0⟩
 .exact ⟨.int M,H1,I2.kept kp2,⟨_,rfl⟩,q1 M m1 m2⟩
end
end Mr
namespace Ms
open PySem
def Up (xs:Array Nat):Prop:=∀ a b u v:Nat,xs[a]?=some u->xs[b]?=some v->a<b->u<v
theorem Up.list {xs:Array Nat}(h:xs.toList.Pairwise (· < ·)):Up xs:=fun a b u v ha hb hl=>by
 rw [← Array.getElem?_toList] at ha hb;obtain ⟨la,ea⟩:=gSq.mp ha;obtain ⟨lb,eb⟩:=gSq.mp hb;have:=List.pairwise_iff_getElem.mp h a b la lb hl;rw [ea,eb] at this;exact this
theorem Up.pw {xs:Array Nat}(h:Up xs):xs.toList.Pairwise (· < ·):=List.pairwise_iff_getElem.mpr fun a b la lb hl=>h a b _ _ (by rw [← Array.getElem?_toList];exact gEg la) (by rw [← Array.getElem?_toList];exact gEg lb) hl
theorem qT {xs:Array Nat}{j:Nat}(hs:Up xs):∀ (fuel lo hi:Nat),hi-lo<=fuel->lo<=hi->hi<=xs.size->(∀ k v,xs[k]?=some v->k<lo->v<j)->(∀ k v,xs[k]?=some v->hi<=k->j<=v) ->
  ∃ i,SetTable.below.go xs j fuel lo hi=i/\i<=xs.size/\(∀ k v,xs[k]?=some v->k<i->v<j)/\∀ k v,xs[k]?=some v->i<=k->j<=v
 | 0,lo,hi,hf,hl,hh,h1,h2=>⟨lo,by rw [SetTable.below.go],by lia,h1,fun k v e hk=>h2 k v e (by lia)⟩
 | fuel+1,lo,hi,hf,hl,hh,h1,h2=>by
  rw [SetTable.below.go]
  by_cases c:lo<hi
  .rw [if_pos c];have hm:(lo+hi) / 2<xs.size:=by lia
   have em:xs[(lo+hi) / 2]?=some (xs[(lo+hi) / 2]'hm):=Array.getElem?_eq_getElem hm;have eg:xs.getD ((lo+hi) / 2) j=xs[(lo+hi) / 2]'hm:=by simp [Array.getD,hm]
   show ∃ i,(if xs.getD ((lo+hi) / 2) j<j then SetTable.below.go xs j fuel ((lo+hi) / 2+1) hi else SetTable.below.go xs j fuel lo ((lo+hi) / 2))=i/\_
   rw [eg]
   by_cases d:xs[(lo+hi) / 2]'hm<j
   .rw [if_pos d];refine qT hs fuel _ _ (by lia) (by lia) hh (fun k v e hk=>?_) h2
    by_cases q:k=(lo+hi) / 2
    .subst q;rw [em] at e;cases e;exact d
    .exact Nat.lt_trans (hs _ _ _ _ e em (by lia)) d
   .rw [if_neg d];refine qT hs fuel _ _ (by lia) (by lia) (by lia) h1 fun k v e hk=>?_
    by_cases q:k=(lo+hi) / 2
    .subst q;rw [em] at e;cases e;lia
    .have:=hs _ _ _ _ em e (by lia)
     lia
  .rw [if_neg c];exact ⟨lo,rfl,by lia,h1,fun k v e hk=>h2 k v e (by lia)⟩
theorem mY {xs:Array Nat}(hs:Up xs) (j:Nat):SetTable.below xs j<=xs.size/\(∀ k v,xs[k]?=some v->k<SetTable.below xs j->v<j)/\∀ k v,xs[k]?=some v->SetTable.below xs j<=k->j<=v:=by
 obtain ⟨i,e,h1,h2,h3⟩:=qT (j:=j) hs xs.size 0 xs.size (by lia) (Nat.zero_le _) (Nat.le_refl _) (fun k v _ hk=>absurd hk (Nat.not_lt_zero _)) (fun k v e hk=>by
  have:=(Array.getElem?_eq_some_iff.mp e).1;lia)
 have:SetTable.below xs j=i:=e;rw [this];exact ⟨h1,h2,h3⟩
theorem yq {xs:Array Nat}(hs:Up xs) {i v:Nat}(h:xs[i]?=some v):SetTable.below xs (v+1)=i+1:=by
 obtain ⟨h1,h2,h3⟩:=mY hs (v+1);generalize SetTable.below xs (v+1)=b at h1 h2 h3;have hi:=(Array.getElem?_eq_some_iff.mp h).1
 by_cases c:b<=i
 .have:=h3 i v h c;lia
 .by_cases d:i+1<b
  .have hb:i+1<xs.size:=by lia
   have e:=Array.getElem?_eq_getElem hb;have a:=h2 _ _ e d;have:=hs _ _ _ _ h e (Nat.lt_succ_self i);lia
  .lia
theorem xF {xs:Array Nat}(hs:Up xs):SetTable.below xs 0=0:=by
 obtain ⟨h1,h2,h3⟩:=mY hs 0;generalize SetTable.below xs 0=b at h1 h2 h3
 by_cases c:b=0
 .exact c
 .have hb:0<xs.size:=by lia
  have:=h2 0 _ (Array.getElem?_eq_getElem hb) (by lia)
  lia
theorem As {xs:Array Nat}(hs:Up xs) {j:Nat}(hn:∀ k:Nat,xs[k]? ≠ some j):Up (SetTable.insertAt xs (SetTable.below xs j) j):=by
 refine Up.list ?_;rw [SetTable.toList_insertAt];obtain ⟨h1,h2,h3⟩:=mY hs j;generalize SetTable.below xs j=b at h1 h2 h3;have hp:=hs.pw;rw [List.pairwise_append];refine ⟨hp.sublist (List.take_sublist _ _),List.pairwise_cons.mpr ⟨fun v hv=>?_,hp.sublist (List.drop_sublist _ _)⟩,fun u hu v hv=>?_⟩
 .obtain ⟨k,hk⟩:=List.mem_iff_getElem?.mp hv;rw [List.getElem?_drop,Array.getElem?_toList] at hk;have a:=h3 _ v hk (by lia)
  have:v≠j:=fun z=>hn _ (z ▸ hk)
  lia
 .obtain ⟨k,hk⟩:=List.mem_iff_getElem?.mp hu;rw [List.getElem?_take] at hk;split at hk
  .rename_i q;rw [Array.getElem?_toList] at hk;have a:=h2 k u hk q;rcases List.mem_cons.mp hv with z|z
   .rw [z];exact a
   .obtain ⟨k2,hk2⟩:=List.mem_iff_getElem?.mp z;rw [List.getElem?_drop,Array.getElem?_toList] at hk2;exact hs _ _ _ _ hk hk2 (by lia)
  .cases hk
theorem H0:Up #[]:=fun a b u v h=>by simp at h
theorem Dh (n:Nat):Up (Array.range n):=fun a b u v ha hb hl=>by
 rw [Array.getElem?_range] at ha hb;split at ha <;> split at hb
 .cases ha;cases hb;exact hl
 .cases hb
 .cases ha
 .cases ha
structure Tb (led:Bool) (t:SetTable):Prop where
 up:Up t.place
 dm:t.dummies=#[]
 led:t.led=led
theorem Tb.fresh (led:Bool):Tb led (.fresh 0 0 led):=⟨H0,rfl,rfl⟩
theorem Tb.standIn {led:Bool}{t:SetTable}(h:Tb led t) (n:Nat):Tb led (t.standIn n):=⟨Dh n,rfl,h.led⟩
theorem Tb.orStandIn {led:Bool}{t:SetTable}(h:Tb led t) (n:Nat):Tb led (t.orStandIn n):=by
 unfold SetTable.orStandIn;split
 .exact h
 .exact h.standIn n
theorem Tb.plain {led:Bool}{t:SetTable}(h:Tb led t) (b:Bool):Tb led { t with plain:=b }:=⟨h.up,h.dm,h.led⟩
theorem rQ {t:SetTable}(hd:t.dummies=#[]) {h:Int}:∀ (fuel:Nat) (p:SetTable.Probe) (m:SetTable.Met),p.dummy=none->SetTable.probe.go t (fun _=>h+1) h fuel p=some m->∃ j,m = .empty j none/\t.slot j = .empty
 | 0,p,m,_,e=>by rw [SetTable.probe.go] at e;cases e
 | fuel+1,p,m,hp,e=>by
  rw [SetTable.probe.go] at e;have adv:(t.advance p).dummy=none:=by
   unfold SetTable.advance;split <;> exact hp
  cases hs:t.slot p.j with
  | empty =>
   rw [hs] at e;cases e;exact ⟨p.j,by rw [hp],hs⟩
  | dummy =>
   exfalso;unfold SetTable.slot at hs;simp only at hs;split at hs
   .cases hs
   .split at hs
    .rename_i q;unfold SetTable.has at q;rw [hd] at q;simp at q
    .cases hs
  | live i =>
   rw [hs] at e;have:((h+1:Int) == h)=false:=by
    rw [beq_eq_false_iff_ne];lia
   simp only [this,Bool.false_eq_true,if_false] at e;exact rQ hd fuel _ m adv e
theorem zO {t:SetTable}(hs:Up t.place) {j:Nat}(h:t.slot j = .empty):∀ k:Nat,t.place[k]? ≠ some j:=by
 intro k hk;obtain ⟨h1,h2,h3⟩:=mY hs j;unfold SetTable.slot at h;simp only at h;have hi:=(Array.getElem?_eq_some_iff.mp hk).1;have e:k=SetTable.below t.place j:=by
  rcases Nat.lt_trichotomy k (SetTable.below t.place j) with c|c|c
  .have:=h2 k j hk c;lia
  .exact c
  .have hb:=Array.getElem?_eq_getElem (Nat.lt_trans c hi);have a:=h3 _ _ hb (Nat.le_refl _);have:=hs _ _ _ _ hb hk c;lia
 rw [← e,hk] at h;simp at h
theorem Ir {led:Bool}{t:SetTable}(h:Tb led t) (es:Array (Int×Value)) (hh:Int) (x:Value):Tb led (layNew t es hh x).2.1:=by
 unfold layNew;split
 .rename_i slot wd e;refine Tb.orStandIn ?_ _;unfold SetTable.freeSlot at e;split at e
  .rename_i j d em;obtain ⟨j',e1,e2⟩:=rQ h.dm _ _ _ rfl em;cases e1;cases e;have hf:=zO h.up e2;refine ⟨As h.up hf,?_,h.led⟩;show (if SetTable.has t.dummies j then SetTable.eraseAt t.dummies (SetTable.below t.dummies j) else t.dummies)=#[]
   rw [h.dm];have:SetTable.has #[] j=false:=by simp [SetTable.has]
   rw [this];rfl
  .cases e
 .exact h.standIn _
theorem CB {led:Bool}{t:SetTable}(h:Tb led t) (es:Array (Int×Value)) (n:Nat):Tb led (relayAll t es n).2.1:=by
 unfold relayAll;split
 .rename_i t' order e;dsimp only;split
  .unfold SetTable.relaid SetTable.laid at e;obtain ⟨ow,e1,e2⟩:=oBq.mp e;cases e2;refine ⟨Up.list ?_,rfl,h.led⟩;show (((List.range _).filterMap fun j=>(ow.getD j none).map fun x=>(j,x)).map (·.1)).Pairwise (· < ·)
   rw [List.pairwise_map,List.pairwise_filterMap];refine List.Pairwise.imp ?_ List.pairwise_lt_range;intro a b hab x hx y hy;obtain ⟨_,_,rfl⟩:=oMq.mp hx;obtain ⟨_,_,rfl⟩:=oMq.mp hy;exact hab
  .exact h.standIn _
 .exact h.standIn _
end Ms
namespace Ms
open PySem PyProof.Rows Mr
def SI (prog:Program) (w:World) (h:Heap) (a:Addr) (F:List Int):Prop :=
 ∃ o es ep t,h.get? a=some o/\o.ExactSet/\o.data = .set es ep t/\ElemsOf (intKind prog w) es.toList/\(∀ e∈es.toList,∃ k u,e.2 = .int k u)/\(es.toList.map fun e=>Mr.intOf e.2).Perm F/\es.size<scanBound/\t.fits es.size=true/\Tb (!w.params.followText "set-order") t
def jU (F:List Int) (k:Int):List Int:=if k∈F then F else F++[k]
section
variable {prog:Program}{w:World}{A:Around}{E:Value->Shared->Prop}{s:Shared}
theorem SI.keep {h h':Heap}{a:Addr}{F:List Int}(x:SI prog w h a F) (k:∀ o,h.get? a=some o->h'.get? a=some o):SI prog w h' a F:=by
 obtain ⟨o,es,ep,t,ho,r⟩:=x;exact ⟨o,es,ep,t,k o ho,r⟩
theorem vZ {h:Heap}{a:Addr}{o:Obj}{es:Array (Int×Value)}{ep:Nat}{t:SetTable}(ho:h.get? a=some o) (hd:o.data = .set es ep t) (es':Array (Int×Value)) (t':SetTable) :
  (h.update a (Obj.putSet es' t')).get? a=some { o with data:=.set es' (ep+1) t' }:=by
 have:=Heap.get?_update_self (Obj.putSet es' t') ho (by rw [putSet_of es' t' hd];rfl)
 rw [putSet_of es' t' hd] at this;exact this
theorem GX {a:Addr}{F:List Int}{k:Int}{u:Tok}{Q:Bool->Shared->Prop}(hS:SI prog w s.heap a F) (hroom:F.length+1<scanBound)
  (h:∀ b h',Heap.SameBut a s.heap h'->SI prog w h' a (jU F k)->Q b { s with heap:=h' }) :
  wpAny (model prog w) A (setAddHashed a (.int k u) ((intKind prog w).hash k)) Q E s:=by
 obtain ⟨o,es,ep,t,ho,hex,hd,hel,hin,hp,hb,hf,hT⟩:=hS;have hkey:=intKind_is prog w k u;have hsz:es.size=F.length:=by
  have:=hp.length_eq
  rwa [lMq,Array.length_toList] at this
 have his:∀ e∈es.toList,(intKind prog w).is k e.2=true->Mr.intOf e.2=k:=fun e he hk=>by
  obtain ⟨m,v,ev⟩:=hin e he;rw [ev] at hk ⊢;exact (intKind prog w).inj _ _ _ (intKind_is prog w m v) hk
 unfold setAddHashed setAddHashedIn;refine wpAny_holding (wpAny_bind (wpAny_setState_of ho hd hf ?_));dsimp only;rw [byScan_of (knd:=intKind prog w) rfl hb hel];simp only [↓reduceIte];unfold setAddByScan;refine wpAny_bind ?_;refine wpAny_bind (wpAny_rule ?_);refine wpAny_bind (wpAny_setScan_of hkey ho hd hf hel ?_);cases hr:List.findIdx? (fun e=>(intKind prog w).is k e.2) es.toList with
 | some j =>
  dsimp only;obtain ⟨hj,hpj,_⟩:=List.findIdx?_eq_some_iff_getElem.mp hr;have hm:k∈F:=hp.mem_iff.mp (mMq.mpr ⟨_,gRq hj,his _ (gRq hj) hpj⟩);refine wpAny_pure (wpAny_pure ?_);have e:s={ s with heap:=s.heap }:=by cases s;rfl
  rw [e];refine h _ s.heap (Heap.SameBut.refl a s.heap) ?_;unfold jU;rw [if_pos hm];exact ⟨o,es,ep,t,ho,hex,hd,hel,hin,hp,hb,hf,hT⟩
 | none =>
  dsimp only;have hm:k∉F:=fun z=>by
   obtain ⟨e,he,ek⟩:=mMq.mp (hp.mem_iff.mpr z);have:=List.findIdx?_eq_none_iff.mp hr e he;obtain ⟨m,v,ev⟩:=hin e he;rw [ev] at ek this;have ek':m=k:=ek;rw [ek',intKind_is] at this;cases this
  have hgw:∀ (b:Bool) {z:Shared}{Q':Unit->Shared->Prop},Q' () z->wpAny (model prog w) A (match b with|true=>rule "set.scan.the-table-gave-way" | false=>pure ()) Q' E z:=fun b z Q' hq=>by cases b <;> first|exact wpAny_pure hq|exact wpAny_rule hq
  have hperm:=layNew_perm t es ((intKind prog w).hash k) (.int k u);have hfits:=layNew_fits t es ((intKind prog w).hash k) (.int k u);have hT1:=Ir hT es ((intKind prog w).hash k) (.int k u);generalize hL:layNew t es ((intKind prog w).hash k) (.int k u)=L at hperm hfits hT1 ⊢;obtain ⟨es1,t1,wasDummy,gave⟩:=L;dsimp only at hperm hfits hT1 ⊢;rw [Array.toList_push] at hperm;have hel1:ElemsOf (intKind prog w) es1.toList:=(hel.push hkey rfl).perm hperm;have hin1:∀ e∈es1.toList,∃ k u,e.2 = .int k u:=fun e he=>by
   rcases mAq.mp (hperm.mem_iff.mp he) with z|z
   .exact hin e z
   .rw [mSq.mp z];exact ⟨k,u,rfl⟩
  have hp1:(es1.toList.map fun e=>Mr.intOf e.2).Perm (jU F k):=by
   unfold jU;rw [if_neg hm];refine (hperm.map _).trans ?_;rw [mBq];exact hp.append_right _
  have hz1:es1.size=es.size+1:=by
   have:=hperm.length_eq
   rwa [lAq,Array.length_toList,Array.length_toList] at this
  have hb1:es1.size<scanBound:=by rw [hz1,hsz];exact hroom
  refine wpAny_bind (hgw _ ?_);have fin:∀ {t2:SetTable},t2.fits es1.size=true->Tb (!w.params.followText "set-order") t2->∀ {R:Option Bool->Shared->Prop},(∀ h',Heap.SameBut a s.heap h'->SI prog w h' a (jU F k)->R (some true) { s with heap:=h' }) ->
    wpAny (model prog w) A (do
     storeSet a es1 t2
     if (!wasDummy && t2.tooFull)=true then do
       (match (relayAll t2 es1 (SetTable.grown es1.size)).2.2 with|true=>rule "set.scan.the-table-gave-way" | false=>pure ())
       storeSet a (relayAll t2 es1 (SetTable.grown es1.size)).1 (relayAll t2 es1 (SetTable.grown es1.size)).2.1
       pure (some true)
      else pure (some true)) R E s:=by
   intro t2 hf2 hT2 R hR;refine wpAny_bind (wpAny_storeSet_of ho hd ?_ (fits_of_scanBound hb1));have g1:=vZ ho hd es1 t2;have sb1:=Heap.SameBut.update s.heap a (Obj.putSet es1 t2);split
   .have q1:=relayAll_perm t2 es1 (SetTable.grown es1.size);have q2:=relayAll_fits t2 es1 (SetTable.grown es1.size);have q3:=CB hT2 es1 (SetTable.grown es1.size);generalize relayAll t2 es1 (SetTable.grown es1.size)=V at q1 q2 q3 ⊢;obtain ⟨es2,t3,gv⟩:=V;dsimp only at q1 q2 q3 ⊢;have hz2:es2.size=es1.size:=by
     have:=q1.length_eq
     rwa [Array.length_toList,Array.length_toList] at this
    refine wpAny_bind (hgw _ ?_);refine wpAny_bind (wpAny_storeSet_of g1 rfl ?_ (fits_of_scanBound (by rw [hz2];exact hb1)))
    have g2:=vZ g1 rfl es2 t3;exact wpAny_pure (hR _ (sb1.trans (Heap.SameBut.update _ a _)) ⟨_,es2,_,t3,g2,hex,rfl,hel1.perm q1,fun e he=>hin1 e (q1.mem_iff.mp he),(q1.map _).trans hp1,by rw [hz2];exact hb1,q2,q3⟩)
   .exact wpAny_pure (hR _ sb1 ⟨_,es1,_,t2,g1,hex,rfl,hel1,hin1,hp1,hb1,hf2,hT2⟩)
  split
  .refine wpAny_bind ?_;rw [hashByValue_scannable 8 (x:=.int k u) rfl];refine wpAny_pure ?_;refine fin ?_ ?_ fun h' sb hS'=>?_
   .split
    .exact hfits
    .exact SetTable.fits_plain_off hfits
   .split
    .exact hT1
    .exact hT1.plain false
   .dsimp only;exact wpAny_pure (h _ h' sb hS')
  .refine wpAny_bind (wpAny_pure ?_);simp only [↓reduceIte];refine fin hfits hT1 fun h' sb hS'=>?_
   dsimp only;exact wpAny_pure (h _ h' sb hS')
end
end Ms
namespace Ms
open PySem PyProof.Rows Mr
def dd (ns:List Int):List Int:=ns.foldl jU []
theorem zf (ns:List Int) (k:Int):dd (ns++[k])=jU (dd ns) k:=by
 unfold dd;rw [List.foldl_append];rfl
theorem Bz (F:List Int) (k:Int):(jU F k).length<=F.length+1:=by
 unfold jU;split
 .lia
 .simp
theorem BS {F:List Int}{k x:Int}:x∈jU F k↔x∈F∨x=k:=by
 unfold jU;split
 .rename_i h;exact ⟨.inl,fun q=>q.elim id fun q=>q ▸ h⟩
 .simp
theorem ER {F:List Int}{k:Int}(h:F.Nodup):(jU F k).Nodup:=by
 unfold jU;split
 .exact h
 .rename_i q;rw [nAq];exact ⟨h,by simp,fun x hx y hy z=>q (by rw [mSq.mp hy] at z;rw [← z];exact hx)⟩
theorem mS:∀ (ns F:List Int),(ns.foldl jU F).length<=F.length+ns.length/\(∀ x,x∈ns.foldl jU F↔x∈F∨x∈ns)/\(F.Nodup->(ns.foldl jU F).Nodup)
 | [],F=>⟨by simp,by simp,fun h=>h⟩
 | n::ns,F=>by
  obtain ⟨h1,h2,h3⟩:=mS ns (jU F n);have:=Bz F n;rw [List.foldl_cons,lCq];refine ⟨by lia,fun x=>?_,fun h=>h3 (ER h)⟩
  rw [h2 x,BS,List.mem_cons,or_assoc]
theorem uW (ns:List Int):(dd ns).length<=ns.length:=by
 have:=(mS ns []).1;simpa [dd] using this
theorem mh {ns:List Int}{x:Int}:x∈dd ns↔x∈ns:=by
 have:=(mS ns []).2.1 x;simpa [dd] using this
theorem DA (ns:List Int):(dd ns).Nodup:=(mS ns []).2.2 List.nodup_nil
section
variable {prog:Program}{w:World}{A:Around}{E:Value->Shared->Prop}{s:Shared}{R:Result->Shared->Prop}{l I S:Addr}{vs:List Value}{ns:List Int}
theorem B9 (hh:A.handled=none) (hi:IntsAre vs ns) (hlI:l≠I) (hSI:S≠I) (hSl:S≠l) (hb:ns.length+1<scanBound):∀ (k j:Nat) (z:Shared),vs.length-j=k->j<=vs.length->z.heap.IsListIter I l j->z.heap.IsList l vs.toArray->SI prog w z.heap S (dd (ns.take j)) ->
  (∀ h' tk,SI prog w h' S (dd ns)->(∀ b o,b≠I->b≠S->z.heap.get? b=some o->h'.get? b=some o)->R (.ok (.ret .none)) { z with heap:=h',toks:=tk }) ->
  codeAny (model prog w) A (.builtin "set.update.loop" ⟨[.ref S,.ref I],[]⟩) R z:=by
 have W:=Walks.list (prog:=prog) (w:=w) (A:=A.in1) hh I l hlI vs.toArray;have vl:vs.toArray.size=vs.length:=List.size_toArray ..;have hln:=hi.length;intro k
 induction k with
 | zero =>
  intro j z hk hj mK hL hS hR;have hjn:j=vs.toArray.size:=by rw [vl];lia
  refine codeAny_builtin PyProof.Rows.F.entry_set_update_loop ?_;rw [Around.under_plainId PyProof.Rows.F.plain_set_update_loop _];show wpAny _ A.in1 (pyNext (.ref I) >>= _) _ _ z;refine wpAny_bind (W.done z _ _ ⟨hjn ▸ mK,hL⟩ fun h' tk kp=>?_)
  show wpAny _ A.in1 (ret Value.none) _ _ _;refine wpAny_pure (hR h' tk ?_ fun b o nI _ e=>kp b o (by simpa using nI) e)
  rw [List.take_of_length_le (by lia)] at hS
  exact hS.keep fun o e=>kp S o (by simpa using hSI) e
 | succ k ih =>
  intro j z hk hj mK hL hS hR;have hlt:j<vs.toArray.size:=by rw [vl];lia
  refine codeAny_builtin PyProof.Rows.F.entry_set_update_loop ?_;rw [Around.under_plainId PyProof.Rows.F.plain_set_update_loop _];show wpAny _ A.in1 (pyNext (.ref I) >>= _) _ _ z;refine wpAny_bind (W.item j z _ _ hlt ⟨mK,hL⟩ fun v h' tk hP mI kp=>?_)
  obtain ⟨n,hn⟩:∃ n,ns[j]?=some n:=⟨_,gEg (by lia)⟩
  obtain ⟨u,hu⟩:=hi.get j n hn;have hv:vs[j]?=some v:=by simpa using hP
  rw [hu] at hv;cases hv;have hS':SI prog w h' S (dd (ns.take j)):=hS.keep fun o e=>kp S o (by simpa using hSI) e
  show wpAny _ A.in1 (holding [Value.int n u] (setAdd S (.int n u)) >>= _) _ _ _;refine wpAny_bind (wpAny_holding ?_);unfold setAdd;refine wpAny_holding ?_;refine wpAny_bind ((intKind prog w).pyHash (k:=n) (intKind_is _ _ _ _) ?_);have hrm:(dd (ns.take j)).length+1<scanBound:=by
   have a:=uW (ns.take j);rw [lTq] at a;lia
  refine GX hS' hrm fun b h2 sb hS2=>?_
  have ht:ns.take (j+1)=ns.take j++[n]:=by rw [List.take_add_one,hn];rfl
  rw [← zf,← ht] at hS2;refine wpAny_pure ⟨plainId_quiet PyProof.Rows.F.plain_set_update_loop _,ih (j+1) _ (by lia) (by lia) (mI.1.extBut sb.extBut (Ne.symm hSI)) (mI.2.extBut sb.extBut (Ne.symm hSl)) hS2 fun h3 tk3 hS3 kp3=>?_⟩
  exact hR h3 tk3 hS3 fun b o nI nS e=>kp3 b o nI nS (sb.extBut b o nS (kp b o (by simpa using nI) e))
theorem DM (a:Value) {Q1:Value->Shared->Prop}
  (h:Q1 (.ref s.heap.objs.size) { s with heap:=s.heap.push { cls:=.type "set", dict:=none,data:=.set #[] 0 (.fresh 0 0 (!w.params.followText "set-order")) } }) :
  codeAny (model prog w) A (.call (.builtin "set.__new__") ⟨[.type "set", a],[]⟩) (wants Q1 E) s:=by
 refine codeAny_of_tree ?_;show wpAny _ A.in1 (do checkBuiltinCall "set.__new__" ⟨[.type "set", a],[]⟩;again (.builtin "set.__new__" ⟨[.type "set", a],[]⟩)) _ _ s
 refine wpAny_bind (wpAny_of_eq (PySem.F.newCall_set_1 a) (wpAny_pure ⟨plainId_quiet PySem.F.plain_set_new _,codeAny_builtin PySem.F.entry_set_new ?_⟩));rw [Around.under_plainId PySem.F.plain_set_new _];unfold Builtin.«set.__new__» Builtin.Frozenset.newClass;have hsub:=sub_set_self;obtain ⟨hp,g,d,tk,os⟩:=s;dsimp only
 wp_walk
 refine wpAny_askSetting (wpAny_pure ?_);dsimp only;simp only [newObj];refine wpAny_bind (wpAny_alloc (wpAny_pure ?_));exact wpAny_pure h
theorem SI.fresh {h:Heap}{a:Addr}(ho:h.get? a=some { cls:=.type "set", dict:=none,data:=.set #[] 0 (.fresh 0 0 (!w.params.followText "set-order")) }):SI prog w h a [] :=
 ⟨_,#[],0,_,ho,⟨rfl,rfl,rfl⟩,rfl,fun e he=>by simp at he,fun e he=>by simp at he,.refl _,by unfold scanBound;decide,rfl,Tb.fresh _⟩
theorem vU {Q:Value->Shared->Prop}(hh:A.handled=none) (hl:s.heap.IsList l vs.toArray) (hi:IntsAre vs ns) (hb:ns.length+1<scanBound)
  (h:∀ (h':Heap) (tk:Nat),SI prog w h' s.heap.objs.size (dd ns)->(∀ b o,s.heap.get? b=some o->h'.get? b=some o)->Q (.ref s.heap.objs.size) { s with heap:=h',toks:=tk }) :
  wpAny (model prog w) A (call (.type "set") [.ref l]) Q E s:=by
 obtain ⟨c,tl,hmro⟩:=PySem.F.called_set.mro;have hmade:=PySem.F.called_set.made;have hsub:=PySem.F.called_set.sub;refine wpAny_call (codeAny_of_tree ?_);show wpAny _ _ (callAny (.type "set") _) _ _ _;refine wpAny_pure ⟨Code.quiet_builtin _ (by decide +kernel),codeAny_builtin PySem.F.entry_type_call ?_⟩
 rw [Around.under_plain (weight_type_call_type "set" [.ref l] []) rfl];have h1:=PySem.F.called_set.notType;have h2:=PySem.F.called_set.canCreate;have hct:=PySem.F.typeCall_set_1 (.ref l)
 repeat (any_goals (first|assumption|wp_step))
 generalize hg1:s.heap.push { cls:=.type "set", dict:=none,data:=.set #[] 0 (.fresh 0 0 (!w.params.followText "set-order")) }=g1;have z1:g1.objs.size=s.heap.objs.size+1:=by rw [← hg1];exact Heap.size_push ..
 have k1:∀ b o,s.heap.get? b=some o->g1.get? b=some o:=fun b o e=>by rw [← hg1];exact Heap.get?_push_of_some _ e
 have o1:g1.get? s.heap.objs.size=some { cls:=.type "set", dict:=none,data:=.set #[] 0 (.fresh 0 0 (!w.params.followText "set-order")) }:=by rw [← hg1];exact Heap.get?_push_size _ rfl
 refine codeAny_mono (DM (.ref l) (E:=E) (Q1:=fun obj z=>obj = .ref s.heap.objs.size/\z={ s with heap:=g1 }) ⟨rfl,by rw [hg1]⟩) fun r z hr=>?_
 cases r with
 | error e=>exact hr
 | ok fl =>
  cases fl with
  | ret obj =>
   obtain ⟨rfl,rfl⟩:=hr;have hT:Shared.TypeIs { s with heap:=g1 } (.ref s.heap.objs.size) "set" := ⟨_,o1,rfl⟩
   have hli:=PySem.F.called_set.init.lookup;have hbi:=PySem.F.called_set.init.bind (.ref s.heap.objs.size)
   repeat (any_goals (first|assumption|wp_step))
   refine codeAny_mono (codeAny_call_builtin (R:=wants (fun r y=>r = .none/\∃ h' tk,y={ s with heap:=h',toks:=tk }/\SI prog w h' s.heap.objs.size (dd ns)/\∀ b o,s.heap.get? b=some o->h'.get? b=some o) E) PySem.F.called_set.init.plain PySem.F.entry_set_init (check_set_init_1 hT ?_)) fun r2 y hr2=>?_
   .obtain ⟨⟨oc,od,odt,osl⟩,hol,hcl,nl,hdl⟩:=hl;simp only at hcl hdl;subst hcl;subst hdl;have hol1:=k1 l _ hol;have n1:=PySem.F.sub_list_set;have n2:=PySem.F.sub_list_frozenset;have n3:(Value.type "list" == Value.type "dict")=false:=by decide
    have hl1:g1.IsList l vs.toArray:=⟨_,hol1,rfl,nl,rfl⟩;unfold Builtin.«set.__init__» noKeywords Builtin.Frozenset.updateFrom;generalize hPI:pyIter=PI
    wp_walk
    subst hPI;refine wpAny_pyIter_list hl1 ?_;refine wpAny_bind (wpAny_runValue ?_);have hlS:l<s.heap.objs.size:=Heap.lt_size hol;have hh3:A.in1.in1.handled=none:=by simp [hh]
    have lI:l≠g1.objs.size:=by rw [z1];exact Nat.ne_of_lt (Nat.lt_succ_of_lt hlS)
    have sI:s.heap.objs.size≠g1.objs.size:=by rw [z1];exact Nat.ne_of_lt (Nat.lt_succ_self _)
    refine B9 (prog:=prog) (w:=w) (vs:=vs) (ns:=ns) hh3 hi lI sI (Nat.ne_of_gt hlS) hb _ 0 _ rfl (Nat.zero_le _) ⟨_,Heap.get?_push_size _ rfl,rfl,rfl⟩ (hl1.push _) (SI.fresh (Heap.get?_push_of_some _ o1)) fun h' tk hS kp=>?_
    show wpAny _ _ _ _ _ _;refine wpAny_pure ?_;show wpAny _ _ (ret Value.none) _ _ _;refine wpAny_pure ⟨rfl,h',tk,rfl,hS,fun b o e=>kp b o ?_ ?_ (Heap.get?_push_of_some _ (k1 b o e))⟩
    .have:=Heap.lt_size e;rw [z1];exact Nat.ne_of_lt (Nat.lt_succ_of_lt this)
    .exact Nat.ne_of_lt (Heap.lt_size e)
   .cases r2 with
    | error e=>exact hr2
    | ok fl2 =>
     cases fl2 with
     | ret r =>
      obtain ⟨rfl,h',tk,rfl,hS',hk'⟩:=hr2
      repeat (any_goals (first|assumption|wp_step))
      exact h _ _ hS' hk'
     | _=>exact hr2.elim
  | _=>exact hr.elim
end
end Ms
namespace Ms
open PySem PyProof.Rows Mr
theorem dP:Slot "set_iterator" "__next__" "set_iterator.__next__" :=
 .of (owner := "set_iterator") (n := "__next__") (by rw [typeLookup_type,builtinLookup_eq_fast];kernel_rfl) (by decide +kernel) (by decide +kernel) (by decide +kernel) (.inl (by decide +kernel)) (by rw [isSubtype_type];kernel_rfl)
theorem jn:entryFor table "set_iterator.__next__" = some Builtin.«set_iterator.__next__»:=entryFor_of_tree (by kernel_rfl)
theorem lD (a:Value):argsOk "set_iterator.__next__" ⟨[a],[]⟩:=by unfold argsOk;kernel_rfl
theorem sS:Slot "set_iterator" "__iter__" "set_iterator.__iter__" :=
 .of (owner := "set_iterator") (n := "__iter__") (by rw [typeLookup_type,builtinLookup_eq_fast];kernel_rfl) (by decide +kernel) (by decide +kernel) (by decide +kernel) (.inl (by decide +kernel)) (by rw [isSubtype_type];kernel_rfl)
theorem xx:entryFor table "set_iterator.__iter__" = some Builtin.«dict_keyiterator.__iter__»:=entryFor_alias (id' := "dict_keyiterator.__iter__") (by kernel_rfl) rfl (by decide +kernel) (by kernel_rfl)
theorem Ad (a:Value):argsOk "set_iterator.__iter__" ⟨[a],[]⟩:=by unfold argsOk;kernel_rfl
theorem xi:entryFor table "set.__iter__" = some Builtin.«frozenset.__iter__»:=entryFor_alias (id' := "frozenset.__iter__") (by kernel_rfl) rfl (by decide +kernel) (by kernel_rfl)
def SA (h:Heap) (a:Addr) (es:Array (Int×Value)) (ep:Nat) (t:SetTable):Prop:=∃ o,h.get? a=some o/\o.ExactSet/\o.data = .set es ep t
def IA (h:Heap) (I:Addr) (f:Value) (i:Nat) (a:Addr) (n ep:Nat):Prop:=h.get? I=some { cls:=.type "set_iterator", dict:=none,data:=.fields #[f,rawInt i,.ref a,rawInt n,rawInt ep],slots:=#[] }
section
variable {prog:Program}{w:World}{A:Around}{E:Value->Shared->Prop}{s:Shared}{I a T:Addr}{es:Array (Int×Value)}{ep i n:Nat}{t:SetTable}{f:Value}
theorem IA.type (h:IA s.heap I f i a n ep):s.TypeIs (.ref I) "set_iterator" := ⟨_,h,rfl⟩
theorem IA.self {Q:Value->Shared->Prop}(h:IA s.heap I f i a n ep) (q:Q (.ref I) s):wpAny (model prog w) A (pyIter (.ref I)) Q E s:=by
 refine wpAny_pyIter_slot h.type sS (wpAny_call_entry sS h.type xx ?_ (Ad _));show wpAny _ _ (ret (.ref I)) _ _ s;exact wpAny_pure ⟨_,rfl, "set_iterator", _,h.type,dP.lookup,q⟩
theorem gO {Q:Array (Int×Value)->Shared->Prop}(hS:SA s.heap a es ep t) (hf:t.fits es.size=true) (h:Q es s):wpAny (model prog w) A (setEntries a) Q E s:=by
 obtain ⟨o,ho,_,hd⟩:=hS;unfold setEntries;exact wpAny_bind (wpAny_setState_of ho hd hf (wpAny_pure h))
theorem uA {Q:Bool->Shared->Prop}(h:Q (w.params.followText "set-order") s):wpAny (model prog w) A setsByText Q E s:=by
 unfold setsByText;exact wpAny_bind (wpAny_askSetting (wpAny_pure h))
theorem A4 {sl nx:Nat}{x:Value}{Q:Option Value->Shared->Prop}(hI:IA s.heap I (rawInt sl) i a n ep) (hS:SA s.heap a es ep t) (hf:t.fits es.size=true) (hn:es.size=n)
  (hx:∀ (A':Around) (E':Value->Shared->Prop) (Q':Option (Value×Nat)->Shared->Prop),Q' (some (x,nx)) s->wpAny (model prog w) A' (setNext a sl i ep) Q' E' s)
  (hQ:∀ h',IA h' I (rawInt nx) (i+1) a n ep->Heap.SameBut I s.heap h'->Q (some x) { s with heap:=h' }):wpAny (model prog w) A (pyNext (.ref I)) Q E s:=by
 unfold pyNext;refine wpAny_bind (wpAny_attempt (wpAny_callSpecial?_slot (name:=Str.ofString "__next__") hI.type dP (wpAny_call_entry dP hI.type jn ?_ (lD _))));unfold Builtin.«set_iterator.__next__»;refine wpAny_bind (wpAny_pure ?_);refine wpAny_bind (wpAny_fieldsOf hI rfl ?_);show wpAny _ _ (setEntries a >>= _) _ _ s;refine wpAny_bind (gO hS hf ?_);rw [if_neg (by rw [hn];simp)]
 show wpAny _ _ (setNext a ((sl:Int)).toNat ((i:Int)).toNat ((ep:Int)).toNat >>= _) _ _ s;rw [Int.toNat_natCast,Int.toNat_natCast,Int.toNat_natCast];refine wpAny_bind (hx _ _ _ ?_);show wpAny _ _ (setField (.ref I) 0 (rawInt nx) >>= _) _ _ s;refine wpAny_bind (wpAny_setField_rec hI (by simp) fun h1 e1 b1=>?_)
 show wpAny _ _ (setField (.ref I) 1 (rawInt ((i:Int)+1)) >>= _) _ _ _;refine wpAny_bind (wpAny_setField_rec e1 (by simp) fun h2 e2 b2=>?_)
 show wpAny _ _ (ret x) _ _ _;exact wpAny_pure ⟨_,rfl,wpAny_pure (hQ h2 (by simpa [IA] using e2) (Heap.SameBut.trans b1 b2))⟩
theorem AN {sl:Nat}{Q:Option Value->Shared->Prop}(hh:A.handled=none) (hI:IA s.heap I (rawInt sl) i a n ep) (hS:SA s.heap a es ep t) (hf:t.fits es.size=true) (hn:es.size=n)
  (hx:∀ (A':Around) (E':Value->Shared->Prop) (Q':Option (Value×Nat)->Shared->Prop),Q' none s->wpAny (model prog w) A' (setNext a sl i ep) Q' E' s)
  (hQ:∀ h',Heap.ExtBut I s.heap h'->Q none { s with heap:=h' }):wpAny (model prog w) A (pyNext (.ref I)) Q E s:=by
 unfold pyNext;refine wpAny_bind (wpAny_attempt (wpAny_callSpecial?_slot (name:=Str.ofString "__next__") hI.type dP (wpAny_call_entry dP hI.type jn ?_ (lD _))));unfold Builtin.«set_iterator.__next__»;refine wpAny_bind (wpAny_pure ?_);refine wpAny_bind (wpAny_fieldsOf hI rfl ?_);show wpAny _ _ (setEntries a >>= _) _ _ s;refine wpAny_bind (gO hS hf ?_);rw [if_neg (by rw [hn];simp)]
 show wpAny _ _ (setNext a ((sl:Int)).toNat ((i:Int)).toNat ((ep:Int)).toNat >>= _) _ _ s;rw [Int.toNat_natCast,Int.toNat_natCast,Int.toNat_natCast];refine wpAny_bind (hx _ _ _ ?_);show wpAny _ _ (setField (.ref I) 2 .none >>= _) _ _ s;refine wpAny_bind (wpAny_setField_rec hI (by simp) fun h1 e1 b1=>?_)
 show wpAny _ _ (newExc (.type "StopIteration") [] >>= _) _ _ _;refine wpAny_bind ?_;simp only [newExc,newTuple];refine wpAny_bind (wpAny_newObj_type ?_ (by size_fits))
 refine wpAny_bind (m:=firstArgMember _ _) (wpAny_of_eq (a:=Value.none) (by first|rfl|(simp only [firstArgMember];rfl)) ?_)
 refine wpAny_newObj_type ?_ (by size_fits)
 simp only [raiseNew];refine wpAny_bind (wpAny_handled ?_);rw [show A.in1.handled=none from hh]
 refine wpAny_bind (wpAny_pure (wpAny_throw ?_));refine wpAny_bind (wpAny_isInstance (T := "StopIteration") (b:=true) ⟨_,Heap.get?_push_size _ rfl,rfl⟩ isSubtype_stop ?_);exact wpAny_pure (hQ _ ((b1.extBut.push _).push _))
theorem xD {ps:Array Value}{p:Nat}{u:Tok}{e:Int×Value}{Q:Option Value->Shared->Prop}(hI:IA s.heap I (.ref T) i a n ep) (hS:SA s.heap a es ep t) (hf:t.fits es.size=true) (hn:es.size=n) (hT:s.heap.IsTuple T ps) (hp:ps[i]?=some (.int (p:Int) u)) (he:es[p]?=some e)
  (hQ:∀ h',IA h' I (.ref T) (i+1) a n ep->Heap.SameBut I s.heap h'->Q (some e.2) { s with heap:=h' }):wpAny (model prog w) A (pyNext (.ref I)) Q E s:=by
 unfold pyNext;refine wpAny_bind (wpAny_attempt (wpAny_callSpecial?_slot (name:=Str.ofString "__next__") hI.type dP (wpAny_call_entry dP hI.type jn ?_ (lD _))));unfold Builtin.«set_iterator.__next__»;refine wpAny_bind (wpAny_pure ?_);refine wpAny_bind (wpAny_fieldsOf hI rfl ?_);show wpAny _ _ (setEntries a >>= _) _ _ s;refine wpAny_bind (gO hS hf ?_);rw [if_neg (by rw [hn];simp)]
 obtain ⟨oT,hoT,hcT,m,hdT⟩:=hT;show wpAny _ _ (seqItems? (.ref T) >>= _) _ _ s;refine wpAny_bind (wpAny_seqItems hoT hdT ?_);simp only [Int.toNat_natCast,hp];obtain ⟨o,ho,_,hd⟩:=hS;refine wpAny_bind ?_;unfold setNextDrawn;refine wpAny_bind (wpAny_setState_of ho hd hf ?_);simp only [bne_self_eq_false,Bool.false_eq_true,if_false,Int.toNat_natCast,he];refine wpAny_pure ?_;show wpAny _ _ (setField (.ref I) 1 (rawInt ((i:Int)+1)) >>= _) _ _ _;refine wpAny_bind (wpAny_setField_rec hI (by simp) fun h2 e2 b2=>?_)
 exact wpAny_pure ⟨_,rfl,wpAny_pure (hQ h2 (by simpa [IA] using e2) b2)⟩
theorem wY {ps:Array Value}{Q:Option Value->Shared->Prop}(hh:A.handled=none) (hI:IA s.heap I (.ref T) i a n ep) (hS:SA s.heap a es ep t) (hf:t.fits es.size=true) (hn:es.size=n) (hT:s.heap.IsTuple T ps) (hp:ps[i]?=none)
  (hQ:∀ h',Heap.ExtBut I s.heap h'->Q none { s with heap:=h' }):wpAny (model prog w) A (pyNext (.ref I)) Q E s:=by
 unfold pyNext;refine wpAny_bind (wpAny_attempt (wpAny_callSpecial?_slot (name:=Str.ofString "__next__") hI.type dP (wpAny_call_entry dP hI.type jn ?_ (lD _))));unfold Builtin.«set_iterator.__next__»;refine wpAny_bind (wpAny_pure ?_);refine wpAny_bind (wpAny_fieldsOf hI rfl ?_);show wpAny _ _ (setEntries a >>= _) _ _ s;refine wpAny_bind (gO hS hf ?_);rw [if_neg (by rw [hn];simp)]
 obtain ⟨oT,hoT,hcT,m,hdT⟩:=hT;show wpAny _ _ (seqItems? (.ref T) >>= _) _ _ s;refine wpAny_bind (wpAny_seqItems hoT hdT ?_);simp only [Int.toNat_natCast,hp];refine wpAny_bind (wpAny_setField_rec hI (by simp) fun h0 e0 b0=>?_)
 refine wpAny_bind (wpAny_setField_rec e0 (by simp) fun h1 e1 b1=>?_)
 show wpAny _ _ (newExc (.type "StopIteration") [] >>= _) _ _ _;refine wpAny_bind ?_;simp only [newExc,newTuple];refine wpAny_bind (wpAny_newObj_type ?_ (by size_fits))
 refine wpAny_bind (m:=firstArgMember _ _) (wpAny_of_eq (a:=Value.none) (by first|rfl|(simp only [firstArgMember];rfl)) ?_)
 refine wpAny_newObj_type ?_ (by size_fits)
 simp only [raiseNew];refine wpAny_bind (wpAny_handled ?_);rw [show A.in1.handled=none from hh]
 refine wpAny_bind (wpAny_pure (wpAny_throw ?_));refine wpAny_bind (wpAny_isInstance (T := "StopIteration") (b:=true) ⟨_,Heap.get?_push_size _ rfl,rfl⟩ isSubtype_stop ?_);exact wpAny_pure (hQ _ (((Heap.SameBut.trans b0 b1).extBut.push _).push _))
theorem erase_perm {α:Type}:∀ (l:List α) (i:Nat) (h:i<l.length),(l[i]::l.eraseIdx i).Perm l
 | x::l,0,_=>.refl _
 | x::l,i+1,h=>(List.Perm.swap _ _ _).trans (.cons x (erase_perm l i (by simpa using h)))
theorem Ac {src:Source}{m:Nat}{Q:Nat->Shared->Prop}(hm:m≠0) (h:∀ i d',i<m->Q i { s with drawn:=d' }):wpAny (model prog w) A (choose src m) Q E s:=fun Γ p hΓ=>by
 show Sem.wp _ _ (Sem.choose src m Sem.pure) _ _ _ _;rw [Sem.wp_choose];exact ⟨hm,h _ _ (Nat.mod_lt _ (Nat.pos_of_ne_zero hm))⟩
theorem zw {α:Type}:∀ (m:Nat) (xs:List α) (s:Shared) (Q:List α->Shared->Prop),m=xs.length->(∀ ys d',ys.Perm xs->Q ys { s with drawn:=d' })->wpAny (model prog w) A (drawOrder m xs) Q E s
 | 0,xs,s,Q,hm,h=>by
  have:xs=[]:=List.length_eq_zero_iff.mp hm.symm;subst this;unfold drawOrder;exact wpAny_pure (h [] s.drawn (.refl _))
 | m+1,[],s,Q,hm,h=>by cases hm
 | m+1,x::xs,s,Q,hm,h=>by
  unfold drawOrder;refine wpAny_bind (Ac (by simp) fun i d' hi=>?_)
  have e:(x::xs)[i]?=some ((x::xs)[i]'hi):=gEg hi;rw [e];refine wpAny_bind (zw m _ _ _ (by rw [List.length_eraseIdx,if_pos hi];simp at hm ⊢;lia) fun ys d2 hp=>wpAny_pure (h _ _ ?_))
  exact (List.Perm.cons _ hp).trans (erase_perm _ _ hi)
theorem yK {α:Type}(nx:Nat->Nat):∀ (m k:Nat) (xs:List α) (out:Array α),m=xs.length->(pickOrder.go nx m k xs out).toList.Perm (out.toList++xs)
 | 0,k,xs,out,hm=>by
  have:xs=[]:=List.length_eq_zero_iff.mp hm.symm;subst this;rw [pickOrder.go,aNq]
 | m+1,k,xs,out,hm=>by
  have hi:nx k % xs.length<xs.length:=Nat.mod_lt _ (by lia)
  rw [pickOrder.go];rw [gEg hi];dsimp only;refine (yK nx m (k+1) _ _ (by rw [List.length_eraseIdx,if_pos hi];lia)).trans ?_
  rw [Array.toList_push,List.append_assoc];exact List.Perm.append_left _ (erase_perm _ _ hi)
theorem Av {α:Type}(nx:Nat->Nat) (xs:Array α):(pickOrder nx xs).toList.Perm xs.toList:=by
 have:=yK nx xs.size 0 xs.toList #[] (by rw [Array.length_toList])
 simpa [pickOrder] using this
end
end Ms
namespace Ms
open PySem PyProof.Rows Mr
theorem SA.keep {h h':Heap}{a:Addr}{es:Array (Int×Value)}{ep:Nat}{t:SetTable}(x:SA h a es ep t) (k:∀ o,h.get? a=some o->h'.get? a=some o):SA h' a es ep t:=by
 obtain ⟨o,ho,r⟩:=x;exact ⟨o,k o ho,r⟩
section
variable {prog:Program}{w:World}{A:Around}{E:Value->Shared->Prop}{s:Shared}{I a T:Addr}{es:Array (Int×Value)}{ep:Nat}{t:SetTable}
theorem tJ {items:List Value}{sl:Nat->Nat}(hh:A.handled=none) (hIa:a≠I) (hf:t.fits es.size=true) (hn:es.size=items.length)
  (Hn:∀ (i:Nat) (A':Around) (E':Value->Shared->Prop) (Q':Option (Value×Nat)->Shared->Prop) (z:Shared),i<=items.length->SA z.heap a es ep t->Q' (items[i]?.map fun x=>(x,sl (i+1))) z->wpAny (model prog w) A' (setNext a (sl i) i ep) Q' E' z) :
  Walks prog w A I [I,a] [I] items.length (fun i v=>items[i]?=some v) (fun i h=>i<=items.length/\IA h I (rawInt (sl i)) i a items.length ep/\SA h a es ep t) where
 sub:=fun b hb=>by rw [mSq.mp hb];simp
 frame:=fun i h h' st k=>⟨st.1,k I (by simp) _ st.2.1,st.2.2.keep fun o e=>k a (by simp) o e⟩
 item:=fun i s Q E hi st hQ=>by
  have e:=gEg hi;refine A4 st.2.1 st.2.2 hf hn (nx:=sl (i+1)) (x:=items[i]) (fun A' E' Q' q=>Hn i A' E' Q' s st.1 st.2.2 (by rw [e];exact q)) fun h' ih sb=>?_
  exact hQ _ h' s.toks e ⟨hi,ih,st.2.2.keep fun o q=>sb.extBut a o hIa q⟩ fun b o hb q=>sb.extBut b o (by simpa using hb) q
 done:=fun s Q E st hQ=>by
  have e:items[items.length]?=none:=List.getElem?_eq_none (Nat.le_refl _);exact AN hh st.2.1 st.2.2 hf hn (fun A' E' Q' q=>Hn _ A' E' Q' s st.1 st.2.2 (by rw [e];exact q)) fun h' eb=>hQ h' s.toks fun b o hb q=>eb b o (by simpa using hb) q
 self:=fun i s Q E st hQ=>st.2.1.self hQ
theorem xE {items:List Value}{ps:List Nat}(hh:A.handled=none) (hIa:a≠I) (hIT:T≠I) (hf:t.fits es.size=true) (hn:es.size=items.length) (hl:ps.length=items.length) (hp:∀ i p:Nat,ps[i]?=some p->∃ e:Int×Value,es[p]?=some e/\items[i]?=some e.2) :
  Walks prog w A I [I,a,T] [I] items.length (fun i v=>items[i]?=some v) (fun i h=>i<=items.length/\IA h I (.ref T) i a items.length ep/\SA h a es ep t/\h.IsTuple T (ps.map fun p:Nat=>rawInt p).toArray) where
 sub:=fun b hb=>by rw [mSq.mp hb];simp
 frame:=fun i h h' st k=>⟨st.1,k I (by simp) _ st.2.1,st.2.2.1.keep fun o e=>k a (by simp) o e,let ⟨o,ho,r⟩:=st.2.2.2;⟨o,k T (by simp) o ho,r⟩⟩
 item:=fun i s Q E hi st hQ=>by
  have hi2:i<ps.length:=by rw [hl];exact hi
  have e:=gEg hi2;obtain ⟨x,hx,hy⟩:=hp i _ e;refine xD (u:=0) (p:=ps[i]) (e:=x) st.2.1 st.2.2.1 hf hn st.2.2.2 (by rw [List.getElem?_toArray,gMq,e];rfl) hx fun h' ih sb=>?_
  exact hQ _ h' s.toks hy ⟨hi,ih,st.2.2.1.keep fun o q=>sb.extBut a o hIa q,let ⟨o,ho,r⟩:=st.2.2.2;⟨o,sb.extBut T o hIT ho,r⟩⟩ fun b o hb q=>sb.extBut b o (by simpa using hb) q
 done:=fun s Q E st hQ=>wY hh st.2.1 st.2.2.1 hf hn st.2.2.2 (by rw [List.getElem?_toArray];exact List.getElem?_eq_none (by rw [lMq,hl];exact Nat.le_refl _)) fun h' eb=>hQ h' s.toks fun b o hb q=>eb b o (by simpa using hb) q
 self:=fun i s Q E st hQ=>st.2.1.self hQ
def FI (t:SetTable) (i:Nat):Nat:=if i=0 then 0 else t.place.getD (i-1) 0+1
theorem zF (hu:Up t.place) {i:Nat}(hi:i<=t.place.size):SetTable.below t.place (FI t i)=i:=by
 unfold FI
 by_cases c:i=0
 .rw [if_pos c,c];exact xF hu
 .rw [if_neg c];have hl:i-1<t.place.size:=by lia
  have e:=Array.getElem?_eq_getElem hl;have eg:t.place.getD (i-1) 0=t.place[i-1]'hl:=by simp [Array.getD,hl]
  rw [eg,yq hu e];lia
theorem DP (hf:t.fits es.size=true) (hT:Tb true t) (hw:w.params.followText "set-order" = false) (hd:(!t.plain && decide (es.size>1))=false) {i:Nat}(hi:i<=es.size) (hS:SA s.heap a es ep t) {Q:Option (Value×Nat)->Shared->Prop}
  (h:Q ((es[i]?).map fun e=>(e.2,FI t (i+1))) s):wpAny (model prog w) A (setNext a (FI t i) i ep) Q E s:=by
 obtain ⟨o,ho,_,hdt⟩:=hS;have hps:t.place.size=es.size:=by
  simp only [SetTable.fits,Bool.and_eq_true,beq_iff_eq,decide_eq_true_eq] at hf;exact hf.1
 unfold setNext;refine wpAny_bind (wpAny_setState_of ho hdt hf ?_);refine wpAny_bind (uA ?_);rw [hw];show wpAny _ _ (if (false:Bool)=true then _ else _) _ _ s
 rw [if_neg Bool.false_ne_true];refine wpAny_ite_split (fun z=>absurd (show (!t.plain && decide (es.size>1))=true from z) (by rw [hd];decide)) (fun _=>?_)
 refine wpAny_bind ?_;refine wpAny_ite_split (fun z=>absurd (show (!t.led && !es.isEmpty)=true from z) (by rw [hT.led];simp)) (fun _=>wpAny_pure ?_)
 rw [zF hT.up (by rw [hps];exact hi)]
 refine wpAny_pure ?_
 by_cases c:i<es.size
 .have e1:=Array.getElem?_eq_getElem c;have e2:=Array.getElem?_eq_getElem (show i<t.place.size by rw [hps];exact c)
  have e3:FI t (i+1)=t.place[i]'(by rw [hps];exact c)+1:=by
   unfold FI;rw [if_neg (by lia),Nat.add_sub_cancel]
   simp [Array.getD,show i<t.place.size by rw [hps];exact c]
  rw [e1,e3] at h;rw [e1,e2];exact h
 .have e1:es[i]?=none:=Array.getElem?_eq_none (Nat.le_of_not_lt c);rw [e1] at h;rw [e1];exact h
theorem zT (hf:t.fits es.size=true) (hw:w.params.followText "set-order" = true) {i:Nat}(hS:SA s.heap a es ep t) {Q:Option (Value×Nat)->Shared->Prop}
  (h:Q (((pickOrder (w.params.setOrder a ep) es)[i]?).map fun e=>(e.2,0)) s):wpAny (model prog w) A (setNext a 0 i ep) Q E s:=by
 obtain ⟨o,ho,_,hdt⟩:=hS;unfold setNext;refine wpAny_bind (wpAny_setState_of ho hdt hf ?_);refine wpAny_bind (uA ?_);rw [hw];show wpAny _ _ (if (true:Bool)=true then _ else _) _ _ s
 rw [if_pos rfl];refine wpAny_ite_split (fun z=>absurd z (by simp)) (fun _=>?_)
 refine wpAny_bind ?_;unfold setWalk;refine wpAny_bind (wpAny_setState_of ho hdt hf ?_);refine wpAny_bind (uA ?_);rw [hw];show wpAny _ _ (if (true:Bool)=true then _ else _) _ _ s
 rw [if_pos rfl];refine wpAny_bind (wpAny_askSetting ?_);exact wpAny_pure (wpAny_pure h)
end
end Ms
namespace Ms
open PySem PyProof.Rows Mr
theorem oB {es:List (Int×Value)}{F:List Int}{vs:List Value}(hin:∀ e∈es,∃ k u,e.2 = .int k u) (hp:(es.map fun e=>Mr.intOf e.2).Perm F) (hv:vs.Perm (es.map (·.2))):(∀ v∈vs,∃ k u,v = .int k u)/\(vs.map Mr.intOf).Perm F:=by
 refine ⟨fun v hm=>?_,(hv.map _).trans ?_⟩
 .obtain ⟨e,he,rfl⟩:=mMq.mp (hv.mem_iff.mp hm);exact hin e he
 .rw [mPq];exact hp
section
variable {prog:Program}{w:World}{A:Around}{E:Value->Shared->Prop}{s:Shared}{a:Addr}{F:List Int}
theorem Ct {Q:Value->Shared->Prop}(hS:SI prog w s.heap a F)
  (h:∀ (I:Addr) (h1:Heap) (d':Drawn) (fp:List Addr) (vs:List Value) (St:Nat->Heap->Prop),(∀ A':Around,A'.handled=none->Walks prog w A' I fp [I] vs.length (fun i v=>vs[i]?=some v) St)->St 0 h1->(∀ b o,s.heap.get? b=some o->h1.get? b=some o)->s.heap.objs.size<=I->(∀ b∈fp,b=a∨s.heap.objs.size<=b) ->
   (∀ v∈vs,∃ k u,v = .int k u)->(vs.map Mr.intOf).Perm F->Q (.ref I) { s with heap:=h1,drawn:=d' }):wpAny (model prog w) A (pyIter (.ref a)) Q E s:=by
 obtain ⟨o,es,ep,t,ho,hex,hd,hel,hin,hp,hb,hf,hT⟩:=hS;have hTy:s.TypeIs (.ref a) "set" := ⟨o,ho,hex.1⟩;have hla:a<s.heap.objs.size:=Heap.lt_size ho;have hSA:SA s.heap a es ep t:=⟨o,ho,hex,hd⟩;have fits:es.size<=sizeLine:=fits_of_scanBound hb;refine wpAny_pyIter_slot hTy PySem.F.slot_set_iter (wpAny_call_entry PySem.F.slot_set_iter hTy xi ?_ (PySem.F.args_set_iter_1 _));unfold Builtin.«frozenset.__iter__»;show wpAny _ _ (Builtin.Frozenset.sizeOf a >>= _) _ _ s;refine wpAny_bind ?_;unfold Builtin.Frozenset.sizeOf;refine wpAny_bind (gO hSA hf (wpAny_pure ?_));show wpAny _ _ (setDrawn a >>= _) _ _ s;refine wpAny_bind ?_;unfold setDrawn;refine wpAny_bind (wpAny_setState_of ho hd hf ?_);refine wpAny_bind (uA (wpAny_pure ?_));have fin:∀ (f:Value) (z:Shared),z.heap.get? a=some o->Q (.ref z.heap.objs.size) { z with heap:=z.heap.push { cls:=.type "set_iterator", data:=.fields #[f,rawInt (0:Nat),.ref a,rawInt es.size,rawInt ep] } } ->
   wpAny (model prog w) A.in1 (setEpoch a >>= fun e=>newFields "set_iterator" [f,rawInt 0,.ref a,rawInt es.size,rawInt e] >>= fun v=>ret v) (fun fin z=>∃ v,fin = .done (.ret v)/\∃ T' r,z.TypeIs v T'/\typeLookup (.type T') "__next__" = pure (some r)/\Q v z) E z:=fun f z hz q=>by
  unfold setEpoch;refine wpAny_bind (wpAny_bind (wpAny_setState_of hz hd hf (wpAny_pure ?_)));unfold newFields;exact wpAny_bind (wpAny_newObj_type (wpAny_pure ⟨_,rfl, "set_iterator", _,⟨_,Heap.get?_push_size _ rfl,rfl⟩,dP.lookup,q⟩))
 have s0:s={ s with heap:=s.heap,drawn:=s.drawn }:=by cases s;rfl
 cases hw:w.params.followText "set-order" with
 | true =>
  show wpAny _ _ (if (!true && _)=true then _ else _) _ _ s
  rw [if_neg (by simp)]
  refine wpAny_bind (wpAny_pure ?_);have hperm:=Av (w.params.setOrder a ep) es;have hl:es.size=((pickOrder (w.params.setOrder a ep) es).toList.map (·.2)).length:=by rw [lMq,hperm.length_eq,Array.length_toList]
  obtain ⟨v1,v2⟩:=oB hin hp (hperm.map (·.2));refine fin (rawInt 0) s ho ?_;have fpm:∀ b∈[s.heap.objs.size,a],b=a∨s.heap.objs.size<=b:=fun b hb=>(List.mem_cons.mp hb).elim (fun z=>.inr (Nat.le_of_eq z.symm)) fun z=>.inl (by simpa using z)
  have ia:IA (s.heap.push { cls:=.type "set_iterator", data:=.fields #[rawInt 0,rawInt (0:Nat),.ref a,rawInt es.size,rawInt ep] }) s.heap.objs.size (rawInt (0:Nat)) 0 a ((pickOrder (w.params.setOrder a ep) es).toList.map (·.2)).length ep:=by
   rw [← hl];exact Heap.get?_push_size _ rfl
  refine h _ _ s.drawn [s.heap.objs.size,a] _ _ (fun A' hh=>tJ (items:=(pickOrder (w.params.setOrder a ep) es).toList.map (·.2)) (sl:=fun _=>0) hh (Nat.ne_of_lt hla) hf hl fun i A2 E2 Q2 z hi hz q=>zT hf hw hz ?_) ⟨Nat.zero_le _,ia,hSA.keep fun o e=>Heap.get?_push_of_some _ e⟩ (fun b o e=>Heap.get?_push_of_some _ e) (Nat.le_refl _) fpm v1 v2
  rw [gMq,Array.getElem?_toList] at q;cases hq:(pickOrder (w.params.setOrder a ep) es)[i]? with
  | none=>rw [hq] at q;exact q
  | some x=>rw [hq] at q;exact q
 | false =>
  have hT':Tb true t:=by rw [hw] at hT;exact hT
  by_cases hdr:(!t.plain && decide (es.size>1))=true
  .show wpAny _ _ (if (!false && (!t.plain && decide (es.size>1)))=true then _ else _) _ _ s
   rw [if_pos (by rw [hdr];rfl)]
   refine wpAny_bind (zw es.size (List.range es.size) s _ (by rw [List.length_range]) fun ys d' hy=>wpAny_bind ?_)
   have yl:ys.length=es.size:=by rw [hy.length_eq,List.length_range]
   refine wpAny_newTuple ?_ (by rw [lMq,yl];exact fits)
   generalize hg:s.heap.push { cls:=.type "tuple", data:=.seq (ys.map fun i:Nat=>rawInt i).toArray }=g
   have kg:∀ b o,s.heap.get? b=some o->g.get? b=some o:=fun b o e=>by rw [← hg];exact Heap.get?_push_of_some _ e
   have zg:g.objs.size=s.heap.objs.size+1:=by rw [← hg];exact Heap.size_push ..
   have tg:g.IsTuple s.heap.objs.size (ys.map fun i:Nat=>rawInt i).toArray:=by rw [← hg];exact ⟨_,Heap.get?_push_size _ rfl,rfl,_,rfl⟩
   refine fin (.ref s.heap.objs.size) { s with heap:=g,drawn:=d' } (kg a o ho) ?_
   let items:List Value:=ys.filterMap fun p=>(es[p]?).map (·.2)
   have ev:ys.map (fun p=>(es[p]?).map (·.2))=items.map some:=by
    show _=(ys.filterMap fun p=>(es[p]?).map (·.2)).map some
    have:∀ l:List Nat,(∀ p∈l,p<es.size)->l.map (fun p=>(es[p]?).map (·.2))=(l.filterMap fun p=>(es[p]?).map (·.2)).map some:=by
     intro l
     induction l with
     | nil=>intro _;rfl
     | cons p l ih =>
      intro hl;have hp:=Array.getElem?_eq_getElem (hl p (by simp))
      rw [List.map_cons,List.filterMap_cons_some (b:=(es[p]'(hl p (by simp))).2) (by rw [hp];rfl),List.map_cons,ih fun q hq=>hl q (by simp [hq]),hp]
      rfl
    exact this ys fun p hp=>by
     have:=hy.mem_iff.mp hp;exact List.mem_range.mp this
   have il:items.length=es.size:=by
    have:=congrArg List.length ev;rw [lMq,lMq] at this;rw [← this,yl]
   have ip:items.Perm (es.toList.map (·.2)):=by
    refine (hy.filterMap _).trans ?_;have:=filterMap_getElem?_range es;rw [← this,List.map_filterMap]
   obtain ⟨v1,v2⟩:=oB hin hp ip;have fpm:∀ b∈[g.objs.size,a,s.heap.objs.size],b=a∨s.heap.objs.size<=b:=fun b hb=>by
    simp only [List.mem_cons,List.not_mem_nil,or_false] at hb;rcases hb with z|z|z
    .rw [z,zg];exact .inr (Nat.le_succ _)
    .exact .inl z
    .rw [z];exact .inr (Nat.le_refl _)
   have ia:IA (g.push { cls:=.type "set_iterator", data:=.fields #[.ref s.heap.objs.size,rawInt (0:Nat),.ref a,rawInt es.size,rawInt ep] }) g.objs.size (.ref s.heap.objs.size) 0 a items.length ep:=by
    rw [il];exact Heap.get?_push_size _ rfl
   refine h _ _ d' [g.objs.size,a,s.heap.objs.size] items _ (fun A' hh=>xE (ps:=ys) hh (by rw [zg];exact Nat.ne_of_lt (Nat.lt_succ_of_lt hla)) (by rw [zg];exact Nat.ne_of_lt (Nat.lt_succ_self _)) hf il.symm (by rw [yl,il]) fun i p e=>?_) ⟨Nat.zero_le _,ia,(hSA.keep fun o e=>kg a o e).keep fun o e=>Heap.get?_push_of_some _ e,let ⟨o,ho,r⟩:=tg;⟨o,Heap.get?_push_of_some _ ho,r⟩⟩ (fun b o e=>Heap.get?_push_of_some _ (kg b o e)) (by rw [zg];exact Nat.le_succ _) fpm v1 v2
   have hpl:p<es.size:=List.mem_range.mp (hy.mem_iff.mp (mGq e));have hx:=Array.getElem?_eq_getElem hpl;refine ⟨_,hx,?_⟩;have:=congrArg (fun l:List (Option Value)=>l[i]?) ev
   simp only [gMq,e,Option.map_some,hx] at this;cases hq:items[i]? with
   | none=>rw [hq] at this;cases this
   | some y=>rw [hq] at this;exact congrArg some (Option.some.inj (Option.some.inj this)).symm
  .show wpAny _ _ (if (!false && (!t.plain && decide (es.size>1)))=true then _ else _) _ _ s
   have hdr':(!t.plain && decide (es.size>1))=false:=by simpa using hdr
   rw [if_neg (by rw [hdr'];decide)]
   refine wpAny_bind (wpAny_pure ?_);have hl:es.size=(es.toList.map (·.2)).length:=by rw [lMq,Array.length_toList]
   obtain ⟨v1,v2⟩:=oB hin hp (.refl _);refine fin (rawInt 0) s ho ?_;have fpm:∀ b∈[s.heap.objs.size,a],b=a∨s.heap.objs.size<=b:=fun b hb=>(List.mem_cons.mp hb).elim (fun z=>.inr (Nat.le_of_eq z.symm)) fun z=>.inl (by simpa using z)
   have ia:IA (s.heap.push { cls:=.type "set_iterator", data:=.fields #[rawInt 0,rawInt (0:Nat),.ref a,rawInt es.size,rawInt ep] }) s.heap.objs.size (rawInt (FI t 0)) 0 a (es.toList.map (·.2)).length ep:=by
    rw [← hl];exact Heap.get?_push_size _ rfl
   refine h _ _ s.drawn [s.heap.objs.size,a] _ _ (fun A' hh=>tJ (items:=es.toList.map (·.2)) (sl:=FI t) hh (Nat.ne_of_lt hla) hf hl fun i A2 E2 Q2 z hi hz q=>DP hf hT' hw hdr' (by rw [hl];exact hi) hz ?_) ⟨Nat.zero_le _,ia,hSA.keep fun o e=>Heap.get?_push_of_some _ e⟩ (fun b o e=>Heap.get?_push_of_some _ e) (Nat.le_refl _) fpm v1 v2
   rw [gMq,Array.getElem?_toList] at q;cases hq:es[i]? with
   | none=>rw [hq] at q;exact q
   | some x=>rw [hq] at q;exact q
end
end Ms
namespace Ms
open PySem PySem.W PyProof.Rows Mr MrS
section
variable {prog:Program}{w:World}{A:Around}{E:Value->Shared->Prop}{s:Shared}{a:Addr}{F:List Int}
theorem DS {r:Addr}{Q:Bool->Shared->Prop}(hT:s.TypeIs (.ref r) "set") (h:Q false s):wpAny (model prog w) A (Builtin.List.listLengthHint (.ref r)) Q E s:=by
 unfold Builtin.List.listLengthHint;refine wpAny_bind (wpAny_specialOf hT PySem.F.slot_set_len.lookup ?_);generalize hid:("set.__len__" : String)=id0
 wp_delta
 rw [show splitId id0=some ("set", "__len__") from by subst hid;decide +kernel]
 subst hid;refine wpAny_bind (wpAny_isInstance (T := "set") (b:=true) hT (by rw [isSubtype_type];kernel_rfl) ?_)
 refine wpAny_ite_split (fun hab=>absurd hab (by decide)) (fun _=>?_)
 refine wpAny_ite_split (fun _=>?_) (fun hab=>absurd (by decide +kernel) hab)
 refine wpAny_bind (wpAny_typeOf hT ?_);exact wpAny_pure h
theorem Eb {R:Result->Shared->Prop}{S:Addr}{res:Value}{c0:Nat}(hh:A.handled=none) (hSI:SI prog w s.heap a F) (hSa:S≠a) (hS:s.heap.get? S=some { cls:=.type "list", data:=.seq #[] c0 }) (hn:F.length<=sizeLine)
  (hR:∀ h' tk d' acc c',(∀ b o,b≠S->s.heap.get? b=some o->h'.get? b=some o)->h'.get? S=some { cls:=.type "list", dict:=none,data:=.seq acc c',slots:=#[] }->(∀ v∈acc.toList,∃ k u,v = .int k u)->(acc.toList.map Mr.intOf).Perm F->R (.ok (.ret res)) { s with heap:=h',toks:=tk,drawn:=d' }) :
  wpAny (model prog w) A.in1 (Builtin.List.listExtendWith (.ref S) (.ref a) res)
   (fun fin s'=>match fin with|.done f=>R (.ok f) s'|.again c'=>c'.quiet=true/\codeAny (model prog w) A c' R s') (fun e s'=>R (.error e) s') s:=by
 have hSl:S<s.heap.objs.size:=Heap.lt_size hS;have hT:s.TypeIs (.ref a) "set" := by
  obtain ⟨o,_,_,_,ho,hex,_⟩:=hSI;exact ⟨o,ho,hex.1⟩
 unfold Builtin.List.listExtendWith;refine wpAny_bind (wpAny_typeOf (T := "set") hT ?_);have h1:Builtin.List.listSameRef (.ref S) (.ref a)=false:=by simp [Builtin.List.listSameRef,hSa]
 have h2:(Value.type "set" == Value.type "list")=false:=by decide
 have h3:(Value.type "set" == Value.type "tuple")=false:=by decide
 simp only [h1,h2,h3,Bool.or_false,Bool.false_eq_true,if_false];refine wpAny_bind (Ct hSI fun I g d' fp vs St W st kp hI hfp v1 v2=>?_)
 have hSf:S∉fp:=fun m=>by
  rcases hfp S m with z|z
  .exact hSa z
  .exact absurd hSl (Nat.not_lt.mpr z)
 have vn:vs.length<=sizeLine:=by
  have:=v2.length_eq;rw [lMq] at this;rw [this];exact hn
 have hIS:I≠S:=Nat.ne_of_gt (Nat.lt_of_lt_of_le hSl hI);have key:∀ (h:Heap) (c1 tk:Nat),St 0 h->(∀ b o,b≠S->s.heap.get? b=some o->h.get? b=some o) ->
   h.get? S=some { cls:=.type "list", data:=.seq #[] c1 }->codeAny (model prog w) A (.builtin "list.extend.loop" ⟨[.ref S,.ref I,res],[]⟩) R { s with heap:=h,toks:=tk,drawn:=d' }:=by
  intro h c1 tk mK hk hS1;refine codeAny_extend_loopS (W A.in1 hh).toS vn S hSf res vs.length 0 _ #[] c1 rfl (Nat.zero_le _) mK hS1 (ItemsOf.nil _) fun z acc c' hm hS' hacc=>?_
  rw [Moved.eq_with hm];have ea:acc.toList=vs:=by
   refine List.ext_getElem? fun j=>?_
   rw [Array.getElem?_toList];cases hq:acc[j]? with
   | none =>
    have:acc.size<=j:=Array.getElem?_eq_none_iff.mp hq;rw [List.getElem?_eq_none (by rw [← hacc.1];exact this)]
   | some v=>exact (hacc.2 j v hq).symm
  refine hR z.heap z.toks d' acc c' (fun b o hb e=>hm.heap b o (fun hmem=>?_) (hk b o hb e)) hS' (by rw [ea];exact v1) (by rw [ea];exact v2)
  rcases List.mem_cons.mp hmem with e'|e'
  .exact hb e'
  .rw [mSq.mp e'] at e;exact absurd (Heap.lt_size e) (Nat.not_lt.mpr hI)
 have hS1:=kp S _ hS;refine wpAny_bind (wpAny_holding (DS (let ⟨o,ho,hc⟩:=hT;⟨o,kp a o ho,hc⟩) ?_))
 refine wpAny_ite_split (fun _=>?_) (fun _=>wpAny_pure ⟨plainId_quiet PySem.F.plain_extend_loop _,key _ c0 _ st (fun b o _ e=>kp b o e) hS1⟩)
 refine wpAny_bind (wpAny_rule ?_);refine wpAny_bind ?_;show wpAny _ _ (updateSeq S (·.push .none) >>= fun _=>updateSeq S (·.pop)) _ _ _
 refine wpAny_bind (wpAny_updateSeq hS1 rfl ?_);have hS2:=Heap.get?_update_self (Obj.mapSeq (·.push Value.none)) hS1 rfl;refine wpAny_updateSeq (hz:=by seq_fits) hS2 rfl ?_
 have hS3:=Heap.get?_update_self (Obj.mapSeq (·.pop)) hS2 rfl;refine wpAny_pure ⟨plainId_quiet PySem.F.plain_extend_loop _,key _ _ _ ?_ (fun b o hb e=>?_) hS3⟩
 .refine (W A.in1 hh).frame 0 _ _ st fun b hb o e=>?_
  have hbS:b≠S:=fun h=>hSf (h ▸ hb)
  exact (Heap.get?_update_other _ _ (Ne.symm hbS)).trans ((Heap.get?_update_other _ _ (Ne.symm hbS)).trans e)
 .exact (Heap.get?_update_other _ _ (Ne.symm hb)).trans ((Heap.get?_update_other _ _ (Ne.symm hb)).trans (kp b o e))
theorem vT {Q:List Value->Shared->Prop}(hh:A.handled=none) (hSI:SI prog w s.heap a F) (hn:F.length<=sizeLine)
  (h:∀ h' tk d' vs,(∀ b o,s.heap.get? b=some o->h'.get? b=some o)->s.heap.objs.size<h'.objs.size->(∀ v∈vs,∃ k u,v = .int k u)->(vs.map Mr.intOf).Perm F->Q vs { s with heap:=h',toks:=tk,drawn:=d' }) :
  wpAny (model prog w) A (collect (.ref a)) Q E s:=by
 have hla:a<s.heap.objs.size:=let ⟨_,_,_,_,ho,_⟩:=hSI;Heap.lt_size ho
 unfold collect;refine wpAny_bind (wpAny_runValue (codeAny_builtin entry_proto_collect' ?_));show wpAny _ _ (do again (.builtin "list.__iadd__" ⟨[← newList [],.ref a],[]⟩)) _ _ s
 refine wpAny_bind (wpAny_newList (wpAny_pure ⟨Code.quiet_builtin _ (by decide +kernel),codeAny_builtin entry_list_iadd' ?_⟩))
 show wpAny _ _ (Builtin.List.listExtendWith (.ref s.heap.objs.size) (.ref a) (.ref s.heap.objs.size)) _ _ { s with heap:=s.heap.push (seqObj "list" #[] 0) }
 have hS0:(s.heap.push (seqObj "list" #[] 0)).get? s.heap.objs.size=some (seqObj "list" #[] 0):=Heap.get?_push_size _ rfl;refine Eb (A:=A) (R:=fun r s'=>match r with
   | .ok (.ret v)=>wpAny (model prog w) A (match v with
    | .ref a=>do
     let o ← load a
     match o.data with
     | .seq xs _=>pure xs.toList
     | _=>unsupported "internal:collect"
    | _=>unsupported "internal:collect") Q E s'
   | .ok _=>False
   | .error e=>E e s') (s:={ s with heap:=s.heap.push (seqObj "list" #[] 0) }) hh (hSI.keep fun o e=>Heap.get?_push_of_some _ e) (Nat.ne_of_gt hla) hS0 hn fun h' tk d' acc c hk hS v1 v2=>?_
 show wpAny (model prog w) A (do
   let o ← load s.heap.objs.size
   match o.data with
   | .seq xs _=>pure xs.toList
   | _=>unsupported "internal:collect") Q E { s with heap:=h',toks:=tk,drawn:=d' }
 refine wpAny_bind (wpAny_load hS ?_);exact wpAny_pure (h h' tk d' acc.toList (fun b o e=>hk b o (Nat.ne_of_lt (Heap.lt_size e)) (Heap.get?_push_of_some _ e)) (Heap.lt_size hS) v1 v2)
theorem yd {Q:Value->Shared->Prop}(hh:A.handled=none) (hSI:SI prog w s.heap a F) (hn:F.length<=sizeLine)
  (h:∀ (out:List Value) (h':Heap) (p:Addr) (tk n':Nat) (d':Drawn),(∀ v∈out,∃ k u,v = .int k u)->out.map Mr.intOf=pI F->(∀ b o,s.heap.get? b=some o->h'.get? b=some o)->s.heap.objs.size<=p->h'.get? p=some (seqObj "list" out.toArray n')->Q (.ref p) { s with heap:=h',toks:=tk,drawn:=d' }) :
  wpAny (model prog w) A (call (.builtin "sorted") [.ref a]) Q E s:=by
 refine Calls.call_function_entry kind_sorted plain_sorted entry_sorted (args_sorted1 _) ?_;unfold Builtin.«sorted»;refine wpAny_bind (m:=checkCount "sorted" 1 1 _) (wpAny_pure ?_);refine wpAny_bind (vT hh hSI hn fun h0 tk d' vs hk0 hsz0 v1 v2=>?_)
 have hs:vs.length<=sizeLine:=by
  have:=v2.length_eq;rw [lMq] at this;rw [this];exact hn
 refine wpAny_bind (wpAny_newList ?_ hs);have hoL:(h0.push (seqObj "list" vs.toArray 0)).get? h0.objs.size=some (seqObj "list" vs.toArray 0):=Heap.get?_push_size _ rfl;show wpAny _ _ _ _ _ { s with heap:=h0.push (seqObj "list" vs.toArray 0),toks:=tk,drawn:=d' }
 have hsz:s.heap.objs.size<=h0.objs.size:=Nat.le_of_lt hsz0;have k1:∀ b o,s.heap.get? b=some o->(h0.push (seqObj "list" vs.toArray 0)).get? b=some o:=fun b o e=>Heap.get?_push_of_some _ (hk0 b o e)
 have hlt:∀ b o,s.heap.get? b=some o->b≠h0.objs.size:=fun b o e=>Nat.ne_of_lt (Heap.lt_size (hk0 b o e))
 generalize h0.push (seqObj "list" vs.toArray 0)=G at hoL k1 ⊢
 clear hsz0
 generalize h0.objs.size=p at hoL hsz hlt ⊢;have k2:∀ b o,s.heap.get? b=some o->(fJ G p vs).get? b=some o:=fun b o e=>by
  refine Heap.get?_push_of_some _ (Heap.get?_push_of_some _ ?_);rw [Heap.get?_update_ne _ _ _ _ (hlt b o e)];exact k1 b o e
 have hkk:2<=vs.length->∀ Q:SortKind->Shared->Prop,Q oneType' { s with heap:=fJ G p vs,toks:=tk,drawn:=d' }->wpAny (model prog w) A.in1.in1 (keyKind' vs.toArray) Q E { s with heap:=fJ G p vs,toks:=tk,drawn:=d' }:=fun h3 Q q=>by
  have hi:IntsAre vs (vs.map Mr.intOf):=ui (by rw [lMq]) fun j v m e1 e2=>by
   obtain ⟨k,u,rfl⟩:=v1 v (mGq e1);rw [gMq,e1] at e2;cases e2;exact ⟨u,rfl⟩
  match vs,hi,h3 with
  | [],_,h3=>simp at h3
  | [_],_,h3=>simp at h3
  | v₁::v₂::fZ,hi,_ =>
   rw [keyKind_ints hi];exact wpAny_pure q
 refine wpAny_bind (wpAny_holding (wpAny_call_entry slot_list_sort ⟨_,hoL,rfl⟩ entry_list_sort (lR (s:={ s with heap:=G,toks:=tk,drawn:=d' }) (Pk:=fun x:Keyed=>∃ a t,x.1=Value.int a t) (lt:=Mm) hoL hs hkk (LG _ _ _ _) (fun x hx=>?_) fun xs a1 a2=>⟨_,rfl,?_⟩) (args_list_sort _)))
 .obtain ⟨m1,m2⟩:=iH hx;exact v1 _ m1
 .obtain ⟨o1,o2⟩:=oO a1 a2;obtain ⟨e1,ho1⟩:=zm vs hoL;obtain ⟨n1,g1⟩:=yU (xs.map (·.2)) ho1;have hv:∀ v∈(xs.map (·.2)).toList,∃ a t,v=Value.int a t:=fun v m=>v1 v (o1.mem_iff.mp m)
  refine wpAny_pure ⟨_,rfl,h _ (sortedHeap G p vs (xs.map (·.2))) p tk n1 d' hv (Fp ((o1.map _).trans v2) ?_) (fun b o e=>?_) hsz ?_⟩
  .rw [List.pairwise_map];refine o2.imp_of_mem fun {x y} mx my hq=>?_
   obtain ⟨c,t,rfl⟩:=hv x mx;obtain ⟨b,u,rfl⟩:=hv y my;have h':¬ b<c:=of_decide_eq_false hq;show c<=b;lia
  .unfold sortedHeap;rw [Heap.get?_update_ne _ _ _ _ (hlt b o e)];exact k2 b o e
  .rw [show (xs.map (·.2)).toList.toArray=xs.map (·.2) from Array.toArray_toList]
   exact g1
end
end Ms
namespace Z
open PySem L2 Mr Xe
def pairsOf:List D->Option (List (D×D))
 | []=>some []
 | .tup [a,b]::r=>(pairsOf r).map ((a,b) :: ·)
 | _=>none
end Z
namespace Mr
open PySem PySem.Spec PyProof.Rows L2
theorem K1 {X:Cx}{ab:List (Addr×Obj)}{σ:St}{H:Hp}{s:Shared}(I:aO X ab σ H s) (d:Drawn):aO X ab σ H { s with drawn:=d }:=⟨I.ok,I.os,I.bare,I.base,I.loc,I.cell,I.free,I.freeC,I.pin,I.hok,I.len⟩
section
variable {X:Cx}
def FV (K:W.Frag) (xs:List V) (H:Hp) (Q:VK):Prop:=∃ (a:Addr) (ns:List Int),xs=[.ref a]/\eJ K H a (ns.map V.int)/\ns.length+1<scanBound/\∀ p,H p=none->Q (.ref p) (cK H p (.lst ((pI (Ms.dd ns)).map V.int)))
theorem EE {e:Expr}{ta:TA}{p0 p pos0 pos:Pos}(hc:X.calm=true) (gl:Gl X "sorted") (ml:X.mg "sorted" = none) (hg:Gl X "set") (hm:X.mg "set" = none) (ha:PA X [e] ta)
  (he:starEach [.Call (.Name "set" p) [e] [] pos] X.env=(false,eval (.Call (.Name "set" p) [e] [] pos) X.env)::starEach [] X.env:=by rfl) (hs:starEach [e] X.env=[(false,eval e X.env)]:=by rfl) :
  PE X (.Call (.Name "sorted" p0) [.Call (.Name "set" p) [e] [] pos] [] pos0) (Bk (FV X.K) ta):=by
 intro ab s σ H Q I h;refine wpAny_Call_Name_kw (gu I gl ml boot_sorted ?_ (by decide) (by decide))
 refine PyProof.Rows.callWith_builtin1 ?_ he (by rfl)
 rw [he];show wpAny _ _ (spliced ((false,eval (.Call (.Name "set" p) [e] [] pos) X.env)::backTo pos0 (starEach [] X.env))) _ _ s;refine Calls.spliced_cons ?_;refine Call_ (gu I hg hm boot_set (PyProof.Rows.callWith_type1 (cP (ha pos ab s σ H _ I h) fun us s1 hz1=>?_) hs rfl))
 obtain ⟨vs,H1,I1,r1,a,ns,e1,hS,hb,q⟩:=hz1;subst e1;obtain ⟨u,rfl,ru⟩:=kx r1;cases ru;obtain ⟨ws,hl,hi,_⟩:=nA I1 hS;have hd:=Ms.uW ns;refine Ms.vU (I1.ok.hd hc) hl hi hb fun h1 tk hSI kp=>Calls.spliced_nil ?_
 refine Ms.yd (s:={ s1 with heap:=h1,toks:=tk }) (I1.ok.hd hc) hSI (by have:scanBound=4096:=rfl;rw [sizeLine_eq];lia) fun out h2 p tk2 n' d' hv ho kp2 hp hx=>?_
 have hp2:s1.heap.objs.size<=p:=Nat.le_trans (Nat.le_of_lt (let ⟨_,_,_,_,ho',_⟩:=hSI;Heap.lt_size ho')) hp
 have hfr:H1 p=none:=I1.hok.fresh hp2;have hz:((pI (Ms.dd ns)).map V.int).length<=sizeLine:=by
  have:scanBound=4096:=rfl;rw [lMq,(iW _).length_eq,sizeLine_eq];lia
 refine ⟨.ref p,_,K1 (I1.laid (t':=tk2) (fun b o e=>kp2 b o (kp b o e)) hp2 (show dJ X.prog X.w _ h2 _ (.lst ((pI (Ms.dd ns)).map V.int)) from ⟨hz,out,n',?_,hx⟩)) d',rfl,q _ hfr⟩
 rw [← ho];exact Mr.vals_ints hv
end
end Mr
namespace Z
open PySem L2 Mr
noncomputable def Bn (l:ML):MK:=fun S=>(l S).bind fun x=>(cM x.1).bind fun ns=>jb (ns.length<=4000) (some (.ow ((pI (Ms.dd ns)).map fun n=>.sh (.int n)),x.2))
theorem EW {K:W.Frag}{te:TE}{l:ML}(hl:SQ K te l):SK K (Bk (FV K) (gi te ka)) (Bn l):=by
 intro H₀ Hf₀ Hf S σ H Fs av S' R e Q q;obtain ⟨x,e1,e⟩:=oBq.mp e;obtain ⟨ns,e2,e⟩:=oBq.mp e;rcases bh e with ⟨hlen,e⟩|e
 .cases e;refine hl R (ds:=x.1) (S':=x.2) e1 _ fun Hf1 H1 Fs1 p1 vs1 t1 R1 h1 r1=>?_
  rw [gb e2] at r1;rw [cX r1] at h1;refine ⟨p1,ns,rfl,h1,by unfold scanBound;lia,fun p hp=>?_⟩
  obtain ⟨t4,R4,n1,n2,n3⟩:=R1.new (o:=.lst ((pI (Ms.dd ns)).map V.int)) hp;rw [vW] at q;exact q _ _ _ (.ref p) [p] (t1.trans t4) R4 (bD.new bb n1 (gL _)) ((jk.one R1 hp).back t1)
 .cases e
theorem Ii (l:ML) (S:AS):Bn l S=(l S).bind fun x=>(cM x.1).bind fun ns=>jb (ns.length<=4000) (some (.ow ((pI (Ms.dd ns)).map fun n=>.sh (.int n)),x.2)):=rfl
end Z
namespace Mr
open PySem PySem.Spec PyProof.Rows L2
section
variable {X:Cx}
def rLset (K:W.Frag) (xs:List V) (H:Hp) (Q:VK):Prop:=∃ (a:Addr) (ns:List Int),xs=[.ref a]/\eJ K H a (ns.map V.int)/\ns.length+1<scanBound/\Q (.int ((Ms.dd ns).length:Nat)) H
theorem pY {e:Expr}{ta:TA}{p0 p pos0 pos:Pos}(hc:X.calm=true) (gl:Gl X "len") (ml:X.mg "len" = none) (hg:Gl X "set") (hm:X.mg "set" = none) (ha:PA X [e] ta)
  (he:starEach [.Call (.Name "set" p) [e] [] pos] X.env=(false,eval (.Call (.Name "set" p) [e] [] pos) X.env)::starEach [] X.env:=by rfl) (hs:starEach [e] X.env=[(false,eval e X.env)]:=by rfl) :
  PE X (.Call (.Name "len" p0) [.Call (.Name "set" p) [e] [] pos] [] pos0) (Bk (rLset X.K) ta):=by
 intro ab s σ H Q I h;refine wpAny_Call_Name_kw (gu I gl ml boot_len ?_ (by decide) (by decide))
 refine PyProof.Rows.callWith_builtin1 ?_ he (by rfl)
 rw [he];show wpAny _ _ (spliced ((false,eval (.Call (.Name "set" p) [e] [] pos) X.env)::backTo pos0 (starEach [] X.env))) _ _ s;refine Calls.spliced_cons ?_;refine Call_ (gu I hg hm boot_set (PyProof.Rows.callWith_type1 (cP (ha pos ab s σ H _ I h) fun us s1 hz1=>?_) hs rfl))
 obtain ⟨vs,H1,I1,r1,a,ns,e1,hS,hb,q⟩:=hz1;subst e1;obtain ⟨u,rfl,ru⟩:=kx r1;cases ru;obtain ⟨ws,hl,hi,_⟩:=nA I1 hS;refine Ms.vU (I1.ok.hd hc) hl hi hb fun h1 tk hSI kp=>Calls.spliced_nil ?_
 obtain ⟨o,es,ep,t,ho,hex,hd,_,_,hp,hlt,hfit,_⟩:=hSI;have hsz:es.size=(Ms.dd ns).length:=by
  have:=hp.length_eq;rw [lMq,Array.length_toList] at this;exact this
 refine call_len_set (s:={ s1 with heap:=h1,toks:=tk }) ho hex hd hfit (by unfold scanBound at hlt;lia) ?_
 rw [hsz];exact ⟨.int ((Ms.dd ns).length:Nat),H1,(I1.kept (t':=tk+1+1) kp),⟨_,rfl⟩,q⟩
def Cb (xs:List V) (H:Hp) (Q:VK):Prop:=∃ j:Int,xs=[.int j]/\(-(2 ^ 62)<=j/\j<2 ^ 62)/\j.toNat<=sizeLine/\∀ l,H l=none->Q (.ref l) (cK H l (.lst ((List.range j.toNat).map fun k:Nat=>V.int (0+k))))
theorem vK {b:Expr}{ta:TA}{p0 p pos0 pos:Pos}(hc:X.calm=true) (gl:Gl X "list") (ml:X.mg "list" = none) (hg:Gl X "range") (hm:X.mg "range" = none) (ha:PA X [b] ta)
  (he:starEach [.Call (.Name "range" p) [b] [] pos] X.env=(false,eval (.Call (.Name "range" p) [b] [] pos) X.env)::starEach [] X.env:=by rfl) (hs2:starEach [b] X.env=[(false,eval b X.env)]:=by rfl) :
  PE X (.Call (.Name "list" p0) [.Call (.Name "range" p) [b] [] pos] [] pos0) (Bk Cb ta):=by
 intro ab s σ H Q I h;refine wpAny_Call_Name_kw (gu I gl ml boot_list ?_ (by decide) (by decide))
 refine PyProof.Rows.callWith_type1 ?_ he (by rfl)
 rw [he];show wpAny _ _ (spliced ((false,eval (.Call (.Name "range" p) [b] [] pos) X.env)::backTo pos0 (starEach [] X.env))) _ _ s;refine Calls.spliced_cons ?_;refine Call_ (gu I hg hm boot_range (PyProof.Rows.callWith_type1 (cP (ha pos ab s σ H _ I h) fun us s1 hz1=>?_) hs2 rfl))
 obtain ⟨vs,H1,I1,r1,j,e1,⟨q3,q4⟩,hn,q⟩:=hz1;subst e1;obtain ⟨u,rfl,ru⟩:=kx r1;obtain ⟨t,rfl⟩:=ru;have hsz:((j.toNat:Nat):Int)=Builtin.Range.rangeSize 0 j 1:=by rw [rangeSize_one];split <;> lia
 have hn':j.toNat<=2 ^ 24:=by rw [sizeLine_eq] at hn;exact hn
 refine call_range_1 (Calls.spliced_nil ?_);refine call_list_range (n:=j.toNat) (I1.ok.hd hc) (IsRange.new ..) (small_one (by decide) (by decide) q3 q4) hsz.symm hn' fun h' tk acc c hk hS hacc=>?_
 have hgz:(s1.heap.push { cls:=.type "range", data:=.fields #[.int 0 s1.toks,.int j t,.int 1 (s1.toks+1)] }).objs.size=s1.heap.objs.size+1:=by first|rfl|simp [Heap.push]
 dsimp only at hk hS;rw [hgz] at hS;have hiv:bu ((List.range j.toNat).map fun k:Nat=>V.int (0+k)) acc.toList:=by
  have hl:acc.toList.length=j.toNat:=by rw [Array.length_toList];exact hacc.1
  have key:IntsAre acc.toList ((List.range j.toNat).map fun k:Nat=>0+(k:Int)):=ui (by simp [hl]) fun k v n e1 e2=>by
   rw [Array.getElem?_toList] at e1;obtain ⟨tv,rfl⟩:=hacc.2 k v e1;rw [gMq] at e2;obtain ⟨m,e3,e4⟩:=oMq.mp e2;obtain ⟨_,e5⟩:=gSq.mp e3;rw [List.getElem_range] at e5;subst e5;subst e4;exact ⟨tv,by simp⟩
  have:=L2.vals_ints key;rw [mPq] at this;exact this
 refine ⟨.ref (s1.heap.objs.size+1),cK H1 (s1.heap.objs.size+1) (.lst _),I1.laid (t':=tk) (fun b o e=>hk b o (Heap.get?_push_of_some _ e)) (Nat.le_succ _) (show dJ X.prog X.w _ h' _ (.lst _) from ⟨by simpa using hn,acc.toList,c,hiv,by simpa using hS⟩),by rw [hgz];rfl,q _ (I1.hok.fresh (Nat.le_succ _))⟩
end
end Mr
namespace Z
open PySem L2 Mr
noncomputable def rLset (l:ML):ME:=fun S=>(l S).bind fun x=>(cM x.1).bind fun ns=>jb (ns.length<=4000) (some (.int ((Ms.dd ns).length:Nat),x.2))
noncomputable def uC (a:ML):MK:=fun S=>(a S).bind fun x=>(oz x.1).bind fun ds=>jb (ds.length<=eG) (some (.ow (ds.map .sh),x.2))
def eI:List Int->D
 | []=>.non
 | n::ns=>.int (ns.foldl min n)
def DJ (l:ML):ME:=fun S=>(l S).bind fun x=>(cM x.1).map fun ns=>(eI ns,x.2)
noncomputable def oP (i:Nat) (pf:MP) (b n:ME):MS:=fun S=>(pf S).bind fun x=>(dk x.2 i).bind fun a0=>(cQ (.ow a0) x.1).bind fun _=>(b x.2).bind fun y=>(intOf y.1).bind fun z=>(n y.2).bind fun u=>(intOf u.1).bind fun m=>(dk u.2 i).bind fun avs=>(cQ (.ow avs) x.1).bind fun as =>
 jb (0<=z/\z.toNat<=as.length/\as.length<eG) (some (.nx (u.2.set i (some (putAt (.ow avs) x.1 (as.take z.toNat ++ .sh (.int m)::as.drop z.toNat))))))
theorem qD {d:D}{z:Int}(h:intOf d=some z):d = .int z:=by
 revert h
 unfold intOf;split <;> intro e2 <;> cases e2
 rfl
section
variable {K:W.Frag}{te:TE}{l:ML}
theorem qf (hl:SQ K te l):SR K (Bk (Mr.rLset K) (gi te ka)) (rLset l):=by
 intro H₀ Hf₀ Hf S σ H Fs av S' R e Q q;obtain ⟨x,e1,e⟩:=oBq.mp e;obtain ⟨ns,e2,e⟩:=oBq.mp e;rcases bh e with ⟨hlen,e⟩|e
 .cases e;refine hl R (ds:=x.1) (S':=x.2) e1 _ fun Hf1 H1 Fs1 p1 vs1 t1 R1 h1 r1=>?_
  rw [gb e2] at r1;rw [cX r1] at h1;exact ⟨p1,ns,rfl,h1,by unfold scanBound;lia,q _ _ _ _ t1 R1 .int⟩
 .cases e
theorem vg {ta:TA}{a:ML}(ha:EB K ta a):SK K (Bk Cb ta) (uC a):=by
 intro H₀ Hf₀ Hf S σ H Fs av S' R e Q q;obtain ⟨x,e1,e⟩:=oBq.mp e;obtain ⟨ds,e2,e⟩:=oBq.mp e;rcases bh e with ⟨hl,e⟩|e
 .cases e;refine ha R (ds:=x.1) (S':=x.2) e1 _ fun Hf1 H1 Fs1 vs t1 R1 r1=>?_
  unfold oz at e2;split at e2
  .rename_i j hx;rw [hx] at r1;rcases bh e2 with ⟨hj,e2⟩|e2
   .cases e2;obtain ⟨v,ws,rfl,h1,h2⟩:=r1.cons_inv;cases h2.nil_inv;cases h1;rw [aY] at hl;refine ⟨j,rfl,hj,by rw [gw];exact hl,fun p hp=>?_⟩
    obtain ⟨t2,R2,n1,n2,n3⟩:=R1.new (o:=.lst ((List.range j.toNat).map fun k:Nat=>V.int (0+k))) hp
    refine q _ _ _ (.ref p) [p] (t1.trans t2) R2 (bD.new bb n1 ?_) ((jk.one R1 hp).back t1);refine ⟨by rw [aY,lMq,List.length_range],fun i d v g1 g2=>?_⟩
    have hi:i<j.toNat:=by
     have:=(gSq.mp g1).1
     rwa [aY] at this
    rw [fU hi] at g1;rw [gMq,List.getElem?_range hi] at g2;cases g1;cases g2;exact .int
   .cases e2
  .cases e2
 .cases e
theorem oe:∀ (ns:List Int) (n:Int),ns.foldl min n∈n::ns
 | [],n=>by simp
 | m::ns,n=>by
  rw [List.foldl_cons];have:=oe ns (min n m);rcases List.mem_cons.mp this with e|e
  .rw [e]
   by_cases h:n<=m
   .rw [Int.min_eq_left h];simp
   .rw [Int.min_eq_right (by lia)];simp
  .simp [e]
theorem qt:∀ (ns:List Int) (n:Int),ns.foldl min n<=n/\∀ x∈ns,ns.foldl min n<=x
 | [],n=>⟨Int.le_refl _,fun x hx=>by cases hx⟩
 | m::ns,n=>by
  obtain ⟨h1,h2⟩:=qt ns (min n m);rw [List.foldl_cons];refine ⟨by lia,fun x hx=>?_⟩
  rcases List.mem_cons.mp hx with e|e
  .subst e;lia
  .exact h2 x e
theorem E5 (hl:SQ K te l):SR K (Ge K (gi te ka)) (DJ l):=by
 intro H₀ Hf₀ Hf S σ H Fs dd S' R e Q q;obtain ⟨x,e1,e⟩:=oBq.mp e;obtain ⟨ns,e2,e⟩:=oMq.mp e;cases e;refine hl R (ds:=x.1) (S':=x.2) e1 _ fun Hf1 H1 Fs1 p1 vs1 t1 R1 h1 r1=>?_
 rw [gb e2] at r1;rw [cX r1] at h1;refine ⟨p1,ns,rfl,h1,fun h0=>?_,fun M hM hm=>?_⟩
 .subst h0;exact q _ _ _ _ t1 R1 .non
 .cases ns with
  | nil=>cases hM
  | cons n ns =>
   have a2:=qt ns n;have e3:M=ns.foldl min n:=by
    have a1:=hm _ (oe ns n);have a3:ns.foldl min n<=M:=by
     rcases List.mem_cons.mp hM with z|z
     .rw [z];exact a2.1
     .exact a2.2 M z
    lia
   rw [e3];exact q _ _ _ _ t1 R1 .int
theorem yw {i:Nat}{tp tb tn:TE}{pf:MP}{b n:ME}(hp:KR K i tp pf) (hb:SR K tb b) (hn:SR K tn n):SS K (vk (Gf K "list" yG tp (gi tb (gi tn ka)))) (oP i pf b n):=by
 intro H₀ Hf₀ Hf S σ H Fs o R e D h;obtain ⟨x,e1,e⟩:=oBq.mp e;obtain ⟨a0,e2,e⟩:=oBq.mp e;obtain ⟨n0,e3,e⟩:=oBq.mp e;obtain ⟨y,e4,e⟩:=oBq.mp e;obtain ⟨z,e5,e⟩:=oBq.mp e;obtain ⟨u,e6,e⟩:=oBq.mp e;obtain ⟨m,e7,e⟩:=oBq.mp e;obtain ⟨avs,e8,e⟩:=oBq.mp e;obtain ⟨as,e9,e⟩:=oBq.mp e;rcases bh e with ⟨⟨z0,z1,z2⟩,e⟩|e
 .cases e;refine hp R (path:=x.1) (S':=x.2) e1 _ fun Hf1 H1 Fs1 v w t1 R1 s1 a1=>?_
  obtain ⟨p,vs,rfl,h1,h2⟩:=yF R1 (cf e2) s1 e3 a1;refine ⟨.inl ⟨rfl,vs,eJ.of h1⟩,hb R1 (d:=y.1) (S':=y.2) e4 _ fun Hf2 H2 Fs2 v2 t2 R2 r2=>hn R2 (d:=u.1) (S':=u.2) e6 _ fun Hf3 H3 Fs3 v3 t3 R3 r3=>?_⟩
  rw [qD e5] at r2;rw [qD e7] at r3;cases r2;cases r3;obtain ⟨vs',k1,k2,k3,k4⟩:=R3.insP (cf e8) s1 e9 (a1.same (t2.sh.trans t3.sh));obtain ⟨Fs',R4⟩:=k4 (.int m) (.int m) z.toNat z1 .int;exact ⟨p,vs',z.toNat,.int m,rfl,by rw [Int.toNat_of_nonneg z0],k1,by rw [← k2];exact z1,by rw [gw,← k2];exact z2,h _ _ _ _ ((t1.sf.trans t2.sf).trans t3.sf) R4⟩
 .cases e
end
theorem rK (l:ML) (S:AS):rLset l S=(l S).bind fun x=>(cM x.1).bind fun ns=>jb (ns.length<=4000) (some (.int ((Ms.dd ns).length:Nat),x.2)):=rfl
theorem zA (S:AS) (a:ML):uC a S=(a S).bind fun x=>(oz x.1).bind fun ds=>jb (ds.length<=eG) (some (.ow (ds.map .sh),x.2)):=rfl
theorem HV (S:AS) (l:ML):DJ l S=(l S).bind fun x=>(cM x.1).map fun ns=>(eI ns,x.2):=rfl
theorem Hq (S:AS) (i:Nat) (pf:MP) (b n:ME):oP i pf b n S=(pf S).bind fun x=>(dk x.2 i).bind fun a0=>(cQ (.ow a0) x.1).bind fun _=>(b x.2).bind fun y=>(intOf y.1).bind fun z=>(n y.2).bind fun u=>(intOf u.1).bind fun m=>(dk u.2 i).bind fun avs=>(cQ (.ow avs) x.1).bind fun as =>
 jb (0<=z/\z.toNat<=as.length/\as.length<eG) (some (.nx (u.2.set i (some (putAt (.ow avs) x.1 (as.take z.toNat ++ .sh (.int m)::as.drop z.toNat)))))):=rfl
end Z
namespace Mr
open PySem PySem.Spec PyProof.Rows L2
end Mr
namespace Z
open PySem L2 Mr
end Z
namespace Mr
open PySem PySem.Calls PySem.Spec PyProof.Rows L2
section
variable {X:Cx}
theorem wO:fq X (.builtin "isinstance") (fun xs H Q=>∃ p vs,xs=[.ref p,.ty "int"]/\eJ X.K H p vs/\Q (.bl false) H):=by
 intro ab s σ H xs us Q I r h;obtain ⟨p,vs,rfl,hS,q⟩:=h;obtain ⟨u,v,rfl,rx,rT⟩:=zB r;cases rT;cases rx;obtain ⟨its,rv,pl,hz⟩:=I.list hS;exact call_isinstance (isinstance_false_list (by decide +kernel) F.isi_meta_int F.sub_list_int) ⟨pl.isList.typeIs,⟨.bl false,H,I.tok _,rfl,q⟩⟩
end
end Mr
namespace Z
open PySem L2 Mr
def AU (ds:List D):Option D:=match Bl ds with
 | some d=>some d
 | none=>(match ds with|[.list _,.ty T]=>if T = "int" then some (.bl false) else none|_=>none)
theorem BU {K:W.Frag}:Gj K (fun xs H Q=>((∃ x T b,xs=[x,.ty T]/\Ff K x H T b/\Q (.bl b) H)∨∃ x T,xs=[x,.ty T]/\E3 K x H T/\Q (.bl false) H)∨∃ p vs,xs=[.ref p,.ty "int"]/\eJ K H p vs/\Q (.bl false) H) AU:=by
 intro vs H Q ds d r e q;unfold AU at e;split at e
 .rename_i e';cases e;exact .inl (BX r e' q)
 .split at e
  .split at e
   .rename_i T _ hT;cases e;subst hT;obtain ⟨v,ws,rfl,h1,h2⟩:=r.cons_inv;obtain ⟨u,zs,rfl,h3,h4⟩:=h2.cons_inv;rw [h4.nil_inv];cases h3;obtain ⟨p,xs,rfl,h,_⟩:=h1.list_inv;exact .inr ⟨p,xs,rfl,eJ.of h,q _ .bl⟩
   .cases e
  .cases e
theorem DD (t:Int):AU [.int t,.ty "int"]=some (.bl true):=rfl
theorem A5 (t:Int):AU [.int t,.ty "bool"]=some (.bl false):=rfl
end Z
namespace Z
open PySem PySem.Spec PyProof.Rows L2 Mr
inductive lO:Nat->D->PyData->Prop
 | non {n}:lO n .non .none
 | bl {n b}:lO n (.bl b) (.bool b)
 | int {n i}:lO n (.int i) (.int i)
 | str {n x} (h:PyData.canLay0 (.str x)=true):lO n (.str x) (.str x)
 | list {n} {ds:List D}{ps:List PyData}(l:ds.length=ps.length) (e:∀ (i:Nat) (d:D) (p:PyData),ds[i]?=some d->ps[i]?=some p->lO n d p):lO (n+1) (.list ds) (.list ps)
 | tup {n} {ds:List D}{ps:List PyData}(l:ds.length=ps.length) (e:∀ (i:Nat) (d:D) (p:PyData),ds[i]?=some d->ps[i]?=some p->lO n d p):lO (n+1) (.tup ds) (.tuple ps)
theorem oE {α:Type}{ds:List D}{ps:List α}(l:ds.length=ps.length) {p:α}(h:p∈ps):∃ (i:Nat) (d:D),ds[i]?=some d/\ps[i]?=some p:=by
 obtain ⟨i,hi⟩:=List.mem_iff_getElem?.mp h;have hl:=(gSq.mp hi).1;exact ⟨i,_,gEg (l ▸ hl),hi⟩
theorem yB {ps:List PyData}(h:∀ p∈ps,p.canLay0=true):PyData.canLayAll0 ps=true:=by
 induction ps with
 | nil=>rfl
 | cons p ps ih=>rw [PyData.canLayAll0,h p (List.mem_cons_self ..),ih fun q hq=>h q (mCo _ hq)];rfl
theorem yN {ps:List PyData}(h:∀ p∈ps,SeqAt.noMix p p=true):SeqAt.noMixAll ps ps=true:=by
 induction ps with
 | nil=>simp [SeqAt.noMixAll]
 | cons p ps ih=>rw [SeqAt.noMixAll,h p (List.mem_cons_self ..),ih fun q hq=>h q (mCo _ hq)];rfl
theorem vI {n:Nat}{ps:List PyData}(h:∀ p∈ps,p.depth<=n):PyData.depthAll ps<=n:=by
 induction ps with
 | nil=>rw [PyData.depthAll];exact Nat.zero_le _
 | cons p ps ih =>
  rw [PyData.depthAll];have:=h p (List.mem_cons_self ..);have:=ih fun q hq=>h q (mCo _ hq)
  lia
theorem lO.lay {n:Nat}{d:D}{p:PyData}(h:lO n d p):p.canLay0=true:=by
 induction h with
 | str h=>exact h
 | list l _ ih=>rw [PyData.canLay0];exact yB fun p hp=>let ⟨i,d,h1,h2⟩:=oE l hp;ih i d p h1 h2
 | tup l _ ih=>rw [PyData.canLay0];exact yB fun p hp=>let ⟨i,d,h1,h2⟩:=oE l hp;ih i d p h1 h2
 | _=>rfl
theorem lO.mix {n:Nat}{d:D}{p:PyData}(h:lO n d p):SeqAt.noMix p p=true:=by
 induction h with
 | list l _ ih=>rw [SeqAt.noMix];exact yN fun p hp=>let ⟨i,d,h1,h2⟩:=oE l hp;ih i d p h1 h2
 | tup l _ ih=>rw [SeqAt.noMix];exact yN fun p hp=>let ⟨i,d,h1,h2⟩:=oE l hp;ih i d p h1 h2
 | _=>simp [SeqAt.noMix]
theorem lO.deep {n:Nat}{d:D}{p:PyData}(h:lO n d p):p.depth<=n:=by
 induction h with
 | list l _ ih=>rw [PyData.depth];exact Nat.succ_le_succ (vI fun p hp=>let ⟨i,d,h1,h2⟩:=oE l hp;ih i d p h1 h2)
 | tup l _ ih=>rw [PyData.depth];exact Nat.succ_le_succ (vI fun p hp=>let ⟨i,d,h1,h2⟩:=oE l hp;ih i d p h1 h2)
 | _=>simp [PyData.depth]
theorem oi {h:Heap}:∀ {ds:List D}{ps:List PyData}{vs:List V}{us:List Value},bu vs us->ds.length=ps.length->ds.length=vs.length->(∀ (i:Nat) (d:D) (p:PyData) (v:V) (u:Value),ds[i]?=some d->ps[i]?=some p->vs[i]?=some v->bM v u->∃ as,Reads h u p as)->∃ as,ReadsAll h us ps as
 | [],[],[],us,r,_,_,_=>by cases r;exact ⟨_,.nil⟩
 | d::ds,p::ps,v::vs,us,r,l1,l2,e=>by
  cases r with
  | @cons _ u _ us r1 r2 =>
   obtain ⟨as,h1⟩:=e 0 d p v u rfl rfl rfl r1;obtain ⟨bs,h2⟩:=oi r2 (by simpa using l1) (by simpa using l2) fun i d p v u a b c=>e (i+1) d p v u (by simpa using a) (by simpa using b) (by simpa using c)
   exact ⟨_,.cons h1 h2⟩
 | [],_::_,_,_,_,h,_,_=>by simp at h
 | _::_,[],_,_,_,h,_,_=>by simp at h
 | [],_,_::_,_,_,_,h,_=>by simp at h
 | _::_,_,[],_,_,_,h,_=>by simp at h
theorem lO.reads {X:Cx}{ab:List (Addr×Obj)}{σ:L2.St}{H:Hp}{s:Shared}(I:aO X ab σ H s) {n:Nat}{d:D}{p:PyData}(h:lO n d p):∀ {v:V}{u:Value},cD X.K H d v->bM v u->∃ as,Reads s.heap u p as:=by
 induction h with
 | non=>intro v u r ru;cases r;cases ru;exact ⟨_,.none⟩
 | bl=>intro v u r ru;cases r;cases ru;exact ⟨_,.bool _⟩
 | int=>intro v u r ru;cases r;obtain ⟨t,rfl⟩:=ru;exact ⟨_,.int _ _⟩
 | str=>intro v u r ru;cases r;obtain ⟨t,rfl⟩:=ru;exact ⟨_,.str _ _⟩
 | list l _ ih =>
  intro v u r ru;obtain ⟨q,vs,rfl,h1,h2⟩:=r.list_inv;cases ru;obtain ⟨its,rv,hl,hz⟩:=I.list (eJ.of h1);obtain ⟨o,ho,hc,n,hd⟩:=hl.isList;obtain ⟨as,e⟩:=oi rv l h2.1 fun i d p v u a b c ru=>ih i d p a b (h2.2 i d v a c) ru
  exact ⟨_,Reads.list ho hc hd (by simpa using e)⟩
 | tup l _ ih =>
  intro v u r ru;obtain ⟨q,vs,rfl,h1,h2⟩:=r.tup_inv;cases ru;obtain ⟨its,rv,⟨o,ho,hc,n,hd⟩,hz⟩:=I.tuple (oG.of h1);obtain ⟨as,e⟩:=oi rv l h2.1 fun i d p v u a b c ru=>ih i d p a b (h2.2 i d v a c) ru
  exact ⟨_,Reads.tuple ho hc hd (by simpa using e)⟩
def yu (K:W.Frag) (b:Bool):R2:=fun x y H Q=>∃ n d p,lO n d p/\n<=64/\cD K H d x/\cD K H d y/\Q (.bl b) H
theorem lO.shaped {n:Nat}{d:D}{p:PyData}(h:lO n d p) (hn:n<=64):SeqAt.shaped p=true:=by
 show (PyData.canLay0 p && decide (PyData.depth p<=64))=true;rw [h.lay,decide_eq_true (Nat.le_trans h.deep hn)];rfl
theorem Cz {X:Cx}(hu:X.A.units+64<cLine):oj X (compareOp .NotEq) (yu X.K false):=by
 intro ab s σ H x y v u Q I rx ry h;obtain ⟨n,d,p,hd,hn,r1,r2,q⟩:=h;obtain ⟨as,e1⟩:=hd.reads I r1 rx;obtain ⟨bs,e2⟩:=hd.reads I r2 ry;refine ne_dataH_same e1 e2 (hd.shaped hn) (hd.shaped hn) hu hd.mix ?_;rw [same_self];exact bE I q rfl
theorem G6 {X:Cx}(hu:X.A.units+64<cLine):oj X (compareOp .Eq) (yu X.K true):=by
 intro ab s σ H x y v u Q I rx ry h;obtain ⟨n,d,p,hd,hn,r1,r2,q⟩:=h;obtain ⟨as,e1⟩:=hd.reads I r1 rx;obtain ⟨bs,e2⟩:=hd.reads I r2 ry;refine eq_dataH_same e1 e2 (hd.shaped hn) (hd.shaped hn) hu hd.mix ?_;rw [same_self];exact bE I q rfl
noncomputable def A7 (x y:D):Option D:=jb (x=y/\∃ n p,lO n x p/\n<=64) (some (.bl false))
noncomputable def HH (x y:D):Option D:=jb (x=y/\∃ n p,lO n x p/\n<=64) (some (.bl true))
section
variable {K:W.Frag}
theorem Co:pq K (yu K false) A7:=by
 intro x y H Q dx dy d rx ry e q;rcases bh e with ⟨⟨h0,n,p,h1,h2⟩,e'⟩|e'
 .cases e';subst h0;exact ⟨n,dx,p,h1,h2,rx,ry,q _ .bl⟩
 .cases e'
theorem Hj:pq K (yu K true) HH:=by
 intro x y H Q dx dy d rx ry e q;rcases bh e with ⟨⟨h0,n,p,h1,h2⟩,e'⟩|e'
 .cases e';subst h0;exact ⟨n,dx,p,h1,h2,rx,ry,q _ .bl⟩
 .cases e'
def D3 (f g:D->D->Option D) (a b c:ME):ME:=fun S=>(a S).bind fun x=>(b x.2).bind fun y=>(f x.1 y.1).bind fun d=>match d with
 | .bl true=>(c y.2).bind fun z=>if y.1.scal=true then (g y.1 z.1).map fun d'=>(d',z.2) else none
 | .bl false=>some (.bl false,y.2)
 | _=>none
theorem Ha {r r':R2}{f g:D->D->Option D}{ta tb tc:TE}{a b c:ME}(hf:pq K r f) (hg:pq K r' g) (ha:SR K ta a) (hb:SR K tb b) (hc:SR K tc c) (hsc:∀ x y d,f x y=some d->x.scal=true):SR K (BH r r' ta tb tc) (D3 f g a b c):=by
 intro H₀ Hf₀ Hf S σ H Fs d S' R e Q q;obtain ⟨x,e1,e⟩:=oBq.mp e;obtain ⟨y,e2,e⟩:=oBq.mp e;obtain ⟨k,e3,e⟩:=oBq.mp e;refine ha R (d:=x.1) (S':=x.2) e1 _ fun Hf1 H1 Fs1 v1 t1 R1 r1=>hb R1 (d:=y.1) (S':=y.2) e2 _ fun Hf2 H2 Fs2 v2 t2 R2 r2=>?_
 refine hf (r1.scal (hsc _ _ _ e3)) r2 e3 fun v rv=>?_
 split at e
 .cases rv;refine ⟨true,rfl,wI ?_⟩;obtain ⟨z,e4,e⟩:=oBq.mp e;split at e
  .rename_i hy;obtain ⟨d',e5,e⟩:=oMq.mp e;cases e;refine hc R2 (d:=z.1) (S':=z.2) e4 _ fun Hf3 H3 Fs3 v3 t3 R3 r3=>?_
   exact hg (r2.scal hy) r3 e5 fun w rw=>q _ _ _ w ((t1.trans t2).trans t3) R3 rw
  .cases e
 .cases rv;cases e;exact ⟨false,rfl,wJ (q _ _ _ _ (t1.trans t2) R2 .bl)⟩
 .cases e
theorem Kh (x y d:D) (h:Jq x y=some d):x.scal=true:=by
 cases x <;> first|rfl|cases h
theorem Jw (f g:D->D->Option D) (a b c:ME) (S:AS):D3 f g a b c S=(a S).bind fun x=>(b x.2).bind fun y=>(f x.1 y.1).bind fun d=>match d with
 | .bl true=>(c y.2).bind fun z=>if y.1.scal=true then (g y.1 z.1).map fun d'=>(d',z.2) else none
 | .bl false=>some (.bl false,y.2)
 | _=>none:=rfl
end
end Z
namespace Mr
open PySem L2
variable {K:W.Frag}{h:Heap}{mg:Str->Option Value}{x z:Str}{st:Stmt}{f O:Addr}{fd:FuncData}
structure At (K:W.Frag) (x:Str) (st:Stmt) (f:Addr) (fd:FuncData):Prop where
 a:W.nsIn K mainGlobals x=some (some (.ref f))
 F:Gd K x x st f fd
section
variable {oc kV doc pm fT ct:Value}{od an:Option Addr}{osl:Array (Option Value)}
theorem Kp (a:W.nsIn K mainGlobals x=some (some (.ref f))) (l:K.lookup f=some ⟨oc,od,.func (W.fnOf x x (gJ st) (gg st) (aH st) .none kV doc pm an fT ct),osl⟩)
  (c:W.codeIn K fT x=true) (k:W.keepIn K (.ref f)=true):At K x st f (W.fnOf x x (gJ st) (gg st) (aH st) .none kV doc pm an fT ct):=⟨a,yf l c k⟩
end
abbrev BA (x q:Str) (st:Stmt) (ps:List Str) (us:List Value):Prop:=∀ (kV doc pm:Value) (an:Option Addr) (fT ct:Value),bindArgs (W.fnOf x q (gJ st) (gg st) (aH st) .none kV doc pm an fT ct) ⟨us,[]⟩=pure (ps.zip us)
section
variable {q a b c d:Str}(F:Gd K x q st f fd)
include F
theorem b1 (h:∀ u,BA x q st [a] [u]):jY K fd [a] []:=F.binds fun _ _ _ _ _ _ us hl=>by
 obtain - | ⟨u, - | ⟨v,l⟩⟩:=us <;> cases hl
 apply h
theorem b2 (h:∀ u v,BA x q st [a,b] [u,v]):jY K fd [a,b] []:=F.binds fun _ _ _ _ _ _ us hl=>by
 obtain - | ⟨u, - | ⟨v, - | ⟨w,l⟩⟩⟩:=us <;> cases hl
 apply h
theorem b3 (h:∀ u v w,BA x q st [a,b,c] [u,v,w]):jY K fd [a,b,c] []:=F.binds fun _ _ _ _ _ _ us hl=>by
 obtain - | ⟨u, - | ⟨v, - | ⟨w, - | ⟨y,l⟩⟩⟩⟩:=us <;> cases hl
 apply h
theorem b4 (h:∀ u v w y,BA x q st [a,b,c,d] [u,v,w,y]):jY K fd [a,b,c,d] []:=F.binds fun _ _ _ _ _ _ us hl=>by
 obtain - | ⟨u, - | ⟨v, - | ⟨w, - | ⟨y, - | ⟨z,l⟩⟩⟩⟩⟩:=us <;> cases hl
 apply h
end
theorem pD {ps:List Str}(X:K.In h) (G:h.Ns mainGlobals mg) (a:At K x st f fd) (b:jY K fd ps []):lH K mg x st ps f fd:=⟨a.F,W.mg_of X G a.a,b⟩
end Mr
namespace Zl
open PySem L2 Mr Z
noncomputable def jw:MS:=(aG (jR (eM (aN BP (ai 1) (iQ fe (aj (ai 0) aE)))) (cB (kSc (aN sQ (ai 0) (ai 1)))) cu)
 (cB (kSc (rC (.int 0)))))
noncomputable def az:MF:=fA 2 2 jw
end Zl
namespace Zl
open PySem L2 Mr Z
end Zl
namespace Zl
open PySem L2 Mr Z
end Zl
namespace Zl
open PySem L2 Mr Z
noncomputable def ig:MS:=(vq 1 (ai 4) (aL 2))
noncomputable def hW:MS:=(rJ 4 (aL 3) ig)
noncomputable def nF:MS:=(aG (bz 1 vz)
 (aG (oR 2 3 (aL 0) hW)
 (cB (uo 1))))
noncomputable def dA:MF:=fA 1 5 nF
end Zl
namespace Zl
open PySem L2 Mr Z
end Zl
namespace Zl
open PySem L2 Mr Z
theorem gf (ns:List Int) {k:Int}(h:0<=k):az [.scr ns,.int k]=some (.sh (.int (cell ns k.toNat))):=by
 by_cases c:k<(ns.length:Int)
 .have hk:k.toNat<ns.length:=by lia
  have e:ns.getD k.toNat 0=ns[k.toNat]:=pW hk
  simp_arith [az,jw,c,E1 h,gEg hk,cell,e]
 .have hk:ns.length<=k.toNat:=by lia
  have e:ns.getD k.toNat 0=0:=by rw [gDq,List.getElem?_eq_none hk];rfl
  simp_arith [az,jw,c,cell,e]
theorem FT (ns:List Int):az [.scr ns,.int 0]=some (.sh (.int (cell ns 0))):=gf ns (by decide)
theorem J0 (ns:List Int):az [.scr ns,.int 1]=some (.sh (.int (cell ns 1))):=gf ns (by decide)
theorem IX (ns:List Int):az [.scr ns,.int 2]=some (.sh (.int (cell ns 2))):=gf ns (by decide)
theorem Ao {n:Int}{ns:List Int}:ns.foldl min n∈n::ns/\∀ x∈n::ns,ns.foldl min n<=x:=⟨iL ns n,fun x hx=>(List.mem_cons.mp hx).elim (fun e=>e ▸ (gD ns n).1) ((gD ns n).2 x)⟩
theorem nq {rs:List (List Int)}{i:Nat}{r:List Int}(h:rs[i]?=some r):(rs.take (i+1)).flatten=(rs.take i).flatten++r:=by
 rw [List.take_add_one,h,fAq];simp
theorem pO (rs:List (List Int)) (i:Nat):(rs.take i).flatten.length<=rs.flatten.length:=by
 have:=congrArg List.length (congrArg List.flatten (List.take_append_drop i rs));rw [fAq,lAq] at this;lia
theorem En {rs:List (List Int)}{i:Nat}{d:D}(h:(rs.map dI)[i]?=some d):∃ r,rs[i]?=some r/\d=dI r:=by
 rw [gMq] at h;obtain ⟨r,h1,h2⟩:=oMq.mp h;exact ⟨r,h1,h2.symm⟩
theorem EG {ns:List Int}{i:Nat}{d:D}(h:(ns.map D.int)[i]?=some d):∃ z,ns[i]?=some z/\d = .int z:=by
 rw [gMq] at h;obtain ⟨r,h1,h2⟩:=oMq.mp h;exact ⟨r,h1,h2.symm⟩
def Bf:D->List Int
 | .list ds=>(cM ds).getD []
 | _=>[]
theorem yH (r:List Int):Bf (dI r)=r:=by
 show (cM (r.map D.int)).getD []=r;rw [fY];rfl
end Zl
namespace Zl
open PySem L2 Mr Z
end Zl
namespace Zl
open PySem L2 Mr Z
end Zl
--ZQ3 --ZQ4
namespace Zl
open PySem L2 Mr Z Xe
def bare (rs:List (List Int)):Nat:=rs.countP (·=([]:List Int))
section
variable {rs:List (List Int)}(hl:rs.flatten.length<=500000)
include hl
end
theorem nX (rs:List (List Int)):(wN (rs.map iw)).flatten.Perm rs.flatten:=(uE (rD _)).trans (jj AD rs)
end Zl
namespace Zl
open PySem L2 Mr Z
def gj (p:Nat) (r:List Int):List (bJ×D):=r.map fun e=>(.inl e,.int (p:Int))
def bL:Nat->List (List Int)->List (bJ×D)
 | _,[]=>[]
 | p,r::rs=>gj p r++bL (p+1) rs
theorem ph (r:List Int):∀ (rs:List (List Int)) (p:Nat),bL p (rs++[r])=bL p rs++gj (p+rs.length) r
 | [],p=>by simp [bL]
 | s::rs,p=>by
  show gj p s++bL (p+1) (rs++[r])=(gj p s++bL (p+1) rs)++_;rw [ph r rs (p+1),List.append_assoc,lCq,show p+1+rs.length=p+(rs.length+1) by lia]
theorem jX:∀ (rs:List (List Int)) (p:Nat),(bL p rs).map (·.1)=rs.flatten.map Sum.inl
 | [],p=>rfl
 | r::rs,p=>by
  show (gj p r++bL (p+1) rs).map (·.1)=_;rw [mBq,jX rs (p+1),fCq,mBq];congr 1;unfold gj;rw [mPq];rfl
theorem xt (rs:List (List Int)) (p:Nat):(bL p rs).length=rs.flatten.length:=by
 have:=congrArg List.length (jX rs p)
 rwa [lMq,lMq] at this
theorem Dy {kvs:List (bJ×D)}{k:bJ}{d:D}(h:k∉kvs.map (·.1)):oq kvs k d=kvs++[(k,d)]:=by
 unfold oq;rw [if_neg];intro e;obtain ⟨kv,hk,e⟩:=List.any_eq_true.mp e;exact h (mMq.mpr ⟨kv,hk,of_decide_eq_true e⟩)
theorem vO {k:bJ}:∀ {a b:List (bJ×D)},k∉a.map (·.1)->Z.getD (a++b) k=Z.getD b k
 | [],b,_=>rfl
 | x::a,b,h=>by
  unfold Z.getD;rw [List.cons_append,List.find?_cons_of_neg (by
   intro e;exact h (by rw [← of_decide_eq_true e];simp))]
  exact vO (k:=k) (a:=a) (b:=b) fun m=>h (by simp only [List.map_cons,List.mem_cons];exact .inr m)
theorem wC {p:Nat}{e:Int}{b:List (bJ×D)}:∀ {r:List Int},e∈r->Z.getD (gj p r++b) (.inl e)=some (.int p)
 | [],h=>by cases h
 | x::r,h=>by
  unfold Z.getD;show ((((Sum.inl x:bJ),D.int (p:Int))::(gj p r++b)).find? _).map _=_
  by_cases c:x=e
  .subst c;rw [List.find?_cons_of_pos (by simp)]
   rfl
  .rw [List.find?_cons_of_neg (by simp [c])]
   exact wC (r:=r) ((List.mem_cons.mp h).resolve_left fun z=>c z.symm)
theorem pX {e:Int}{r:List Int}:∀ {rs:List (List Int)}{i:Nat}(p:Nat),rs.flatten.Nodup->rs[i]?=some r->e∈r->Z.getD (bL p rs) (.inl e)=some (.int ((p+i:Nat):Int))
 | [],i,p,_,h,_=>by simp at h
 | s::rs,0,p,hn,h,he=>by
  simp at h;subst h;exact wC he
 | s::rs,i+1,p,hn,h,he=>by
  rw [fCq,nAq] at hn;have h':rs[i]?=some r:=by simpa using h
  have:=pX (rs:=rs) (i:=i) (p+1) hn.2.1 h' he;rw [show p+1+i=p+(i+1) by lia] at this
  rw [← this];refine vO ?_;unfold gj;rw [mPq];intro m;obtain ⟨x,hx,e2⟩:=mMq.mp m;cases e2;exact hn.2.2 _ hx _ (mFq.mpr ⟨r,mGq h',he⟩) rfl
theorem nE {rs:List (List Int)}(hn:rs.flatten.Nodup) (hl:rs.flatten.length<=500000):dA [dM rs]=some (.owd (bL 0 rs)):=by
 have key:=tx (x:=2) (y:=3) (k:=0) (body:=hW) (fun i S=>∃ v2 v3 v4,S=[some (.sh (dM rs)),some (.owd (bL 0 (rs.take i))),v2,v3,v4]) (ds:=rs.map dI) (S:=[some (.sh (dM rs)),some (.owd []),none,none,none]) ⟨none,none,none,rfl⟩ (by
  rintro i d S hd ⟨v2,v3,v4,rfl⟩;rw [Nat.zero_add];obtain ⟨r,hr,rfl⟩:=En hd;have hfl:=nq hr;have hle:=pO rs (i+1);have hi:i<rs.length:=(gSq.mp hr).1;have hnd:((rs.take i).flatten++r).Nodup:=by
   rw [← hfl];have e0:rs.flatten=(rs.take (i+1)).flatten++(rs.drop (i+1)).flatten:=by rw [← fAq,List.take_append_drop]
   rw [e0] at hn;exact (nAq.mp hn).1
  rw [hfl,lAq] at hle;have k2:=jM (x:=4) (body:=ig) (fun j S=>∃ v4,S=[some (.sh (dM rs)),some (.owd (bL 0 (rs.take i)++gj i (r.take j))),some (.sh (.int i)),some (.sh (dI r)),v4]) (ds:=r.map D.int) (S:=[some (.sh (dM rs)),some (.owd (bL 0 (rs.take i))),some (.sh (.int i)),some (.sh (dI r)),v4]) ⟨v4,by simp [gj]⟩ (by
   rintro j d S hd ⟨v4,rfl⟩;obtain ⟨z,hz,rfl⟩:=EG hd;have hj:j<r.length:=(gSq.mp hz).1;have h3:(bL 0 (rs.take i)++gj i (r.take j)).length<eG:=GB (by
    rw [lAq,xt];unfold gj;rw [lMq,lTq];lia)
   have hput:oq (bL 0 (rs.take i)++gj i (r.take j)) (.inl z) (.int (i:Int))=bL 0 (rs.take i)++gj i (r.take (j+1)):=by
    rw [Dy]
    .unfold gj;rw [ou hz,mBq,List.append_assoc];rfl
    .rw [mBq,jX];intro m;have e1:r.take (j+1)=r.take j++[z]:=ou hz;rcases mAq.mp m with m|m
     .obtain ⟨x,hx,e2⟩:=mMq.mp m;cases e2;exact (nAq.mp hnd).2.2 _ hx _ (mGq hz) rfl
     .unfold gj at m;rw [mPq] at m;obtain ⟨x,hx,e2⟩:=mMq.mp m;cases e2;have:=List.Pairwise.sublist (List.take_sublist (j+1) r) (nAq.mp hnd).2.1;rw [e1] at this;exact (nAq.mp this).2.2 _ hx _ (by simp) rfl
   refine ⟨_,?_,some (.sh (.int z)),rfl⟩
   simp_arith [ig,h3,hput])
  obtain ⟨S2,e2,w4,rfl⟩:=k2;rw [lMq,List.take_length] at e2;refine ⟨_,?_,some (.sh (.int i)),some (.sh (dI r)),w4,rfl⟩;rw [ou hr,ph,lTq,Nat.min_eq_left (by lia),Nat.zero_add]
  simp_arith [hW,e2])
 obtain ⟨S',e,v2,v3,v4,rfl⟩:=key;rw [Nat.zero_add,lMq,List.take_length] at e
 simp_arith [dA,nF,e]
end Zl
namespace Zl
open PySem L2 Mr Z
theorem qo {c:MT}{body:MS}(P:AS->Prop) (μ:AS->Nat) (Qf:AS->Prop) (h:∀ S,P S->∃ b S1,c S=some (b,S1)/\(b=true->∃ S2,body S1=some (.nx S2)/\P S2/\μ S2<μ S)/\(b=false->Qf S1)) :
  ∀ (fuel:Nat) (S:AS),P S->μ S<fuel->∃ S',gq c body fuel S=some (.nx S')/\Qf S'
 | 0,S,_,hm=>absurd hm (Nat.not_lt_zero _)
 | n+1,S,hp,hm=>by
  obtain ⟨b,S1,e1,h1,h2⟩:=h S hp;rw [E9,e1,Option.bind_some];cases b with
  | true =>
   obtain ⟨S2,e2,p2,m2⟩:=h1 rfl;rw [if_pos rfl,e2];exact qo P μ Qf h n S2 p2 (by lia)
  | false =>
   rw [if_neg (by simp)]
   exact ⟨S1,rfl,h2 rfl⟩
end Zl
--ZQ3 --ZQ4 --ZQ5 --ZQ6 --ZQ8 --ZQ9 --ZQB
namespace Zl
open PySem L2 Mr Z Xe
def kd (ks:List Nat):List (bJ×D):=ks.map fun k:Nat=>((Sum.inl (k:Int):bJ),D.bl true)
def wd (ws:List Nat):List AV:=ws.map fun k:Nat=>AV.sh (.int (k:Int))
theorem BR (ks:List Nat) (t:Nat):(kd ks).any (fun kv=>decide (kv.1=(Sum.inl (t:Int):bJ)))=decide (t∈ks):=by
 induction ks with
 | nil=>simp [kd]
 | cons k ks ih =>
  unfold kd at ih ⊢;rw [List.map_cons,List.any_cons,ih]
  by_cases h:t=k
  .subst h;simp
  .have h':¬ (Sum.inl (k:Int):bJ)=Sum.inl (t:Int):=fun q=>h (by have:=Sum.inl.inj q;lia)
   simp [h',h]
def vo (kn:List Nat) (t:Nat):List Nat:=if t∈kn then kn else kn++[t]
theorem E6 (ks:List Nat) (t:Nat):oq (kd ks) (Sum.inl (t:Int)) (.bl true)=kd (vo ks t):=by
 unfold vo
 by_cases h:t∈ks
 .rw [if_pos h];unfold oq;rw [BR,decide_eq_true h,if_pos rfl];unfold kd;rw [mPq];refine mCq fun k _=>?_
  show (if _ then _ else _)=_
  split <;> rfl
 .rw [if_neg h];unfold oq;rw [BR,decide_eq_false h,if_neg (by simp)]
  simp [kd]
theorem Ck (kn:List Nat) (t:Nat):(vo kn t).length<=kn.length+1:=by
 unfold vo;split
 .lia
 .simp
def vb (rs:List (List Int)) (e:Int):Nat:=rs.findIdx fun r=>decide (e∈r)
theorem xa {rs:List (List Int)}(hn:rs.flatten.Nodup) {i j:Nat}{r s:List Int}{e:Int}(hi:rs[i]?=some r) (hj:rs[j]?=some s) (h1:e∈r) (h2:e∈s):i=j:=by
 have a:=pX 0 hn hi h1;have b:=pX 0 hn hj h2;rw [a] at b;have:=D.int.inj (Option.some.inj b);lia
theorem xW {rs:List (List Int)}(hn:rs.flatten.Nodup) {i:Nat}{r:List Int}{e:Int}(hi:rs[i]?=some r) (h1:e∈r):vb rs e=i:=by
 have hl:rs.findIdx (fun r=>decide (e∈r))<rs.length:=List.findIdx_lt_length_of_exists ⟨r,mGq hi,decide_eq_true h1⟩
 have h2:=List.findIdx_getElem (xs:=rs) (p:=fun r=>decide (e∈r)) (w:=hl)
 exact xa hn (gEg hl) hi (of_decide_eq_true h2) h1
structure Mp (rs:List (List Int)):Prop where
 hn:rs.flatten.Nodup
 hl:rs.flatten.length<=1000
 hr:rs.length<=1000
 hneg:∀ e∈rs.flatten, -e∈rs.flatten
theorem Mp.at {rs:List (List Int)}(h:Mp rs) {e:Int}(he:e∈rs.flatten):∃ r,rs[vb rs e]?=some r/\e∈r:=by
 obtain ⟨r,h1,h2⟩:=mFq.mp he;obtain ⟨i,h3⟩:=List.mem_iff_getElem?.mp h1;exact ⟨r,by rw [xW h.hn h3 h2];exact h3,h2⟩
theorem Mp.other {rs:List (List Int)}(h:Mp rs) {k:Nat}{r:List Int}{e:Int}(hk:rs[k]?=some r) (he:e∈r):-e∈rs.flatten:=h.hneg e (mFq.mpr ⟨r,mGq hk,he⟩)
theorem Mp.kv {rs:List (List Int)}(h:Mp rs) {e:Int}(he:e∈rs.flatten):Z.getD (bL 0 rs) (Sum.inl e)=some (.int (vb rs e:Int)):=by
 obtain ⟨r,h1,h2⟩:=h.at he;have:=pX 0 h.hn h1 h2
 rwa [Nat.zero_add] at this
theorem Mp.row {rs:List (List Int)}(h:Mp rs) {k:Nat}{r:List Int}(hk:rs[k]?=some r):r.length<=1000:=by
 have:=List.Sublist.length_le (List.sublist_flatten_of_mem (mGq hk));have:=h.hl;lia
def Fh (rs:List (List Int)) (k:Nat) (ks:List Nat) (e:Int):List Nat:=if vb rs (-e)=k then ks else vo ks (vb rs (-e))
def nb (rs:List (List Int)) (k:Nat) (r:List Int):List Nat:=r.foldl (Fh rs k) []
theorem Fb (rs:List (List Int)) (k:Nat) (ks:List Nat) (e:Int):(Fh rs k ks e).length<=ks.length+1:=by
 unfold Fh;split
 .lia
 .exact Ck _ _
theorem xO (rs:List (List Int)) (k:Nat):∀ (r:List Int) (ks:List Nat),(r.foldl (Fh rs k) ks).length<=ks.length+r.length
 | [],ks=>Nat.le_refl _
 | e::r,ks=>by
  have h1:=xO rs k r (Fh rs k ks e);have h2:=Fb rs k ks e;rw [List.foldl_cons,lCq];lia
theorem Bc {α β:Type}{f:α->β->α}{a:α}{r:List β}{i:Nat}{e:β}(he:r[i]?=some e):(r.take (i+1)).foldl f a=f ((r.take i).foldl f a) e:=by
 obtain ⟨hi,h2⟩:=gSq.mp he;rw [List.take_succ_eq_append_getElem hi,List.foldl_append,h2];rfl
end Zl
namespace Zl
open PySem L2 Mr Z Xe
theorem B7:∀ (l E:List Int),l.Nodup->(∀ x∈l,x∈E)->l.length<=E.length
 | [],E,_,_=>Nat.zero_le _
 | x::l,E,hn,h=>by
  have hn':=List.nodup_cons.mp hn;have hx:=h x (List.mem_cons_self ..);have h2:=B7 l (E.erase x) hn'.2 (fun y hy=>by
   refine (List.mem_erase_of_ne ?_).mpr (h y (mCo _ hy));intro e;exact hn'.1 (e ▸ hy))
  rw [List.length_erase_of_mem hx] at h2;have:=List.length_pos_of_mem hx;rw [lCq];lia
end Zl
namespace K51
open PySem L2 Mr Z Xe
noncomputable def mj:MS:=(aG (bz 1 (kSc (rC (.int 1))))
 (aG (bz 2 (kSc (rC (.int 0))))
 (aG (jR (eM (aN G0 (aN eU (cN Zl.az (aj (ai 0) (aj (rC (.int 0)) aE))) (rC (.int 3))) (rC (.int 0)))) (aG (bz 1 (kSc (aN fP (rC (.int 1)) (aN eU (cN Zl.az (aj (ai 0) (aj (rC (.int 1)) aE))) (aN vY (rC (.int 10)) (rC (.int 57))))))) (bz 2 (kSc (aN eU (cN Zl.az (aj (ai 0) (aj (rC (.int 2)) aE))) (aN vY (rC (.int 10)) (rC (.int 59))))))) cu)
 (aG (bz 3 (kSc (aN fP (rC (.int 1)) (aN eU (aN kc (cN Zl.az (aj (ai 0) (aj (rC (.int 0)) aE))) (rC (.int 3))) (rC (.int 66))))))
 (aG (bz 4 (kSc (aN eU (aN kc (cN Zl.az (aj (ai 0) (aj (rC (.int 0)) aE))) (rC (.int 198))) (rC (.int 67)))))
 (cB (lS (IW (aj (rC (.int 67)) aE)) [2,1,4,3] iR (kSc (aN fP (aN nT (ai 2) (aN fP (rC (.int 1)) (aN eU (aN fP (aN nT (ai 4) (ai 0)) (ai 3)) (rC (.int 67))))) (ai 1))))))))))
noncomputable def gN:MF:=fA 1 5 mj
noncomputable def tE:MS:=(cB (lS (AK (aL 0)) [] iR (yz (ji 0))))
noncomputable def gU:MF:=fA 1 1 tE
end K51
namespace K61
open PySem L2 Mr Z
noncomputable def fv:MS:=(aG (bz 5 (kSc (qU (ai 1) (Cj sD (ai 4))))) (jR (eM (aN pP (ai 5) (ai 2))) (vq 3 (ai 5) (kSc (rC (.bl true)))) cu))
noncomputable def tM:MS:=(aG (bz 3 vz)
 (aG (rJ 4 (aL 0) fv)
 (cB (xr (ai 3)))))
noncomputable def hV:MF:=fA 3 6 tM
noncomputable def lJ:MS:=(aG (bz 1 (bV Zl.dA (aC (aL 0) bF)))
 (cB (xS (aL 0) [1] iR (bV K61.hV (aC (aL 1) (aC (aL 2) (aC (aL 0) bF)))))))
noncomputable def cW:MF:=fA 1 2 lJ
end K61
namespace K72
open PySem L2 Mr Z Xe
noncomputable def rg:MS:=(cB (uC (aj (iQ nP (aj (ai 1) (aj (aN fP (rLset (ji 0)) (rC (.int 1))) aE))) aE)))
noncomputable def eO:MF:=fA 2 2 rg
noncomputable def oS:MS:=(cB (kSc (DJ (lOf (lS (AK (aL 0)) [2,1] (oZ (eM (aN BP (ai 0) (iQ fe (aj (ai 2) aE)))) (eM (aN tG (aN sQ (ai 2) (ai 0)) (ai 1)))) (aL 0))))))
noncomputable def dE:MF:=fA 3 3 oS
noncomputable def bX (fm:MF):MS:=(jR (eM (aN CK (rOf (bV K72.dE (aC (Hh (ji 0) (ai 3)) (aC (aL 2) (aC (aL 4) bF))))) (rC .non))) (aG (bz 5 (bV fm (aC (aL 0) (aC (aL 1) (aC (xw (rW 2) (lOf (gF (aC (aL 4) bF)))) bF))))) (jR (eM (aN oM (ai 5) (rC .non))) (cB (uo 5)) cu)) cu)
noncomputable def gI (fm:MF):MS:=(aG (bz 3 (kSc (iQ fe (aj (ai 2) aE))))
 (aG (jR (eM (aN tG (ai 3) (iQ fe (aj (ai 0) aE)))) (cB (uo 2)) cu)
 (aG (rJ 4 (bV K72.eO (aC (aL 2) (aC (aL 1) bF))) (bX fm))
 (cB (kSc (rC .non))))))
noncomputable def ba (fm:MF):MF:=fA 3 6 (gI fm)
noncomputable def fk:MF:=(ba (ba (ba (ba (ba (ba (ba (ba (ba Z.rF)))))))))
noncomputable def bc (fm:MF):MS:=(aG (bz 6 (bV K72.dE (aC (Hh (ji 0) (ai 3)) (aC (aL 2) (aC (aL 5) bF))))) (aG (jR (eM (aN CK (ai 6) (rC .non))) (bz 6 (bV fm (aC (aL 0) (aC (aL 1) (aC (xw (rW 2) (lOf (gF (aC (aL 5) bF)))) bF))))) cu) (rY 4 (sj (aC (aL 5) (aC (aL 6) bF))))))
noncomputable def gY (fm:MF):MS:=(aG (bz 3 (kSc (iQ fe (aj (ai 2) aE))))
 (aG (bz 4 (gF bF))
 (aG (rJ 5 (bV K72.eO (aC (aL 2) (aC (aL 1) bF))) (bc fm))
 (cB (uo 4)))))
noncomputable def aT (fm:MF):MF:=fA 3 7 (gY fm)
noncomputable def dQ:MF:=(aT (aT (aT (aT (aT (aT (aT (aT (aT Z.rF)))))))))
noncomputable def mP:MS:=(aG (jR (eM (aN G0 (iQ fe (aj (ai 0) aE)) (rC (.int 8)))) xK cu)
 (aG (bz 2 (bV K61.cW (aC (aL 0) bF)))
 (aG (bz 3 (bV K72.fk (aC (aL 2) (aC (aL 1) (aC (gF bF) bF)))))
 (aG (jR (eM (aN oM (ai 3) (rC .non))) (cB (sj (aC (kSc (rC (.str "colours"))) (aC (aL 3) bF)))) cu)
 (cB (sj (aC (kSc (rC (.str "none"))) (aC (bV K72.dQ (aC (aL 2) (aC (aL 1) (aC (gF bF) bF)))) bF))))))))
noncomputable def cZ:MF:=fA 2 4 mP
noncomputable def gn:MS:=(aG (jR (AF (ai 2)) (aG (bz 3 (kSc (KM "list" oa (ai 2) (aj (iQ El (aj (ai 2) aE)) aE)))) (bz 2 (xw (lOf (FL (ji 2) (ny (ai 3)) rh)) (lOf (FL (ji 2) rh (ny (ai 3))))))) cu) (rY 1 (aL 2)))
noncomputable def tP:MS:=(aG (bz 1 (gF bF))
 (aG (rJ 2 (aL 0) gn)
 (cB (xC (ji 1)))))
noncomputable def fQ:MF:=fA 1 4 tP
noncomputable def kf:MS:=(rY 2 (Bn (lOf (lS (AK (aL 4)) [1,3] (eM (aN pP (qU (ai 1) (Cj sD (ai 0))) (ai 2))) (kSc (qU (ai 1) (Cj sD (ai 0))))))))
noncomputable def tF:MS:=(aG (bz 1 (bV Zl.dA (aC (aL 0) bF)))
 (aG (bz 2 (gF bF))
 (aG (oR 3 4 (aL 0) kf)
 (cB (uo 2)))))
noncomputable def iq:MF:=fA 1 5 tF
noncomputable def fN:MS:=(jR (eM (aN BP (ai 4) (rC (.int 9)))) (rY 5 (sj (aC (aL 6) (aC (aL 7) bF)))) cu)
noncomputable def gK:MS:=(kr 7 (aj (ai 6) aE) fN)
noncomputable def fF:MS:=(jR (eM (aN G0 (ai 3) (rC (.int 0)))) (rY 5 (sj (aC (kSc (aN eU (ai 8) (ai 3))) (aC (kSc (aN eU (aN kc (ai 8) (ai 3)) (ai 3))) bF)))) cu)
noncomputable def fS:MS:=(aG (bz 8 (kSc (aN kc (cN Zl.az (aj (ai 0) (aj (ai 10) aE))) (rC (.int 81))))) (aG (zd 12 (ES nT (vR 2) (aN si (rC (.int 1)) (aN nT (rC (.int 2)) (aN eU (ai 8) (rC (.int 2))))))) (aG (oP 9 (Im 9 (uz 9) (aN bW (ai 11) (rC (.int 0)))) (aN eU (aN kc (ai 8) (rC (.int 2))) (aN fP (iQ fe (aj (aN sQ (ai 9) (aN bW (ai 11) (rC (.int 0)))) aE)) (rC (.int 1)))) (ai 12)) (oP 9 (Im 9 (uz 9) (aN bW (ai 11) (rC (.int 1)))) (aN eU (aN kc (ai 8) (rC (.int 6))) (aN fP (iQ fe (aj (aN sQ (ai 9) (aN bW (ai 11) (rC (.int 1)))) aE)) (rC (.int 1)))) (Cj sD (ai 12))))))
noncomputable def qQ:MS:=(aG (bz 2 (bV K51.gN (aC (aL 0) bF)))
 (aG (bz 3 (kSc (aN eU (cN Zl.az (aj (ai 0) (aj (rC (.int 1)) aE))) (aN fP (ai 1) (rC (.int 1))))))
 (aG (bz 4 (kSc (aN eU (cN Zl.az (aj (ai 0) (aj (rC (.int 2)) aE))) (rC (.int 17)))))
 (aG (bz 5 (gF bF))
 (aG (kr 6 (aj (iQ nP (aj (ai 3) (aj (ai 4) aE))) aE) gK)
 (aG (rJ 8 (FL (ji 0) (ny (rC (.int 3))) (ny (aN si (rC (.int 67)) (iQ fe (aj (ai 5) aE))))) fF)
 (aG (bz 9 (lS (IW (aj (ai 3) aE)) [] iR (gF bF)))
 (aG (oR 10 11 (aL 5) fS)
 (cB (bV K72.fQ (aC (aL 9) bF)))))))))))
noncomputable def fV:MF:=fA 2 13 qQ
noncomputable def tD:MS:=(aG (jR (iX (fh (eM (iQ mC (aj (ai 0) (aj (rC (.ty "tuple")) aE))))) (iX (eM (aN pP (iQ fe (aj (ai 0) aE)) (rC (.int 2)))) (fh (eM (iQ mC (aj (aN bW (ai 0) (rC (.int 0))) (aj (rC (.ty "str")) aE))))))) (cB (kSc (rC (.bl false)))) cu)
 (cB (kSc (Cm (iQ Bl (aj (aN bW (ai 0) (rC (.int 1))) (aj (rC (.ty "list")) aE))) (aN (Iv false) (aN bW (ai 0) (rC (.int 0))) (rOf (sj (aC (kSc (rC (.str "colours"))) (aC (kSc (rC (.str "none"))) bF)))))))))
noncomputable def jg:MF:=fA 1 1 tD
end K72
namespace K75
open PySem L2 Mr Z Xe
noncomputable def mG:MS:=(aG (bz 2 (wt (aL 3) (rC (.int 1)))) (aG (HL 1 (fun a b=>a+b) (rC (.int 1))) (bz 3 (bV K72.cZ (aC (aL 0) (aC (aL 1) bF))))))
noncomputable def wQ:MS:=(aG (bz 1 (kSc (rC (.int 0))))
 (aG (bz 2 (gF bF))
 (aG (bz 3 (bV K72.cZ (aC (aL 0) (aC (aL 1) bF))))
 (aG (gq (eM (aN tG (aN bW (ai 3) (rC (.int 0))) (rC (.str "none")))) mG 100000)
 (cB (sj (aC (aL 1) (aC (wt (aL 3) (rC (.int 1))) (aC (aL 2) bF)))))))))
noncomputable def lj:MF:=fA 1 4 wQ
noncomputable def qK:MS:=(cB (kSc (Cm (iQ AU (aj (ai 0) (aj (rC (.ty "int")) aE))) (HE (iQ AU (aj (ai 0) (aj (rC (.ty "bool")) aE)))))))
noncomputable def cS:MF:=fA 1 1 qK
noncomputable def ju:MS:=(aG (CH 3 (uG 2 (aN eU (ai 0) (iQ fe (aj (ai 2) aE))))) (bz 0 (kSc (aN kc (ai 0) (aN fP (iQ fe (aj (ai 2) aE)) (rC (.int 1)))))))
noncomputable def qO:MS:=(aG (bz 2 (uC (aj (ai 1) aE)))
 (aG (bz 3 (gF bF))
 (aG (kr 4 (aj (ai 1) aE) ju)
 (cB (uo 3)))))
noncomputable def iY:MF:=fA 2 5 qO
noncomputable def iN:MS:=(aG (bz 6 (kSc (aN si (aN fP (aN si (aN vY (rC (.int 10)) (rC (.int 60))) (ai 1)) (ai 5)) (ai 4)))) (aG (bz 4 (kSc (aN fP (aN fP (ai 4) (rC (.int 1))) (aN eU (ai 2) (ai 6))))) (aG (bz 2 (kSc (aN BL (ai 2) (ai 6)))) (rY 3 (aL 4)))))
noncomputable def oU:MS:=(aG (bz 2 (kSc (cN Zl.az (aj (ai 0) (aj (rC (.int 2)) aE)))))
 (aG (bz 3 (gF bF))
 (aG (bz 4 (kSc (rC (.int 0))))
 (aG (kr 5 (aj (ai 1) aE) iN)
 (cB (uo 3))))))
noncomputable def gX:MF:=fA 2 7 oU
noncomputable def jE:MS:=(Hg 3 (lOf (gF (aC (aL 4) (aC (kSc (aN si (rC (.int 0)) (ai 4))) bF)))))
noncomputable def jz:MS:=(aG (vq 7 (ai 10) (kSc (rC (.bl true)))) (aG (rY 9 (aL 10)) (bz 10 (kSc (aN sQ (ai 3) (aN sQ (ai 5) (KM "list" oa (ai 3) (aj (ai 10) aE))))))))
noncomputable def ik:MS:=(aG (bz 9 (gF bF)) (aG (bz 10 (aL 8)) (aG (gq (eM (mQ (ai 10) (ai 7))) jz 100000) (jR (AF (ai 9)) (rY 6 (aL 9)) cu))))
noncomputable def wV:MS:=(aG (bz 2 (kSc (aN eU (cN Zl.az (aj (ai 0) (aj (rC (.int 1)) aE))) (aN fP (ai 1) (rC (.int 1))))))
 (aG (bz 3 (gF bF))
 (aG (rJ 4 (bV K75.gX (aC (aL 0) (aC (aL 2) bF))) jE)
 (aG (bz 5 (bV K75.iY (aC (kSc (cN Zl.az (aj (ai 0) (aj (rC (.int 4)) aE)))) (aC (kSc (iQ fe (aj (ai 3) aE))) bF))))
 (aG (bz 6 (lS (IW (aj (aN eU (aN kc (cN Zl.az (aj (ai 0) (aj (rC (.int 1)) aE))) (aN fP (ai 1) (rC (.int 1)))) (rC (.int 4))) aE)) [] iR (gF bF)))
 (aG (bz 7 vz)
 (aG (rJ 8 (aL 3) ik)
 (cB (bV K72.fQ (aC (aL 6) bF))))))))))
noncomputable def lg:MF:=fA 2 11 wV
noncomputable def jI:MS:=(IE 1 (aN eU (ai 2) (rC (.int 8))) (xw (lOf (Hh (ji 1) (aN eU (ai 2) (rC (.int 8))))) (rW 3)))
noncomputable def rb:MS:=(aG (bz 1 (FL (ji 0) rh (ny (rC (.int 8)))))
 (aG (oR 2 3 (FL (ji 0) (ny (rC (.int 8))) rh) jI)
 (cB (bV K72.fQ (aC (aL 1) bF)))))
noncomputable def gM:MF:=fA 1 4 rb
end K75
namespace K73
open PySem L2 Mr Z Xe
noncomputable def dY:MS:=(jR (eM (aN tG (aN sQ (ai 2) (ai 5)) (ai 4))) (cB (kSc (rC (.bl false)))) cu)
noncomputable def fK:MS:=(aG (jR (iX (fh (eM (cN K75.cS (aj (ai 4) aE)))) (iX (fh (eM (D3 Jq BP (rC (.int 0)) (ai 4) (ai 1)))) (eM (aN G0 (ai 4) (rLset (lOf (FL (ji 2) rh (ny (ai 3))))))))) (cB (kSc (rC (.bl false)))) cu) (rJ 5 (Hh (ji 0) (ai 3)) dY))
noncomputable def jS:MS:=(aG (jR (iX (fh (eM (iQ mC (aj (ai 2) (aj (rC (.ty "list")) aE))))) (eM (aN pP (iQ fe (aj (ai 2) aE)) (iQ fe (aj (ai 0) aE))))) (cB (kSc (rC (.bl false)))) cu)
 (aG (oR 3 4 (aL 2) fK)
 (cB (kSc (rC (.bl true))))))
noncomputable def cL:MF:=fA 3 6 jS
noncomputable def cU (fm:MF):MS:=(aG (jR (iX (fh (eM (iQ mC (aj (ai 6) (aj (rC (.ty "tuple")) aE))))) (iX (eM (aN pP (iQ fe (aj (ai 6) aE)) (rC (.int 2)))) (iX (fh (eM (cN K75.cS (aj (aN bW (ai 6) (rC (.int 0))) aE)))) (eM (aN pP (aN bW (ai 6) (rC (.int 0))) (ai 5)))))) (cB (kSc (rC (.bl false)))) cu) (aG (bz 7 (lS (AK (Hh (ji 0) (ai 4))) [4,5,2] (oZ (eM (aN BP (ai 0) (ai 1))) (eM (aN tG (aN sQ (ai 3) (ai 0)) (ai 2)))) (aL 0))) (jR (AF (ai 7)) (jR (iX (fh (eM (cN K75.cS (aj (aN bW (ai 6) (rC (.int 1))) aE)))) (eM (aN pP (aN bW (ai 6) (rC (.int 1))) (aN sQ (ai 7) (rC (.int 0)))))) (cB (kSc (rC (.bl false)))) cu) (jR (fh (eM (cN fm (aj (ai 0) (aj (ai 1) (aj (rOf (xw (rW 2) (lOf (gF (aC (aL 5) bF))))) (aj (aN bW (ai 6) (rC (.int 1))) aE))))))) (cB (kSc (rC (.bl false)))) cu))))
noncomputable def jN (fm:MF):MS:=(aG (bz 4 (kSc (iQ fe (aj (ai 2) aE))))
 (aG (jR (iX (fh (eM (iQ mC (aj (ai 3) (aj (rC (.ty "list")) aE))))) (eM (aN tG (ai 4) (iQ fe (aj (ai 0) aE))))) (cB (kSc (rC (.bl false)))) cu)
 (aG (jR (eM (aN pP (iQ fe (aj (ai 3) aE)) (iQ nP (aj (ai 1) (aj (aN fP (rLset (ji 2)) (rC (.int 1))) aE))))) (cB (kSc (rC (.bl false)))) cu)
 (aG (oR 5 6 (aL 3) (cU fm))
 (cB (kSc (rC (.bl true))))))))
noncomputable def aQ (fm:MF):MF:=fA 4 8 (jN fm)
noncomputable def dq:MF:=(aQ (aQ (aQ (aQ (aQ (aQ (aQ (aQ (aQ (aQ Z.rF))))))))))
end K73
namespace K74
open PySem L2 Mr Z Xe
noncomputable def fW:MS:=(aG (bz 2 (bV K72.iq (aC (aL 0) bF)))
 (aG (jR (iX (fh (eM (iQ mC (aj (ai 1) (aj (rC (.ty "tuple")) aE))))) (iX (eM (aN pP (iQ fe (aj (ai 1) aE)) (rC (.int 3)))) (fh (eM (cN K75.cS (aj (aN bW (ai 1) (rC (.int 0))) aE)))))) (cB (kSc (rC (.bl false)))) cu)
 (aG (jR (iX (fh (eM (cN K73.cL (aj (ai 2) (aj (aN bW (ai 1) (rC (.int 0))) (aj (aN bW (ai 1) (rC (.int 1))) aE)))))) (eM (aN pP (rLset (lOf (wt (aL 1) (rC (.int 1))))) (aN bW (ai 1) (rC (.int 0)))))) (cB (kSc (rC (.bl false)))) cu)
 (aG (jR (fh (AF (ai 0))) (cB (kSc (aN HH (ai 1) (rOf (sj (aC (kSc (rC (.int 0))) (aC (gF bF) (aC (gF bF) bF)))))))) cu)
 (cB (kSc (Cm (aN G0 (aN bW (ai 1) (rC (.int 0))) (rC (.int 0))) (cN K73.dq (aj (ai 2) (aj (aN si (aN bW (ai 1) (rC (.int 0))) (rC (.int 1))) (aj (rOf (gF bF)) (aj (aN bW (ai 1) (rC (.int 2))) aE))))))))))))
noncomputable def cC:MF:=fA 2 3 fW
noncomputable def gm:MS:=(aG (bz 5 (kSc (rC (.str "colours")))) (aG (jR (eM (aN BP (ai 4) (aN bW (ai 3) (rC (.int 0))))) (bz 5 (kSc (rC (.str "none")))) cu) (aG (bz 6 (bV K72.cZ (aC (aL 2) (aC (aL 4) bF)))) (aG (jR (iX (fh (eM (cN K72.jg (aj (ai 6) aE)))) (eM (aN pP (aN bW (ai 6) (rC (.int 0))) (ai 5)))) (cB (kSc (rC (.bl false)))) cu) (aG (jR (oZ (eM (aN tG (ai 4) (aN bW (ai 3) (rC (.int 0))))) (eM (aN A7 (aN bW (ai 6) (rC (.int 1))) (aN bW (ai 3) (rC (.int 1)))))) (cB (kSc (rC (.bl false)))) cu) (jR (oZ (eM (aN tG (ai 4) (aN si (aN bW (ai 3) (rC (.int 0))) (rC (.int 1))))) (eM (aN A7 (aN bW (ai 6) (rC (.int 1))) (aN bW (ai 3) (rC (.int 2)))))) (cB (kSc (rC (.bl false)))) cu))))))
noncomputable def uF:MS:=(aG (bz 1 (bV K72.fV (aC (aL 0) (aC (kSc (rC (.int 8))) bF))))
 (aG (jR (eM (aN tG (aN eU (cN Zl.az (aj (ai 0) (aj (rC (.int 0)) aE))) (rC (.int 2))) (rC (.int 1)))) (bz 1 (bV K75.gM (aC (bV K75.lg (aC (aL 0) (aC (kSc (rC (.int 30))) bF))) bF))) cu)
 (aG (bz 2 (bV K51.gU (aC (aL 1) bF)))
 (aG (bz 3 (bV K75.lj (aC (aL 2) bF)))
 (aG (jR (iX (fh (eM (cN K74.cC (aj (ai 1) (aj (ai 3) aE))))) (eM (aN Af (ai 2) (ai 1)))) (cB (kSc (rC (.bl false)))) cu)
 (aG (kr 4 (aj (rC (.int 9)) aE) gm)
 (cB (kSc (rC (.bl true))))))))))
noncomputable def zj:MF:=fA 1 7 uF
end K74
--ZQ3 --ZQ4 --ZQ5 --ZQ6 --ZQ8 --ZQ9 --ZQB --ZQC --ZQD --ZQE --ZQF --ZQG
namespace K72
open PySem L2 Mr Z Xe Zl
def dZ (n:Nat):List Int:=(List.range n).map fun k:Nat=>(k:Int)
def mN (cs:List Int) (many:Nat):List Int:=dZ (min many ((Ms.dd cs).length+1))
theorem oV (n:Nat):bA 0 n=(dZ n).map D.int:=by
 unfold bA dZ;rw [mPq];refine mCq fun k _=>?_
 show D.int (0+(k:Int))=D.int (k:Int);rw [Int.zero_add]
theorem uO (a b:Nat):(if (b:Int)<(a:Int) then (b:Int) else (a:Int))=((min a b:Nat):Int):=by
 split <;> lia
theorem uS (cs:List Int) (many:Nat):(mN cs many).length<=many:=by
 unfold mN dZ;rw [lMq,List.length_range];lia
theorem mv {cs:List Int}{many:Nat}(hc:cs.length<=100) (hm:many<=100):eO [dI cs,.int (many:Int)]=some (aI (mN cs many)):=by
 have l1:cs.length<=4000:=by lia
 have e1:((Ms.dd cs).length:Int)+1=(((Ms.dd cs).length+1:Nat):Int):=by lia
 have hd:=Ms.uW cs;have r:=gG (n:=min many ((Ms.dd cs).length+1)) (by lia)
 have lr:(bA 0 (min many ((Ms.dd cs).length+1))).length<=eG:=by rw [aY];exact fE (by lia)
 have er:=oV (min many ((Ms.dd cs).length+1));have mn:nP [.int (many:Int),.int (((Ms.dd cs).length+1:Nat):Int)]=some (.int ((min many ((Ms.dd cs).length+1):Nat):Int)):=by
  rw [oh,uO]
 simp_arith [eO,rg,zA,rK,dI,l1,e1,mn,r,lr]
 rw [er,mN,mPq];rfl
def hs (cs:List Int) (c t:Int):Bool:=decide (t<(cs.length:Int)) && decide (cs.getD t.toNat 0=c)
def cl (row cs:List Int) (c:Int):List Int:=row.filter (hs cs c)
theorem xN {cs:List Int}{t:Int}(h0:0<=t) (h1:t<(cs.length:Int)):atI (cs.map D.int) t=some (.int (cs.getD t.toNat 0)):=by
 obtain ⟨k,rfl⟩:∃ k:Nat,t=(k:Int):=⟨t.toNat,by lia⟩
 have hk:k<cs.length:=by lia
 refine fM ?_;rw [gMq,gDq,Int.toNat_natCast,gEg hk];rfl
theorem qJ {row cs:List Int}{c:Int}(hr:∀ t∈row,0<=t) (hl:row.length<=1000):dE [dI row,dI cs,.int c]=some (.sh (eI (cl row cs c))):=by
 have key:fb (oZ (eM (aN BP (ai 0) (iQ fe (aj (ai 2) aE)))) (eM (aN tG (aN sQ (ai 2) (ai 0)) (ai 1)))) (aL 0) [some (.sh (.int c)),some (.sh (.list (cs.map D.int)))] (row.map D.int)=some ((cl row cs c).map fun n=>.sh (.int n)):=by
  rw [Z.iy (fun d=>match d with|.int t=>hs cs c t|_=>false) (fun d=>.sh d)]
  .rw [List.filter_map,mPq];rfl
  .intro d hd;obtain ⟨t,ht,rfl⟩:=mMq.mp hd;refine ⟨[some (.sh (.int t)),some (.sh (.int c)),some (.sh (.list (cs.map D.int)))],?_,fun _=>⟨[some (.sh (.int t)),some (.sh (.int c)),some (.sh (.list (cs.map D.int)))],?_⟩⟩
   .by_cases h:t<(cs.length:Int)
    .have e:=xN (hr t ht) h
     simp_arith [h,e,hs]
     rw [Bool.true_and]
    .simp_arith [h,hs]
     rw [Bool.false_and]
   .simp_arith []
 have l1:row.length<=eG:=fE (by lia)
 have sc:∀ l,(eI l).scal=true:=fun l=>by cases l <;> rfl
 simp_arith [dE,oS,dI,key,l1,HV,sc]
theorem nQ (l:List Int):CK (eI l) .non=some (.bl (decide (l=[]))):=by
 cases l <;> rfl
def ok (row cs:List Int) (c:Int):Bool:=decide (cl row cs c=[])
def ext (many:Nat) (row cs:List Int):List (List Int):=((mN cs many).filter (ok row cs)).map fun c=>cs++[c]
def dj (many:Nat):List (List Int)->List Int->List (List Int)
 | [],cs=>[cs]
 | row::rows,cs=>(ext many row cs).flatMap (dj many rows)
theorem EU {row row' cs:List Int}(h:∀ t,t∈row↔t∈row') (c:Int):ok row cs c=ok row' cs c:=by
 unfold ok cl;refine decide_eq_decide.mpr ?_;rw [List.filter_eq_nil_iff,List.filter_eq_nil_iff];exact ⟨fun q t ht=>q t ((h t).mpr ht),fun q t ht=>q t ((h t).mp ht)⟩
def xU:Option (List Int)->D
 | none=>.non
 | some l=>dI l
theorem C0 (o:Option (List Int)):oM (xU o) .non=some (.bl o.isSome):=by
 cases o <;> rfl
structure Nr (nr:List (List Int)):Prop where
 len:nr.length<=8
 row:∀ r∈nr,(∀ t∈r,0<=t)/\r.length<=1000
noncomputable def IQ:Nat->MF
 | 0=>Z.rF
 | d+1=>ba (IQ d)
theorem FZ:fk=IQ 9:=rfl
def g0 (many:Nat) (rows:List (List Int)):List (List Int)->Option (List Int)
 | []=>none
 | cs::r=>((dj many rows cs).head?).or (g0 many rows r)
theorem FQ (many:Nat) (rows:List (List Int)):∀ L:List (List Int),g0 many rows L=(L.flatMap (dj many rows)).head?
 | []=>rfl
 | cs::r=>by
  rw [g0,List.flatMap_cons,List.head?_append,FQ many rows r]
theorem Eo {nr:List (List Int)}(hn:Nr nr) {many:Nat}{row cs:List Int}{o:Option (List Int)}(hd:nr[cs.length]?=some row) {fm:MF}{c:Int}(hf:fm [dM nr,.int (many:Int),dI (cs++[c])]=some (.sh (xU o))) (hc:cs.length<=50) (v5:Option AV) :
  bX fm [some (.sh (dM nr)),some (.sh (.int (many:Int))),some (.sh (dI cs)),some (.sh (.int (cs.length:Int))),some (.sh (.int c)),v5] =
   if ok row cs c=true then (match o with
    | some l=>some (.rt (.sh (dI l)))
    | none=>some (.nx [some (.sh (dM nr)),some (.sh (.int (many:Int))),some (.sh (dI cs)),some (.sh (.int (cs.length:Int))),some (.sh (.int c)),some (.sh .non)]))
   else some (.nx [some (.sh (dM nr)),some (.sh (.int (many:Int))),some (.sh (dI cs)),some (.sh (.int (cs.length:Int))),some (.sh (.int c)),v5]):=by
 have hr:=hn.row row (mGq hd);have ck:=qJ (row:=row) (cs:=cs) (c:=c) hr.1 hr.2;have at1:atI (nr.map dI) (cs.length:Int)=some (dI row):=fM (by rw [gMq,hd];rfl)
 have ln:=nQ (cl row cs c);have l1:cs.length+1<=eG:=fE (by lia)
 have q:cs.map D.int++[D.int c]=(cs++[c]).map D.int:=by rw [mBq];rfl
 have nn:=C0 o
 by_cases k:cl row cs c=[]
 .have hok:ok row cs c=true:=decide_eq_true k;rw [decide_eq_true k] at ln;rw [if_pos hok];cases o with
  | some l =>
   have nl:oM (dI l) .non=some (.bl true):=rfl;have en:xU (some l)=dI l:=rfl;rw [en] at hf
   simp_arith [bX,dM,at1,ck,ln,q,l1,dI,hf,nl]
  | none =>
   have en:xU none = .non:=rfl;rw [en] at hf
   simp_arith [bX,dM,at1,ck,ln,q,l1,dI,hf,kU]
 .have hok:¬ ok row cs c=true:=by unfold ok;rw [decide_eq_false k];exact Bool.false_ne_true
  rw [decide_eq_false k] at ln;rw [if_neg hok]
  simp_arith [bX,dM,at1,ck,ln,dI]
theorem uH {nr:List (List Int)}(hn:Nr nr) {many:Nat}{row cs:List Int}{rows:List (List Int)}(hd:nr[cs.length]?=some row) {fm:MF}(hf:∀ c:Int,fm [dM nr,.int (many:Int),dI (cs++[c])]=some (.sh (xU ((dj many rows (cs++[c])).head?)))) (hc:cs.length<=50) :
  ∀ (as:List Int) (v4 v5:Option AV),(∀ l,g0 many rows ((as.filter (ok row cs)).map fun c=>cs++[c])=some l->dX 4 (bX fm) (as.map D.int) [some (.sh (dM nr)),some (.sh (.int (many:Int))),some (.sh (dI cs)),some (.sh (.int (cs.length:Int))),v4,v5]=some (.rt (.sh (dI l)))) /\
   (g0 many rows ((as.filter (ok row cs)).map fun c=>cs++[c])=none->∃ v4' v5',dX 4 (bX fm) (as.map D.int) [some (.sh (dM nr)),some (.sh (.int (many:Int))),some (.sh (dI cs)),some (.sh (.int (cs.length:Int))),v4,v5]=some (.nx [some (.sh (dM nr)),some (.sh (.int (many:Int))),some (.sh (dI cs)),some (.sh (.int (cs.length:Int))),v4',v5']))
 | [],v4,v5=>by
  refine ⟨fun l h=>?_,fun _=>⟨v4,v5,rfl⟩⟩
  cases h
 | c::as,v4,v5=>by
  have b:=Eo hn hd (hf c) hc v5;have un:∀ v4 v5:Option AV,dX 4 (bX fm) ((c::as).map D.int) [some (.sh (dM nr)),some (.sh (.int (many:Int))),some (.sh (dI cs)),some (.sh (.int (cs.length:Int))),v4,v5]=(bX fm [some (.sh (dM nr)),some (.sh (.int (many:Int))),some (.sh (dI cs)),some (.sh (.int (cs.length:Int))),some (.sh (.int c)),v5]).bind _:=fun v4 v5=>rfl
  rw [un]
  by_cases k:ok row cs c=true
  .rw [if_pos k] at b;rw [List.filter_cons_of_pos k,List.map_cons];show (∀ l,((dj many rows (cs++[c])).head?).or (g0 many rows _)=some l->_)/\(((dj many rows (cs++[c])).head?).or (g0 many rows _)=none->_);cases h:(dj many rows (cs++[c])).head? with
   | some l' =>
    rw [h] at b;rw [b];refine ⟨fun l e=>?_,fun e=>?_⟩
    .cases e;rfl
    .cases e
   | none =>
    rw [h] at b;rw [b];obtain ⟨i1,i2⟩:=uH hn hd hf hc as (some (.sh (.int c))) (some (.sh .non));exact ⟨fun l e=>i1 l e,fun e=>i2 e⟩
  .rw [if_neg k] at b;rw [List.filter_cons_of_neg k,b];obtain ⟨i1,i2⟩:=uH hn hd hf hc as (some (.sh (.int c))) v5;exact ⟨fun l e=>i1 l e,fun e=>i2 e⟩
theorem Dq {nr:List (List Int)}(hn:Nr nr) {many:Nat}(hm:many<=100):∀ (d:Nat) (cs:List Int),cs.length<=nr.length->nr.length<cs.length+d->IQ d [dM nr,.int (many:Int),dI cs]=some (.sh (xU ((dj many (nr.drop cs.length) cs).head?)))
 | 0,cs,h1,h2=>by lia
 | d+1,cs,h1,h2=>by
  have hl:=hn.len
  by_cases k:cs.length=nr.length
  .rw [k,List.drop_length];have k':decide ((cs.length:Int)=(nr.length:Int))=true:=decide_eq_true (by lia)
   show ba (IQ d) _=some (.sh (dI cs))
   simp_arith [ba,gI,dM,dI,k']
  .have hlt:cs.length<nr.length:=by lia
   have k':decide ((cs.length:Int)=(nr.length:Int))=false:=decide_eq_false (by lia)
   have hd:=gEg hlt;rw [List.drop_eq_getElem_cons hlt];generalize nr[cs.length]=row at hd;have hf:∀ c:Int,IQ d [dM nr,.int (many:Int),dI (cs++[c])]=some (.sh (xU ((dj many (nr.drop (cs.length+1)) (cs++[c])).head?))):=fun c=>by
    have:=Dq hn hm d (cs++[c]) (by rw [lAq,lSq];lia) (by rw [lAq,lSq];lia)
    rw [lAq,lSq] at this;exact this
   obtain ⟨i1,i2⟩:=uH hn hd hf (by lia) (mN cs many) none none
   rw [FQ] at i1 i2;have ao:=mv (cs:=cs) (many:=many) (by lia) hm
   have sa:=cv (mN cs many);show ba (IQ d) _=some (.sh (xU ((ext many row cs).flatMap (dj many (nr.drop (cs.length+1)))).head?));unfold ext;cases h:(List.flatMap (dj many (nr.drop (cs.length+1))) (((mN cs many).filter (ok row cs)).map fun c=>cs++[c])).head? with
   | some l =>
    have e:=i1 l h;have en:xU (some l)=dI l:=rfl
    simp_arith [ba,gI,dM,dI,k',ao,sa,e,en]
   | none =>
    obtain ⟨v4,v5,e⟩:=i2 h;have en:xU none = .non:=rfl
    simp_arith [ba,gI,dM,dI,k',ao,sa,e,en]
end K72
--ZQ3 --ZQ4 --ZQ5 --ZQ6 --ZQ8 --ZQ9 --ZQB --ZQC --ZQD --ZQE --ZQF --ZQG
namespace K72
open PySem L2 Mr Z Xe Zl
noncomputable def FW:Nat->MF
 | 0=>Z.rF
 | d+1=>aT (FW d)
theorem FS:dQ=FW 9:=rfl
theorem tb_body {nr:List (List Int)}(hn:Nr nr) {many:Nat}{row cs:List Int}(hd:nr[cs.length]?=some row) {fm:MF}{c:Int}(hf:ok row cs c=true->∃ ts:List D,fm [dM nr,.int (many:Int),dI (cs++[c])]=some (.ow (ts.map .sh))) (hc:cs.length<=50) {bs:List D}(hb:bs.length<500) (v6:Option AV) :
  ∃ d v6',bc fm [some (.sh (dM nr)),some (.sh (.int (many:Int))),some (.sh (dI cs)),some (.sh (.int (cs.length:Int))),some (.ow (bs.map .sh)),some (.sh (.int c)),v6]=some (.nx [some (.sh (dM nr)),some (.sh (.int (many:Int))),some (.sh (dI cs)),some (.sh (.int (cs.length:Int))),some (.ow ((bs++[d]).map .sh)),some (.sh (.int c)),v6']):=by
 have hr:=hn.row row (mGq hd);have ck:=qJ (row:=row) (cs:=cs) (c:=c) hr.1 hr.2;have at1:atI (nr.map dI) (cs.length:Int)=some (dI row):=fM (by rw [gMq,hd];rfl)
 have ln:=nQ (cl row cs c);have l1:cs.length+1<=eG:=fE (by lia)
 have l2:bs.length<eG:=Nat.lt_of_lt_of_le hb (by decide)
 have q:cs.map D.int++[D.int c]=(cs++[c]).map D.int:=by rw [mBq];rfl
 by_cases k:cl row cs c=[]
 .have hok:ok row cs c=true:=decide_eq_true k;rw [decide_eq_true k] at ln;obtain ⟨ts,e⟩:=hf hok;have st:(ts.map AV.sh).map aB=ts:=by rw [mPq];exact (mCq fun d _=>bK d).trans (List.map_id ts)
  refine ⟨.tup [.int c,.list ts],some (.sh (.list ts)),?_⟩;have qb:bs.map AV.sh++[AV.sh (.tup [.int c,.list ts])]=(bs++[D.tup [.int c,.list ts]]).map .sh:=by rw [mBq];rfl
  simp_arith [bc,dM,at1,ck,ln,q,l1,dI,e,l2,st,qb]
 .have hok:¬ ok row cs c=true:=by unfold ok;rw [decide_eq_false k];exact Bool.false_ne_true
  rw [decide_eq_false k] at ln;refine ⟨.tup [.int c,eI (cl row cs c)],some (.sh (eI (cl row cs c))),?_⟩;have qb:bs.map AV.sh++[AV.sh (.tup [.int c,eI (cl row cs c)])]=(bs++[D.tup [.int c,eI (cl row cs c)]]).map .sh:=by rw [mBq];rfl
  simp_arith [bc,dM,at1,ck,ln,dI,l2,qb]
theorem tb_loop {nr:List (List Int)}(hn:Nr nr) {many:Nat}{row cs:List Int}(hd:nr[cs.length]?=some row) {fm:MF}(hc:cs.length<=50) :
  ∀ (as:List Int) (bs:List D) (v5 v6:Option AV),(∀ c∈as,ok row cs c=true->∃ ts:List D,fm [dM nr,.int (many:Int),dI (cs++[c])]=some (.ow (ts.map .sh)))->bs.length+as.length<=300 ->
  ∃ (bs':List D) (v5' v6':Option AV),dX 5 (bc fm) (as.map D.int) [some (.sh (dM nr)),some (.sh (.int (many:Int))),some (.sh (dI cs)),some (.sh (.int (cs.length:Int))),some (.ow (bs.map .sh)),v5,v6]=some (.nx [some (.sh (dM nr)),some (.sh (.int (many:Int))),some (.sh (dI cs)),some (.sh (.int (cs.length:Int))),some (.ow (bs'.map .sh)),v5',v6'])
 | [],bs,v5,v6,_,_=>⟨bs,v5,v6,rfl⟩
 | c::as,bs,v5,v6,hf,hl=>by
  rw [lCq] at hl;obtain ⟨d,v6',b⟩:=tb_body hn hd (hf c (List.mem_cons_self ..)) hc (bs:=bs) (by lia) v6
  obtain ⟨bs',v5',v6'',i⟩:=tb_loop hn hd hc as (bs++[d]) (some (.sh (.int c))) v6' (fun c' h=>hf c' (mCo _ h)) (by rw [lAq,lSq];lia)
  refine ⟨bs',v5',v6'',?_⟩;show (bc fm [some (.sh (dM nr)),some (.sh (.int (many:Int))),some (.sh (dI cs)),some (.sh (.int (cs.length:Int))),some (.ow (bs.map .sh)),some (.sh (.int c)),v6]).bind _=_;rw [b];exact i
theorem mZ {α β:Type}{f:α->List β}{l:List α}(h:l.flatMap f=[]) {a:α}(ha:a∈l):f a=[]:=List.flatMap_eq_nil_iff.mp h a ha
theorem tb_ok {nr:List (List Int)}(hn:Nr nr) {many:Nat}(hm:many<=100):∀ (d:Nat) (cs:List Int),cs.length<=nr.length->nr.length<cs.length+d->dj many (nr.drop cs.length) cs=[]->∃ ts:List D,FW d [dM nr,.int (many:Int),dI cs]=some (.ow (ts.map .sh))
 | 0,cs,h1,h2,_=>by lia
 | d+1,cs,h1,h2,h3=>by
  have hl:=hn.len;have hlt:cs.length<nr.length:=by
   by_cases k:cs.length<nr.length
   .exact k
   .rw [List.drop_of_length_le (by lia)] at h3
    cases h3
  have hd:=gEg hlt;rw [List.drop_eq_getElem_cons hlt] at h3;generalize nr[cs.length]=row at hd h3;have h3':(ext many row cs).flatMap (dj many (nr.drop (cs.length+1)))=[]:=h3;have hf:∀ c∈mN cs many,ok row cs c=true->∃ ts:List D,FW d [dM nr,.int (many:Int),dI (cs++[c])]=some (.ow (ts.map .sh)):=fun c hc hk=>by
   refine tb_ok hn hm d (cs++[c]) (by rw [lAq,lSq];lia) (by rw [lAq,lSq];lia) ?_
   rw [lAq,lSq];exact mZ h3' (mMq.mpr ⟨c,List.mem_filter.mpr ⟨hc,hk⟩,rfl⟩)
  have la:=uS cs many;obtain ⟨bs',v5,v6,e⟩:=tb_loop hn hd (by lia) (mN cs many) [] none none hf (by simp;lia)
  rw [List.map_nil] at e;have ao:=mv (cs:=cs) (many:=many) (by lia) hm
  have sa:=cv (mN cs many);refine ⟨bs',?_⟩;show aT (FW d) _=_
  simp_arith [aT,gY,dM,dI,ao,sa,e]
theorem Cp {M nr:List (List Int)}(hn:Nr nr) (hM:M.length<=8) (hb:K61.cW [dM M]=some (.ow (nr.map aI))) {many:Nat}(hm:many<=100) :
  (∀ l,(dj many nr []).head?=some l->cZ [dM M,.int (many:Int)]=some (.sh (.tup [.str "colours", dI l])))/\(dj many nr []=[]->∃ ts:List D,cZ [dM M,.int (many:Int)]=some (.sh (.tup [.str "none", .list ts]))):=by
 have hl:=hn.len;have ff:=Dq hn hm 9 [] (Nat.zero_le _) (by simp;lia)
 rw [← FZ] at ff;have k8:decide ((8:Int)<(M.length:Int))=false:=decide_eq_false (by lia)
 have sn:(nr.map aI).map aB=nr.map dI:=by rw [mPq];exact mCq fun r _=>cv r
 have ff':fk [dM nr,.int (many:Int),.list []]=some (.sh (xU ((dj many nr []).head?))):=ff;refine ⟨fun l h=>?_,fun h=>?_⟩
 .rw [h] at ff';have nl:oM (dI l) .non=some (.bl true):=rfl;have en:xU (some l)=dI l:=rfl;rw [en] at ff'
  simp_arith [cZ,mP,dM,dI,k8,hb,sn,ff',nl]
 .rw [h] at ff';obtain ⟨ts,tb⟩:=tb_ok hn hm 9 [] (Nat.zero_le _) (by simp;lia) h
  rw [← FS] at tb;have tb':dQ [dM nr,.int (many:Int),.list []]=some (.ow (ts.map .sh)):=tb;have st:(ts.map AV.sh).map aB=ts:=by rw [mPq];exact (mCq fun d _=>bK d).trans (List.map_id ts)
  have en:xU ([]:List (List Int)).head? = .non:=rfl;rw [en] at ff';refine ⟨ts,?_⟩
  simp_arith [cZ,mP,dM,dI,k8,hb,sn,ff',kU,tb',st]
end K72
--ZQ3 --ZQ4 --ZQ5 --ZQ6 --ZQ8 --ZQ9 --ZQB --ZQC --ZQD --ZQE --ZQF --ZQG
namespace K72
open PySem L2 Mr Z Xe Zl
def lst (nr:D) (many:Nat) (a2 a3:Option AV) (X:List (List Int)) (v5 v6 v7:Option AV):AS:=[some (.sh nr),some (.sh (.int (many:Int))),a2,a3,some (.ow (X.map aI)),v5,v6,v7]
end K72
--ZQ3 --ZQ4 --ZQ5 --ZQ6 --ZQ8 --ZQ9 --ZQB
namespace K61
open PySem L2 Mr Z Xe Zl
theorem B6 {kvs:List (bJ×D)}{ks:List Nat}{e:Int}{t k:Nat}{v0 v5:Option AV}(hg:Z.getD kvs (Sum.inl (-e))=some (.int (t:Int))) (hk:ks.length<500000) :
  fv [v0,some (.sh (.dict kvs)),some (.sh (.int (k:Int))),some (.owd (kd ks)),some (.sh (.int e)),v5]=some (.nx [v0,some (.sh (.dict kvs)),some (.sh (.int (k:Int))),some (.owd (kd (if t=k then ks else vo ks t))),some (.sh (.int e)),some (.sh (.int (t:Int)))]):=by
 have l1:(kd ks).length<eG:=by unfold kd;rw [lMq];show _<16777216;lia
 have hp:=E6 ks t
 by_cases h:t=k
 .have h':(t:Int)=(k:Int):=by lia
  simp_arith [fv,hg,h',h]
 .have h':¬ (t:Int)=(k:Int):=by lia
  simp_arith [fv,hg,h',h,hp,l1]
theorem HG {rs:List (List Int)}(hm:Mp rs) {k:Nat}{r:List Int}(hr:rs[k]?=some r):hV [dI r,.dict (bL 0 rs),.int (k:Int)]=some (aI ((nb rs k r).map fun n:Nat=>(n:Int))):=by
 have hrow:=hm.row hr;have key:=jM (x:=4) (body:=fv) (fun i S=>∃ v4 v5,S=[some (.sh (dI r)),some (.sh (.dict (bL 0 rs))),some (.sh (.int (k:Int))),some (.owd (kd ((r.take i).foldl (Fh rs k) []))),v4,v5]) (ds:=r.map D.int) (S:=[some (.sh (dI r)),some (.sh (.dict (bL 0 rs))),some (.sh (.int (k:Int))),some (.owd []),none,none])
  ⟨none,none,rfl⟩ (by
  rintro i d S hd ⟨v4,v5,rfl⟩;rw [gMq] at hd;obtain ⟨e,he,rfl⟩:=oMq.mp hd;have hm':e∈r:=mGq he;have n1:=xO rs k (r.take i) [];rw [lTq,List.length_nil] at n1;have step:=B6 (k:=k) (v0:=some (.sh (dI r))) (v5:=v5) (hm.kv (hm.other hr hm')) (ks:=(r.take i).foldl (Fh rs k) []) (by lia)
  refine ⟨_,step,some (.sh (.int e)),some (.sh (.int (vb rs (-e):Int))),?_⟩;rw [Bc he];rfl)
 obtain ⟨S',e,v4,v5,rfl⟩:=key;rw [lMq,List.take_length] at e;have hk:(kd (nb rs k r)).map (fun p=>AV.sh (kD p.1))=((nb rs k r).map fun n:Nat=>(n:Int)).map fun n=>AV.sh (.int n):=by
  unfold kd;rw [mPq,mPq];rfl
 have e':dX 4 fv (List.map D.int r) [some (.sh (dI r)),some (.sh (.dict (bL 0 rs))),some (.sh (.int (k:Int))),some (.owd []),none,none]=some (.nx [some (.sh (dI r)),some (.sh (.dict (bL 0 rs))),some (.sh (.int (k:Int))),some (.owd (kd (nb rs k r))),v4,v5]):=e
 simp_arith [hV,tM,e',hk]
def pL (rs:List (List Int)):Nat->List (List Int)->List (List Int)
 | _,[]=>[]
 | k,r::ts=>((nb rs k r).map fun n:Nat=>(n:Int))::pL rs (k+1) ts
theorem zb (rs:List (List Int)):∀ {ts:List (List Int)}{k i:Nat}{r:List Int},ts[i]?=some r->(pL rs k ts)[i]?=some ((nb rs (k+i) r).map fun n:Nat=>(n:Int))
 | [],_,_,_,h=>by simp at h
 | t::ts,k,0,r,h=>by cases h;rfl
 | t::ts,k,i+1,r,h=>by
  rw [pL,List.getElem?_cons_succ,zb rs (by simpa using h),show k+1+i=k+(i+1) by lia]
theorem nH (rs:List (List Int)):∀ (ts:List (List Int)) (k:Nat),(pL rs k ts).length=ts.length
 | [],_=>rfl
 | t::ts,k=>by rw [pL,lCq,nH rs ts (k+1),lCq]
theorem ve (rs:List (List Int)):∀ (ts:List (List Int)) (k:Nat),(lU k (ts.map dI)).map (fun d:D×D=>match d with|(.int i,.list ds)=>aI ((nb rs i.toNat (Bf (.list ds))).map fun n:Nat=>(n:Int))|_=>.sh .non)=(pL rs k ts).map aI
 | [],_=>rfl
 | t::ts,k=>by
  rw [List.map_cons,lU,List.map_cons,pL,List.map_cons,ve rs ts (k+1)];congr 1;show aI ((nb rs (Int.toNat (k:Int)) (Bf (dI t))).map fun n:Nat=>(n:Int))=_
  rw [yH,Int.toNat_natCast]
theorem Dz {rs:List (List Int)}(hm:Mp rs):cW [dM rs]=some (.ow ((pL rs 0 rs).map aI)):=by
 have hl:=hm.hl;have h1000:=hm.hr;have pa:=nE hm.hn (by lia)
 have l1:rs.length<=eG:=by show _<=16777216;lia
 have key:=tK (te:=bV hV (aC (aL 1) (aC (aL 2) (aC (aL 0) bF)))) (cap:=[some (.sh (.dict (bL 0 rs)))]) (fun d:D×D=>match d with|(.int i,.list ds)=>aI ((nb rs i.toNat (Bf (.list ds))).map fun n:Nat=>(n:Int))|_=>.sh .non) (ds:=lU 0 (rs.map dI)) (by
  intro d hd;obtain ⟨i,hi⟩:=List.mem_iff_getElem?.mp hd;have hlt:i<rs.length:=by
   have:=(gSq.mp hi).1
   rwa [nV,lMq] at this
  have hr:rs[i]?=some rs[i]:=gEg hlt;have he:=ot (n:=0) (ds:=rs.map dI) (i:=i) (d:=dI rs[i]) (by rw [gMq,hr];rfl)
  rw [he,Nat.zero_add] at hi;have hd':=(Option.some.inj hi).symm;subst hd';have led:=HG hm hr;refine ⟨[some (.sh (.int (i:Int))),some (.sh (dI rs[i])),some (.sh (.dict (bL 0 rs)))],?_⟩;have hu:Bf (.list (List.map D.int rs[i]))=rs[i]:=yH rs[i];show bV hV (aC (aL 1) (aC (aL 2) (aC (aL 0) bF))) [some (.sh (.int (i:Int))),some (.sh (dI rs[i])),some (.sh (.dict (bL 0 rs)))]=some (aI ((nb rs (Int.toNat (i:Int)) (Bf (.list (List.map D.int rs[i])))).map fun n:Nat=>(n:Int)),_)
  rw [hu,Int.toNat_natCast]
  simp_arith [led])
 rw [ve] at key
 simp_arith [cW,lJ,pa,dM,l1,key]
end K61
--ZQ3 --ZQ4 --ZQ5 --ZQ6 --ZQ8 --ZQ9
namespace K51
open PySem L2 Mr Z Xe Zl
def rd (st sh a b k:Int):Int:=st*(1+(a*k+b) % 67)+sh
def DU (st sh a b:Int):List Int:=(List.range 67).map fun k:Nat=>rd st sh a b k
theorem qk {st sh a b:Int}(h1:1<=a) (h2:a<=66):fb iR (kSc (aN fP (aN nT (ai 2) (aN fP (rC (.int 1)) (aN eU (aN fP (aN nT (ai 4) (ai 0)) (ai 3)) (rC (.int 67))))) (ai 1))) [some (.sh (.int sh)),some (.sh (.int st)),some (.sh (.int b)),some (.sh (.int a))] (bA 0 67)=some ((DU st sh a b).map fun z=>.sh (.int z)):=by
 have key:=ng (te:=kSc (aN fP (aN nT (ai 2) (aN fP (rC (.int 1)) (aN eU (aN fP (aN nT (ai 4) (ai 0)) (ai 3)) (rC (.int 67))))) (ai 1))) (cap:=[some (.sh (.int sh)),some (.sh (.int st)),some (.sh (.int b)),some (.sh (.int a))])
  (fun d=>match d with|.int k=>.sh (.int (rd st sh a b k))|_=>.sh .non) (ds:=bA 0 67) (by
  intro d hd;rw [pB] at hd;obtain ⟨k,_,rfl⟩:=mMq.mp hd;have b1:0<=(a*(k:Int)+b) % 67:=Int.emod_nonneg _ (by decide)
  have b2:(a*(k:Int)+b) % 67<67:=Int.emod_lt_of_pos _ (by decide)
  have c1:=JR (i:=a) (j:=(k:Int)) (by lia) (by lia)
  have c2:=Dw (i:=st) (j:=1+(a*(k:Int)+b) % 67) (by lia) (by lia)
  have m67:=fun i:Int=>dS (i:=i) (j:=67) (by decide)
  refine ⟨[some (.sh (.int (k:Int))),some (.sh (.int sh)),some (.sh (.int st)),some (.sh (.int b)),some (.sh (.int a))],?_⟩
  simp_arith [c1,c2,m67,rd])
 rw [key,pB,mPq];unfold DU;rw [mPq];rfl
theorem BC (ns:List Int):∃ st sh a b:Int,1<=st/\st<=10 ^ 57/\0<=sh/\sh<10 ^ 59/\1<=a/\a<=66/\0<=b/\b<67/\gN [.scr ns]=some (aI (DU st sh a b)):=by
 have a1:0<=cell ns 0 / 3 % 66:=Int.emod_nonneg _ (by decide)
 have a2:cell ns 0 / 3 % 66<66:=Int.emod_lt_of_pos _ (by decide)
 have b1:0<=cell ns 0 / 198 % 67:=Int.emod_nonneg _ (by decide)
 have b2:cell ns 0 / 198 % 67<67:=Int.emod_lt_of_pos _ (by decide)
 have s1:0<=cell ns 1 % 10 ^ 57:=Int.emod_nonneg _ (by decide)
 have s2:cell ns 1 % 10 ^ 57<10 ^ 57:=Int.emod_lt_of_pos _ (by decide)
 have s3:0<=cell ns 2 % 10 ^ 59:=Int.emod_nonneg _ (by decide)
 have s4:cell ns 2 % 10 ^ 59<10 ^ 59:=Int.emod_lt_of_pos _ (by decide)
 have m3:=fun i:Int=>dS (i:=i) (j:=3) (by decide)
 have m66:=fun i:Int=>dS (i:=i) (j:=66) (by decide)
 have m67:=fun i:Int=>dS (i:=i) (j:=67) (by decide)
 have m57:=fun i:Int=>dS (i:=i) (j:=10 ^ 57) (by decide)
 have m59:=fun i:Int=>dS (i:=i) (j:=10 ^ 59) (by decide)
 have d3:=fun i:Int=>mJ (i:=i) (j:=3) (by decide) (by decide)
 have d198:=fun i:Int=>mJ (i:=i) (j:=198) (by decide) (by decide)
 have r67:oz [.int 67]=some (bA 0 67):=gG (n:=67) (by decide)
 have l67:(bA 0 67).length<=eG:=by rw [aY];show 67<=16777216;decide
 by_cases h0:0<cell ns 0 % 3
 .refine ⟨1+cell ns 1 % 10 ^ 57,cell ns 2 % 10 ^ 59,1+cell ns 0 / 3 % 66,cell ns 0 / 198 % 67,by lia,by lia,s3,s4,by lia,by lia,b1,b2,?_⟩
  have rc:=qk (st:=1+cell ns 1 % 10 ^ 57) (sh:=cell ns 2 % 10 ^ 59) (a:=1+cell ns 0 / 3 % 66) (b:=cell ns 0 / 198 % 67) (by lia) (by lia)
  simp_arith [gN,mj,FT,J0,IX,h0,m3,m66,m67,m57,m59,d3,d198,L0,Mq,r67,l67,rc]
 .refine ⟨1,0,1+cell ns 0 / 3 % 66,cell ns 0 / 198 % 67,by decide,by decide,by decide,by decide,by lia,by lia,b1,b2,?_⟩
  have rc:=qk (st:=1) (sh:=0) (a:=1+cell ns 0 / 3 % 66) (b:=cell ns 0 / 198 % 67) (by lia) (by lia)
  simp_arith [gN,mj,FT,h0,m3,m66,m67,d3,d198,r67,l67,rc]
theorem Hw {st sh a b:Int}(h1:1<=st) (h2:1<=a) (h3:a<=66) {j k:Nat}(hj:j<67) (hk:k<67) (h:rd st sh a b j=rd st sh a b k):j=k:=by
 unfold rd at h;have e1:st*(1+(a*j+b) % 67)=st*(1+(a*k+b) % 67):=by lia
 have e2:=Int.eq_of_mul_eq_mul_left (by lia) e1
 have e3:((a*j+b)-(a*k+b)) % 67=0:=Int.emod_eq_emod_iff_emod_sub_eq_zero.mp (by lia)
 have e4:(a*((j:Int)-k)) % 67=0:=by
  rw [← e3];congr 1;rw [Int.mul_sub];lia
 obtain ⟨tn,rfl⟩:∃ tn:Nat,a=(tn:Int)+1:=⟨(a-1).toNat,by lia⟩
 rcases Nat.lt_trichotomy j k with q|q|q
 .exfalso;refine Mr.yv ⟨tn,by lia⟩ ⟨k-j,by lia⟩ (by show 0<k-j;lia) ?_
  show (tn+1)*(k-j) % 67=0;have e5:(((tn:Int)+1)*((k:Int)-j)) % 67=0:=by
   have:((tn:Int)+1)*((k:Int)-j) = -(((tn:Int)+1)*((j:Int)-k)):=by
    rw [← Int.mul_neg];congr 1;lia
   rw [this];lia
  have e6:(((tn+1)*(k-j) % 67:Nat):Int)=0:=by
   rw [← e5];push_cast [Nat.le_of_lt q];rfl
  lia
 .exact q
 .exfalso;refine Mr.yv ⟨tn,by lia⟩ ⟨j-k,by lia⟩ (by show 0<j-k;lia) ?_
  show (tn+1)*(j-k) % 67=0;have e6:(((tn+1)*(j-k) % 67:Nat):Int)=0:=by
   rw [← e4];push_cast [Nat.le_of_lt q];rfl
  lia
theorem D9 (st sh a b:Int):(DU st sh a b).length=67:=by unfold DU;rw [lMq,List.length_range]
theorem AI {st sh a b:Int}(h1:1<=st) (h2:1<=a) (h3:a<=66):(DU st sh a b).Nodup:=by
 unfold DU;rw [List.nodup_iff_pairwise_ne,List.pairwise_map];refine List.Pairwise.imp_of_mem (fun {x y} hx hy hne e=>hne (Hw h1 h2 h3 (List.mem_range.mp hx) (List.mem_range.mp hy) e)) (List.nodup_iff_pairwise_ne.mp List.nodup_range)
theorem Fl {st sh a b:Int}(h1:1<=st) (h2:0<=sh) {z:Int}(h:z∈DU st sh a b):1<=z:=by
 obtain ⟨k,_,rfl⟩:=mMq.mp h;have b1:0<=(a*(k:Int)+b) % 67:=Int.emod_nonneg _ (by decide)
 have:1*1<=st*(1+(a*(k:Int)+b) % 67):=Int.mul_le_mul h1 (by lia) (by decide) (by lia)
 show 1<=st*(1+(a*(k:Int)+b) % 67)+sh;lia
end K51
--ZQ3 --ZQ4 --ZQ5 --ZQ6 --ZQ8 --ZQ9 --ZQB --ZQC --ZQD --ZQE --ZQF --ZQG
namespace K72
open PySem L2 Mr Z Xe Zl
theorem Ai {r:List Int}(hl:r.length<=1000) {v0 v3:Option AV}{X:List (List Int)}(hX:X.length<=1000):∃ v2' v3',gn [v0,some (.ow (X.map fun r=>.sh (dI r))),some (.sh (dI r)),v3]=some (.nx [v0,some (.ow ((X++[iw r]).map fun r=>.sh (dI r))),v2',v3']):=by
 have lX:X.length<eG:=Nat.lt_of_lt_of_le (show X.length<2000 by lia) (by decide)
 cases r with
 | nil =>
  have hg:iw []=[]:=rfl;have dt:rH (.list [])=some false:=rfl;have q:(X.map fun r=>AV.sh (dI r))++[AV.sh (.list [])]=(X++[iw []]).map fun r=>.sh (dI r):=by rw [mBq];rfl
  refine ⟨some (.sh (dI [])),v3,?_⟩
  simp_arith [gn,dI,dt,lX,q]
 | cons n ns =>
  obtain ⟨h1,h2⟩:=Ao (n:=n) (ns:=ns);have e:=wL h1 h2;have hle:=xn (n::ns);have dt:rH (dI (n::ns))=some true:=rfl;have hm:El [dI (n::ns)]=some (.int (ns.foldl min n)):=by
   show (cM ((n::ns).map D.int)).bind (fun ns=>(zi ns).map D.int)=_
   rw [fY];rfl
  have hx:oa (dI (n::ns)) [.int (ns.foldl min n)]=some (.int (bY (n::ns) (n::ns).length:Nat)):=by
   show (cM ((n::ns).map D.int)).bind _=_;rw [fY];show (if _ then _ else _)=_
   rw [if_pos h1,e]
  generalize hN:n::ns=N at *;have hlen:(N.drop (bY N N.length)).length+(N.take (bY N N.length)).length<=eG:=by rw [List.length_drop,lTq];show _<=16777216;lia
  have hg:iw N=N.drop (bY N N.length)++N.take (bY N N.length):=rfl;have q:(X.map fun r=>AV.sh (dI r))++[AV.sh (.list ((N.drop (bY N N.length)++N.take (bY N N.length)).map D.int))]=(X++[iw N]).map fun r=>.sh (dI r):=by rw [mBq (l₁:=X) (l₂:=[iw N])];rfl
  refine ⟨some (.sh (dI (iw N))),some (.sh (.int (bY N N.length:Nat))),?_⟩
  simp_arith [gn,dt,hm,hx,qF,yW N _ hle,Ab N _ hle,hlen,← mBq,yQ,lX,q,hg]
theorem tX {T:List (List Int)}(hT:∀ r∈T,r.length<=1000) (hl:T.length<=1000):fQ [dM T]=some (.ow ((wN (T.map iw)).map fun r=>.sh (dI r))):=by
 have key:=jM (x:=2) (body:=gn) (fun i S=>∃ v2 v3,S=[some (.sh (dM T)),some (.ow (((T.take i).map iw).map fun r=>.sh (dI r))),v2,v3]) (ds:=T.map dI) (S:=[some (.sh (dM T)),some (.ow []),none,none]) ⟨none,none,by simp⟩ (by
  rintro i d S hd ⟨v2,v3,rfl⟩;rw [gMq] at hd;obtain ⟨r,hr,rfl⟩:=oMq.mp hd;have et:(T.take (i+1)).map iw=(T.take i).map iw++[iw r]:=by rw [List.take_add_one,hr,mBq];rfl
  obtain ⟨v2',v3',e⟩:=Ai (hT r (mGq hr)) (v0:=some (.sh (dM T))) (v3:=v3) (X:=(T.take i).map iw) (by rw [lMq,lTq];lia)
  refine ⟨_,e,v2',v3',by rw [et]⟩)
 obtain ⟨S',e,v2,v3,rfl⟩:=key;rw [lMq,List.take_length] at e;have sX:((T.map iw).map fun r=>AV.sh (dI r)).map aB=(T.map iw).map dI:=by rw [mPq];exact mCq fun r _=>bK _
 generalize T.map iw=X at e sX
 simp_arith [fQ,tP,dM,dI,e,sX]
def FE (M:List (List Int)) (k:Nat) (r:List Int):List Int:=(r.filter fun e=>decide (vb M (-e)≠k)).map fun e=>(vb M (-e):Int)
def zc (M:List (List Int)) (k:Nat) (r:List Int):List Int:=pI (Ms.dd (FE M k r))
theorem CG {M:List (List Int)}(hm:Mp M) {k:Nat}{r:List Int}(hr:M[k]?=some r):fb (eM (aN pP (qU (ai 1) (Cj sD (ai 0))) (ai 2))) (kSc (qU (ai 1) (Cj sD (ai 0)))) [some (.sh (.dict (bL 0 M))),some (.sh (.int (k:Int)))] (r.map D.int)=some ((FE M k r).map fun n=>.sh (.int n)):=by
 rw [Z.iy (fun d=>match d with|.int e=>decide (vb M (-e)≠k)|_=>false) (fun d=>match d with|.int e=>.sh (.int (vb M (-e):Int))|_=>.sh .non)]
 .rw [List.filter_map,mPq];unfold FE;rw [mPq];rfl
 .intro d hd;obtain ⟨e,he,rfl⟩:=mMq.mp hd;have g:=hm.kv (hm.other hr he);have dn:pP (.int (vb M (-e):Int)) (.int (k:Int))=some (.bl (decide (vb M (-e)≠k))):=by
   rw [kX,← decide_not];congr 2;exact decide_eq_decide.mpr (by lia)
  refine ⟨[some (.sh (.int e)),some (.sh (.dict (bL 0 M))),some (.sh (.int (k:Int)))],?_,fun _=>⟨[some (.sh (.int e)),some (.sh (.dict (bL 0 M))),some (.sh (.int (k:Int)))],?_⟩⟩
  .simp_arith [g,dn]
  .simp_arith [g]
def mO (M:List (List Int)):Nat->List (List Int)->List (List Int)
 | _,[]=>[]
 | k,r::ts=>zc M k r::mO M (k+1) ts
theorem vB (M:List (List Int)):∀ (ts:List (List Int)) (k:Nat) (r:List Int),mO M k (ts++[r])=mO M k ts++[zc M (k+ts.length) r]
 | [],k,r=>rfl
 | t::ts,k,r=>by
  rw [List.cons_append,mO,mO,vB M ts,lCq,List.cons_append,Nat.add_assoc,Nat.add_comm 1]
theorem nC (M:List (List Int)):∀ (ts:List (List Int)) (k:Nat),(mO M k ts).length=ts.length
 | [],_=>rfl
 | t::ts,k=>by rw [mO,lCq,lCq,nC M ts]
theorem uK (M:List (List Int)):∀ {ts:List (List Int)}{k i:Nat}{r:List Int},ts[i]?=some r->(mO M k ts)[i]?=some (zc M (k+i) r)
 | [],_,_,_,h=>by simp at h
 | t::ts,k,0,r,h=>by
  simp only [List.getElem?_cons_zero,Option.some.injEq] at h;subst h;rfl
 | t::ts,k,i+1,r,h=>by
  rw [mO,List.getElem?_cons_succ,uK M (by simpa using h),Nat.add_assoc,Nat.add_comm 1]
theorem E7 {M:List (List Int)}(hm:Mp M):iq [dM M]=some (.ow ((mO M 0 M).map aI)):=by
 have hl:=hm.hl;have pa:=nE (rs:=M) hm.hn (by lia)
 have key:=tx (x:=3) (y:=4) (k:=0) (body:=kf) (fun i S=>∃ a1 v3 v4,S=[some (.sh (dM M)),some a1,some (.ow ((mO M 0 (M.take i)).map aI)),v3,v4]/\aB a1 = .dict (bL 0 M)) (ds:=M.map dI) (S:=[some (.sh (dM M)),some (.owd (bL 0 M)),some (.ow []),none,none]) ⟨.owd (bL 0 M),none,none,by simp [mO],kW _⟩ (by
  rintro i d S hd ⟨a1,v3,v4,rfl,h1⟩;rw [gMq] at hd;obtain ⟨r,hr,rfl⟩:=oMq.mp hd;rw [Nat.zero_add];have et:mO M 0 (M.take (i+1))=mO M 0 (M.take i)++[zc M i r]:=by
   have hi:=(gSq.mp hr).1;rw [List.take_add_one,hr];show mO M 0 (M.take i++[r])=_;rw [vB,lTq,Nat.min_eq_left (by lia),Nat.zero_add]
  have rl:=hm.row hr;have tc:=CG hm hr;have l1:r.length<=eG:=fE (by lia)
  have l2:(FE M i r).length<=4000:=by
   unfold FE;rw [lMq];exact Nat.le_trans (List.length_filter_le _ _) (by lia)
  have l3:(mO M 0 (M.take i)).length<eG:=by
   rw [nC,lTq];exact Nat.lt_of_lt_of_le (show min i M.length<2000 by have:=hm.hr;lia) (by decide)
  have q:(mO M 0 (M.take i)).map aI++[.ow ((zc M i r).map fun n=>.sh (.int n))]=(mO M 0 (M.take i)++[zc M i r]).map aI:=by rw [mBq];rfl
  refine ⟨_,?_,.sh (.dict (bL 0 M)),some (.sh (.int (i:Int))),some (.sh (dI r)),rfl,bK _⟩;rw [et];generalize mO M 0 (M.take i)=X at l3 q;unfold zc at q ⊢
  simp_arith [kf,dI,h1,tc,l1,Ii,l2,l3,q])
 obtain ⟨S',e,a1,v3,v4,rfl,_⟩:=key;rw [lMq,Nat.zero_add,List.take_length] at e
 simp_arith [iq,tF,dM,dI,pa,e]
theorem CJ {ks:List Nat}{t x:Nat}:t∈vo ks x↔t∈ks∨t=x:=by
 unfold vo;split
 .rename_i h;exact ⟨.inl,fun q=>q.elim id fun e=>e ▸ h⟩
 .simp
theorem xR (M:List (List Int)) (k:Nat):∀ {r:List Int}{ks:List Nat}{t:Nat},t∈r.foldl (Fh M k) ks↔t∈ks∨∃ e∈r,vb M (-e)≠k/\t=vb M (-e)
 | [],ks,t=>by simp
 | e::r,ks,t=>by
  rw [List.foldl_cons,xR M k];unfold Fh;split
  .rename_i h;constructor
   .rintro (a|⟨x,hx,a⟩)
    .exact .inl a
    .exact .inr ⟨x,mCo _ hx,a⟩
   .rintro (a|⟨x,hx,a,b⟩)
    .exact .inl a
    .rcases List.mem_cons.mp hx with rfl|hx
     .exact absurd h a
     .exact .inr ⟨x,hx,a,b⟩
  .rename_i h;rw [CJ];constructor
   .rintro ((a|a)|⟨x,hx,a⟩)
    .exact .inl a
    .exact .inr ⟨e,List.mem_cons_self ..,h,a⟩
    .exact .inr ⟨x,mCo _ hx,a⟩
   .rintro (a|⟨x,hx,a,b⟩)
    .exact .inl (.inl a)
    .rcases List.mem_cons.mp hx with rfl|hx
     .exact .inl (.inr b)
     .exact .inr ⟨x,hx,a,b⟩
theorem A0 (M:List (List Int)) (k:Nat) (r:List Int) (t:Int):t∈(nb M k r).map (fun n:Nat=>(n:Int))↔t∈zc M k r:=by
 unfold zc;rw [(iW _).mem_iff,Ms.mh];unfold FE nb;constructor
 .intro h;obtain ⟨n,hn,rfl⟩:=mMq.mp h;rcases (xR M k).mp hn with a|⟨e,he,h1,h2⟩
  .cases a
  .exact mMq.mpr ⟨e,List.mem_filter.mpr ⟨he,decide_eq_true h1⟩,by rw [h2]⟩
 .intro h;obtain ⟨e,he,rfl⟩:=mMq.mp h;obtain ⟨h1,h2⟩:=List.mem_filter.mp he;exact mMq.mpr ⟨_,(xR M k).mpr (.inr ⟨e,h1,of_decide_eq_true h2,rfl⟩),rfl⟩
end K72
--ZQ3 --ZQ4 --ZQ5 --ZQ6 --ZQ8 --ZQ9 --ZQB --ZQC --ZQD --ZQE --ZQF --ZQG
namespace K72
open PySem L2 Mr Z Xe Zl
def pr (q:Nat×Nat):AV:=.sh (.tup [.int (q.1:Int),.int (q.2:Int)])
def ss (mo:Nat) (ns nm:List Int) (m:Nat) (f:Int) (P:List (Nat×Nat)) (v6 v7 v8 v9 v10 v11 v12:Option AV):AS:=[some (.sh (.scr ns)),some (.sh (.int (mo:Int))),some (aI nm),some (.sh (.int (m:Int))),some (.sh (.int f)),some (.ow (P.map pr)),v6,v7,v8,v9,v10,v11,v12]
section
variable {mo:Nat}{ns nm:List Int}{m:Nat}{f:Int}{v6 v7 v8 v9 v10 v11 v12:Option AV}
def Bg (m:Nat) (P:List (Nat×Nat)):Prop:=∀ q∈P,q.1<m/\q.2<m
theorem Bg.snoc {P:List (Nat×Nat)}(h:Bg m P) {a b:Nat}(ha:a<m) (hb:b<m):Bg m (P++[(a,b)]):=fun q hq=>by
 rcases mAq.mp hq with z|z
 .exact h q z
 .rw [mSq.mp z];exact ⟨ha,hb⟩
theorem sA {one:Nat}(ho:one<m) (hm:m<=8) {P:List (Nat×Nat)}(hP:Bg m P) (hl:P.length<=1000):∃ P' v7',dX 7 fN (bA 0 one) (ss mo ns nm m f P (some (.sh (.int (one:Int)))) v7 v8 v9 v10 v11 v12)=some (.nx (ss mo ns nm m f P' (some (.sh (.int (one:Int)))) v7' v8 v9 v10 v11 v12))/\Bg m P'/\P'.length<=P.length+one:=by
 have key:=jM (x:=7) (body:=fN) (fun i S=>∃ P' v7,S=ss mo ns nm m f P' (some (.sh (.int (one:Int)))) v7 v8 v9 v10 v11 v12/\Bg m P'/\P'.length<=P.length+i) (ds:=bA 0 one) (S:=ss mo ns nm m f P (some (.sh (.int (one:Int)))) v7 v8 v9 v10 v11 v12) ⟨P,v7,rfl,hP,Nat.le_refl _⟩ (by
  rintro i d S hd ⟨P',v7,rfl,h1,h2⟩;have hi:i<one:=by
   have:=(gSq.mp hd).1
   rwa [aY] at this
  rw [fU hi] at hd;cases hd;rw [Int.zero_add];have l1:P'.length<eG:=Nat.lt_of_lt_of_le (show P'.length<2000 by lia) (by decide)
  by_cases c:f<9
  .refine ⟨_,?_,P'++[(one,i)],some (.sh (.int (i:Int))),rfl,h1.snoc ho (by lia),by rw [lAq,lSq];lia⟩
   have q:P'.map pr++[AV.sh (.tup [.int (one:Int),.int (i:Int)])]=(P'++[(one,i)]).map pr:=by rw [mBq];rfl
   simp_arith [fN,ss,c,l1,q]
  .refine ⟨_,?_,P',some (.sh (.int (i:Int))),rfl,h1,by lia⟩
   simp_arith [fN,ss,c])
 obtain ⟨S',e,P',v7',rfl,h1,h2⟩:=key;rw [aY] at h2;exact ⟨P',v7',e,h1,h2⟩
theorem sB {k:Nat}(hk:k<=m) (hm:m<=8):∃ P v6' v7',dX 6 gK (bA 0 k) (ss mo ns nm m f [] v6 v7 v8 v9 v10 v11 v12)=some (.nx (ss mo ns nm m f P v6' v7' v8 v9 v10 v11 v12))/\Bg m P/\P.length<=56:=by
 have key:=jM (x:=6) (body:=gK) (fun i S=>∃ P v6 v7,S=ss mo ns nm m f P v6 v7 v8 v9 v10 v11 v12/\Bg m P/\P.length<=7*i) (ds:=bA 0 k) (S:=ss mo ns nm m f [] v6 v7 v8 v9 v10 v11 v12) ⟨[],v6,v7,rfl,(fun q h=>by cases h),Nat.le_refl _⟩ (by
  rintro i d S hd ⟨P,v6,v7,rfl,h1,h2⟩;have hi:i<k:=by
   have:=(gSq.mp hd).1
   rwa [aY] at this
  rw [fU hi] at hd;cases hd;rw [Int.zero_add];obtain ⟨P',v7',e,h3,h4⟩:=sA (mo:=mo) (ns:=ns) (nm:=nm) (f:=f) (v7:=v7) (v8:=v8) (v9:=v9) (v10:=v10) (v11:=v11) (v12:=v12) (one:=i) (by lia) hm h1 (by lia)
  have r:=gG (n:=i) (by lia)
  refine ⟨_,?_,P',some (.sh (.int (i:Int))),v7',rfl,h3,by lia⟩
  unfold ss at e ⊢
  simp_arith [gK,r,e])
 obtain ⟨S',e,P,v6',v7',rfl,h1,h2⟩:=key;rw [aY] at h2;exact ⟨P,v6',v7',e,h1,by lia⟩
theorem sC (hm:m<=8) {P:List (Nat×Nat)}(hP:Bg m P) (hl:P.length<=56) {cs:List Int}(hc:cs.length<=1000):∃ P' v8',dX 8 fF (cs.map D.int) (ss mo ns nm m f P v6 v7 v8 v9 v10 v11 v12)=some (.nx (ss mo ns nm m f P' v6 v7 v8' v9 v10 v11 v12))/\Bg m P'/\P'.length<=P.length+cs.length:=by
 have key:=jM (x:=8) (body:=fF) (fun i S=>∃ P' v8,S=ss mo ns nm m f P' v6 v7 v8 v9 v10 v11 v12/\Bg m P'/\P'.length<=P.length+i) (ds:=cs.map D.int) (S:=ss mo ns nm m f P v6 v7 v8 v9 v10 v11 v12) ⟨P,v8,rfl,hP,Nat.le_refl _⟩ (by
  rintro i d S hd ⟨P',v8,rfl,h1,h2⟩;rw [gMq] at hd;obtain ⟨c,hc',rfl⟩:=oMq.mp hd;have hi:=(gSq.mp hc').1
  by_cases m0:(0:Int)<(m:Int)
  .have l1:P'.length<eG:=Nat.lt_of_lt_of_le (show P'.length<2000 by lia) (by decide)
   have ma:=dS (i:=c) (j:=(m:Int)) m0;have da:=mJ (i:=c) (j:=(m:Int)) (by lia) (by lia)
   have mb:=dS (i:=c / (m:Int)) (j:=(m:Int)) m0;have a0:=Int.emod_nonneg c (b:=(m:Int)) (by lia)
   have a1:=Int.emod_lt_of_pos c m0;have b0:=Int.emod_nonneg (c / (m:Int)) (b:=(m:Int)) (by lia)
   have b1:=Int.emod_lt_of_pos (c / (m:Int)) m0;obtain ⟨x,hx⟩:∃ x:Nat,c % (m:Int)=(x:Int):=⟨(c % (m:Int)).toNat,by lia⟩
   obtain ⟨y,hy⟩:∃ y:Nat,c / (m:Int) % (m:Int)=(y:Int):=⟨(c / (m:Int) % (m:Int)).toNat,by lia⟩
   rw [hx] at ma a1;rw [hy] at mb b1;refine ⟨_,?_,P'++[(x,y)],some (.sh (.int c)),rfl,h1.snoc (by lia) (by lia),by rw [lAq,lSq];lia⟩
   have q:P'.map pr++[AV.sh (.tup [.int (x:Int),.int (y:Int)])]=(P'++[(x,y)]).map pr:=by rw [mBq];rfl
   simp_arith [fF,ss,m0,ma,da,mb,l1,q]
  .refine ⟨_,?_,P',some (.sh (.int c)),rfl,h1,by lia⟩
   simp_arith [fF,ss,m0])
 obtain ⟨S',e,P',v8',rfl,h1,h2⟩:=key;rw [lMq] at h2;exact ⟨P',v8',e,h1,h2⟩
end
theorem CP {α β:Type}(g:α->β) (l:List α) (i:Nat) (a:α):(l.map g).set i (g a)=(l.set i a).map g:=by rw [List.map_set]
theorem FC {T:List (List Int)}{h:Nat}{r:List Int}(hr:T[h]?=some r):cQ (.ow (T.map aI)) [h]=some (r.map fun n=>.sh (.int n)):=by
 rw [vG,gMq,hr];rfl
theorem LM {T:List (List Int)}{h:Nat}{r r':List Int}(hr:T[h]?=some r):putAt (.ow (T.map aI)) [h] (r'.map fun n=>.sh (.int n)) = .ow ((T.set h r').map aI):=by
 rw [yt (a:=aI r) (by rw [gMq,hr];rfl)]
 show AV.ow ((T.map aI).set h (aI r'))=_;rw [CP]
def sv (r:List Int) (z:Nat) (e:Int):List Int:=r.take z++e::r.drop z
theorem B4 {S:AS}{T:List (List Int)}{a:Nat}{r:List Int}{z e:Int}{px bI bN:ME}(h9:S[9]?.join=some (.ow (T.map aI))) (hp:px S=some (.int (a:Int),S)) (hb:bI S=some (.int z,S)) (hn:bN S=some (.int e,S)) (hr:T[a]?=some r) (h0:0<=z) (h1:z.toNat<=r.length) (hl:r.length<eG) :
  oP 9 (Im 9 (uz 9) px) bI bN S=some (.nx (S.set 9 (some (.ow ((T.set a (sv r z.toNat e)).map aI))))):=by
 have ha:a<T.length:=(gSq.mp hr).1;have o9:dk S 9=some (T.map aI):=by rw [zC,h9];rfl
 have ix:uq (T.map aI).length (a:Int)=some a:=by rw [lMq];exact yS ha
 have pv:uz 9 S=some ([],S):=by show (dk S 9).map _=_;rw [o9];rfl
 have px':Im 9 (uz 9) px S=some ([a],S):=by
  show ((uz 9 S).bind fun x=>(px x.2).bind fun y=>(intOf y.1).bind fun j=>(dk y.2 9).bind fun avs=>(cQ (.ow avs) x.1).bind fun as=>(uq as.length j).map fun n=>(x.1++[n],y.2))=_
  rw [pv];show ((px S).bind fun y=>(intOf y.1).bind fun j=>(dk y.2 9).bind fun avs=>(cQ (.ow avs) []).bind fun as=>(uq as.length j).map fun n=>([]++[n],y.2))=_
  rw [hp];show ((dk S 9).bind fun avs=>(cQ (.ow avs) []).bind fun as=>(uq as.length (a:Int)).map fun n=>([]++[n],S))=_
  rw [o9];show ((uq (T.map aI).length (a:Int)).map fun n=>([]++[n],S))=_
  rw [ix];rfl
 have hc:0<=z/\z.toNat<=(r.map fun n=>AV.sh (.int n)).length/\(r.map fun n=>AV.sh (.int n)).length<eG:=by rw [lMq];exact ⟨h0,h1,hl⟩
 have hi:(r.map fun n=>AV.sh (.int n)).take z.toNat++AV.sh (.int e)::(r.map fun n=>AV.sh (.int n)).drop z.toNat=(sv r z.toNat e).map fun n=>.sh (.int n):=by
  unfold sv;rw [mBq,List.map_cons,List.map_take,List.map_drop]
 rw [Hq,px'];show ((dk S 9).bind fun a0=>(cQ (.ow a0) [a]).bind fun _=>(bI S).bind fun y=>(intOf y.1).bind fun z=>(bN y.2).bind fun u=>(intOf u.1).bind fun m=>(dk u.2 9).bind fun avs=>(cQ (.ow avs) [a]).bind fun as=>jb (0<=z/\z.toNat<=as.length/\as.length<eG) (some (vd.nx (u.2.set 9 (some (putAt (.ow avs) [a] (as.take z.toNat ++ .sh (.int m)::as.drop z.toNat)))))))=_
 rw [o9];show ((cQ (.ow (T.map aI)) [a]).bind fun _=>(bI S).bind fun y=>_)=_
 rw [FC hr];show ((bI S).bind fun y=>(intOf y.1).bind fun z=>(bN y.2).bind fun u=>_)=_
 rw [hb];show ((bN S).bind fun u=>(intOf u.1).bind fun m=>_)=_
 rw [hn];show ((dk S 9).bind fun avs=>(cQ (.ow avs) [a]).bind fun as=>_)=_
 rw [o9];show ((cQ (.ow (T.map aI)) [a]).bind fun as=>_)=_
 rw [FC hr];show jb (0<=z/\z.toNat<=(r.map fun n=>AV.sh (.int n)).length/\(r.map fun n=>AV.sh (.int n)).length<eG) _=_
 rw [dW hc,hi,LM hr]
end K72
--ZQ3 --ZQ4 --ZQ5 --ZQ6 --ZQ8 --ZQ9 --ZQB --ZQC --ZQD --ZQE --ZQF --ZQG
namespace K72
open PySem L2 Mr Z Xe Zl
theorem zS (r:List Int) (z:Nat) (e:Int):(sv r z e).Perm (e::r):=by
 unfold sv;refine List.perm_middle.trans ?_;rw [List.take_append_drop]
theorem rR {e:Int}:∀ {T:List (List Int)}{a:Nat}{r:List Int}(z:Nat),T[a]?=some r->(T.set a (sv r z e)).flatten.Perm (e::T.flatten)
 | [],_,_,_,h=>by simp at h
 | t::T,0,r,z,h=>by
  simp only [List.getElem?_cons_zero,Option.some.injEq] at h;subst h;rw [List.set_cons_zero,fCq,fCq];exact (zS t z e).append_right _
 | t::T,a+1,r,z,h=>by
  rw [List.set_cons_succ,fCq,fCq];refine (List.Perm.append_left t (rR z (by simpa using h))).trans ?_
  exact List.perm_middle
def sd (mo:Nat) (ns nm:List Int) (m:Nat) (f:Int) (a5 v6 v7 v8:Option AV) (T:List (List Int)) (v10 v11 v12:Option AV):AS:=[some (.sh (.scr ns)),some (.sh (.int (mo:Int))),some (aI nm),some (.sh (.int (m:Int))),some (.sh (.int f)),a5,v6,v7,v8,some (.ow (T.map aI)),v10,v11,v12]
section
variable {mo:Nat}{ns l:List Int}{m:Nat}{f x:Int}{a5 v6 v7 v8 v10 v11 v12:Option AV}{T:List (List Int)}{i a b:Nat}
noncomputable def I1:MS:=(oP 9 (Im 9 (uz 9) (aN bW (ai 11) (rC (.int 0)))) (aN eU (aN kc (ai 8) (rC (.int 2))) (aN fP (iQ fe (aj (aN sQ (ai 9) (aN bW (ai 11) (rC (.int 0)))) aE)) (rC (.int 1)))) (ai 12))
noncomputable def I2:MS:=(oP 9 (Im 9 (uz 9) (aN bW (ai 11) (rC (.int 1)))) (aN eU (aN kc (ai 8) (rC (.int 6))) (aN fP (iQ fe (aj (aN sQ (ai 9) (aN bW (ai 11) (rC (.int 1)))) aE)) (rC (.int 1)))) (Cj sD (ai 12)))
noncomputable def pA (X:MS):MS:=(aG (bz 8 (kSc (aN kc (cN Zl.az (aj (ai 0) (aj (ai 10) aE))) (rC (.int 81))))) (aG (zd 12 (ES nT (vR 2) (aN si (rC (.int 1)) (aN nT (rC (.int 2)) (aN eU (ai 8) (rC (.int 2))))))) X))
theorem Ek:fS=pA (aG I1 I2):=rfl
theorem Hy (X:MS) {c:Int}(hc:az [.scr ns,.int (i:Int)]=some (.sh (.int c))):pA X (sd mo ns (l++[x]) m f a5 v6 v7 v8 T (some (.sh (.int (i:Int)))) v11 v12)=X (sd mo ns l m f a5 v6 v7 (some (.sh (.int (c / 81)))) T (some (.sh (.int (i:Int)))) v11 (some (.sh (.int (x*(1-2*(c / 81 % 2))))))):=by
 have d81:=mJ (i:=c) (j:=81) (by decide) (by decide)
 have m2:=dS (i:=c / 81) (j:=2) (by decide)
 have b0:=Int.emod_nonneg (c / 81) (b:=2) (by decide)
 have b1:=Int.emod_lt_of_pos (c / 81) (b:=2) (by decide)
 have m1:=Dw (i:=2) (j:=c / 81 % 2) (by lia) (by lia)
 have m3:=Dw (i:=x) (j:=1-2*(c / 81 % 2)) (by lia) (by lia)
 have ex:(l++[x]).map (fun n=>AV.sh (.int n))=l.map (fun n=>AV.sh (.int n))++[.sh (.int x)]:=by rw [mBq];rfl
 have p1:(l.map (fun n=>AV.sh (.int n))++[AV.sh (.int x)])[(l.map (fun n=>AV.sh (.int n))++[AV.sh (.int x)]).length-1]?=some (.sh (.int x)):=by
  rw [lAq,lSq,gYq (by lia)]
  simp
 have p2:(l.map (fun n=>AV.sh (.int n))++[AV.sh (.int x)]).dropLast=l.map (fun n=>AV.sh (.int n)):=List.dropLast_concat
 simp_arith [pA,sd,hc,d81,m2,m1,m3,ex,p1,p2]
theorem Kt {ds:Int}(h:0<ds) {q:Int}{j:Nat}{S:AS}{px:ME}{v:Int}{T:List (List Int)}{r:List Int}(hx:px S=some (.int (a:Int),S)) (h8:S[8]?.join=some (.sh (.int q))) (h9:S[9]?.join=some (.ow (T.map aI))) (hr:T[a]?=some r) (hd:ds<1000) :
  (aN eU (aN kc (ai 8) (rC (.int ds))) (aN fP (iQ fe (aj (aN sQ (ai 9) px) aE)) (rC (.int 1)))) S=some (.int (q / ds % ((r.length:Int)+1)),S):=by
 have sT:(T.map aI).map aB=T.map dI:=by rw [mPq];exact mCq fun r _=>cv r
 have at1:atI (T.map dI) (a:Int)=some (dI r):=fM (by rw [gMq,hr];rfl)
 have d1:=mJ (i:=q) (j:=ds) h (by lia)
 have m1:=dS (i:=q / ds) (j:=(r.length:Int)+1) (by lia)
 simp_arith [h8,h9,hx,sT,at1,d1,m1]
theorem Ef (hT:T.length=m) (hl:T.flatten.length<=1000) (ha:a<m) (hb:b<m):∃ v8' v12' T',fS (sd mo ns (l++[x]) m f a5 v6 v7 v8 T (some (.sh (.int (i:Int)))) (some (pr (a,b))) v12)=some (.nx (sd mo ns l m f a5 v6 v7 v8' T' (some (.sh (.int (i:Int)))) (some (pr (a,b))) v12'))/\T'.length=m/\T'.flatten.Perm ([x, -x]++T.flatten):=by
 have hc:=gf ns (k:=(i:Int)) (by lia)
 generalize cell ns (i:Int).toNat=c at hc;generalize he:x*(1-2*(c / 81 % 2))=e;have hee:e=x∨e = -x:=by
  have b0:=Int.emod_nonneg (c / 81) (b:=2) (by decide)
  have b1:=Int.emod_lt_of_pos (c / 81) (b:=2) (by decide)
  by_cases k:c / 81 % 2=0
  .rw [k] at he;lia
  .have:c / 81 % 2=1:=by lia
   rw [this] at he;lia
 rw [Ek,Hy _ hc,he];have hr:=gEg (show a<T.length by lia)
 generalize T[a]'(by lia)=r at hr
 have rl:r.length<=T.flatten.length:=mi (mGq hr);have z0:=Int.emod_nonneg (c / 81 / 2) (b:=(r.length:Int)+1) (by lia)
 have z1:=Int.emod_lt_of_pos (c / 81 / 2) (b:=(r.length:Int)+1) (by lia)
 have i1:=B4 (S:=sd mo ns l m f a5 v6 v7 (some (.sh (.int (c / 81)))) T (some (.sh (.int (i:Int)))) (some (pr (a,b))) (some (.sh (.int e)))) (T:=T) (a:=a) (r:=r) (z:=c / 81 / 2 % ((r.length:Int)+1)) (e:=e) (px:=(aN bW (ai 11) (rC (.int 0)))) (bI:=(aN eU (aN kc (ai 8) (rC (.int 2))) (aN fP (iQ fe (aj (aN sQ (ai 9) (aN bW (ai 11) (rC (.int 0)))) aE)) (rC (.int 1))))) (bN:=ai 12) rfl rfl (Kt (a:=a) (j:=0) (v:=0) (by decide) rfl rfl rfl hr (by decide)) rfl hr z0 (by lia) (Nat.lt_of_lt_of_le (show r.length<2000 by lia) (by decide))
 have p1:=rR (e:=e) (c / 81 / 2 % ((r.length:Int)+1)).toNat hr;have l1:(T.set a (sv r (c / 81 / 2 % ((r.length:Int)+1)).toNat e)).length=m:=by rw [lZq,hT]
 generalize T.set a (sv r (c / 81 / 2 % ((r.length:Int)+1)).toNat e)=T1 at i1 p1 l1;have hr2:=gEg (show b<T1.length by lia)
 generalize T1[b]'(by lia)=r2 at hr2
 have rl2:r2.length<=T1.flatten.length:=mi (mGq hr2);rw [p1.length_eq,lCq] at rl2;have y0:=Int.emod_nonneg (c / 81 / 6) (b:=(r2.length:Int)+1) (by lia)
 have y1:=Int.emod_lt_of_pos (c / 81 / 6) (b:=(r2.length:Int)+1) (by lia)
 have i2:=B4 (S:=sd mo ns l m f a5 v6 v7 (some (.sh (.int (c / 81)))) T1 (some (.sh (.int (i:Int)))) (some (pr (a,b))) (some (.sh (.int e)))) (T:=T1) (a:=b) (r:=r2) (z:=c / 81 / 6 % ((r2.length:Int)+1)) (e:=-e) (px:=(aN bW (ai 11) (rC (.int 1)))) (bI:=(aN eU (aN kc (ai 8) (rC (.int 6))) (aN fP (iQ fe (aj (aN sQ (ai 9) (aN bW (ai 11) (rC (.int 1)))) aE)) (rC (.int 1))))) (bN:=Cj sD (ai 12)) rfl rfl (Kt (a:=b) (j:=0) (v:=0) (by decide) rfl rfl rfl hr2 (by decide)) rfl hr2 y0 (by lia) (Nat.lt_of_lt_of_le (show r2.length<2000 by lia) (by decide))
 have p2:=rR (e:=-e) (c / 81 / 6 % ((r2.length:Int)+1)).toNat hr2;have l2:(T1.set b (sv r2 (c / 81 / 6 % ((r2.length:Int)+1)).toNat (-e))).length=m:=by rw [lZq,l1]
 generalize T1.set b (sv r2 (c / 81 / 6 % ((r2.length:Int)+1)).toNat (-e))=T2 at i2 p2 l2;refine ⟨some (.sh (.int (c / 81))),some (.sh (.int e)),T2,?_,l2,?_⟩
 .rw [Gg];show zo (oP 9 _ _ _ _) I2=_;rw [i1,vi];exact i2
 .refine p2.trans ?_;refine (List.Perm.cons (-e) p1).trans ?_;rcases hee with z|z
  .rw [z];exact List.Perm.swap ..
  .rw [z,Int.neg_neg];exact .refl _
theorem De {N:List Int}(hN:N.length=67):∀ (Q:List (Nat×Nat)) (i:Nat) (v8 v10 v11 v12:Option AV) (T:List (List Int)),i+Q.length<=66->Bg m Q->T.length=m->T.flatten.Perm ((N.drop (67-i)).flatMap fun x=>[x, -x]) ->
  ∃ v8' v10' v11' v12' T',mq 10 11 fS i (Q.map fun q=>D.tup [.int (q.1:Int),.int (q.2:Int)]) (sd mo ns (N.take (67-i)) m f a5 v6 v7 v8 T v10 v11 v12)=some (.nx (sd mo ns (N.take (67-(i+Q.length))) m f a5 v6 v7 v8' T' v10' v11' v12'))/\T'.length=m/\T'.flatten.Perm ((N.drop (67-(i+Q.length))).flatMap fun x=>[x, -x])
 | [],i,v8,v10,v11,v12,T,_,_,hT,hp=>⟨v8,v10,v11,v12,T,rfl,hT,hp⟩
 | q::Q,i,v8,v10,v11,v12,T,hl,hQ,hT,hp=>by
  rw [lCq] at hl;obtain ⟨ha,hb⟩:=hQ q (List.mem_cons_self ..);have hi:66-i<N.length:=by lia
  have e1:N.take (67-i)=N.take (66-i)++[N[66-i]]:=by
   rw [show 67-i=(66-i)+1 by lia,List.take_add_one,gEg hi]
   rfl
  have e2:N.drop (66-i)=N[66-i]::N.drop (67-i):=by
   rw [List.drop_eq_getElem_cons hi,show 66-i+1=67-i by lia]
  have hfl:T.flatten.length<=1000:=by
   rw [hp.length_eq,List.length_flatMap];have:∀ (l:List Int),(l.map fun x=>[x, -x].length).sum=2*l.length:=fun l=>by
    induction l with
    | nil=>rfl
    | cons x l ih=>rw [List.map_cons,List.sum_cons,ih,lCq];simp only [lCq,List.length_nil];lia
   rw [this,List.length_drop];lia
  rw [e1];generalize N[66-i]=x at e2;obtain ⟨v8',v12',T',e,hT',hp'⟩:=Ef (mo:=mo) (ns:=ns) (l:=N.take (66-i)) (x:=x) (f:=f) (a5:=a5) (v6:=v6) (v7:=v7) (v8:=v8) (v12:=v12) (i:=i) hT hfl ha hb;have hp2:T'.flatten.Perm ((N.drop (67-(i+1))).flatMap fun x=>[x, -x]):=by
   rw [show 67-(i+1)=66-i by lia,e2,List.flatMap_cons]
   exact hp'.trans (List.Perm.append_left _ hp)
  obtain ⟨w8,w10,w11,w12,U,g1,g2,g3⟩:=De hN Q (i+1) v8' (some (.sh (.int (i:Int)))) (some (pr q)) v12' T' (by lia) (fun q' h=>hQ q' (mCo _ h)) hT' hp2
  rw [show i+1+Q.length=i+(Q.length+1) by lia] at g1 g3
  refine ⟨w8,w10,w11,w12,U,?_,g2,g3⟩;rw [show 67-(i+1)=66-i by lia] at g1
  show (fS (sd mo ns (N.take (66-i)++[x]) m f a5 v6 v7 v8 T (some (.sh (.int (i:Int)))) (some (pr q)) v12)).bind _=_;rw [e];exact g1
end
theorem qj:∀ {l:List Int},l.Nodup->(∀ x∈l,1<=x)->(l.flatMap fun x=>[x, -x]).Nodup
 | [],_,_=>List.nodup_nil
 | x::l,hn,hp=>by
  obtain ⟨n1,n2⟩:=List.nodup_cons.mp hn;have i:=qj n2 fun y hy=>hp y (mCo _ hy)
  have hx:=hp x (List.mem_cons_self ..);have hm:∀ z∈l.flatMap fun x=>[x, -x],z≠x/\z ≠ -x:=fun z hz=>by
   obtain ⟨y,hy,hz⟩:=List.mem_flatMap.mp hz;have:=hp y (mCo _ hy);have hne:y≠x:=fun e=>n1 (e ▸ hy)
   simp only [List.mem_cons,List.not_mem_nil,or_false] at hz;rcases hz with z|z <;> constructor <;> lia
  rw [List.flatMap_cons];show (x :: -x::l.flatMap fun x=>[x, -x]).Nodup
  refine List.nodup_cons.mpr ⟨fun h=>?_,List.nodup_cons.mpr ⟨fun h=>(hm _ h).2 rfl,i⟩⟩
  rcases List.mem_cons.mp h with z|z
  .lia
  .exact (hm _ z).1 rfl
end K72
--ZQ3 --ZQ4 --ZQ5 --ZQ6 --ZQ8 --ZQ9
namespace K51
open PySem L2 Mr Z Xe Zl
theorem Fm {rs:List (List Int)}(hl:rs.length<=500000):gU [dM rs]=some (.ow (rs.map aI)):=by
 have key:=ng (te:=yz (ji 0)) (cap:=[]) (fun d=>match d with|.list ds=>.ow (ds.map .sh)|_=>.sh .non) (ds:=rs.map dI) (by
  intro d hd;obtain ⟨r,_,rfl⟩:=mMq.mp hd;refine ⟨[some (.sh (dI r))],?_⟩
  simp_arith [dI])
 have h1:rs.length<=eG:=by show _<=16777216;lia
 have e:(rs.map dI).map (fun d=>match d with|D.list ds=>AV.ow (ds.map .sh)|_=>.sh .non)=rs.map aI:=by
  rw [mPq];refine mCq fun r _=>?_
  show AV.ow ((r.map D.int).map .sh)=aI r;rw [mPq];rfl
 rw [e] at key
 simp_arith [gU,tE,dM,key,h1]
end K51
--ZQ3 --ZQ4 --ZQ5 --ZQ6 --ZQ8 --ZQ9 --ZQB --ZQC --ZQD --ZQE --ZQF --ZQG
namespace K72
open PySem L2 Mr Z Xe Zl
theorem tV (k:Nat):fb iR (gF bF) [] (bA 0 k)=some ((List.replicate k ([]:List Int)).map aI):=by
 rw [Z.ng fun _=>AV.ow []]
 .rw [List.map_replicate,List.map_const',aY];rfl
 .intro d hd;refine ⟨[some (.sh d)],?_⟩
  simp_arith []
theorem DR (ns:List Int) {mo:Nat}(hmo:mo<=8):∃ M,fV [.scr ns,.int (mo:Int)]=some (.ow (M.map fun r=>.sh (dI r)))/\Mp M/\M.length<=mo:=by
 obtain ⟨st,sh,a,b,h1,h1',h2,h2',h3,h4,h5,h5',en⟩:=K51.BC ns;have hN:=K51.D9 st sh a b;have hnd:=K51.AI (sh:=sh) (b:=b) h1 h3 h4;have hps:=fun {z:Int}(h:z∈K51.DU st sh a b)=>K51.Fl (a:=a) (b:=b) h1 h2 h
 generalize K51.DU st sh a b=N at en hN hnd hps;have m8:=dS (i:=cell ns 1) (j:=(mo:Int)+1) (by lia)
 have b0:=Int.emod_nonneg (cell ns 1) (b:=(mo:Int)+1) (by lia)
 have b1:=Int.emod_lt_of_pos (cell ns 1) (b:=(mo:Int)+1) (by lia)
 obtain ⟨m,hm⟩:∃ m:Nat,cell ns 1 % ((mo:Int)+1)=(m:Int):=⟨(cell ns 1 % ((mo:Int)+1)).toNat,by lia⟩
 rw [hm] at m8 b1;have m17:=dS (i:=cell ns 2) (j:=17) (by decide)
 have f0:=Int.emod_nonneg (cell ns 2) (b:=17) (by decide)
 have f1:=Int.emod_lt_of_pos (cell ns 2) (b:=17) (by decide)
 obtain ⟨f,hf⟩:∃ f:Nat,cell ns 2 % 17=(f:Int):=⟨(cell ns 2 % 17).toNat,by lia⟩
 rw [hf] at m17;have mn:nP [.int (m:Int),.int (f:Int)]=some (.int ((min m f:Nat):Int)):=by rw [oh,uO]
 have r1:=gG (n:=min m f) (by lia)
 obtain ⟨P,v6,v7,eB,iB,lB⟩:=sB (mo:=mo) (ns:=ns) (nm:=N) (f:=(f:Int)) (v6:=none) (v7:=none) (v8:=none) (v9:=none) (v10:=none) (v11:=none) (v12:=none) (k:=min m f) (m:=m) (by lia) (by lia)
 have hcs:iS ns (some 3) (some (67-(P.length:Int)))=(ns.drop 3).take (64-P.length):=by
  have:=C6 ns 3 (67-P.length);rw [show ((67-P.length:Nat):Int)=67-(P.length:Int) by lia] at this
  rw [show (67-P.length)-3=64-P.length by lia] at this
  exact this
 have lc:((ns.drop 3).take (64-P.length)).length<=64-P.length:=by rw [lTq];exact Nat.min_le_left ..
 generalize (ns.drop 3).take (64-P.length)=cs at hcs lc;obtain ⟨P',v8,eC,iC,lC⟩:=sC (mo:=mo) (ns:=ns) (nm:=N) (f:=(f:Int)) (v6:=v6) (v7:=v7) (v8:=none) (v9:=none) (v10:=none) (v11:=none) (v12:=none) (by lia) iB lB (cs:=cs) (by lia)
 have r2:=gG (n:=m) (by lia)
 have nk:=tV m;have rd:=aY 0 m;have lk:m<=eG:=fE (by lia)
 have e0:N.take (67-0)=N:=List.take_of_length_le (by lia)
 have d0:N.drop (67-0)=[]:=List.drop_of_length_le (by lia)
 obtain ⟨w8,w10,w11,w12,T,eD,lT,pT⟩:=De (mo:=mo) (ns:=ns) (m:=m) (f:=(f:Int)) (a5:=some (.sh (.list (P'.map fun q=>D.tup [.int (q.1:Int),.int (q.2:Int)])))) (v6:=v6) (v7:=v7) hN P' 0 v8 none none none (List.replicate m []) (by lia) iC List.length_replicate (by rw [d0];simp)
 rw [e0] at eD;rw [Nat.zero_add] at pT;have sub:∀ z∈N.drop (67-P'.length),z∈N:=fun z h=>List.mem_of_mem_drop h
 have tnd:T.flatten.Nodup:=pT.nodup_iff.mpr (qj (hnd.sublist (List.drop_sublist ..)) fun z h=>hps (sub z h))
 have tl:T.flatten.length<=134:=by
  rw [pT.length_eq,List.length_flatMap];have:∀ (l:List Int),(l.map fun x=>[x, -x].length).sum=2*l.length:=fun l=>by
   induction l with
   | nil=>rfl
   | cons x l ih=>rw [List.map_cons,List.sum_cons,ih,lCq];simp only [lCq,List.length_nil];lia
  rw [this,List.length_drop];lia
 have tneg:∀ z∈T.flatten, -z∈T.flatten:=fun z h=>by
  obtain ⟨y,hy,q⟩:=List.mem_flatMap.mp (pT.mem_iff.mp h);refine pT.mem_iff.mpr (List.mem_flatMap.mpr ⟨y,hy,?_⟩);simp only [List.mem_cons,List.not_mem_nil,or_false] at q ⊢;lia
 have gd:=tX (T:=T) (fun r hr=>by have:=mi hr;lia) (by lia)
 have pf:=nX T;have lM:(wN (T.map iw)).length=m:=by rw [jo,lMq,lT]
 refine ⟨wN (T.map iw),?_,⟨pf.nodup_iff.mpr tnd,by rw [pf.length_eq];lia,by lia,fun e he=>pf.mem_iff.mpr (tneg e (pf.mem_iff.mp he))⟩,by lia⟩
 have sP:(P'.map pr).map aB=P'.map fun q=>D.tup [.int (q.1:Int),.int (q.2:Int)]:=by rw [mPq];exact mCq fun q _=>bK _
 have sT:(T.map aI).map aB=T.map dI:=by rw [mPq];exact mCq fun r _=>cv r
 have c1:az [.scr ns,.int 1]=some (.sh (.int (cell ns 1))):=gf ns (by decide)
 have c2:az [.scr ns,.int 2]=some (.sh (.int (cell ns 2))):=gf ns (by decide)
 unfold ss at eB eC;unfold sd at eD;rw [List.map_nil] at eB
 simp_arith [fV,qQ,en,c1,c2,m8,m17,mn,r1,eB,qF,hcs,eC,r2,nk,rd,lk,sP,eD,sT,gd]
theorem rE {w:Str}{ds:List D}(hw:w = "colours" ∨ w = "none"):jg [.tup [.str w,.list ds]]=some (.sh (.bl true)):=by
 have i0:bW (.tup [D.str w,.list ds]) (.int 0)=some (.str w):=rfl;have i1:bW (.tup [D.str w,.list ds]) (.int 1)=some (.list ds):=rfl;have s1:mC [.tup [D.str w,.list ds],.ty "tuple"]=some (.bl true):=rfl;have s2:mC [.str w,.ty "str"]=some (.bl true):=rfl;have s3:Bl [.list ds,.ty "list"]=some (.bl true):=rfl;have n2:pP (.int ((0+1+1:Nat):Int)) (.int 2)=some (.bl false):=rfl;have hin:Iv false (.str w) (.tup [.str "colours", .str "none"])=some (.bl true):=by
  rcases hw with rfl|rfl <;> rfl
 simp_arith [jg,tD,i0,i1,s1,s2,s3,n2,hin]
theorem jl {many:Nat}:∀ {rows:List (List Int)}{cs l:List Int},l∈dj many rows cs->l.length=cs.length+rows.length
 | [],cs,l,h=>by
  rw [mSq.mp h];rfl
 | row::rows,cs,l,h=>by
  obtain ⟨c,h1,h2⟩:=List.mem_flatMap.mp h;obtain ⟨x,_,rfl⟩:=mMq.mp h1;rw [jl h2,lAq,lSq,lCq];lia
end K72
--ZQ3 --ZQ4 --ZQ5 --ZQ6 --ZQ8 --ZQ9 --ZQB --ZQC --ZQD --ZQE --ZQF --ZQG
namespace K75
open PySem L2 Mr Z Xe Zl K72
theorem tU {α β:Type}(g:α->β):∀ (l:List α) (z:Nat),(l.eraseIdx z).map g=(l.map g).eraseIdx z
 | [],_=>rfl
 | x::l,0=>rfl
 | x::l,z+1=>by
  show g x::(l.eraseIdx z).map g=g x::(l.map g).eraseIdx z;rw [tU g l z]
theorem erase_perm {l:List Int}{z:Nat}{x:Int}(h:l[z]?=some x):(x::l.eraseIdx z).Perm l:=by
 induction l generalizing z with
 | nil=>simp at h
 | cons y l ih =>
  cases z with
  | zero =>
   simp only [List.getElem?_cons_zero,Option.some.injEq] at h;subst h;exact .refl _
  | succ z =>
   rw [List.eraseIdx_cons_succ];exact (List.Perm.swap ..).trans (List.Perm.cons _ (ih (by simpa using h)))
theorem DO (c:Int) {n:Nat}(hn:n<=100):∃ o,iY [.int c,.int (n:Int)]=some (aI o)/\o.Perm (dZ n):=by
 have key:=jM (x:=4) (body:=ju) (fun i S=>∃ c l o v4,S=[some (.sh (.int c)),some (.sh (.int (n:Int))),some (aI l),some (aI o),v4]/\(o++l).Perm (dZ n)/\o.length=i) (ds:=bA 0 n) (S:=[some (.sh (.int c)),some (.sh (.int (n:Int))),some (aI (dZ n)),some (.ow []),none]) ⟨c,dZ n,[],none,rfl,.refl _,rfl⟩ (by
  rintro i d S hd ⟨c,l,o,v4,rfl,hp,ho⟩;have hi:i<n:=by
   have:=(gSq.mp hd).1
   rwa [aY] at this
  have hl:=hp.length_eq;unfold dZ at hl;rw [lAq,lMq,List.length_range] at hl;have hpos:0<(l.length:Int):=by lia
  have m1:=dS (i:=c) (j:=(l.length:Int)) hpos;have z0:=Int.emod_nonneg c (b:=(l.length:Int)) (by lia)
  have z1:=Int.emod_lt_of_pos c hpos;obtain ⟨z,hz⟩:∃ z:Nat,c % (l.length:Int)=(z:Int):=⟨(c % (l.length:Int)).toNat,by lia⟩
  rw [hz] at m1 z1;have hzl:z<l.length:=by lia
  have hx:=gEg hzl;generalize l[z]=x at hx;have sl:=cv l;have ea:(l.map fun n=>AV.sh (.int n))[z]?=some (.sh (.int x)):=by rw [gMq,hx];rfl
  have ee:(l.map fun n=>AV.sh (.int n)).eraseIdx z=(l.eraseIdx z).map fun n=>AV.sh (.int n):=(tU _ l z).symm
  have l1:l.length<=eG:=fE (by lia)
  have le:(l.eraseIdx z).length=l.length-1:=List.length_eraseIdx_of_lt hzl;have se:=cv (l.eraseIdx z);have d1:=mJ (i:=c) (j:=((l.eraseIdx z).length:Int)+1) (by lia) (by lia)
  have l2:o.length<eG:=Nat.lt_of_lt_of_le (show o.length<2000 by lia) (by decide)
  have ap:o.map (fun n=>AV.sh (.int n))++[.sh (.int x)]=(o++[x]).map fun n=>.sh (.int n):=by rw [mBq];rfl
  have zz:((z:Nat):Int).toNat=z:=Int.toNat_natCast z;refine ⟨[some (.sh (.int (c / (((l.eraseIdx z).length:Int)+1)))),some (.sh (.int (n:Int))),some (aI (l.eraseIdx z)),some (aI (o++[x])),some (.sh d)],?_,_,_,_,_,rfl,?_,by rw [lAq,lSq,ho]⟩
  .simp_arith [ju,sl,m1,z1,zz,ea,ee,l1,FO,se,d1,l2,ap,Int.natCast_nonneg,true_and,and_true]
  .rw [List.append_assoc];exact (List.Perm.append_left o (erase_perm hx)).trans hp)
 obtain ⟨S',e,c',l,o,v4,rfl,hp,ho⟩:=key;rw [aY] at ho;have hl:=hp.length_eq;unfold dZ at hl;rw [lAq,lMq,List.length_range] at hl;have hl0:l=[]:=List.length_eq_zero_iff.mp (by lia)
 subst hl0;rw [aNq] at hp;refine ⟨o,?_,hp⟩;have r:=gG (n:=n) (by lia)
 have lr:(bA 0 n).length<=eG:=by rw [aY];exact fE (by lia)
 have er:(bA 0 n).map AV.sh=(dZ n).map fun z=>AV.sh (.int z):=by rw [oV,mPq];rfl
 simp_arith [iY,qO,zA,r,lr,er,e]
theorem Ln {i j:Int}(h0:0<j) (h1:j<2 ^ 250):BL (.int i) (.int j)=some (.int (i / j)):=by
 refine dW ⟨h0,?_⟩ _;have h2:j.natAbs<2 ^ 250:=by
  have:((j.natAbs:Nat):Int)=j:=Int.natAbs_of_nonneg (by lia)
  have h3:((j.natAbs:Nat):Int)<((2 ^ 250:Nat):Int):=by rw [this];exact h1
  exact Int.ofNat_lt.mp h3
 exact Nat.lt_of_lt_of_le ((Nat.log2_lt (by lia)).mpr h2) (by decide)
theorem A8 (ns:List Int) {n:Nat}(hn:n<=30):∃ N,gX [.scr ns,.int (n:Int)]=some (aI N)/\N.length=n/\N.Nodup/\∀ x∈N,1<=x:=by
 have hB:(100:Int)<10 ^ 60:=by decide
 have hB2:(10:Int) ^ 60<2 ^ 250:=by decide
 have key:=jM (x:=5) (body:=iN) (fun i S=>∃ c N nm v5 v6,S=[some (.sh (.scr ns)),some (.sh (.int (n:Int))),some (.sh (.int c)),some (aI N),some (.sh (.int nm)),v5,v6]/\N.length=i/\N.Nodup/\(∀ x∈N,1<=x/\x<=nm)/\0<=nm/\nm<10 ^ 60-(n:Int)+(i:Int)) (ds:=bA 0 n) (S:=[some (.sh (.scr ns)),some (.sh (.int (n:Int))),some (.sh (.int (cell ns 2))),some (.ow []),some (.sh (.int 0)),none,none]) ⟨cell ns 2,[],0,none,none,rfl,rfl,List.nodup_nil,(fun x h=>by cases h),Int.le_refl _,by lia⟩ (by
  rintro i d S hd ⟨c,N,nm,v5,v6,rfl,hN,hnd,hx,h0,h1⟩;have hi:i<n:=by
   have:=(gSq.mp hd).1
   rwa [aY] at this
  rw [fU hi] at hd;cases hd;rw [Int.zero_add];have hr0:0<10 ^ 60-(n:Int)+(i:Int)-nm:=by lia
  have hr1:10 ^ 60-(n:Int)+(i:Int)-nm<2 ^ 250:=Int.lt_of_le_of_lt (show 10 ^ 60-(n:Int)+(i:Int)-nm<=10 ^ 60 by lia) hB2
  have hr2:nm+(10 ^ 60-(n:Int)+(i:Int)-nm)<10 ^ 60-(n:Int)+((i+1:Nat):Int):=by lia
  have ps:vY (.int 10) (.int 60)=some (.int (10 ^ 60)):=by simp_arith []
  generalize hR:10 ^ 60-(n:Int)+(i:Int)-nm=R at hr0 hr1 hr2;have m1:=dS (i:=c) (j:=R) hr0;have a0:=Int.emod_nonneg c (b:=R) (by lia)
  have a1:=Int.emod_lt_of_pos c hr0;have dB:=Ln (i:=c) hr0 hr1;have l2:N.length<eG:=Nat.lt_of_lt_of_le (show N.length<2000 by lia) (by decide)
  have ap:N.map (fun n=>AV.sh (.int n))++[.sh (.int (nm+1+c % R))]=(N++[nm+1+c % R]).map fun n=>.sh (.int n):=by rw [mBq];rfl
  refine ⟨[some (.sh (.scr ns)),some (.sh (.int (n:Int))),some (.sh (.int (c / R))),some (aI (N++[nm+1+c % R])),some (.sh (.int (nm+1+c % R))),some (.sh (.int (i:Int))),some (.sh (.int R))],?_,_,_,_,_,_,rfl,by rw [lAq,lSq,hN],?_,?_,by lia,by lia⟩
  .simp_arith [iN,hR,m1,dB,l2,ap]
  .refine nAq.mpr ⟨hnd,by simp,fun a ha b hb e=>?_⟩
   rw [mSq.mp hb] at e;have:=(hx a ha).2;lia
  .intro x hx';rcases mAq.mp hx' with z|z
   .have:=hx x z;lia
   .rw [mSq.mp z];lia)
 obtain ⟨S',e,c,N,nm,v5,v6,rfl,hN,hnd,hx,_⟩:=key;rw [aY] at hN;refine ⟨N,?_,hN,hnd,fun x h=>(hx x h).1⟩
 have r:=gG (n:=n) (by lia)
 have c2:az [.scr ns,.int 2]=some (.sh (.int (cell ns 2))):=gf ns (by decide)
 simp_arith [gX,oU,c2,r,e]
end K75
--ZQ3 --ZQ4 --ZQ5 --ZQ6 --ZQ8 --ZQ9 --ZQB --ZQC --ZQD --ZQE --ZQF --ZQG
namespace K75
open PySem L2 Mr Z Xe Zl K72
def kI (ks:List Int):List (bJ×D):=ks.map fun k=>((Sum.inl k:bJ),D.bl true)
theorem BY (ks:List Int) (t:Int):(kI ks).any (fun kv=>decide (kv.1=(Sum.inl t:bJ)))=decide (t∈ks):=by
 induction ks with
 | nil=>simp [kI]
 | cons k ks ih =>
  unfold kI at ih ⊢;rw [List.map_cons,List.any_cons,ih]
  by_cases h:t=k
  .subst h;simp
  .have h':¬ (Sum.inl k:bJ)=Sum.inl t:=fun q=>h (Sum.inl.inj q).symm
   simp [h',h]
theorem Ip (ks:List Int) (t:Int):(Z.getD (kI ks) (Sum.inl t)).isSome=decide (t∈ks):=by
 unfold Z.getD;rw [Option.isSome_map,← BY,Bool.eq_iff_iff,List.find?_isSome,List.any_eq_true]
theorem Gv {ks:List Int}{t:Int}(h:t∉ks):oq (kI ks) (Sum.inl t) (.bl true)=kI (ks++[t]):=by
 unfold oq;rw [BY,decide_eq_false h,if_neg (by simp)]
 simp [kI]
theorem Hr (ks:List Int):(kI ks).length=ks.length:=by unfold kI;rw [lMq]
def dD (N:List Int):List Int:=N.flatMap fun x=>[x,0-x]
theorem K9 {N:List Int}(hN:N.length<=30) {s0 s1 s2:Option AV}:∃ v4,dX 4 jE (N.map D.int) [s0,s1,s2,some (.ow []),none,none,none,none,none,none,none]=some (.nx [s0,s1,s2,some (aI (dD N)),v4,none,none,none,none,none,none]):=by
 have key:=jM (x:=4) (body:=jE) (fun i S=>∃ v4,S=[s0,s1,s2,some (aI (dD (N.take i))),v4,none,none,none,none,none,none]) (ds:=N.map D.int) (S:=[s0,s1,s2,some (.ow []),none,none,none,none,none,none,none]) ⟨none,rfl⟩ (by
  rintro i d S hd ⟨v4,rfl⟩;rw [gMq] at hd;obtain ⟨x,hx,rfl⟩:=oMq.mp hd;have et:dD (N.take (i+1))=dD (N.take i)++[x,0-x]:=by
   unfold dD;rw [List.take_add_one,hx,List.flatMap_append];rfl
  have ll:(dD (N.take i)).length+2<=eG:=by
   have:∀ l:List Int,(dD l).length=2*l.length:=fun l=>by
    unfold dD
    induction l with
    | nil=>rfl
    | cons x l ih=>rw [List.flatMap_cons,lAq,ih,lCq];simp only [lCq,List.length_nil];lia
   rw [this,lTq];exact fE (by lia)
  have ap:(dD (N.take i)).map (fun n=>AV.sh (.int n))++[.sh (.int x),.sh (.int (0-x))]=(dD (N.take i)++[x,0-x]).map fun n=>.sh (.int n):=by rw [mBq];rfl
  refine ⟨_,?_,some (.sh (.int x)),by rw [et]⟩
  generalize dD (N.take i)=E at ll ap
  simp_arith [jE,ll,ap])
 obtain ⟨S',e,v4,rfl⟩:=key;rw [lMq,List.take_length] at e;exact ⟨v4,e⟩
def M5 (N:Nat):AS->Nat
 | [_,_,_,_,_,_,_,_,_,some (.ow l),_]=>N+1-l.length
 | _=>0
theorem LF {E o:List Int}{kn:List Int}{s0 s1 s2 s4 s6 s8:Option AV}(hE:E.Nodup) (hl:E.length<=60) (ho:o.Perm (dZ E.length)) (hk:kn.Nodup) (hs:∀ x∈kn,x∈E) {e:Int}(he:e∈E):∃ t z,gq (eM (mQ (ai 10) (ai 7))) jz 100000 [s0,s1,s2,some (.sh (dI E)),s4,some (aI o),s6,some (.owd (kI kn)),s8,some (.ow []),some (.sh (.int e))]=some (.nx [s0,s1,s2,some (.sh (dI E)),s4,some (aI o),s6,some (.owd (kI (kn++t))),s8,some (aI t),some (.sh (.int z))])/\(kn++t).Nodup/\(∀ x∈kn++t,x∈E)/\e∈kn++t:=by
 have key:=qo (c:=eM (mQ (ai 10) (ai 7))) (body:=jz) (fun S=>∃ t z,S=[s0,s1,s2,some (.sh (dI E)),s4,some (aI o),s6,some (.owd (kI (kn++t))),s8,some (aI t),some (.sh (.int z))]/\z∈E/\(kn++t).Nodup/\(∀ x∈kn++t,x∈E)/\(z=e∨e∈kn++t)) (M5 60) (fun S=>∃ t z,S=[s0,s1,s2,some (.sh (dI E)),s4,some (aI o),s6,some (.owd (kI (kn++t))),s8,some (aI t),some (.sh (.int z))]/\(kn++t).Nodup/\(∀ x∈kn++t,x∈E)/\e∈kn++t) (by
  rintro S ⟨t,z,rfl,hz,hn,hsub,hor⟩;have hg:=Ip (kn++t) z;have hle:=B7 _ _ hn hsub;rw [lAq] at hle
  by_cases c:z∈kn++t
  .rw [decide_eq_true c] at hg;refine ⟨false,[s0,s1,s2,some (.sh (dI E)),s4,some (aI o),s6,some (.owd (kI (kn++t))),s8,some (aI t),some (.sh (.int z))],?_,fun q=>(nomatch q),fun _=>⟨t,z,rfl,hn,hsub,?_⟩⟩
   .simp_arith [hg]
   .rcases hor with q|q
    .rw [← q];exact c
    .exact q
  .rw [decide_eq_false c] at hg;have hp:=Gv c;rw [List.append_assoc] at hp;have hol:=ho.length_eq;unfold dZ at hol;rw [lMq,List.length_range] at hol;have hi:E.idxOf z<E.length:=List.idxOf_lt_length_iff.mpr hz;have hi2:E.idxOf z<o.length:=by lia
   have hx:oa (dI E) [.int z]=some (.int (E.idxOf z:Nat)):=by
    show (cM (E.map D.int)).bind _=_;rw [fY];show (if _ then _ else _)=_
    rw [if_pos hz]
   generalize E.idxOf z=k at hi hi2 hx;have h1:=gEg hi2;obtain ⟨j,hj,hjo⟩:∃ j:Nat,j<E.length/\o[k]=(j:Int):=by
    have:=ho.mem_iff.mp (gRq hi2);obtain ⟨j,hj,e⟩:=mMq.mp this;exact ⟨j,List.mem_range.mp hj,e.symm⟩
   rw [hjo] at h1;have at1:atI (o.map D.int) (k:Int)=some (.int (j:Int)):=fM (by rw [gMq,h1];rfl)
   have at2:atI (E.map D.int) (j:Int)=some (.int E[j]):=fM (by rw [gMq,gEg hj];rfl)
   have hy:E[j]∈E:=gRq hj;generalize E[j]=y at at2 hy;have so:=cv o;have hn2:(kn++(t++[z])).Nodup:=by
    rw [← List.append_assoc,nAq];exact ⟨hn,by simp,fun a ha b hb q=>c (by rw [mSq.mp hb] at q;exact q ▸ ha)⟩
   have hs2:∀ x∈kn++(t++[z]),x∈E:=fun x hx=>by
    rw [← List.append_assoc] at hx;rcases mAq.mp hx with q|q
    .exact hsub x q
    .rw [mSq.mp q];exact hz
   have hle2:=B7 _ _ hn2 hs2;rw [lAq,lAq,lSq] at hle2;have l1:(kI (kn++t)).length<eG:=by rw [Hr,lAq];show _<16777216;lia
   have l2:t.length<eG:=by show _<16777216;lia
   have ap:t.map (fun n=>AV.sh (.int n))++[.sh (.int z)]=(t++[z]).map fun n=>.sh (.int n):=by rw [mBq];rfl
   refine ⟨true,[s0,s1,s2,some (.sh (dI E)),s4,some (aI o),s6,some (.owd (kI (kn++t))),s8,some (aI t),some (.sh (.int z))],?_,fun _=>⟨[s0,s1,s2,some (.sh (dI E)),s4,some (aI o),s6,some (.owd (kI (kn++(t++[z])))),s8,some (aI (t++[z])),some (.sh (.int y))],?_,⟨t++[z],y,rfl,hy,hn2,hs2,?_⟩,?_⟩,fun q=>(nomatch q)⟩
   .simp_arith [hg]
   .simp_arith [jz,l1,hp,l2,ap,hx,so,at1,at2]
   .refine .inr ?_;rcases hor with q|q
    .rw [← q];simp
    .rw [← List.append_assoc];exact mAq.mpr (.inl q)
   .show 60+1-_<60+1-_;simp only [lMq,lAq,lSq];lia)
 obtain ⟨S',ew,t,z,rfl,h1,h2,h3⟩:=key 100000 [s0,s1,s2,some (.sh (dI E)),s4,some (aI o),s6,some (.owd (kI kn)),s8,some (.ow []),some (.sh (.int e))] ⟨[],e,by simp,he,by simpa using hk,by simpa using hs,.inl rfl⟩ (by
  show 60+1-0<100000;lia)
 exact ⟨t,z,ew,h1,h2,h3⟩
theorem LD {E o:List Int}{s0 s1 s2 s4:Option AV}(hE:E.Nodup) (hl:E.length<=60) (ho:o.Perm (dZ E.length)) {avs:List AV}{T0:List (List Int)}(h0:avs.map aB=T0.map dI) (l0:T0.length<=10) (f0:T0.flatten=[]):∃ (avs':List AV) (TT:List (List Int)) (v7 v8 v9 v10:Option AV),dX 8 ik (E.map D.int) [s0,s1,s2,some (.sh (dI E)),s4,some (aI o),some (.ow avs),some (.owd []),none,none,none]=some (.nx [s0,s1,s2,some (.sh (dI E)),s4,some (aI o),some (.ow avs'),v7,v8,v9,v10])/\avs'.map aB=TT.map dI/\TT.flatten.Perm E/\TT.length<=70:=by
 have key:=jM (x:=8) (body:=ik) (fun i S=>∃ avs' TT kn v8 v9 v10,S=[s0,s1,s2,some (.sh (dI E)),s4,some (aI o),some (.ow avs'),some (.owd (kI kn)),v8,v9,v10]/\avs'.map aB=TT.map dI/\TT.flatten=kn/\kn.Nodup/\(∀ x∈kn,x∈E)/\(∀ x∈E.take i,x∈kn)/\TT.length<=10+i) (ds:=E.map D.int) (S:=[s0,s1,s2,some (.sh (dI E)),s4,some (aI o),some (.ow avs),some (.owd []),none,none,none])
  ⟨avs,T0,[],none,none,none,rfl,h0,f0,List.nodup_nil,(fun _ h=>by cases h),(fun _ h=>by cases h),l0⟩ (by
  rintro i d S hd ⟨avs,TT,kn,v8,v9,v10,rfl,mK,hf,hk,hs,ha,hT⟩;rw [gMq] at hd;obtain ⟨e,he,rfl⟩:=oMq.mp hd;have hi:i<E.length:=(gSq.mp he).1;have heE:=mGq he;obtain ⟨t,z,ew,h1,h2,h3⟩:=LF (s0:=s0) (s1:=s1) (s2:=s2) (s4:=s4) (s6:=some (.ow avs)) (s8:=some (.sh (.int e))) hE hl ho hk hs heE;have ha2:∀ x∈E.take (i+1),x∈kn++t:=fun x hx=>by
   rw [List.take_add_one,he] at hx;rcases mAq.mp hx with q|q
   .exact mAq.mpr (.inl (ha x q))
   .have:x=e:=by simpa using q
    rw [this];exact h3
  have hla:avs.length=TT.length:=by simpa using congrArg List.length mK
  by_cases c:t=[]
  .subst c;have t0:rH (dI [])=some false:=rfl;refine ⟨[s0,s1,s2,some (.sh (dI E)),s4,some (aI o),some (.ow avs),some (.owd (kI (kn++[]))),some (.sh (.int e)),some (aI []),some (.sh (.int z))],?_,avs,TT,kn++[],_,_,_,rfl,mK,by rw [aNq];exact hf,h1,h2,ha2,by lia⟩
   have s0:=cv []
   simp_arith [ik,ew,s0,t0]
  .have t1:rH (dI t)=some true:=by
    cases t with
    | nil=>exact absurd rfl c
    | cons x t=>rfl
   have st:=cv t;have l1:avs.length<eG:=by show _<16777216;lia
   refine ⟨[s0,s1,s2,some (.sh (dI E)),s4,some (aI o),some (.ow (avs++[.sh (dI t)])),some (.owd (kI (kn++t))),some (.sh (.int e)),some (.sh (dI t)),some (.sh (.int z))],?_,avs++[.sh (dI t)],TT++[t],kn++t,_,_,_,rfl,by rw [mBq,mBq,mK];simp,by rw [fAq,hf,List.flatten_singleton],h1,h2,ha2,by rw [lAq,lSq];lia⟩
   simp_arith [ik,ew,st,t1,l1])
 obtain ⟨S',e,avs',TT,kn,v8,v9,v10,rfl,mK,hf,hk,hs,ha,hT⟩:=key;rw [lMq] at hT ha;rw [List.take_length] at ha;refine ⟨avs',TT,_,v8,v9,v10,e,mK,?_,by lia⟩
 rw [hf];exact (List.perm_ext_iff_of_nodup hk hE).mpr fun x=>⟨hs x,ha x⟩
structure Rw (M:List (List Int)):Prop where
 nd:M.flatten.Nodup
 len:M.flatten.length<=134
 lr:M.length<=100
 neg:∀ e∈M.flatten, -e∈M.flatten
theorem Rw.mp {M:List (List Int)}(h:Rw M):Mp M:=⟨h.nd,by have:=h.len;lia,by have:=h.lr;lia,h.neg⟩
theorem GT (ns:List Int):∃ M,lg [.scr ns,.int 30]=some (.ow (M.map fun r=>.sh (dI r)))/\Rw M:=by
 have m31:=dS (i:=cell ns 1) (j:=30+1) (by decide)
 have b0:=Int.emod_nonneg (cell ns 1) (b:=30+1) (by decide)
 have b1:=Int.emod_lt_of_pos (cell ns 1) (b:=30+1) (by decide)
 obtain ⟨n,hn⟩:∃ n:Nat,cell ns 1 % (30+1)=(n:Int):=⟨(cell ns 1 % (30+1)).toNat,by lia⟩
 rw [hn] at m31 b1;obtain ⟨N,eN,lN,ndN,pN⟩:=A8 ns (n:=n) (by lia)
 have sN:=cv N;obtain ⟨v4,e0⟩:=K9 (N:=N) (by lia) (s0:=some (.sh (.scr ns))) (s1:=some (.sh (.int 30))) (s2:=some (.sh (.int (n:Int))))
 have eE:dD N=N.flatMap fun x=>[x, -x]:=by
  unfold dD;congr 1;funext x;rw [Int.zero_sub]
 have hE:(dD N).Nodup:=by rw [eE];exact qj ndN pN
 have lE:(dD N).length=2*N.length:=by
  unfold dD;have:∀ l:List Int,(l.flatMap fun x=>[x,0-x]).length=2*l.length:=fun l=>by
   induction l with
   | nil=>rfl
   | cons x l ih=>rw [List.flatMap_cons,lAq,ih,lCq];simp only [lCq,List.length_nil];lia
  exact this N
 have negE:∀ z∈dD N, -z∈dD N:=fun z h=>by
  rw [eE] at h ⊢;obtain ⟨y,hy,q⟩:=List.mem_flatMap.mp h;refine List.mem_flatMap.mpr ⟨y,hy,?_⟩;simp only [List.mem_cons,List.not_mem_nil,or_false] at q ⊢;lia
 generalize dD N=E at e0 hE lE negE;have sE:=cv E;have c4:az [.scr ns,.int 4]=some (.sh (.int (cell ns 4))):=gf ns (by decide)
 have c1:az [.scr ns,.int 1]=some (.sh (.int (cell ns 1))):=gf ns (by decide)
 obtain ⟨o,eo,po⟩:=DO (cell ns 4) (n:=E.length) (by lia)
 have d31:=mJ (i:=cell ns 1) (j:=30+1) (by decide) (by decide)
 have m4:=dS (i:=cell ns 1 / (30+1)) (j:=4) (by decide)
 have a0:=Int.emod_nonneg (cell ns 1 / (30+1)) (b:=4) (by decide)
 have a1:=Int.emod_lt_of_pos (cell ns 1 / (30+1)) (b:=4) (by decide)
 obtain ⟨k,hk⟩:∃ k:Nat,cell ns 1 / (30+1) % 4=(k:Int):=⟨(cell ns 1 / (30+1) % 4).toNat,by lia⟩
 rw [hk] at m4 a1;have rk:=gG (n:=k) (by lia)
 have nk:=tV k;have rd:=aY 0 k;have lk:k<=eG:=fE (by lia)
 have sK:((List.replicate k ([]:List Int)).map aI).map aB=(List.replicate k ([]:List Int)).map dI:=by rw [mPq];exact mCq fun r _=>cv r
 obtain ⟨avs,TT,v7,v8,v9,v10,e3,mK,pT,lT⟩:=LD (s0:=some (.sh (.scr ns))) (s1:=some (.sh (.int 30))) (s2:=some (.sh (.int (n:Int)))) (s4:=v4) hE (by lia) po sK (by rw [List.length_replicate];lia) (by simp)
 have fl:TT.flatten.length=E.length:=pT.length_eq;have gd:=tX (T:=TT) (fun r hr=>by have:=mi hr;lia) (by lia)
 have pf:=nX TT;refine ⟨wN (TT.map iw),?_,⟨pf.nodup_iff.mpr (pT.nodup_iff.mpr hE),by rw [pf.length_eq];lia,by rw [jo,lMq];lia,fun e he=>pf.mem_iff.mpr (pT.mem_iff.mpr (negE e (pT.mem_iff.mp (pf.mem_iff.mp he))))⟩⟩
 simp_arith [lg,wV,c1,c4,m31,eN,sN,e0,sE,eo,d31,m4,rk,nk,rd,lk,e3,mK,gd]
end K75
--ZQ3 --ZQ4 --ZQ5 --ZQ6 --ZQ8 --ZQ9 --ZQB --ZQC --ZQD --ZQE --ZQF --ZQG
namespace K75
open PySem L2 Mr Z Xe Zl K72
theorem zt {t:List Int}:∀ {X:List (List Int)}{a:Nat}{r:List Int},X[a]?=some r->(X.set a (r++t)).flatten.Perm (X.flatten++t)
 | [],_,_,h=>by simp at h
 | x::X,0,r,h=>by
  simp only [List.getElem?_cons_zero,Option.some.injEq] at h;subst h;rw [List.set_cons_zero,fCq,fCq,List.append_assoc,List.append_assoc];exact List.Perm.append_left x List.perm_append_comm
 | x::X,a+1,r,h=>by
  rw [List.set_cons_succ,fCq,fCq,List.append_assoc];exact List.Perm.append_left x (zt (by simpa using h))
theorem IC {α:Type}(xs:List α) (k:Nat):iS xs none (some (k:Int))=xs.take k:=by
 unfold iS;rw [HT.nt,HT.kY,List.drop_zero,Nat.sub_zero]
 by_cases h:k<=xs.length
 .rw [Nat.min_eq_left h]
 .rw [Nat.min_eq_right (by lia),List.take_of_length_le (Nat.le_refl _),List.take_of_length_le (by lia)]
theorem DG {α:Type}(xs:List α) (k:Nat):iS xs (some (k:Int)) none=xs.drop k:=by
 unfold iS;rw [HT.nt,HT.kY]
 by_cases h:k<=xs.length
 .rw [Nat.min_eq_left h,List.take_of_length_le (by rw [List.length_drop];exact Nat.le_refl _)]
 .rw [Nat.min_eq_right (by lia),Nat.sub_self,List.take_zero,List.drop_of_length_le (by lia)]
theorem DC {M:List (List Int)}(hM:Rw M):∃ M',gM [dM M]=some (.ow (M'.map fun r=>.sh (dI r)))/\Rw M'/\M'.length<=8:=by
 have hf:=hM.len;have hl:=hM.lr;have key:=tx (x:=2) (y:=3) (k:=0) (body:=jI) (fun i S=>∃ X v2 v3,S=[some (.sh (dM M)),some (.ow (X.map fun r=>.sh (dI r))),v2,v3]/\X.length=(M.take 8).length/\X.flatten.Perm ((M.take 8).flatten++((M.drop 8).take i).flatten)) (ds:=(M.drop 8).map dI) (S:=[some (.sh (dM M)),some (.ow ((M.take 8).map fun r=>.sh (dI r))),none,none]) ⟨M.take 8,none,none,rfl,rfl,by simp⟩ (by
  rintro i d S hd ⟨X,v2,v3,rfl,h1,h2⟩;rw [gMq] at hd;obtain ⟨t,ht,rfl⟩:=oMq.mp hd;rw [Nat.zero_add] at h2 ⊢;have hi:=(gSq.mp ht).1;rw [List.length_drop] at hi;rw [lTq,Nat.min_eq_left (by lia)] at h1
  have hm8:=dS (i:=(i:Int)) (j:=8) (by decide)
  have ei:(i:Int) % 8=((i % 8:Nat):Int):=by lia
  rw [ei] at hm8;have hk:i % 8<X.length:=by lia
  have hr:=gEg hk;generalize X[i % 8]=r at hr;have hfl:X.flatten.length<=134:=by
   rw [h2.length_eq,lAq];have e1:M.flatten=(M.take 8).flatten++(((M.drop 8).take i).flatten++((M.drop 8).drop i).flatten):=by
    rw [← fAq,← fAq,List.take_append_drop,List.take_append_drop]
   have:=congrArg List.length e1;rw [lAq,lAq] at this;lia
  have rl:r.length<=X.flatten.length:=mi (mGq hr);have tl:t.length<=M.flatten.length:=mi (List.mem_of_mem_drop (mGq ht));have at1:atI (X.map dI) ((i % 8:Nat):Int)=some (dI r):=fM (by rw [gMq,hr];rfl)
  have sX:(X.map fun r=>AV.sh (dI r)).map aB=X.map dI:=by rw [mPq];exact mCq fun r _=>bK _
  have l1:r.length+t.length<=eG:=fE (by lia)
  have ix:uq X.length ((i % 8:Nat):Int)=some (i % 8):=yS hk;have q:r.map D.int++t.map D.int=(r++t).map D.int:=by rw [mBq]
  have q2:((X.map dI).set (i % 8) (dI (r++t))).map AV.sh=(X.set (i % 8) (r++t)).map fun r=>.sh (dI r):=by rw [← List.map_set,mPq];rfl
  refine ⟨_,?_,X.set (i % 8) (r++t),some (.sh (.int (i:Int))),some (.sh (dI t)),rfl,by rw [lZq,lTq,Nat.min_eq_left (by lia)];exact h1,?_⟩
  .generalize i % 8=k at hm8 at1 ix q2
   simp_arith [jI,hm8,at1,sX,l1,ix,q,q2]
  .refine (zt hr).trans ?_;have et:((M.drop 8).take (i+1)).flatten=((M.drop 8).take i).flatten++t:=by rw [List.take_add_one,ht,fAq];simp
   rw [et,← List.append_assoc];exact h2.append_right t)
 obtain ⟨S',e,X,v2,v3,rfl,h1,h2⟩:=key;rw [Nat.zero_add,lMq,List.take_length,← fAq,List.take_append_drop] at h2;rw [lTq] at h1;have gd:=tX (T:=X) (fun r hr=>by have:=mi hr;have:=h2.length_eq;lia) (by lia)
 have pf:=nX X;have sX:(X.map fun r=>AV.sh (dI r)).map aB=X.map dI:=by rw [mPq];exact mCq fun r _=>bK _
 refine ⟨wN (X.map iw),?_,⟨pf.nodup_iff.mpr (h2.nodup_iff.mpr hM.nd),by rw [pf.length_eq,h2.length_eq];lia,by rw [jo,lMq];lia,fun z hz=>pf.mem_iff.mpr (h2.mem_iff.mpr (hM.neg z (h2.mem_iff.mp (pf.mem_iff.mp hz))))⟩,by rw [jo,lMq];lia⟩
 have c1:iS (M.map dI) none (some 8)=(M.take 8).map dI:=by rw [List.map_take];exact IC (M.map dI) 8
 have c2:iS (M.map dI) (some 8) none=(M.drop 8).map dI:=by rw [List.map_drop];exact DG (M.map dI) 8
 have e4:((M.take 8).map dI).map AV.sh=(M.take 8).map fun r=>.sh (dI r):=by rw [mPq];rfl
 have e5:(((M.drop 8).map dI).map AV.sh).map aB=(M.drop 8).map dI:=by rw [mPq];exact (mCq fun d _=>bK d).trans (List.map_id _)
 simp_arith [gM,rb,dM,c1,c2,e4,e5,e,sX,gd]
end K75
--ZQ3 --ZQ4 --ZQ5 --ZQ6 --ZQ8 --ZQ9 --ZQB --ZQC --ZQD --ZQE --ZQF --ZQG
namespace K75
open PySem L2 Mr Z Xe Zl K72
def va (row cs:List Int) (c:Int) (ts:List D):D:=.tup [.int c,if ok row cs c=true then .list ts else eI (cl row cs c)]
def tr (many:Nat):List (List Int)->List Int->List D
 | [],_=>[]
 | row::rows,cs=>(mN cs many).map fun c=>va row cs c (tr many rows (cs++[c]))
theorem tb_body {nr:List (List Int)}(hn:Nr nr) {many:Nat}{row cs:List Int}(hd:nr[cs.length]?=some row) {fm:MF}{c:Int}{ts:List D}(hf:ok row cs c=true->fm [dM nr,.int (many:Int),dI (cs++[c])]=some (.ow (ts.map .sh))) (hc:cs.length<=50) {bs:List D}(hb:bs.length<500) (v6:Option AV) :
  ∃ v6',bc fm [some (.sh (dM nr)),some (.sh (.int (many:Int))),some (.sh (dI cs)),some (.sh (.int (cs.length:Int))),some (.ow (bs.map .sh)),some (.sh (.int c)),v6]=some (.nx [some (.sh (dM nr)),some (.sh (.int (many:Int))),some (.sh (dI cs)),some (.sh (.int (cs.length:Int))),some (.ow ((bs++[va row cs c ts]).map .sh)),some (.sh (.int c)),v6']):=by
 have hr:=hn.row row (mGq hd);have ck:=qJ (row:=row) (cs:=cs) (c:=c) hr.1 hr.2;have at1:atI (nr.map dI) (cs.length:Int)=some (dI row):=fM (by rw [gMq,hd];rfl)
 have ln:=nQ (cl row cs c);have l1:cs.length+1<=eG:=fE (by lia)
 have l2:bs.length<eG:=Nat.lt_of_lt_of_le hb (by decide)
 have q:cs.map D.int++[D.int c]=(cs++[c]).map D.int:=by rw [mBq];rfl
 by_cases k:cl row cs c=[]
 .have hok:ok row cs c=true:=decide_eq_true k;rw [decide_eq_true k] at ln;have e:=hf hok;have st:(ts.map AV.sh).map aB=ts:=by rw [mPq];exact (mCq fun d _=>bK d).trans (List.map_id ts)
  refine ⟨some (.sh (.list ts)),?_⟩;have eb:va row cs c ts = .tup [.int c,.list ts]:=by unfold va;rw [if_pos hok]
  rw [eb];have qb:bs.map AV.sh++[AV.sh (.tup [.int c,.list ts])]=(bs++[D.tup [.int c,.list ts]]).map .sh:=by rw [mBq];rfl
  simp_arith [bc,dM,at1,ck,ln,q,l1,dI,e,l2,st,qb]
 .have hok:¬ ok row cs c=true:=by unfold ok;rw [decide_eq_false k];exact Bool.false_ne_true
  rw [decide_eq_false k] at ln;refine ⟨some (.sh (eI (cl row cs c))),?_⟩;have eb:va row cs c ts = .tup [.int c,eI (cl row cs c)]:=by unfold va;rw [if_neg hok]
  rw [eb];have qb:bs.map AV.sh++[AV.sh (.tup [.int c,eI (cl row cs c)])]=(bs++[D.tup [.int c,eI (cl row cs c)]]).map .sh:=by rw [mBq];rfl
  simp_arith [bc,dM,at1,ck,ln,dI,l2,qb]
theorem tb_loop {nr:List (List Int)}(hn:Nr nr) {many:Nat}{row cs:List Int}(hd:nr[cs.length]?=some row) {fm:MF}{g:Int->List D}(hc:cs.length<=50) :
  ∀ (as:List Int) (bs:List D) (v5 v6:Option AV),(∀ c∈as,ok row cs c=true->fm [dM nr,.int (many:Int),dI (cs++[c])]=some (.ow ((g c).map .sh)))->bs.length+as.length<=300 ->
  ∃ (v5' v6':Option AV),dX 5 (bc fm) (as.map D.int) [some (.sh (dM nr)),some (.sh (.int (many:Int))),some (.sh (dI cs)),some (.sh (.int (cs.length:Int))),some (.ow (bs.map .sh)),v5,v6]=some (.nx [some (.sh (dM nr)),some (.sh (.int (many:Int))),some (.sh (dI cs)),some (.sh (.int (cs.length:Int))),some (.ow ((bs++as.map fun c=>va row cs c (g c)).map .sh)),v5',v6'])
 | [],bs,v5,v6,_,_=>⟨v5,v6,by rw [List.map_nil,List.map_nil,aNq];rfl⟩
 | c::as,bs,v5,v6,hf,hl=>by
  rw [lCq] at hl;obtain ⟨v6',b⟩:=tb_body hn hd (hf c (List.mem_cons_self ..)) hc (bs:=bs) (by lia) v6
  obtain ⟨v5',v6'',i⟩:=tb_loop hn hd hc as (bs++[va row cs c (g c)]) (some (.sh (.int c))) v6' (fun c' h=>hf c' (mCo _ h)) (by rw [lAq,lSq];lia)
  refine ⟨v5',v6'',?_⟩;show (bc fm [some (.sh (dM nr)),some (.sh (.int (many:Int))),some (.sh (dI cs)),some (.sh (.int (cs.length:Int))),some (.ow (bs.map .sh)),some (.sh (.int c)),v6]).bind _=_;rw [b,List.map_cons];rw [List.append_assoc] at i;exact i
theorem tb_ok {nr:List (List Int)}(hn:Nr nr) {many:Nat}(hm:many<=100):∀ (d:Nat) (cs:List Int),cs.length<=nr.length->nr.length<cs.length+d->dj many (nr.drop cs.length) cs=[]->FW d [dM nr,.int (many:Int),dI cs]=some (.ow ((tr many (nr.drop cs.length) cs).map .sh))
 | 0,cs,h1,h2,_=>by lia
 | d+1,cs,h1,h2,h3=>by
  have hl:=hn.len;have hlt:cs.length<nr.length:=by
   by_cases k:cs.length<nr.length
   .exact k
   .rw [List.drop_of_length_le (by lia)] at h3
    cases h3
  have hd:=gEg hlt;rw [List.drop_eq_getElem_cons hlt] at h3 ⊢;generalize nr[cs.length]=row at hd h3;have h3':(ext many row cs).flatMap (dj many (nr.drop (cs.length+1)))=[]:=h3;have hf:∀ c∈mN cs many,ok row cs c=true->FW d [dM nr,.int (many:Int),dI (cs++[c])]=some (.ow ((tr many (nr.drop (cs.length+1)) (cs++[c])).map .sh)):=fun c hc hk=>by
   have:=tb_ok hn hm d (cs++[c]) (by rw [lAq,lSq];lia) (by rw [lAq,lSq];lia) (by
    rw [lAq,lSq];exact mZ h3' (mMq.mpr ⟨c,List.mem_filter.mpr ⟨hc,hk⟩,rfl⟩))
   rw [lAq,lSq] at this;exact this
  have la:=uS cs many;obtain ⟨v5,v6,e⟩:=tb_loop hn hd (g:=fun c=>tr many (nr.drop (cs.length+1)) (cs++[c])) (by lia) (mN cs many) [] none none hf (by simp;lia)
  rw [List.map_nil,List.nil_append] at e;have ao:=mv (cs:=cs) (many:=many) (by lia) hm
  have sa:=cv (mN cs many);show aT (FW d) _=some (.ow (((mN cs many).map fun c=>va row cs c (tr many (nr.drop (cs.length+1)) (cs++[c]))).map .sh))
  simp_arith [aT,gY,dM,dI,ao,sa,e]
def pE (nr:List (List Int)) (k:Nat):D:=match (dj k nr []).head? with
 | some l=>.tup [.str "colours", dI l]
 | none=>.tup [.str "none", .list (tr k nr [])]
theorem wB {α:Type}{l:List α}(h:l.head?=none):l=[]:=List.head?_eq_none_iff.mp h
theorem qV {M nr:List (List Int)}(hn:Nr nr) (hM:M.length<=8) (hb:K61.cW [dM M]=some (.ow (nr.map aI))) {many:Nat}(hm:many<=100):cZ [dM M,.int (many:Int)]=some (.sh (pE nr many)):=by
 obtain ⟨t1,_⟩:=Cp hn hM hb hm;unfold pE;cases h:(dj many nr []).head? with
 | some l=>exact t1 l h
 | none =>
  have h0:=wB h;have hl:=hn.len;have ff:=Dq hn hm 9 [] (Nat.zero_le _) (by simp;lia)
  rw [← FZ] at ff;have k8:decide ((8:Int)<(M.length:Int))=false:=decide_eq_false (by lia)
  have sn:(nr.map aI).map aB=nr.map dI:=by rw [mPq];exact mCq fun r _=>cv r
  have ff':fk [dM nr,.int (many:Int),.list []]=some (.sh (xU ((dj many nr []).head?))):=ff;rw [h] at ff';have tb:=tb_ok hn hm 9 [] (Nat.zero_le _) (by simp;lia) h0
  rw [← FS] at tb;have tb':dQ [dM nr,.int (many:Int),.list []]=some (.ow ((tr many nr []).map .sh)):=tb;have st:((tr many nr []).map AV.sh).map aB=tr many nr []:=by rw [mPq];exact (mCq fun d _=>bK d).trans (List.map_id _)
  have en:xU none = .non:=rfl;rw [en] at ff'
  simp_arith [cZ,mP,dM,dI,k8,hb,sn,ff',kU,tb',st]
theorem IG (k:Nat):(Ms.dd (dZ k)).length=k:=by
 have h1:(Ms.dd (dZ k)).Perm (dZ k):=by
  refine (List.perm_ext_iff_of_nodup (Ms.DA _) ?_).mpr fun x=>Ms.mh
  unfold dZ;rw [List.nodup_iff_pairwise_ne,List.pairwise_map];exact (List.nodup_iff_pairwise_ne.mp List.nodup_range).imp fun h e=>h (Int.ofNat_inj.mp e)
 rw [h1.length_eq];unfold dZ;rw [lMq,List.length_range]
theorem tY (k:Nat):(dZ k).length=k:=by unfold dZ;rw [lMq,List.length_range]
theorem Dx (k:Nat):dZ k++[(k:Int)]=dZ (k+1):=by
 unfold dZ;rw [List.range_succ,mBq];rfl
theorem EY {k n:Nat}(h:k<n):(k:Int)∈dZ n:=mMq.mpr ⟨k,List.mem_range.mpr h,rfl⟩
theorem E8 {k:Nat}{t:Int}(h0:0<=t) (h1:t<(k:Int)):(dZ k).getD t.toNat 0=t:=by
 unfold dZ;rw [gDq,gMq,List.getElem?_range (by lia)]
 show ((t.toNat:Nat):Int)=t;lia
theorem BM {many:Nat}:∀ {rows:List (List Int)}{k:Nat},(∀ r∈rows,∀ t∈r,0<=t)->k+rows.length<=many->dj many rows (dZ k)≠[]
 | [],k,_,_=>by intro h;cases h
 | row::rows,k,hr,hm=>by
  rw [lCq] at hm;intro h;have h':(ext many row (dZ k)).flatMap (dj many rows)=[]:=h;have hin:dZ (k+1)∈ext many row (dZ k):=by
   refine mMq.mpr ⟨(k:Int),List.mem_filter.mpr ⟨?_,?_⟩,Dx k⟩
   .unfold mN;rw [IG];exact EY (by lia)
   .refine decide_eq_true (List.filter_eq_nil_iff.mpr fun t ht z=>?_)
    unfold hs at z;rw [Bool.and_eq_true,decide_eq_true_eq,decide_eq_true_eq,tY] at z;rw [E8 (hr row (List.mem_cons_self ..) t ht) z.1] at z;lia
  exact BM (fun r h=>hr r (mCo _ h)) (by lia) (mZ h' hin)
structure Bi (nr:List (List Int)) (k:Nat) (l:List Int):Prop where
 hd:(dj k nr []).head?=some l
 lt:∀ j,j<k->dj j nr []=[]
 le:k<=nr.length
def mw (nr:List (List Int)) (k:Nat):D:=.list (match k with|0=>[]|j+1=>tr j nr [])
def M3:AS->Nat
 | [_,some (.sh (.int k)),_,_]=>(100-k).toNat
 | _=>0
theorem sL {nr:List (List Int)}{k:Nat}(h:dj k nr []=[]):pE nr k = .tup [.str "none", .list (tr k nr [])]:=by unfold pE;rw [h];rfl
theorem ly {nr:List (List Int)}{k:Nat}{l:List Int}(h:(dj k nr []).head?=some l):pE nr k = .tup [.str "colours", dI l]:=by unfold pE;rw [h]
theorem Ce {M nr:List (List Int)}(hn:Nr nr) (hM:M.length<=8) (hb:K61.cW [dM M]=some (.ow (nr.map aI))):∃ k l,lj [dM M]=some (.sh (.tup [.int (k:Nat),dI l,mw nr k]))/\Bi nr k l:=by
 have tt:=fun {k:Nat}(h:k<=100)=>qV hn hM hb (many:=k) h
 have hl:=hn.len;have key:=qo (c:=eM (aN tG (aN bW (ai 3) (rC (.int 0))) (rC (.str "none")))) (body:=mG) (fun S=>∃ (k:Nat) (a2:AV),S=[some (.sh (dM M)),some (.sh (.int (k:Int))),some a2,some (.sh (pE nr k))]/\aB a2=mw nr k/\(∀ j,j<k->dj j nr []=[])/\k<=nr.length) M3 (fun S=>∃ (k:Nat) (a2:AV) (l:List Int),S=[some (.sh (dM M)),some (.sh (.int (k:Int))),some a2,some (.sh (pE nr k))]/\aB a2=mw nr k/\Bi nr k l) (by
  rintro S ⟨k,a2,rfl,h2,hj,hk⟩;cases h:(dj k nr []).head? with
  | some l =>
   rw [ly h];have i0:bW (.tup [D.str "colours", dI l]) (.int 0)=some (.str "colours"):=rfl;have q:tG (.str "colours") (.str "none")=some (.bl false):=rfl;refine ⟨false,[some (.sh (dM M)),some (.sh (.int (k:Int))),some a2,some (.sh (.tup [.str "colours", dI l]))],?_,fun q=>(nomatch q),fun _=>⟨k,a2,l,by rw [ly h],h2,h,hj,hk⟩⟩
   simp_arith [i0,q]
  | none =>
   have h0:=wB h;have hlt:k<nr.length:=by
    by_cases c:k<nr.length
    .exact c
    .have:k=nr.length:=by lia
     exact absurd h0 (BM (k:=0) (fun r hr=>(hn.row r hr).1) (by lia))
   rw [sL h0];have i0:bW (.tup [D.str "none", .list (tr k nr [])]) (.int 0)=some (.str "none"):=rfl;have q:tG (.str "none") (.str "none")=some (.bl true):=rfl;have i1:∀ S:AS,S[3]?.join=some (.sh (.tup [D.str "none", .list (tr k nr [])]))->wt (aL 3) (rC (.int 1)) S=some (.sh (.list (tr k nr [])),S.set 3 (some (.sh (.tup [D.str "none", .list (tr k nr [])])))):=fun S h=>by
    show ((aL 3 S).bind fun x=>_)=_
    rw [yy,h];rfl
   have t1:=tt (k:=k+1) (by lia)
   have ek:((k:Int)+1)=((k+1:Nat):Int):=by lia
   refine ⟨true,[some (.sh (dM M)),some (.sh (.int (k:Int))),some a2,some (.sh (.tup [.str "none", .list (tr k nr [])]))],?_,fun _=>⟨[some (.sh (dM M)),some (.sh (.int ((k+1:Nat):Int))),some (.sh (.list (tr k nr []))),some (.sh (pE nr (k+1)))],?_,⟨k+1,_,rfl,bK _,fun j hj'=>?_,by lia⟩,?_⟩,fun q=>(nomatch q)⟩
   .simp_arith [i0,q]
   .simp_arith [mG,i1,ek,t1]
   .by_cases c:j=k
    .rw [c];exact h0
    .exact hj j (by lia)
   .show (100-((k+1:Nat):Int)).toNat<(100-(k:Int)).toNat;lia)
 have t0:=tt (k:=0) (by lia)
 have t0':cZ [dM M,.int 0]=some (.sh (pE nr 0)):=t0;obtain ⟨S',e,k,a2,l,rfl,h2,hL⟩:=key 100000 [some (.sh (dM M)),some (.sh (.int 0)),some (.ow []),some (.sh (pE nr 0))] ⟨0,.ow [],rfl,by simp [mw],(fun j h=>by lia),Nat.zero_le _⟩ (by show (100-(0:Int)).toNat<100000;decide)
 refine ⟨k,l,?_,hL⟩;rw [ly hL.hd] at e;have i1:∀ S:AS,S[3]?.join=some (.sh (.tup [D.str "colours", dI l]))->wt (aL 3) (rC (.int 1)) S=some (.sh (dI l),S.set 3 (some (.sh (.tup [D.str "colours", dI l])))):=fun S h=>by
  show ((aL 3 S).bind fun x=>_)=_
  rw [yy,h];rfl
 simp_arith [lj,wQ,t0',e,i1,h2]
end K75
--ZQ3 --ZQ4 --ZQ5 --ZQ6 --ZQ8 --ZQ9 --ZQB --ZQC --ZQD --ZQE --ZQF --ZQG
namespace K75
open PySem L2 Mr Z Xe Zl K72
theorem kR (t:Int):K75.cS [.int t]=some (.sh (.bl true)):=by
 simp_arith [K75.cS,K75.qK,DD,A5]
theorem HX {k n:Nat}(h:k<n):(dZ n)[k]?=some (k:Int):=by
 unfold dZ;rw [gMq,List.getElem?_range h];rfl
structure FR (nrL nrP:List (List Int)):Prop where
 len:nrL.length=nrP.length
 mem:∀ (i:Nat) (a b:List Int),nrL[i]?=some a->nrP[i]?=some b->∀ t,t∈a↔t∈b
end K75
--ZQ3 --ZQ4 --ZQ5 --ZQ6 --ZQ8 --ZQ9 --ZQB --ZQC --ZQD --ZQE --ZQF --ZQG
namespace K75
open PySem L2 Mr Z Xe Zl K72
section
variable {M:List (List Int)}
theorem yx (mp:Mp M) {i:Nat}{r:List Int}(h:(K61.pL M 0 M)[i]?=some r):∃ q,M[i]?=some q/\r=(nb M i q).map fun n:Nat=>(n:Int):=by
 have hlt:=(gSq.mp h).1;rw [K61.nH] at hlt;have g:=K61.zb M (k:=0) (gEg hlt);rw [h,Nat.zero_add] at g;exact ⟨_,gEg hlt,Option.some.inj g⟩
theorem uP {i:Nat}{r:List Int}(h:(mO M 0 M)[i]?=some r):∃ q,M[i]?=some q/\r=zc M i q:=by
 have hlt:=(gSq.mp h).1;rw [nC] at hlt;have g:=uK M (k:=0) (gEg hlt);rw [h,Nat.zero_add] at g;exact ⟨_,gEg hlt,Option.some.inj g⟩
theorem sW (mp:Mp M):FR (mO M 0 M) (K61.pL M 0 M):=by
 refine ⟨by rw [K61.nH,nC],fun i x y hx hy t=>?_⟩
 obtain ⟨q,h1,rfl⟩:=uP hx;obtain ⟨q',h2,rfl⟩:=yx mp hy;rw [h1] at h2;cases h2;exact (A0 M i q t).symm
theorem yD (mp:Mp M) (lM:M.length<=8):Nr (K61.pL M 0 M):=by
 refine ⟨by rw [K61.nH];lia,fun r hr=>?_⟩
 obtain ⟨i,hi⟩:=List.mem_iff_getElem?.mp hr;obtain ⟨q,h1,rfl⟩:=yx mp hi;refine ⟨fun t ht=>?_,?_⟩
 .obtain ⟨n,_,rfl⟩:=mMq.mp ht;lia
 .rw [lMq];have h2:=xO M i q [];have h3:=mp.row h1;exact Nat.le_trans h2 (by simp only [List.length_nil];lia)
theorem uj {i:Nat}{q:List Int}{t:Int}:t∈zc M i q↔∃ e∈q,vb M (-e)≠i/\t=(vb M (-e):Int):=by
 unfold zc;rw [(iW _).mem_iff,Ms.mh];unfold FE;constructor
 .intro h;obtain ⟨e,he,rfl⟩:=mMq.mp h;obtain ⟨h1,h2⟩:=List.mem_filter.mp he;exact ⟨e,h1,of_decide_eq_true h2,rfl⟩
 .rintro ⟨e,h1,h2,rfl⟩;exact mMq.mpr ⟨e,List.mem_filter.mpr ⟨h1,decide_eq_true h2⟩,rfl⟩
theorem BO (mp:Mp M) {i:Nat}{r:List Int}(h:(mO M 0 M)[i]?=some r) {t:Int}(ht:t∈r):∃ (j:Nat) (s:List Int),t=(j:Int)/\j≠i/\(mO M 0 M)[j]?=some s/\(i:Int)∈s:=by
 obtain ⟨q,h1,rfl⟩:=uP h;obtain ⟨e,he,h2,rfl⟩:=uj.mp ht;have hm:=mp.other h1 he;obtain ⟨s,h3,h4⟩:=mp.at hm;refine ⟨vb M (-e),zc M (vb M (-e)) s,rfl,h2,?_,uj.mpr ⟨-e,h4,?_,?_⟩⟩
 .have:=uK M (k:=0) h3
  rwa [Nat.zero_add] at this
 .rw [Int.neg_neg,xW mp.hn h1 he];exact fun z=>h2 z.symm
 .rw [Int.neg_neg,xW mp.hn h1 he]
end
end K75
--ZQ3 --ZQ4 --ZQ5 --ZQ6 --ZQ8 --ZQ9 --ZQB --ZQC --ZQD --ZQE --ZQF --ZQG
namespace K73
open PySem L2 Mr Z Xe Zl K72 K75
theorem EI {row cs:List Int}{c:Int}(hr:∀ t∈row,0<=t):fb (oZ (eM (aN BP (ai 0) (ai 1))) (eM (aN tG (aN sQ (ai 3) (ai 0)) (ai 2)))) (aL 0) [some (.sh (.int (cs.length:Int))),some (.sh (.int c)),some (.sh (.list (cs.map D.int)))] (row.map D.int)=some ((cl row cs c).map fun n=>.sh (.int n)):=by
 rw [Z.iy (fun d=>match d with|.int t=>hs cs c t|_=>false) (fun d=>.sh d)]
 .rw [List.filter_map,mPq];rfl
 .intro d hd;obtain ⟨t,ht,rfl⟩:=mMq.mp hd;refine ⟨[some (.sh (.int t)),some (.sh (.int (cs.length:Int))),some (.sh (.int c)),some (.sh (.list (cs.map D.int)))],?_,fun _=>⟨[some (.sh (.int t)),some (.sh (.int (cs.length:Int))),some (.sh (.int c)),some (.sh (.list (cs.map D.int)))],?_⟩⟩
  .by_cases h:t<(cs.length:Int)
   .have e:=xN (hr t ht) h
    simp_arith [h,e,hs]
    rw [Bool.true_and]
   .simp_arith [h,hs]
    rw [Bool.false_and]
  .simp_arith []
theorem xP {l l' r:List Int}{x:Int}(hs:l.Pairwise (·<=·)) (hm:∀ t,t∈l'↔t∈l) (e:l=x::r):eI l' = .int x:=by
 subst e;cases l' with
 | nil=>exact absurd ((hm x).mpr (List.mem_cons_self ..)) (by simp)
 | cons n ns =>
  have h1:=oe ns n;obtain ⟨h2,h3⟩:=qt ns n;show D.int (ns.foldl min n)=D.int x;congr 1;have a1:x<=ns.foldl min n:=by
   rcases List.mem_cons.mp ((hm _).mp h1) with z|z
   .lia
   .exact (List.pairwise_cons.mp hs).1 _ z
  have a2:ns.foldl min n<=x:=by
   rcases List.mem_cons.mp ((hm x).mpr (List.mem_cons_self ..)) with z|z
   .rw [z];exact h2
   .exact h3 x z
  lia
def mK (nrL:List (List Int)) (many:Nat) (cs:List Int) (T:List D) (v5 v6 v7:Option AV):AS:=[some (.sh (dM nrL)),some (.sh (.int (many:Int))),some (.sh (dI cs)),some (.sh (.list T)),some (.sh (.int (cs.length:Int))),v5,v6,v7]
theorem Ea {nrL:List (List Int)}{many:Nat}{row rowL cs:List Int}{T ts:List D}{fm:MF}{c:Nat}{v7:Option AV}(hd:nrL[cs.length]?=some rowL) (hr:∀ t∈rowL,0<=t) (hrl:rowL.length<=1000) (hso:rowL.Pairwise (·<=·)) (hm:∀ t,t∈row↔t∈rowL) (hc:cs.length<=50)
  (hf:ok row cs (c:Int)=true->fm [dM nrL,.int (many:Int),dI (cs++[(c:Int)]),.list ts]=some (.sh (.bl true))) :
  ∃ v7',cU fm (mK nrL many cs T (some (.sh (.int (c:Int)))) (some (.sh (va row cs (c:Int) ts))) v7)=some (.nx (mK nrL many cs T (some (.sh (.int (c:Int)))) (some (.sh (va row cs (c:Int) ts))) v7')):=by
 have at1:atI (nrL.map dI) (cs.length:Int)=some (dI rowL):=fM (by rw [gMq,hd];rfl)
 have cc:=EI (row:=rowL) (cs:=cs) (c:=(c:Int)) hr;have l1:rowL.length<=eG:=fE (by lia)
 have s1:∀ ds:List D,mC [.tup ds,.ty "tuple"]=some (.bl true):=fun ds=>rfl
 have n2:pP (.int ((0+1+1:Nat):Int)) (.int 2)=some (.bl false):=rfl;have i0:∀ d:D,bW (.tup [D.int (c:Int),d]) (.int 0)=some (.int (c:Int)):=fun d=>rfl
 have i1:∀ d:D,bW (.tup [D.int (c:Int),d]) (.int 1)=some d:=fun d=>rfl
 have wc:=kR (c:Int);have dn:∀ i:Int,pP (.int i) (.int i)=some (.bl false):=fun i=>by rw [kX];simp
 have hok:=EU (row:=row) (row':=rowL) (cs:=cs) hm (c:Int);have sl:=cv (cl rowL cs (c:Int));have q:cs.map D.int++[D.int (c:Int)]=(cs++[(c:Int)]).map D.int:=by rw [mBq];rfl
 have l2:cs.length+1<=eG:=fE (by lia)
 by_cases k:ok row cs (c:Int)=true
 .have e:=hf k;have hb:va row cs (c:Int) ts = .tup [.int (c:Int),.list ts]:=by unfold va;rw [if_pos k]
  rw [hb];rw [hok] at k;have k0:cl rowL cs (c:Int)=[]:=of_decide_eq_true k;rw [k0] at cc;have dt:rH (.list [])=some false:=rfl;refine ⟨some (.ow []),?_⟩
  simp_arith [cU,mK,s1,n2,i0,wc,dn,dM,at1,cc,l1,dt,q,l2,i1,e]
 .have hb:va row cs (c:Int) ts = .tup [.int (c:Int),eI (cl row cs (c:Int))]:=by unfold va;rw [if_neg k]
  rw [hok] at k;have k0:cl rowL cs (c:Int)≠[]:=fun z=>k (decide_eq_true z)
  obtain ⟨x,r,hx⟩:∃ x r,cl rowL cs (c:Int)=x::r:=by
   cases hz:cl rowL cs (c:Int) with
   | nil=>exact absurd hz k0
   | cons x r=>exact ⟨x,r,rfl⟩
  have hmc:∀ t,t∈cl row cs (c:Int)↔t∈cl rowL cs (c:Int):=fun t=>by
   unfold cl;rw [List.mem_filter,List.mem_filter,hm]
  have lh:=xP (l:=cl rowL cs (c:Int)) (hso.filter _) hmc hx;rw [hb,lh];rw [hx] at cc sl;have dt:∀ X:List D,rH (.list (D.int x::X))=some true:=fun X=>rfl
  have at0:∀ X:List D,atI (D.int x::X) 0=some (.int x):=fun X=>fM (j:=0) rfl
  have wx:=kR x;refine ⟨some (aI (x::r)),?_⟩
  simp_arith [cU,mK,s1,n2,i0,wc,dn,dM,at1,cc,l1,sl,dt,i1,wx,at0]
  rfl
noncomputable def hA:Nat->MF
 | 0=>Z.rF
 | d+1=>aQ (hA d)
theorem J8:dq=hA 10:=rfl
structure JS (nrL nrP:List (List Int)):Prop where
 two:FR nrL nrP
 np:Nr nrP
 row:∀ r∈nrL,(∀ t∈r,0<=t)/\r.length<=1000/\r.Pairwise (·<=·)
theorem FJ {nrL nrP:List (List Int)}(hN:JS nrL nrP) {many:Nat}(hm:many<=100):∀ (d:Nat) (cs:List Int),cs.length<=nrP.length->nrP.length<cs.length+d->dj many (nrP.drop cs.length) cs=[]->hA d [dM nrL,.int (many:Int),dI cs,.list (tr many (nrP.drop cs.length) cs)]=some (.sh (.bl true))
 | 0,cs,h1,h2,_=>by lia
 | d+1,cs,h1,h2,h3=>by
  have hl:=hN.np.len;have hlt:cs.length<nrP.length:=by
   by_cases k:cs.length<nrP.length
   .exact k
   .rw [List.drop_of_length_le (by lia)] at h3
    cases h3
  have hd:=gEg hlt;have hltL:cs.length<nrL.length:=by rw [hN.two.len];exact hlt
  have hdL:=gEg hltL;have hmem:=hN.two.mem cs.length _ _ hdL hd;have hrow:=hN.row _ (mGq hdL);rw [List.drop_eq_getElem_cons hlt] at h3 ⊢;generalize nrP[cs.length]=row at hd h3 hmem;generalize nrL[cs.length]=rowL at hdL hmem hrow;have h3':(ext many row cs).flatMap (dj many (nrP.drop (cs.length+1)))=[]:=h3;have hf:∀ c∈mN cs many,ok row cs c=true->hA d [dM nrL,.int (many:Int),dI (cs++[c]),.list (tr many (nrP.drop (cs.length+1)) (cs++[c]))]=some (.sh (.bl true)):=fun c hc hk=>by
   have:=FJ hN hm d (cs++[c]) (by rw [lAq,lSq];lia) (by rw [lAq,lSq];lia) (by
    rw [lAq,lSq];exact mZ h3' (mMq.mpr ⟨c,List.mem_filter.mpr ⟨hc,hk⟩,rfl⟩))
   rw [lAq,lSq] at this;exact this
  have la:=uS cs many;have hal:(mN cs many).length=min many ((Ms.dd cs).length+1):=by unfold mN;rw [tY]
  have hT:tr many (row::nrP.drop (cs.length+1)) cs=(mN cs many).map fun c=>va row cs c (tr many (nrP.drop (cs.length+1)) (cs++[c])):=rfl
  have lT:(tr many (row::nrP.drop (cs.length+1)) cs).length=min many ((Ms.dd cs).length+1):=by rw [hT,lMq,hal]
  generalize hTT:tr many (row::nrP.drop (cs.length+1)) cs=T at hT lT;have key:=tx (x:=5) (y:=6) (k:=0) (body:=cU (hA d)) (fun i S=>∃ v5 v6 v7,S=mK nrL many cs T v5 v6 v7) (ds:=T) (S:=mK nrL many cs T none none none) ⟨none,none,none,rfl⟩ (by
   rintro i dd S hdd ⟨v5,v6,v7,rfl⟩;rw [Nat.zero_add];have hi:=(gSq.mp hdd).1;rw [lT] at hi;have ha:(mN cs many)[i]?=some (i:Int):=by unfold mN;exact HX hi
   rw [hT,gMq,ha] at hdd;cases hdd;obtain ⟨v7',e⟩:=Ea (many:=many) (T:=T) (ts:=tr many (nrP.drop (cs.length+1)) (cs++[(i:Int)])) (fm:=hA d) (c:=i) (v7:=v7) hdL hrow.1 hrow.2.1 hrow.2.2 (fun t=>(hmem t).symm) (by lia) (hf _ (mGq ha))
   exact ⟨_,e,_,_,v7',rfl⟩)
  obtain ⟨S',e,v5,v6,v7,rfl⟩:=key;unfold mK at e;have ne:decide ((cs.length:Int)=(nrL.length:Int))=false:=decide_eq_false (by lia)
  have l1:cs.length<=4000:=by lia
  have e1:((Ms.dd cs).length:Int)+1=(((Ms.dd cs).length+1:Nat):Int):=by lia
  have mn:nP [.int (many:Int),.int (((Ms.dd cs).length+1:Nat):Int)]=some (.int ((min many ((Ms.dd cs).length+1):Nat):Int)):=by
   rw [oh,uO]
  have dn:pP (.int (T.length:Int)) (.int ((min many ((Ms.dd cs).length+1):Nat):Int))=some (.bl false):=by rw [lT,kX];simp
  show aQ (hA d) _=_
  simp_arith [aQ,jN,dM,dI,ne,rK,l1,e1,mn,dn,e]
theorem mX {many:Nat}:∀ {rows:List (List Int)}{cs l:List Int},l∈dj many rows cs->l.take cs.length=cs/\∀ (i:Nat) (row:List Int),rows[i]?=some row->∃ c,l[cs.length+i]?=some c/\c∈mN (l.take (cs.length+i)) many/\ok row (l.take (cs.length+i)) c=true
 | [],cs,l,h=>by
  rw [mSq.mp h];exact ⟨List.take_length,fun i row hr=>by simp at hr⟩
 | row::rows,cs,l,h=>by
  obtain ⟨cs',h1,h2⟩:=List.mem_flatMap.mp h;obtain ⟨c,hc,rfl⟩:=mMq.mp h1;obtain ⟨c1,c2⟩:=List.mem_filter.mp hc;obtain ⟨i1,i2⟩:=mX h2;rw [lAq,lSq] at i1 i2;have ht:l.take cs.length=cs:=by
   have:=congrArg (fun x=>x.take cs.length) i1
   simp only [List.take_take] at this;rw [Nat.min_eq_left (by lia),List.take_left' rfl] at this
   exact this
  have hg:l[cs.length]?=some c:=by
   have h3:(l.take (cs.length+1))[cs.length]?=some c:=by rw [i1,List.getElem?_concat_length]
   rwa [List.getElem?_take_of_lt (by lia)] at h3
  refine ⟨ht,fun i r hr=>?_⟩
  cases i with
  | zero =>
   simp only [List.getElem?_cons_zero,Option.some.injEq] at hr;subst hr;rw [Nat.add_zero,ht];exact ⟨c,hg,c1,c2⟩
  | succ i =>
   have:=i2 i r (by simpa using hr)
   rwa [show cs.length+1+i=cs.length+(i+1) by lia] at this
structure FP (nrL:List (List Int)) (many:Nat) (l:List Int):Prop where
 len:l.length=nrL.length
 col:∀ (p:Nat) (c:Int),l[p]?=some c->0<=c/\c<(many:Int)/\c<=((Ms.dd (l.take p)).length:Int)
 no:∀ (p:Nat) (c:Int) (r:List Int),l[p]?=some c->nrL[p]?=some r->∀ t∈r,0<=t/\t.toNat<l.length/\l.getD t.toNat 0≠c
theorem Jr {M:List (List Int)}(mp:Mp M) (lM:M.length<=8) {many:Nat}{l:List Int}(h:l∈dj many (K61.pL M 0 M) []):FP (mO M 0 M) many l:=by
 have hp:=sW mp;have ll:=jl h;rw [List.length_nil,Nat.zero_add] at ll;have i2:=(mX h).2;simp only [List.length_nil,Nat.zero_add] at i2;have low:∀ {p t:Nat}{c:Int}{r:List Int},l[p]?=some c->(mO M 0 M)[p]?=some r->(t:Int)∈r->t<p->l.getD t 0≠c:=fun {p t c r} hc hr ht hlt e=>by
  have hpl:=(gSq.mp hr).1;rw [hp.len] at hpl;have hd:=gEg hpl;obtain ⟨c',h1,_,h3⟩:=i2 p _ hd;rw [hc] at h1;cases h1;have hpl2:=(gSq.mp hc).1;have:=List.filter_eq_nil_iff.mp (of_decide_eq_true h3) (t:Int) ((hp.mem p _ _ hr hd _).mp ht);refine this ?_;unfold hs;rw [lTq,Nat.min_eq_left (by lia),decide_eq_true (by lia),Bool.true_and]
  refine decide_eq_true ?_;rw [Int.toNat_natCast,gDq,List.getElem?_take_of_lt hlt,← gDq];exact e
 refine ⟨by rw [ll,hp.len],fun p c hc=>?_,fun p c r hc hr t ht=>?_⟩
 .have hpl:=(gSq.mp hc).1;have hd:=gEg (show p<(K61.pL M 0 M).length by lia)
  obtain ⟨c',h1,h2,_⟩:=i2 p _ hd;rw [hc] at h1;cases h1;unfold mN dZ at h2;obtain ⟨k,hk,rfl⟩:=mMq.mp h2;have:=List.mem_range.mp hk;lia
 .obtain ⟨j,s,rfl,hne,hj,hm⟩:=BO mp hr ht;have hjl:=(gSq.mp hj).1;rw [hp.len,← ll] at hjl;refine ⟨by lia,by rw [Int.toNat_natCast];exact hjl,?_⟩
  rw [Int.toNat_natCast]
  by_cases hlt:j<p
  .exact low hc hr ht hlt
  .have hcj:=gEg hjl;have h4:=low hcj hj hm (by lia)
   intro e;refine h4 ?_;rw [gDq,hc];rw [gDq,hcj] at e;exact e.symm
theorem JH {nrL:List (List Int)}{many:Nat}{l:List Int}(h:FP nrL many l) (hn:nrL.length<=8):cL [dM nrL,.int (many:Int),dI l]=some (.sh (.bl true)):=by
 have hl:=h.len;have key:=tx (x:=3) (y:=4) (k:=0) (body:=fK) (fun i S=>∃ v3 v4 v5,S=[some (.sh (dM nrL)),some (.sh (.int (many:Int))),some (.sh (dI l)),v3,v4,v5]) (ds:=l.map D.int) (S:=[some (.sh (dM nrL)),some (.sh (.int (many:Int))),some (.sh (dI l)),none,none,none]) ⟨none,none,none,rfl⟩ (by
  rintro i d S hd ⟨v3,v4,v5,rfl⟩;rw [gMq] at hd;obtain ⟨c,hc,rfl⟩:=oMq.mp hd;rw [Nat.zero_add];have hi:=(gSq.mp hc).1;obtain ⟨c0,c1,c2⟩:=h.col i c hc;have hr:=gEg (show i<nrL.length by lia)
  have hno:=h.no i c _ hc hr;generalize nrL[i]=r at hr hno;have inner:∃ v5',dX 5 dY (r.map D.int) [some (.sh (dM nrL)),some (.sh (.int (many:Int))),some (.sh (dI l)),some (.sh (.int (i:Int))),some (.sh (.int c)),v5]=some (.nx [some (.sh (dM nrL)),some (.sh (.int (many:Int))),some (.sh (dI l)),some (.sh (.int (i:Int))),some (.sh (.int c)),v5']):=by
   have k2:=jM (x:=5) (body:=dY) (fun j S=>∃ v5,S=[some (.sh (dM nrL)),some (.sh (.int (many:Int))),some (.sh (dI l)),some (.sh (.int (i:Int))),some (.sh (.int c)),v5]) (ds:=r.map D.int) (S:=[some (.sh (dM nrL)),some (.sh (.int (many:Int))),some (.sh (dI l)),some (.sh (.int (i:Int))),some (.sh (.int c)),v5]) ⟨v5,rfl⟩ (by
    rintro j d S hd ⟨v5,rfl⟩;rw [gMq] at hd;obtain ⟨t,ht,rfl⟩:=oMq.mp hd;obtain ⟨t0,t1,t2⟩:=hno t (mGq ht);have at1:=xN (cs:=l) t0 (by lia)
    have ne:decide (l.getD t.toNat 0=c)=false:=decide_eq_false t2;refine ⟨[some (.sh (dM nrL)),some (.sh (.int (many:Int))),some (.sh (dI l)),some (.sh (.int (i:Int))),some (.sh (.int c)),some (.sh (.int t))],?_,_,rfl⟩
    simp_arith [dY,at1,ne])
   obtain ⟨S',e,v5',rfl⟩:=k2;exact ⟨v5',e⟩
  obtain ⟨v5',e⟩:=inner;have wc:=kR c;have le0:decide ((0:Int)<=c)=true:=decide_eq_true c0;have lt1:decide (c<(many:Int))=true:=decide_eq_true c1;have ct:=yW l i (by lia)
  have l1:(l.take i).length<=4000:=by rw [lTq];lia
  have gt:decide (((Ms.dd (l.take i)).length:Int)<c)=false:=decide_eq_false (by lia)
  have at2:atI (nrL.map dI) (i:Int)=some (dI r):=fM (by rw [gMq,hr];rfl)
  have ch:∀ S:AS,S[4]?.join=some (.sh (.int c))->S[1]?.join=some (.sh (.int (many:Int)))->D3 Jq BP (rC (.int 0)) (ai 4) (ai 1) S=some (.bl true,S):=fun S h4 h1=>by
   simp_arith [Jw,h4,h1,le0,lt1]
  refine ⟨[some (.sh (dM nrL)),some (.sh (.int (many:Int))),some (.sh (dI l)),some (.sh (.int (i:Int))),some (.sh (.int c)),v5'],?_,_,_,_,rfl⟩
  simp_arith [fK,wc,ch,qF,ct,rK,l1,gt,dM,at2,e])
 obtain ⟨S',e,v3,v4,v5,rfl⟩:=key;have dn:pP (.int (l.length:Int)) (.int (nrL.length:Int))=some (.bl false):=by rw [hl,kX];simp
 simp_arith [cL,jS,dM,dI,dn,e]
end K73
--ZQ3 --ZQ4 --ZQ5 --ZQ6 --ZQ8 --ZQ9 --ZQB --ZQC --ZQD --ZQE --ZQF --ZQG
namespace K73
open PySem L2 Mr Z Xe Zl K72 K75
theorem kz {n:Nat}{ds:List D}(h:∀ d∈ds,∃ p,lO n d p):∃ ps:List PyData,ds.length=ps.length/\∀ (i:Nat) (d:D) (p:PyData),ds[i]?=some d->ps[i]?=some p->lO n d p:=by
 induction ds with
 | nil=>exact ⟨[],rfl,fun i d p h=>by simp at h⟩
 | cons x ds ih =>
  obtain ⟨p,hp⟩:=h x (List.mem_cons_self ..);obtain ⟨ps,h1,h2⟩:=ih fun d hd=>h d (mCo _ hd)
  refine ⟨p::ps,by simp [h1],fun i d q a b=>?_⟩
  cases i with
  | zero =>
   simp only [List.getElem?_cons_zero,Option.some.injEq] at a b;subst a b;exact hp
  | succ i=>exact h2 i d q (by simpa using a) (by simpa using b)
theorem qu (n:Nat) (l:List Int):∃ p,lO (n+1) (dI l) p:=by
 obtain ⟨ps,h1,h2⟩:=kz (n:=n) (ds:=l.map D.int) fun d hd=>by
  obtain ⟨i,_,rfl⟩:=mMq.mp hd;exact ⟨_,.int⟩
 exact ⟨_,.list h1 h2⟩
theorem Dv {n:Nat}{a b:D}(ha:∃ p,lO n a p) (hb:∃ p,lO n b p):∃ p,lO (n+1) (.tup [a,b]) p:=by
 obtain ⟨ps,h1,h2⟩:=kz (n:=n) (ds:=[a,b]) fun d hd=>by
  simp only [List.mem_cons,List.not_mem_nil,or_false] at hd;rcases hd with rfl|rfl
  .exact ha
  .exact hb
 exact ⟨_,.tup h1 h2⟩
theorem zX (n:Nat) (l:List Int):∃ p,lO n (eI l) p:=by
 cases l with
 | nil=>exact ⟨_,.non⟩
 | cons x l=>exact ⟨_,.int⟩
theorem CN {many:Nat}:∀ (rows:List (List Int)) (cs:List Int),∃ p,lO (2*rows.length+1) (.list (tr many rows cs)) p
 | [],cs=>by
  obtain ⟨ps,h1,h2⟩:=kz (n:=0) (ds:=[]) fun d hd=>by cases hd
  exact ⟨_,.list h1 h2⟩
 | row::rows,cs=>by
  obtain ⟨ps,h1,h2⟩:=kz (n:=2*rows.length+2) (ds:=tr many (row::rows) cs) fun d hd=>by
   obtain ⟨c,_,rfl⟩:=mMq.mp (show d∈(mN cs many).map fun c=>va row cs c (tr many rows (cs++[c])) from hd)
   unfold va;refine Dv (n:=2*rows.length+1) ⟨_,.int⟩ ?_;split
   .exact CN rows (cs++[c])
   .exact zX _ _
  exact ⟨.list ps,(lO.list h1 h2:lO (2*rows.length+2+1) _ _)⟩
theorem A6 {M:List (List Int)}(mp:Mp M) (lM:M.length<=8):JS (mO M 0 M) (K61.pL M 0 M):=by
 refine ⟨sW mp,yD mp lM,fun r hr=>?_⟩
 obtain ⟨i,hi⟩:=List.mem_iff_getElem?.mp hr;obtain ⟨q,h1,rfl⟩:=uP hi;refine ⟨fun t ht=>?_,?_,?_⟩
 .obtain ⟨e,_,_,rfl⟩:=uj.mp ht;lia
 .unfold zc FE;rw [(iW _).length_eq];refine Nat.le_trans (Ms.uW _) ?_;rw [lMq];exact Nat.le_trans (List.length_filter_le _ _) (mp.row h1)
 .exact oY _
noncomputable def tl:MS:=(aG (bz 2 (kSc (aN eU (aN kc (cN Zl.az (aj (ai 0) (aj (rC (.int 0)) aE))) (rC (.int 3))) (rC (.int 9)))))
 (aG (bz 3 (bV K72.iq (aC (aL 1) bF)))
 (aG (bz 4 (bV K51.gU (aC (aL 1) bF)))
 (aG (bz 5 (bV K72.cZ (aC (aL 4) (aC (aL 2) bF))))
 (aG (jR (iX (fh (eM (cN K72.jg (aj (ai 5) aE)))) (iX (eM (aN A7 (rOf (bV K72.cZ (aC (aL 4) (aC (aL 2) bF)))) (ai 5))) (eM (aN Af (ai 4) (ai 1))))) (cB (kSc (rC (.bl false)))) cu)
 (aG (jR (eM (aN tG (aN bW (ai 5) (rC (.int 0))) (rC (.str "colours")))) (cB (kSc (cN K73.cL (aj (ai 3) (aj (ai 2) (aj (aN bW (ai 5) (rC (.int 1))) aE)))))) cu)
 (cB (kSc (cN K73.dq (aj (ai 3) (aj (ai 2) (aj (rOf (gF bF)) (aj (aN bW (ai 5) (rC (.int 1))) aE)))))))))))))
end K73
--ZQ3 --ZQ4 --ZQ5 --ZQ6 --ZQ8 --ZQ9 --ZQB --ZQC --ZQD --ZQE --ZQF --ZQG
namespace K74
open PySem L2 Mr Z Xe Zl K72 K75 K73
theorem kZ {cs:List Int}{many:Nat}{c:Int}:c∈mN cs many↔0<=c/\c<(many:Int)/\c<=((Ms.dd cs).length:Int):=by
 unfold mN dZ;constructor
 .intro h;obtain ⟨k,hk,rfl⟩:=mMq.mp h;have:=List.mem_range.mp hk;lia
 .rintro ⟨h1,h2,h3⟩;exact mMq.mpr ⟨c.toNat,List.mem_range.mpr (by lia),by lia⟩
theorem tZ {many:Nat}:∀ {rows:List (List Int)}{cs l:List Int},l.length=cs.length+rows.length->l.take cs.length=cs->(∀ (i:Nat) (row:List Int),rows[i]?=some row->∃ c,l[cs.length+i]?=some c/\c∈mN (l.take (cs.length+i)) many/\ok row (l.take (cs.length+i)) c=true)->l∈dj many rows cs
 | [],cs,l,hl,ht,_=>by
  rw [List.take_of_length_le (by simp at hl;lia)] at ht
  rw [ht];exact mSq.mpr rfl
 | row::rows,cs,l,hl,ht,h=>by
  rw [lCq] at hl;obtain ⟨c,h1,h2,h3⟩:=h 0 row rfl;rw [Nat.add_zero] at h1 h2 h3;have ht2:l.take (cs.length+1)=cs++[c]:=by rw [List.take_add_one,h1,ht];rfl
  rw [ht] at h2 h3;refine List.mem_flatMap.mpr ⟨cs++[c],mMq.mpr ⟨c,List.mem_filter.mpr ⟨h2,h3⟩,rfl⟩,?_⟩;refine tZ (by rw [lAq,lSq];lia) (by rw [lAq,lSq];exact ht2) fun i r hr=>?_
  have:=h (i+1) r (by simpa using hr)
  rw [lAq,lSq]
  rwa [show cs.length+(i+1)=cs.length+1+i by lia] at this
theorem Jk {a b:List Int}(h:∀ x∈a,x∈b):(Ms.dd a).length<=(Ms.dd b).length :=
 B7 _ _ (Ms.DA a) fun x hx=>Ms.mh.mpr (h x (Ms.mh.mp hx))
theorem FG {l:List Int}(h:∀ (p:Nat) (c:Int),l[p]?=some c->c<=((Ms.dd (l.take p)).length:Int)):∀ p,∀ x∈l.take p,x<((Ms.dd (l.take p)).length:Int)
 | 0,x,hx=>by rw [List.take_zero] at hx;cases hx
 | p+1,x,hx=>by
  have ih:=FG h p;cases hc:l[p]? with
  | none =>
   rw [List.take_add_one,hc] at hx ⊢;rw [Option.toList_none,aNq] at hx ⊢;exact ih x hx
  | some c =>
   have c1:=h p c hc;rw [List.take_add_one,hc] at hx ⊢;show x<((Ms.dd (l.take p++[c])).length:Int);rw [Ms.zf];unfold Ms.jU;have hx':x∈l.take p∨x=c:=by
    rcases mAq.mp hx with z|z
    .exact .inl z
    .exact .inr (by simpa using z)
   split
   .rename_i hm;rcases hx' with z|z
    .exact ih x z
    .rw [z];exact ih c (Ms.mh.mp hm)
   .rw [lAq,lSq];rcases hx' with z|z
    .have:=ih x z;lia
    .lia
section
variable {nr:List (List Int)}{k:Nat}{l:List Int}
theorem Bi.mem (h:Bi nr k l):l∈dj k nr []:=List.mem_of_mem_head? h.hd
theorem more {many:Nat}(hk:k<=many) (h:l∈dj k nr []):l∈dj many nr []:=by
 obtain ⟨h1,h2⟩:=mX h;refine tZ (jl h) h1 fun i row hr=>?_
 obtain ⟨c,e1,e2,e3⟩:=h2 i row hr;have:=kZ.mp e2;exact ⟨c,e1,kZ.mpr ⟨this.1,by lia,this.2.2⟩,e3⟩
theorem Bi.dd (h:Bi nr k l):(Ms.dd l).length=k:=by
 have hm:=Bi.mem h;obtain ⟨h1,h2⟩:=mX hm;have hl:=jl hm;rw [List.length_nil,Nat.zero_add] at hl;simp only [List.length_nil,Nat.zero_add] at h2;have col:∀ (p:Nat) (c:Int),l[p]?=some c->c∈mN (l.take p) k:=fun p c hc=>by
  have hp:=(gSq.mp hc).1;obtain ⟨c',e1,e2,_⟩:=h2 p _ (gEg (show p<nr.length by lia))
  rw [hc] at e1;cases e1;exact e2
 have ca:=FG (l:=l) fun p c hc=>(kZ.mp (col p c hc)).2.2
 have le:(Ms.dd l).length<=k:=by
  have:=B7 (Ms.dd l) (dZ k) (Ms.DA l) fun x hx=>by
   obtain ⟨p,hp⟩:=List.mem_iff_getElem?.mp (Ms.mh.mp hx);have:=kZ.mp (col p x hp);exact mMq.mpr ⟨x.toNat,List.mem_range.mpr (by lia),by lia⟩
  rwa [tY] at this
 by_cases c:(Ms.dd l).length=k
 .exact c
 .exfalso;have h0:=h.lt (Ms.dd l).length (by lia)
  have:l∈dj (Ms.dd l).length nr []:=by
   refine tZ (jl hm) h1 fun i row hr=>?_
   rw [List.length_nil,Nat.zero_add];obtain ⟨c,e1,e2,e3⟩:=h2 i row hr;have a:=kZ.mp e2;refine ⟨c,e1,kZ.mpr ⟨a.1,?_,a.2.2⟩,e3⟩;have i1:=ca (i+1) c (by rw [List.take_add_one,e1];simp)
   have i2:=Jk (a:=l.take (i+1)) (b:=l) fun x hx=>List.mem_of_mem_take hx
   lia
  rw [h0] at this;cases this
end
theorem JQ (k:Nat):∃ n p,lO n (.tup [.int (k:Int),.list [],.list []]) p/\n<=64:=by
 obtain ⟨ps,h1,h2⟩:=kz (n:=1) (ds:=[.int (k:Int),.list [],.list []]) fun d hd=>by
  simp only [List.mem_cons,List.not_mem_nil,or_false] at hd;rcases hd with rfl|rfl|rfl
  .exact ⟨_,.int⟩
  .exact qu 0 []
  .exact qu 0 []
 exact ⟨2,_,.tup h1 h2,by decide⟩
theorem BG {M:List (List Int)}(mp:Mp M) (lM:M.length<=8) {k:Nat}{l:List Int}(hL:Bi (K61.pL M 0 M) k l):cC [dM M,.tup [.int (k:Int),dI l,mw (K61.pL M 0 M) k]]=some (.sh (.bl true)):=by
 have nr:=E7 mp;have hN:=A6 mp lM;have sN:((mO M 0 M).map aI).map aB=(mO M 0 M).map dI:=by rw [mPq];exact mCq fun r _=>cv r
 have nlen:=K61.nH M M 0;have nlenL:=nC M M 0;have hm:=Bi.mem hL;have hp:=Jr mp lM hm;have lh:=JH hp (by lia)
 have ll:=jl hm;rw [List.length_nil,Nat.zero_add] at ll;have hdd:=Bi.dd hL;have wk:=kR (k:Int);have s1:∀ ds:List D,mC [.tup ds,.ty "tuple"]=some (.bl true):=fun ds=>rfl
 have n3:pP (.int ((0+1+1+1:Nat):Int)) (.int 3)=some (.bl false):=rfl;have i0:∀ a b:D,bW (.tup [D.int (k:Int),a,b]) (.int 0)=some (.int (k:Int)):=fun a b=>rfl
 have i1:∀ a b:D,bW (.tup [D.int (k:Int),a,b]) (.int 1)=some a:=fun a b=>rfl
 have i2:∀ a b:D,bW (.tup [D.int (k:Int),a,b]) (.int 2)=some b:=fun a b=>rfl
 have ki:∀ (a b:D) (S:AS),S[1]?.join=some (.sh (.tup [D.int (k:Int),a,b]))->wt (aL 1) (rC (.int 1)) S=some (.sh a,S.set 1 (some (.sh (.tup [D.int (k:Int),a,b])))):=fun a b S h=>by
  show ((aL 1 S).bind fun x=>_)=_
  rw [yy,h];rfl
 have l4:l.length<=4000:=by lia
 have dn:pP (.int (k:Int)) (.int (k:Int))=some (.bl false):=by rw [kX];simp
 by_cases hM:M=[]
 .subst hM;have k0:k=0:=by
   by_cases z:k=0
   .exact z
   .have:=hL.lt 0 (by lia)
    cases this
  subst k0;have l0:l=[]:=List.length_eq_zero_iff.mp (by rw [ll];rfl)
  subst l0;have dt:rH (.list [])=some false:=rfl;have pv:mw (K61.pL [] 0 []) 0 = .list []:=rfl;have es:HH (.tup [.int 0,.list [],.list []]) (.tup [.int 0,.list [],.list []])=some (.bl true):=dW ⟨rfl,JQ 0⟩ _;have nr':iq [.list []]=some (.ow []):=nr;have lh':cL [.list [],.int 0,.list []]=some (.sh (.bl true)):=lh;have z0:((0:Nat):Int)=0:=rfl;have i0':∀ a b:D,bW (.tup [D.int 0,a,b]) (.int 0)=some (.int 0):=fun a b=>rfl
  have i1':∀ a b:D,bW (.tup [D.int 0,a,b]) (.int 1)=some a:=fun a b=>rfl
  have ki':∀ (S:AS),S[1]?.join=some (.sh (.tup [D.int 0,.list [],.list []]))->wt (aL 1) (rC (.int 1)) S=some (.sh (.list []),S.set 1 (some (.sh (.tup [D.int 0,.list [],.list []])))):=ki (.list []) (.list []);have wk':K75.cS [.int 0]=some (.sh (.bl true)):=wk;have d0:Ms.dd []=[]:=rfl;have io:cM []=some []:=rfl;have dn':pP (.int 0) (.int 0)=some (.bl false):=rfl;rw [pv]
  simp_arith [cC,fW,dM,dI,nr',s1,n3,i0',wk',lh',i1',ki',rK,io,d0,z0,dn',dt,es]
 .have k1:0<k:=by
   by_cases z:0<k
   .exact z
   .have:k=0:=by lia
    subst this;cases hz:K61.pL M 0 M with
    | nil=>rw [hz] at nlen;exact absurd (List.length_eq_zero_iff.mp nlen.symm) hM
    | cons r rs =>
     rw [hz] at hm;cases hm
  obtain ⟨F,rfl⟩:∃ F,k=F+1:=⟨k-1,by lia⟩
  have pe:mw (K61.pL M 0 M) (F+1) = .list (tr F (K61.pL M 0 M) []):=rfl;have kle:=hL.le;have th:=FJ hN (many:=F) (by lia) 10 [] (Nat.zero_le _) (by simp;lia) (hL.lt F (by lia))
  rw [← J8] at th;have th':dq [dM (mO M 0 M),.int (F:Int),.list [],.list (tr F (K61.pL M 0 M) [])]=some (.sh (.bl true)):=th;rw [pe];have dt:rH (.list (M.map dI))=some true:=by
   cases M with
   | nil=>exact absurd rfl hM
   | cons r M=>rfl
  have gt:decide ((0:Int)<((F+1:Nat):Int))=true:=decide_eq_true (by lia)
  have eF:((F+1:Nat):Int)-1=(F:Int):=by lia
  generalize tr F (K61.pL M 0 M) []=T at th';have ki':=ki (dI l) (.list T);generalize mO M 0 M=L at nr sN lh th'
  simp_arith [cC,fW,dM,nr,s1,n3,i0,wk,sN,i1,lh,ki',dI,rK,l4,hdd,dn,dt,gt,eF,i2,th']
end K74
--ZQ3 --ZQ4 --ZQ5 --ZQ6 --ZQ8 --ZQ9 --ZQB --ZQC --ZQD --ZQE --ZQF --ZQG
namespace K74
open PySem L2 Mr Z Xe Zl K72 K75 K73
def lst (ns:List Int) (M:List (List Int)) (s1:Option AV) (f3:D) (v4 v5 v6:Option AV):AS:=[some (.sh (.scr ns)),s1,some (.sh (dM M)),some (.sh f3),v4,v5,v6]
theorem D2 {ns:List Int}{M nr:List (List Int)}{s1:Option AV}{k i:Nat}{l:List Int}(hL:Bi nr k l) (hn:nr.length<=8) (tt:cZ [dM M,.int (i:Int)]=some (.sh (pE nr i))) {v5 v6:Option AV} :
  ∃ v5' v6',gm (lst ns M s1 (.tup [.int (k:Int),dI l,mw nr k]) (some (.sh (.int (i:Int)))) v5 v6)=some (.nx (lst ns M s1 (.tup [.int (k:Int),dI l,mw nr k]) (some (.sh (.int (i:Int)))) v5' v6')):=by
 have j0:∀ a b:D,bW (.tup [D.int (k:Int),a,b]) (.int 0)=some (.int (k:Int)):=fun a b=>rfl
 have j1:∀ a b:D,bW (.tup [D.int (k:Int),a,b]) (.int 1)=some a:=fun a b=>rfl
 have j2:∀ a b:D,bW (.tup [D.int (k:Int),a,b]) (.int 2)=some b:=fun a b=>rfl
 by_cases c:i<k
 .have h0:=hL.lt i c;rw [sL h0] at tt;have lt:decide ((i:Int)<(k:Int))=true:=decide_eq_true (by lia)
  have i0:∀ T:List D,bW (.tup [D.str "none", .list T]) (.int 0)=some (.str "none"):=fun T=>rfl
  have i1:∀ T:List D,bW (.tup [D.str "none", .list T]) (.int 1)=some (.list T):=fun T=>rfl
  have tl:=rE (w := "none") (ds:=tr i nr []) (.inr rfl);have dn:pP (.str "none") (.str "none")=some (.bl false):=rfl;have e1:decide ((i:Int)=(k:Int))=false:=decide_eq_false (by lia)
  by_cases c2:i+1=k
  .have e2:decide ((i:Int)=(k:Int)-1)=true:=decide_eq_true (by lia)
   have pe:mw nr k = .list (tr i nr []):=by rw [← c2];rfl
   have sm:A7 (.list (tr i nr [])) (.list (tr i nr []))=some (.bl false):=dW ⟨rfl,let ⟨p,h⟩:=CN (many:=i) nr [];⟨_,p,h,by lia⟩⟩ _
   refine ⟨some (.sh (.str "none")),some (.sh (.tup [.str "none", .list (tr i nr [])])),?_⟩;rw [pe];generalize tr i nr []=T at tt tl sm
   simp_arith [gm,lst,j0,lt,tt,tl,i0,dn,e1,e2,i1,j2,sm]
  .have e2:decide ((i:Int)=(k:Int)-1)=false:=decide_eq_false (by lia)
   refine ⟨some (.sh (.str "none")),some (.sh (.tup [.str "none", .list (tr i nr [])])),?_⟩;generalize tr i nr []=T at tt tl
   simp_arith [gm,lst,j0,lt,tt,tl,i0,dn,e1,e2]
 .have hm:=more (many:=i) (by lia) (Bi.mem hL)
  obtain ⟨l',hl'⟩:∃ l',(dj i nr []).head?=some l':=by
   cases hz:dj i nr [] with
   | nil=>rw [hz] at hm;cases hm
   | cons x r=>exact ⟨x,rfl⟩
  rw [ly hl'] at tt;have lt:decide ((i:Int)<(k:Int))=false:=decide_eq_false (by lia)
  have i0:bW (.tup [D.str "colours", dI l']) (.int 0)=some (.str "colours"):=rfl;have i1:bW (.tup [D.str "colours", dI l']) (.int 1)=some (dI l'):=rfl;have tl:=rE (w := "colours") (ds:=l'.map D.int) (.inl rfl);have dn:pP (.str "colours") (.str "colours")=some (.bl false):=rfl;have e2:decide ((i:Int)=(k:Int)-1)=false:=decide_eq_false (by lia)
  by_cases c2:i=k
  .have e1:decide ((i:Int)=(k:Int))=true:=decide_eq_true (by lia)
   have ll:l'=l:=by
    have:=hL.hd;rw [← c2,hl'] at this;exact Option.some.inj this
   subst ll;have sm:A7 (dI l') (dI l')=some (.bl false):=dW ⟨rfl,let ⟨p,h⟩:=qu 0 l';⟨_,p,h,by decide⟩⟩ _
   refine ⟨some (.sh (.str "colours")),some (.sh (.tup [.str "colours", dI l'])),?_⟩;generalize mw nr k=pv
   simp_arith [gm,lst,j0,lt,tt,tl,i0,dn,e1,e2,i1,j1,sm]
  .have e1:decide ((i:Int)=(k:Int))=false:=decide_eq_false (by lia)
   refine ⟨some (.sh (.str "colours")),some (.sh (.tup [.str "colours", dI l'])),?_⟩;generalize mw nr k=pv
   simp_arith [gm,lst,j0,lt,tt,tl,i0,dn,e1,e2]
noncomputable def tl:MS:=(aG (bz 2 (bV K51.gU (aC (aL 1) bF)))
 (aG (bz 3 (bV K75.lj (aC (aL 2) bF)))
 (aG (jR (iX (fh (eM (cN K74.cC (aj (ai 1) (aj (ai 3) aE))))) (eM (aN Af (ai 2) (ai 1)))) (cB (kSc (rC (.bl false)))) cu)
 (aG (kr 4 (aj (rC (.int 9)) aE) gm)
 (cB (kSc (rC (.bl true))))))))
theorem Do:uF=(aG (bz 1 (bV K72.fV (aC (aL 0) (aC (kSc (rC (.int 8))) bF))))
 (aG (jR (eM (aN tG (aN eU (cN Zl.az (aj (ai 0) (aj (rC (.int 0)) aE))) (rC (.int 2))) (rC (.int 1)))) (bz 1 (bV K75.gM (aC (bV K75.lg (aC (aL 0) (aC (kSc (rC (.int 30))) bF))) bF))) cu) tl)):=rfl
theorem Gi {ns:List Int}{M:List (List Int)}(mp:Mp M) (lM:M.length<=8):tl [some (.sh (.scr ns)),some (.ow (M.map fun r=>.sh (dI r))),none,none,none,none,none]=some (.rt (.sh (.bl true))):=by
 have sM:(M.map fun r=>AV.sh (dI r)).map aB=M.map dI:=by rw [mPq];exact mCq fun r _=>bK _
 have nb:=K61.Dz mp;have hn:=yD mp lM;obtain ⟨k,l,eL,hL⟩:=Ce hn lM nb;have ho:=BG mp lM hL;have cp:=K51.Fm (rs:=M) (by lia)
 have sC:(M.map aI).map aB=M.map dI:=by rw [mPq];exact mCq fun r _=>cv r
 have hl:=hn.len;have key:=jM (x:=4) (body:=gm) (fun i S=>∃ v4 v5 v6,S=lst ns M (some (.sh (dM M))) (.tup [.int (k:Int),dI l,mw (K61.pL M 0 M) k]) v4 v5 v6) (ds:=bA 0 9) (S:=lst ns M (some (.sh (dM M))) (.tup [.int (k:Int),dI l,mw (K61.pL M 0 M) k]) none none none) ⟨none,none,none,rfl⟩ (by
  rintro i d S hd ⟨v4,v5,v6,rfl⟩;have hi:i<9:=by
   have:=(gSq.mp hd).1
   rwa [aY] at this
  rw [fU hi] at hd;cases hd;rw [Int.zero_add];obtain ⟨v5',v6',e⟩:=D2 (ns:=ns) (M:=M) (s1:=some (.sh (dM M))) hL hl (qV hn lM nb (many:=i) (by lia)) (v5:=v5) (v6:=v6)
  exact ⟨_,e,_,v5',v6',rfl⟩)
 obtain ⟨S',e,v4,v5,v6,rfl⟩:=key;unfold lst at e;have r9:oz [.int 9]=some (bA 0 9):=gG (n:=9) (by decide)
 generalize mw (K61.pL M 0 M) k=pv at eL ho e
 simp_arith [tl,sM,cp,sC,eL,ho,r9,e,dM,dI]
theorem Gm {ns:List Int}(hns:ns.length<=63):zj [.scr ns]=some (.sh (.bl true)):=by
 obtain ⟨M0,eS',mp0,lM0⟩:=DR ns (mo:=8) (by decide)
 have eS:fV [.scr ns,.int 8]=some (.ow (M0.map fun r=>.sh (dI r))):=eS'
 have c0:az [.scr ns,.int 0]=some (.sh (.int (cell ns 0))):=gf ns (by decide)
 have m2:=dS (i:=cell ns 0) (j:=2) (by decide)
 by_cases b:decide (cell ns 0 % 2=1)=true
 .obtain ⟨M1,e1,r1⟩:=GT ns;obtain ⟨M,e2,r2,lM⟩:=DC r1;have s1:(M1.map fun r=>AV.sh (dI r)).map aB=M1.map dI:=by rw [mPq];exact mCq fun r _=>bK _
  have t:=Gi (ns:=ns) r2.mp lM;have e:uF [some (.sh (.scr ns)),none,none,none,none,none,none]=some (.rt (.sh (.bl true))):=by
   rw [Do];generalize tl=X at t
   simp_arith [eS,c0,m2,b,e1,s1,e2,t]
  simp_arith [zj,e]
 .rw [Bool.not_eq_true] at b;have t:=Gi (ns:=ns) mp0 lM0;have e:uF [some (.sh (.scr ns)),none,none,none,none,none,none]=some (.rt (.sh (.bl true))):=by
   rw [Do];generalize tl=X at t
   simp_arith [eS,c0,m2,b,t]
  simp_arith [zj,e]
end K74
namespace K74
open PySem L2 Mr Z Xe
def pd (i:Nat):Stmt:=PySem.Challenge.pw_mapround_k74_whole_least_told.main.body.getD i (.Pass ⟨0,0,0,0⟩)
section
variable {P:Program}{w:World}{K:W.Frag}{mg:Str->Option Value}{base:Heap}
abbrev gh:Stmt:=pd 4
theorem fB:bw ["m", "places", "place", "turn", "end"] ["m"] (aH gh):=⟨rfl,rfl,rfl,by decide +kernel,rfl,by decide +kernel,by decide +kernel⟩
theorem uu     (D:lH K mg "places_at" gh ["m"] f fd) (B:Bt mg)     : Fn P w K mg base 1 "places_at" gh ["m"] (bj K Zl.dA) f fd :=
 ⟨D,D.F.ok fB (fun _ _ _ _=>cA) fun fT A outer s H vs Q E hr h=>⟨_,
   (af (aF (i:=1) fB.nd rfl (by first|exact Or.inl rfl|exact Or.inr rfl) nK)
   (af (cR PassesOwn.never rfl (iz (by rfl) B.enum (aa (pv 0) ag)) (ku rfl (cE (aZ (i:=2) fB.nd rfl (by first|exact Or.inl rfl|exact Or.inr rfl)) (cE (aZ (i:=3) fB.nd rfl (by first|exact Or.inl rfl|exact Or.inr rfl)) iG)))
    (ar (cR PassesOwn.never rfl (dU (pv 3)) (aZ (i:=4) fB.nd rfl (by first|exact Or.inl rfl|exact Or.inr rfl))
    (ar (qc (oN hr) (pv 1) (pv 4) (pv 2) rfl)))))
   (ar (aW (pv 1))))),
   bg ["m", "places", "place", "turn", "end"] (K:=K) (au (aD (i:=1) pV)
   (au (jJ (aA 0) (iP (aA 3) (qh (i:=1) (aA 2) (ae 4))))
   (aV (kJ 1)))) h⟩⟩
abbrev kC:Stmt:=pd 6
theorem lu:bw ["turn", "place_of", "place", "found", "end", "there"] ["turn", "place_of", "place"] (aH kC):=⟨rfl,rfl,rfl,by decide +kernel,rfl,by decide +kernel,by decide +kernel⟩
theorem AA     (D:lH K mg "led_to" kC ["turn", "place_of", "place"] f fd) (B:Bt mg)     : Fn P w K mg base 1 "led_to" kC ["turn", "place_of", "place"] (bj K K61.hV) f fd :=
 ⟨D,D.F.ok lu (fun _ _ _ _=>cA) fun fT A outer s H vs Q E hr h=>⟨_,
   (af (aF (i:=3) lu.nd rfl (by first|exact Or.inl rfl|exact Or.inr rfl) nK)
   (af (cR PassesOwn.never rfl (dU (pv 0)) (aZ (i:=4) lu.nd rfl (by first|exact Or.inl rfl|exact Or.inr rfl))
    (af (aF (i:=5) lu.nd rfl (by first|exact Or.inl rfl|exact Or.inr rfl) (uw (oN hr) (pv 1) (yZ uZ (pv 4)) (by first|rfl|exact trivial|(intro _ _;rfl)))) (ar (cH (aX kG (pv 5) (pv 2) (bq _)) (ar (qc (oN hr) (pv 3) (pv 5) fw rfl)) bp))))
   (ar (aW (sV (xV rfl) (by rfl) B.list PyProof.Rows.boot_list (aa (pv 3) ag)))))),
   bg ["turn", "place_of", "place", "found", "end", "there"] (K:=K) (au (aD (i:=3) pV)
   (au (iP (aA 0) (au (aD (i:=5) (SR.kSc (ud (ae 1) (zk uk (ae 4))))) (cG (aU (aw km (ae 5) (ae 2))) (qh (i:=3) (SR.kSc ft) (ae 5)) bo)))
   (aV (C9 (ae 3))))) h⟩⟩
abbrev fI:Stmt:=pd 7
theorem lW:bw ["m", "place_of"] ["m"] (aH fI):=⟨rfl,rfl,rfl,by decide +kernel,rfl,by decide +kernel,by decide +kernel⟩
theorem rS  (D:lH K mg "neighbours" fI ["m"] f fd) (B:Bt mg)   (wW:Fn P w K mg base 1 "places_at" gh ["m"] (bj K Zl.dA) fplaces_at fdplaces_at) (Bx:Fn P w K mg base 1 "led_to" kC ["turn", "place_of", "place"] (bj K K61.hV) fled_to fdled_to)  : Fn P w K mg base 2 "neighbours" fI ["m"] (bj K K61.cW) f fd :=
 ⟨D,D.F.ok lW (fun _ _ _ _=>cA) fun fT A outer s H vs Q E hr h=>⟨_,
   (af (aF (i:=1) lW.nd rfl (by first|exact Or.inl rfl|exact Or.inr rfl) (bx wW (hr.mono (by decide)) (aa (pv 0) ag)))
   (ar (aW (B0 (N:=["place", "turn", "place_of"]) (fr:=[1]) rfl rfl (by decide +kernel) rfl (by decide +kernel) rfl rfl (rq.of (by decide +kernel) rfl rfl rfl (by exact ⟨rfl,trivial⟩) (by repeat (first|exact trivial|refine ⟨(by first|exact fun _=>⟨_,rfl⟩|exact fun h=>(by rcases h with h|h <;> cases h)),?_⟩)) (by exact ⟨⟨rfl,rfl,rfl⟩,trivial⟩)) (iz (by rfl) B.enum (aa (pv 0) ag)) (fun _ _ _ _=>rP) (fun _ _ _ _=>(bx Bx (hr.mono (by decide)) (aa (pv 1) (aa (pv 2) (aa (pv 0) ag))))))))),
   bg ["m", "place_of"] (K:=K) (au (aD (i:=1) (bG (ax (aA 0) aJ)))
   (aV (By (aA 0) rp (bG (ax (aA 1) (ax (aA 2) (ax (aA 0) aJ))))))) h⟩⟩
abbrev fj:Stmt:=pd 10
theorem xj:bw ["colours", "many"] ["colours", "many"] (aH fj):=⟨rfl,rfl,rfl,by decide +kernel,rfl,by decide +kernel,by decide +kernel⟩
theorem ye     (D:lH K mg "allowed" fj ["colours", "many"] f fd) (B:Bt mg)    (b_set:mg "set" = none)   : Fn P w K mg base 1 "allowed" fj ["colours", "many"] (bj K K72.eO) f fd :=
 ⟨D,D.F.ok xj (fun _ _ _ _=>cA) fun fT A outer s H vs Q E hr h=>⟨_,
   (ar (aW (vK rfl (by rfl) B.list (by rfl) B.range (aa (aK (og rfl) (by rfl) B.min PyProof.Rows.boot_min (aa (pv 1) (aa (aP eR (pY rfl (by rfl) B.len (by rfl) b_set (aa (pv 0) ag)) aq) ag))) ag)))),
   bg ["colours", "many"] (K:=K) (aV (vg (ah (cF ue (ah (ae 1) (ah (aw eP (qf (eZ 0)) ak) ay))) ay))) h⟩⟩
abbrev eA:Stmt:=pd 11
theorem wU:bw ["near", "colours", "colour"] ["near", "colours", "colour"] (aH eA):=⟨rfl,rfl,rfl,by decide +kernel,rfl,by decide +kernel,by decide +kernel⟩
theorem wo     (D:lH K mg "clashing" eA ["near", "colours", "colour"] f fd) (B:Bt mg)     : Fn P w K mg base 1 "clashing" eA ["near", "colours", "colour"] (bj K K72.dE) f fd :=
 ⟨D,D.F.ok wU (fun _ _ _ _=>cA) fun fT A outer s H vs Q E hr h=>⟨_,
   (ar (aW (E4 rfl (by rfl) B.min (aa (pZ (N:=["there", "colour", "colours"]) (fr:=[2,1]) rfl rfl (by decide +kernel) rfl (by decide +kernel) rfl (iD.of (by decide +kernel) rfl rfl (by exact ⟨rfl,rfl,trivial⟩) (by repeat (first|exact trivial|refine ⟨(by first|exact fun _=>⟨_,rfl⟩|exact fun h=>(by rcases h with h|h <;> cases h)),?_⟩)) (by exact ⟨⟨rfl,rfl,rfl⟩,⟨rfl,rfl,rfl⟩,trivial⟩)) (dU (pv 0)) (fun _ _ _ _=>yn (PW.pt (tW (aX tq (pv 0) (aK bR (by rfl) B.len PySem.boot_len (aa (pv 2) ag)) (bq _)) (qe (aX mV (bB dc (pv 2) (pv 0) (fun _ _=>rfl)) (pv 1) (bq _)))))) (fun _ _ _ _=>(pv 0))) ag)))),
   bg ["near", "colours", "colour"] (K:=K) (aV (SR.kSc (E5 (SL.q (SK.lOf (nc (aA 0) (uD (aU (aw sJ (ae 0) (cF dg (ah (ae 2) ay)))) (aU (aw lL (aw nB (ae 2) (ae 0)) (ae 1)))) (aA 0))))))) h⟩⟩
abbrev dC:Stmt:=pd 12
theorem gC:bw ["near", "many", "colours", "place", "colour", "found"] ["near", "many", "colours"] (aH dC):=⟨rfl,rfl,rfl,by decide +kernel,rfl,by decide +kernel,by decide +kernel⟩
theorem cx {fm:MF}{lv:Nat}(hlv:1<=lv)  {fallowed:Addr}{fdallowed:FuncData}{fclashing:Addr}{fdclashing:FuncData}   {f:Addr}{fd:FuncData}(D:lH K mg "first_fit" dC ["near", "many", "colours"] f fd) (B:Bt mg)   (bf:Fn P w K mg base 1 "allowed" fj ["colours", "many"] (bj K K72.eO) fallowed fdallowed) (aS:Fn P w K mg base 1 "clashing" eA ["near", "colours", "colour"] (bj K K72.dE) fclashing fdclashing)  (qS:Fn P w K mg base lv "first_fit" dC ["near", "many", "colours"] (bj K fm) f fd):Fn P w K mg base (lv+1) "first_fit" dC ["near", "many", "colours"] (bj K (K72.ba fm)) f fd :=
 ⟨D,D.F.ok gC (fun _ _ _ _=>cA) fun fT A outer s H vs Q E hr h=>⟨_,
   (af (aF (i:=3) gC.nd rfl (by first|exact Or.inl rfl|exact Or.inr rfl) (aK bR (by rfl) B.len PySem.boot_len (aa (pv 2) ag)))
   (af (cH (aX mV (pv 3) (aK bR (by rfl) B.len PySem.boot_len (aa (pv 0) ag)) (bq _)) (ar (aW (pv 2))) bp)
   (af (cR PassesOwn.never rfl (dU (bx bf (hr.mono (by lia)) (aa (pv 2) (aa (pv 1) ag)))) (aZ (i:=4) gC.nd rfl (by first|exact Or.inl rfl|exact Or.inr rfl))
    (ar (cH (aX C3 (bx aS (hr.mono (by lia)) (aa (bB dc (pv 0) (pv 3) (fun _ _=>rfl)) (aa (pv 2) (aa (pv 4) ag)))) qv (bq _)) (af (aF (i:=5) gC.nd rfl (by first|exact Or.inl rfl|exact Or.inr rfl) (bx qS hr (aa (pv 0) (aa (pv 1) (aa (aP qI (pv 2) (du (aa (pv 4) ag))) ag))))) (ar (cH (aX ze (pv 5) qv (bq _)) (ar (aW (pv 5))) bp))) bp)))
   (ar (aW qv))))),
   bg ["near", "many", "colours", "place", "colour", "found"] (K:=K) (au (aD (i:=3) (SR.kSc (cF dg (ah (ae 2) ay))))
   (au (cG (aU (aw lL (ae 3) (cF dg (ah (ae 0) ay)))) (aV (kJ 2)) bo)
   (au (iP (bG (ax (aA 2) (ax (aA 1) aJ))) (cG (aU (aw BQ (SK.rOf (bG (ax (we (eZ 0) (ae 3)) (ax (aA 2) (ax (aA 4) aJ))))) qW)) (au (aD (i:=5) (bG (ax (aA 0) (ax (aA 1) (ax (qX (nU 2) (SK.lOf (dv (ax (aA 4) aJ)))) aJ))))) (cG (aU (aw yV (ae 5) qW)) (aV (kJ 5)) bo)) bo))
   (aV (SR.kSc qW))))) h⟩⟩
theorem uU  (D:lH K mg "first_fit" dC ["near", "many", "colours"] f fd) (B:Bt mg)   (bf:Fn P w K mg base 1 "allowed" fj ["colours", "many"] (bj K K72.eO) fallowed fdallowed) (aS:Fn P w K mg base 1 "clashing" eA ["near", "colours", "colour"] (bj K K72.dE) fclashing fdclashing)  : Fn P w K mg base 10 "first_fit" dC ["near", "many", "colours"] (bj K K72.fk) f fd:=(cx (by decide) D B bf aS (cx (by decide) D B bf aS (cx (by decide) D B bf aS (cx (by decide) D B bf aS (cx (by decide) D B bf aS (cx (by decide) D B bf aS (cx (by decide) D B bf aS (cx (by decide) D B bf aS (cx (by decide) D B bf aS (uf (k:=1) D))))))))))
abbrev cI:Stmt:=pd 13
theorem de:bw ["near", "many", "colours", "place", "branches", "colour", "what"] ["near", "many", "colours"] (aH cI):=⟨rfl,rfl,rfl,by decide +kernel,rfl,by decide +kernel,by decide +kernel⟩
theorem bP {fm:MF}{lv:Nat}(hlv:1<=lv)  {fallowed:Addr}{fdallowed:FuncData}{fclashing:Addr}{fdclashing:FuncData}   {f:Addr}{fd:FuncData}(D:lH K mg "tree_behind" cI ["near", "many", "colours"] f fd) (B:Bt mg)   (bf:Fn P w K mg base 1 "allowed" fj ["colours", "many"] (bj K K72.eO) fallowed fdallowed) (aS:Fn P w K mg base 1 "clashing" eA ["near", "colours", "colour"] (bj K K72.dE) fclashing fdclashing)  (qS:Fn P w K mg base lv "tree_behind" cI ["near", "many", "colours"] (bj K fm) f fd):Fn P w K mg base (lv+1) "tree_behind" cI ["near", "many", "colours"] (bj K (K72.aT fm)) f fd :=
 ⟨D,D.F.ok de (fun _ _ _ _=>cA) fun fT A outer s H vs Q E hr h=>⟨_,
   (af (aF (i:=3) de.nd rfl (by first|exact Or.inl rfl|exact Or.inr rfl) (aK bR (by rfl) B.len PySem.boot_len (aa (pv 2) ag)))
   (af (aF (i:=4) de.nd rfl (by first|exact Or.inl rfl|exact Or.inr rfl) (du ag))
   (af (cR PassesOwn.never rfl (dU (bx bf (hr.mono (by lia)) (aa (pv 2) (aa (pv 1) ag)))) (aZ (i:=5) de.nd rfl (by first|exact Or.inl rfl|exact Or.inr rfl))
    (af (aF (i:=6) de.nd rfl (by first|exact Or.inl rfl|exact Or.inr rfl) (bx aS (hr.mono (by lia)) (aa (bB dc (pv 0) (pv 3) (fun _ _=>rfl)) (aa (pv 2) (aa (pv 5) ag))))) (af (cH (aX C3 (pv 6) qv (bq _)) (ar (aF (i:=6) de.nd rfl (by first|exact Or.inl rfl|exact Or.inr rfl) (bx qS hr (aa (pv 0) (aa (pv 1) (aa (aP qI (pv 2) (du (aa (pv 5) ag))) ag)))))) bp) (ar (eV (iu PySem.F.plainAttrs_list PySem.F.slot_list_append PySem.F.type_list_append dh (pv 4) (aa (kK (aa (pv 5) (aa (pv 6) ag))) ag)))))))
   (ar (aW (pv 4)))))),
   bg ["near", "many", "colours", "place", "branches", "colour", "what"] (K:=K) (au (aD (i:=3) (SR.kSc (cF dg (ah (ae 2) ay))))
   (au (aD (i:=4) (dv aJ))
   (au (iP (bG (ax (aA 2) (ax (aA 1) aJ))) (au (aD (i:=6) (bG (ax (we (eZ 0) (ae 3)) (ax (aA 2) (ax (aA 5) aJ))))) (au (cG (aU (aw BQ (ae 6) qW)) (aD (i:=6) (bG (ax (aA 0) (ax (aA 1) (ax (qX (nU 2) (SK.lOf (dv (ax (aA 5) aJ)))) aJ))))) bo) (kq (i:=4) (ko (ax (aA 5) (ax (aA 6) aJ)))))))
   (aV (kJ 4))))) h⟩⟩
theorem qN  (D:lH K mg "tree_behind" cI ["near", "many", "colours"] f fd) (B:Bt mg)   (bf:Fn P w K mg base 1 "allowed" fj ["colours", "many"] (bj K K72.eO) fallowed fdallowed) (aS:Fn P w K mg base 1 "clashing" eA ["near", "colours", "colour"] (bj K K72.dE) fclashing fdclashing)  : Fn P w K mg base 10 "tree_behind" cI ["near", "many", "colours"] (bj K K72.dQ) f fd:=(bP (by decide) D B bf aS (bP (by decide) D B bf aS (bP (by decide) D B bf aS (bP (by decide) D B bf aS (bP (by decide) D B bf aS (bP (by decide) D B bf aS (bP (by decide) D B bf aS (bP (by decide) D B bf aS (bP (by decide) D B bf aS (uf (k:=1) D))))))))))
abbrev lp:Stmt:=pd 14
theorem rB:bw ["m", "many", "near", "colours"] ["m", "many"] (aH lp):=⟨rfl,rfl,rfl,by decide +kernel,rfl,by decide +kernel,by decide +kernel⟩
theorem Dc {BN Bo:Addr}  (D:lH K mg "tried" lp ["m", "many"] f fd) (B:Bt mg) (g_MOST_PLACES:mg "MOST_PLACES" = some (.int 8 t_MOST_PLACES)) (vw:FB K mg "TooBig" BN Bo) (uY:Fn P w K mg base 2 "neighbours" fI ["m"] (bj K K61.cW) fneighbours fdneighbours) (wF:Fn P w K mg base 10 "first_fit" dC ["near", "many", "colours"] (bj K K72.fk) ffirst_fit fdfirst_fit) (rZ:Fn P w K mg base 10 "tree_behind" cI ["near", "many", "colours"] (bj K K72.dQ) ftree_behind fdtree_behind)  : Fn P w K mg base 11 "tried" lp ["m", "many"] (bj K K72.cZ) f fd :=
 ⟨D,D.F.ok rB (fun _ _ _ _=>cA) fun fT A outer s H vs Q E hr h=>⟨_,
   (af (cH (aX vH (aK bR (by rfl) B.len PySem.boot_len (aa (pv 0) ag)) (Fg (v:=.int 8) (by rfl) g_MOST_PLACES ⟨_,rfl⟩) (bq _)) (ar C2) bp)
   (af (aF (i:=2) rB.nd rfl (by first|exact Or.inl rfl|exact Or.inr rfl) (bx uY (hr.mono (by decide)) (aa (pv 0) ag)))
   (af (aF (i:=3) rB.nd rfl (by first|exact Or.inl rfl|exact Or.inr rfl) (bx wF (hr.mono (by decide)) (aa (pv 2) (aa (pv 1) (aa (du ag) ag)))))
   (af (cH (aX ze (pv 3) qv (bq _)) (ar (aW (kK (aa mE (aa (pv 3) ag))))) bp)
   (ar (aW (kK (aa mE (aa (bx rZ (hr.mono (by decide)) (aa (pv 2) (aa (pv 1) (aa (du ag) ag)))) ag))))))))),
   bg ["m", "many", "near", "colours"] (K:=K) (au (cG (aU (aw vD (cF dg (ah (ae 0) ay)) ak)) Ca bo)
   (au (aD (i:=2) (bG (ax (aA 0) aJ)))
   (au (aD (i:=3) (bG (ax (aA 2) (ax (aA 1) (ax (dv aJ) aJ)))))
   (au (cG (aU (aw yV (ae 3) qW)) (aV (ko (ax (SR.kSc mD) (ax (aA 3) aJ)))) bo)
   (aV (ko (ax (SR.kSc mD) (ax (bG (ax (aA 2) (ax (aA 1) (ax (dv aJ) aJ)))) aJ)))))))) h⟩⟩
abbrev nJ:Stmt:=pd 15
theorem hJ:bw ["m", "many", "tree", "found"] ["m"] (aH nJ):=⟨rfl,rfl,rfl,by decide +kernel,rfl,by decide +kernel,by decide +kernel⟩
theorem Dd  (D:lH K mg "least" nJ ["m"] f fd) (B:Bt mg)   (pU:Fn P w K mg base 11 "tried" lp ["m", "many"] (bj K K72.cZ) ftried fdtried)  : Fn P w K mg base 12 "least" nJ ["m"] (bj K K75.lj) f fd :=
 ⟨D,D.F.ok hJ (fun _ _ _ _=>cA) fun fT A outer s H vs Q E hr h=>⟨_,
   (af (aF (i:=1) hJ.nd rfl (by first|exact Or.inl rfl|exact Or.inr rfl) aq)
   (af (aF (i:=2) hJ.nd rfl (by first|exact Or.inl rfl|exact Or.inr rfl) (du ag))
   (af (aF (i:=3) hJ.nd rfl (by first|exact Or.inl rfl|exact Or.inr rfl) (bx pU (hr.mono (by decide)) (aa (pv 0) (aa (pv 1) ag))))
   (af (vP PassesOwn.never (aX mV (bB bQ (pv 3) aq (fun _ _=>rfl)) mE (bq _)) (af (aF (i:=2) hJ.nd rfl (by first|exact Or.inl rfl|exact Or.inr rfl) (bB bQ (pv 3) aq (fun _ _=>rfl))) (af (Ik (i:=1) hJ.nd rfl (by first|exact Or.inl rfl|exact Or.inr rfl) aq HF) (ar (aF (i:=3) hJ.nd rfl (by first|exact Or.inl rfl|exact Or.inr rfl) (bx pU (hr.mono (by decide)) (aa (pv 0) (aa (pv 1) ag))))))))
   (ar (aW (kK (aa (pv 1) (aa (bB bQ (pv 3) aq (fun _ _=>rfl)) (aa (pv 2) ag)))))))))),
   bg ["m", "many", "tree", "found"] (K:=K) (au (aD (i:=1) (SR.kSc ak))
   (au (aD (i:=2) (dv aJ))
   (au (aD (i:=3) (bG (ax (aA 0) (ax (aA 1) aJ))))
   (au (wz 100000 (aU (aw lL (aw cg (ae 3) ak) mD)) (au (aD (i:=2) (xI (aA 3) ak)) (au (GV (i:=1) ak) (aD (i:=3) (bG (ax (aA 0) (ax (aA 1) aJ)))))))
   (aV (ko (ax (aA 1) (ax (xI (aA 3) ak) (ax (aA 2) aJ))))))))) h⟩⟩
abbrev fL:Stmt:=pd 17
theorem Aa:bw ["_law_script", "_law_k"] ["_law_script", "_law_k"] (aH fL):=⟨rfl,rfl,rfl,by decide +kernel,rfl,by decide +kernel,by decide +kernel⟩
theorem Aj     (D:lH K mg "_law_cell" fL ["_law_script", "_law_k"] f fd) (B:Bt mg)     : Fn P w K mg base 1 "_law_cell" fL ["_law_script", "_law_k"] (bj K Zl.az) f fd :=
 ⟨D,D.F.ok Aa (fun _ _ _ _=>cA) fun fT A outer s H vs Q E hr h=>⟨_,
   (af (cH (aX tq (pv 1) (aK bR (by rfl) B.len PySem.boot_len (aa (pv 0) ag)) (bq _)) (ar (aW (bB dc (pv 0) (pv 1) (fun _ _=>rfl)))) bp)
   (ar (aW aq))),
   bg ["_law_script", "_law_k"] (K:=K) (au (cG (aU (aw sJ (ae 1) (cF dg (ah (ae 0) ay)))) (aV (SR.kSc (aw nB (ae 0) (ae 1)))) bo)
   (aV (SR.kSc ak))) h⟩⟩
abbrev je:Stmt:=pd 18
theorem fc:bw ["_law_script", "_law_step", "_law_shift", "_law_a", "_law_b"] ["_law_script"] (aH je):=⟨rfl,rfl,rfl,by decide +kernel,rfl,by decide +kernel,by decide +kernel⟩
theorem yo  (D:lH K mg "_law_roads" je ["_law_script"] f fd) (B:Bt mg)   (cy:Fn P w K mg base 1 "_law_cell" fL ["_law_script", "_law_k"] (bj K Zl.az) pS nv)  : Fn P w K mg base 2 "_law_roads" je ["_law_script"] (bj K K51.gN) f fd :=
 ⟨D,D.F.ok fc (fun _ _ _ _=>cA) fun fT A outer s H vs Q E hr h=>⟨_,
   (af (aF (i:=1) fc.nd rfl (by first|exact Or.inl rfl|exact Or.inr rfl) aq)
   (af (aF (i:=2) fc.nd rfl (by first|exact Or.inl rfl|exact Or.inr rfl) aq)
   (af (cH (aX vH (aP dr (bx cy (hr.mono (by decide)) (aa (pv 0) (aa aq ag))) aq) aq (bq _)) (af (aF (i:=1) fc.nd rfl (by first|exact Or.inl rfl|exact Or.inr rfl) (aP eR aq (aP dr (bx cy (hr.mono (by decide)) (aa (pv 0) (aa aq ag))) (aP xh aq aq)))) (ar (aF (i:=2) fc.nd rfl (by first|exact Or.inl rfl|exact Or.inr rfl) (aP dr (bx cy (hr.mono (by decide)) (aa (pv 0) (aa aq ag))) (aP xh aq aq))))) bp)
   (af (aF (i:=3) fc.nd rfl (by first|exact Or.inl rfl|exact Or.inr rfl) (aP eR aq (aP dr (aP iE (bx cy (hr.mono (by decide)) (aa (pv 0) (aa aq ag))) aq) aq)))
   (af (aF (i:=4) fc.nd rfl (by first|exact Or.inl rfl|exact Or.inr rfl) (aP dr (aP iE (bx cy (hr.mono (by decide)) (aa (pv 0) (aa aq ag))) aq) aq))
   (ar (aW (pZ (N:=["_law_k", "_law_shift", "_law_step", "_law_b", "_law_a"]) (fr:=[2,1,4,3]) rfl rfl (by decide +kernel) rfl (by decide +kernel) rfl (iD.of (by decide +kernel) rfl rfl (by exact ⟨rfl,rfl,rfl,rfl,trivial⟩) (by repeat (first|exact trivial|refine ⟨(by first|exact fun _=>⟨_,rfl⟩|exact fun h=>(by rcases h with h|h <;> cases h)),?_⟩)) (by exact ⟨⟨rfl,rfl,rfl⟩,⟨rfl,rfl,rfl⟩,⟨rfl,rfl,rfl⟩,⟨rfl,rfl,rfl⟩,trivial⟩)) (fg (by rfl) B.range (aa aq ag)) (fun _ _ _ _=>rP) (fun _ _ _ _=>(aP eR (aP uX (pv 2) (aP eR aq (aP dr (aP eR (aP uX (pv 4) (pv 0)) (pv 3)) aq))) (pv 1))))))))))),
   bg ["_law_script", "_law_step", "_law_shift", "_law_a", "_law_b"] (K:=K) (au (aD (i:=1) (SR.kSc ak))
   (au (aD (i:=2) (SR.kSc ak))
   (au (cG (aU (aw vD (aw df (cj (ah (ae 0) (ah ak ay))) ak) ak)) (au (aD (i:=1) (SR.kSc (aw eP ak (aw df (cj (ah (ae 0) (ah ak ay))) (aw xH ak ak))))) (aD (i:=2) (SR.kSc (aw df (cj (ah (ae 0) (ah ak ay))) (aw xH ak ak))))) bo)
   (au (aD (i:=3) (SR.kSc (aw eP ak (aw df (aw ky (cj (ah (ae 0) (ah ak ay))) ak) ak))))
   (au (aD (i:=4) (SR.kSc (aw df (aw ky (cj (ah (ae 0) (ah ak ay))) ak) ak)))
   (aV (nY (ah ak ay) rp (SR.kSc (aw eP (aw uT (ae 2) (aw eP ak (aw df (aw eP (aw uT (ae 4) (ae 0)) (ae 3)) ak))) (ae 1)))))))))) h⟩⟩
abbrev hU:Stmt:=pd 19
theorem iV:bw ["_law_turns", "_law_rows", "_law_turn", "_law_at"] ["_law_turns"] (aH hU):=⟨rfl,rfl,rfl,by decide +kernel,rfl,by decide +kernel,by decide +kernel⟩
theorem zJ     (D:lH K mg "_law_good" hU ["_law_turns"] f fd) (B:Bt mg)     : Fn P w K mg base 1 "_law_good" hU ["_law_turns"] (bj K K72.fQ) f fd :=
 ⟨D,D.F.ok iV (fun _ _ _ _=>cA) fun fT A outer s H vs Q E hr h=>have hu:=hr.units;⟨_,
   (af (aF (i:=1) iV.nd rfl (by first|exact Or.inl rfl|exact Or.inr rfl) (du ag))
   (af (cR PassesOwn.never rfl (dU (pv 0)) (aZ (i:=2) iV.nd rfl (by first|exact Or.inl rfl|exact Or.inr rfl))
    (af (cH (mR (pv 2) (fun _=>rfl)) (af (aF (i:=3) iV.nd rfl (by first|exact Or.inl rfl|exact Or.inr rfl) (iu PySem.F.plainAttrs_list PySem.F.slot_list_index PySem.F.type_list_index vp (pv 2) (aa (aK (AQ rfl) (by rfl) B.min PyProof.Rows.boot_min (aa (pv 2) ag)) ag))) (ar (aF (i:=2) iV.nd rfl (by first|exact Or.inl rfl|exact Or.inr rfl) (aP qI (jh kT (pv 2) (jt (pv 3)) nj) (jh kT (pv 2) nj (jt (pv 3))))))) bp) (ar (eV (iu PySem.F.plainAttrs_list PySem.F.slot_list_append PySem.F.type_list_append dh (pv 1) (aa (pv 2) ag))))))
   (ar (aW (aK (uh hu) (by rfl) B.sorted PyProof.Rows.boot_sorted (aa (pv 1) ag)))))),
   bg ["_law_turns", "_law_rows", "_law_turn", "_law_at"] (K:=K) (au (aD (i:=1) (dv aJ))
   (au (iP (aA 0) (au (cG (ur (ae 2)) (au (aD (i:=3) (SR.kSc (FF (T := "list") wA (ae 2) (ah (cF Hs (ah (ae 2) ay)) ay)))) (aD (i:=2) (qX (SK.lOf (sR (eZ 2) (jD (ae 3)) mW)) (SK.lOf (sR (eZ 2) mW (jD (ae 3))))))) bo) (kq (i:=1) (aA 2))))
   (aV (Ds (eZ 1))))) h⟩⟩
abbrev kN:Stmt:=pd 20
theorem zK:bw ["_law_turns"] ["_law_turns"] (aH kN):=⟨rfl,rfl,rfl,by decide +kernel,rfl,by decide +kernel,by decide +kernel⟩
theorem zI     (D:lH K mg "_law_copy" kN ["_law_turns"] f fd) (B:Bt mg)     : Fn P w K mg base 1 "_law_copy" kN ["_law_turns"] (bj K K51.gU) f fd :=
 ⟨D,D.F.ok zK (fun _ _ _ _=>cA) fun fT A outer s H vs Q E hr h=>⟨_,
   (ar (aW (pZ (cl:=[]) (N:=["_law_turn"]) (fr:=[]) rfl rfl (by decide +kernel) rfl (by decide +kernel) rfl (iD.none (by decide +kernel)) (dU (pv 0)) (fun _ _ _ _=>rP) (fun _ _ _ _=>(sV uV (by rfl) B.list PyProof.Rows.boot_list (aa (pv 0) ag)))))),
   bg ["_law_turns"] (K:=K) (aV (nc (aA 0) rp (Fw (eZ 0)))) h⟩⟩
abbrev hZ:Stmt:=pd 21
theorem gk:bw ["_law_turns", "_law_places_here", "_law_place", "_law_turn", "_law_end"] ["_law_turns"] (aH hZ):=⟨rfl,rfl,rfl,by decide +kernel,rfl,by decide +kernel,by decide +kernel⟩
theorem vc     (D:lH K mg "_law_places" hZ ["_law_turns"] f fd) (B:Bt mg)     : Fn P w K mg base 1 "_law_places" hZ ["_law_turns"] (bj K Zl.dA) f fd :=
 ⟨D,D.F.ok gk (fun _ _ _ _=>cA) fun fT A outer s H vs Q E hr h=>⟨_,
   (af (aF (i:=1) gk.nd rfl (by first|exact Or.inl rfl|exact Or.inr rfl) nK)
   (af (cR PassesOwn.never rfl (iz (by rfl) B.enum (aa (pv 0) ag)) (ku rfl (cE (aZ (i:=2) gk.nd rfl (by first|exact Or.inl rfl|exact Or.inr rfl)) (cE (aZ (i:=3) gk.nd rfl (by first|exact Or.inl rfl|exact Or.inr rfl)) iG)))
    (ar (cR PassesOwn.never rfl (dU (pv 3)) (aZ (i:=4) gk.nd rfl (by first|exact Or.inl rfl|exact Or.inr rfl))
    (ar (qc (oN hr) (pv 1) (pv 4) (pv 2) rfl)))))
   (ar (aW (pv 1))))),
   bg ["_law_turns", "_law_places_here", "_law_place", "_law_turn", "_law_end"] (K:=K) (au (aD (i:=1) pV)
   (au (jJ (aA 0) (iP (aA 3) (qh (i:=1) (aA 2) (ae 4))))
   (aV (kJ 1)))) h⟩⟩
abbrev kO:Stmt:=pd 22
theorem jc:bw ["_law_m", "_law_places_here", "_law_near_here", "_law_place", "_law_turn"] ["_law_m"] (aH kO):=⟨rfl,rfl,rfl,by decide +kernel,rfl,by decide +kernel,by decide +kernel⟩
theorem AH  (D:lH K mg "_law_near" kO ["_law_m"] f fd) (B:Bt mg)    (b_set:mg "set" = none) (xG:Fn P w K mg base 1 "_law_places" hZ ["_law_turns"] (bj K Zl.dA) IK Iz)  : Fn P w K mg base 2 "_law_near" kO ["_law_m"] (bj K K72.iq) f fd :=
 ⟨D,D.F.ok jc (fun _ _ _ _=>cA) fun fT A outer s H vs Q E hr h=>⟨_,
   (af (aF (i:=1) jc.nd rfl (by first|exact Or.inl rfl|exact Or.inr rfl) (bx xG (hr.mono (by decide)) (aa (pv 0) ag)))
   (af (aF (i:=2) jc.nd rfl (by first|exact Or.inl rfl|exact Or.inr rfl) (du ag))
   (af (cR PassesOwn.never rfl (iz (by rfl) B.enum (aa (pv 0) ag)) (ku rfl (cE (aZ (i:=3) jc.nd rfl (by first|exact Or.inl rfl|exact Or.inr rfl)) (cE (aZ (i:=4) jc.nd rfl (by first|exact Or.inl rfl|exact Or.inr rfl)) iG)))
    (ar (eV (iu PySem.F.plainAttrs_list PySem.F.slot_list_append PySem.F.type_list_append dh (pv 2) (aa (EE rfl (by rfl) B.sorted (by rfl) b_set (aa (pZ (N:=["_law_end", "_law_places_here", "_law_place"]) (fr:=[1,3]) rfl rfl (by decide +kernel) rfl (by decide +kernel) rfl (iD.of (by decide +kernel) rfl rfl (by exact ⟨rfl,rfl,trivial⟩) (by repeat (first|exact trivial|refine ⟨(by first|exact fun _=>⟨_,rfl⟩|exact fun h=>(by rcases h with h|h <;> cases h)),?_⟩)) (by exact ⟨⟨rfl,rfl,rfl⟩,⟨rfl,rfl,rfl⟩,trivial⟩)) (dU (pv 4)) (fun _ _ _ _=>yn (aX kG (uw (oN hr) (pv 1) (yZ uZ (pv 0)) (by first|rfl|exact trivial|(intro _ _;rfl))) (pv 2) (bq _))) (fun _ _ _ _=>(uw (oN hr) (pv 1) (yZ uZ (pv 0)) (by first|rfl|exact trivial|(intro _ _;rfl))))) ag)) ag)))))
   (ar (aW (pv 2)))))),
   bg ["_law_m", "_law_places_here", "_law_near_here", "_law_place", "_law_turn"] (K:=K) (au (aD (i:=1) (bG (ax (aA 0) aJ)))
   (au (aD (i:=2) (dv aJ))
   (au (jJ (aA 0) (kq (i:=2) (EW (SL.q (SK.lOf (nc (aA 4) (aU (aw km (ud (ae 1) (zk uk (ae 0))) (ae 2))) (SR.kSc (ud (ae 1) (zk uk (ae 0))))))))))
   (aV (kJ 2))))) h⟩⟩
abbrev iT:Stmt:=pd 23
theorem cw:bw ["_law_script", "_law_most", "_law_roads_here", "_law_many", "_law_full", "_law_pairs", "_law_one", "_law_two", "_law_cell_here", "_law_turns", "_law_k", "_law_pair", "_law_end"] ["_law_script", "_law_most"] (aH iT):=⟨rfl,rfl,rfl,by decide +kernel,rfl,by decide +kernel,by decide +kernel⟩
theorem xB  (D:lH K mg "_law_small" iT ["_law_script", "_law_most"] f fd) (B:Bt mg)   (Ap:Fn P w K mg base 2 "_law_roads" je ["_law_script"] (bj K K51.gN) Jo IT) (kM:Fn P w K mg base 1 "_law_good" hU ["_law_turns"] (bj K K72.fQ) yA vx) (cy:Fn P w K mg base 1 "_law_cell" fL ["_law_script", "_law_k"] (bj K Zl.az) pS nv)  : Fn P w K mg base 3 "_law_small" iT ["_law_script", "_law_most"] (bj K K72.fV) f fd :=
 ⟨D,D.F.ok cw (fun _ _ _ _=>cA) fun fT A outer s H vs Q E hr h=>⟨_,
   (af (aF (i:=2) cw.nd rfl (by first|exact Or.inl rfl|exact Or.inr rfl) (bx Ap (hr.mono (by decide)) (aa (pv 0) ag)))
   (af (aF (i:=3) cw.nd rfl (by first|exact Or.inl rfl|exact Or.inr rfl) (aP dr (bx cy (hr.mono (by decide)) (aa (pv 0) (aa aq ag))) (aP eR (pv 1) aq)))
   (af (aF (i:=4) cw.nd rfl (by first|exact Or.inl rfl|exact Or.inr rfl) (aP dr (bx cy (hr.mono (by decide)) (aa (pv 0) (aa aq ag))) aq))
   (af (aF (i:=5) cw.nd rfl (by first|exact Or.inl rfl|exact Or.inr rfl) (du ag))
   (af (cR PassesOwn.never rfl (fg (by rfl) B.range (aa (aK (og rfl) (by rfl) B.min PyProof.Rows.boot_min (aa (pv 3) (aa (pv 4) ag))) ag)) (aZ (i:=6) cw.nd rfl (by first|exact Or.inl rfl|exact Or.inr rfl))
    (ar (cR PassesOwn.never rfl (fg (by rfl) B.range (aa (pv 6) ag)) (aZ (i:=7) cw.nd rfl (by first|exact Or.inl rfl|exact Or.inr rfl))
    (ar (cH (aX tq (pv 4) aq (bq _)) (ar (eV (iu PySem.F.plainAttrs_list PySem.F.slot_list_append PySem.F.type_list_append dh (pv 5) (aa (kK (aa (pv 6) (aa (pv 7) ag))) ag)))) bp)))))
   (af (cR PassesOwn.never rfl (dU (jh kT (pv 0) (jt aq) (jt (aP mz aq (aK bR (by rfl) B.len PySem.boot_len (aa (pv 5) ag)))))) (aZ (i:=8) cw.nd rfl (by first|exact Or.inl rfl|exact Or.inr rfl))
    (ar (cH (aX vH (pv 3) aq (bq _)) (ar (eV (iu PySem.F.plainAttrs_list PySem.F.slot_list_append PySem.F.type_list_append dh (pv 5) (aa (kK (aa (aP dr (pv 8) (pv 3)) (aa (aP dr (aP iE (pv 8) (pv 3)) (pv 3)) ag))) ag)))) bp)))
   (af (uM (i:=9) (cl:=[]) (N:=["_law_k"]) (fr:=[]) rfl cw.nd rfl (by first|exact Or.inl rfl|exact Or.inr rfl) rfl (by decide +kernel) rfl (by decide +kernel) rfl (iD.none (by decide +kernel)) (fg (by rfl) B.range (aa (pv 3) ag)) (fun _ _ _ _=>rP) (fun _ _ _ _=>(du ag)))
   (af (cR PassesOwn.never rfl (iz (by rfl) B.enum (aa (pv 5) ag)) (ku rfl (cE (aZ (i:=10) cw.nd rfl (by first|exact Or.inl rfl|exact Or.inr rfl)) (cE (aZ (i:=11) cw.nd rfl (by first|exact Or.inl rfl|exact Or.inr rfl)) iG)))
    (af (aF (i:=8) cw.nd rfl (by first|exact Or.inl rfl|exact Or.inr rfl) (aP iE (bx cy (hr.mono (by decide)) (aa (pv 0) (aa (pv 10) ag))) aq)) (af (aF (i:=12) cw.nd rfl (by first|exact Or.inl rfl|exact Or.inr rfl) (aP uX (G3 PySem.F.plainAttrs_list PySem.F.slot_list_pop PySem.F.type_list_pop Hi (pv 2)) (aP mz aq (aP uX aq (aP dr (pv 8) aq))))) (af (eV (iu PySem.F.plainAttrs_list PySem.F.slot_list_insert PySem.F.type_list_insert tL (bB dc (pv 9) (bB bQ (pv 11) aq (fun _ _=>rfl)) (fun _ _=>rfl)) (aa (aP dr (aP iE (pv 8) aq) (aP eR (aK bR (by rfl) B.len PySem.boot_len (aa (bB dc (pv 9) (bB bQ (pv 11) aq (fun _ _=>rfl)) (fun _ _=>rfl)) ag)) aq)) (aa (pv 12) ag)))) (ar (eV (iu PySem.F.plainAttrs_list PySem.F.slot_list_insert PySem.F.type_list_insert tL (bB dc (pv 9) (bB bQ (pv 11) aq (fun _ _=>rfl)) (fun _ _=>rfl)) (aa (aP dr (aP iE (pv 8) aq) (aP eR (aK bR (by rfl) B.len PySem.boot_len (aa (bB dc (pv 9) (bB bQ (pv 11) aq (fun _ _=>rfl)) (fun _ _=>rfl)) ag)) aq)) (aa (yZ uZ (pv 12)) ag)))))))))
   (ar (aW (bx kM (hr.mono (by decide)) (aa (pv 9) ag)))))))))))),
   bg ["_law_script", "_law_most", "_law_roads_here", "_law_many", "_law_full", "_law_pairs", "_law_one", "_law_two", "_law_cell_here", "_law_turns", "_law_k", "_law_pair", "_law_end"] (K:=K) (au (aD (i:=2) (bG (ax (aA 0) aJ)))
   (au (aD (i:=3) (SR.kSc (aw df (cj (ah (ae 0) (ah ak ay))) (aw eP (ae 1) ak))))
   (au (aD (i:=4) (SR.kSc (aw df (cj (ah (ae 0) (ah ak ay))) ak)))
   (au (aD (i:=5) (dv aJ))
   (au (kj (ah (cF ue (ah (ae 3) (ah (ae 4) ay))) ay) (kj (ah (ae 6) ay) (cG (aU (aw sJ (ae 4) ak)) (kq (i:=5) (ko (ax (aA 6) (ax (aA 7) aJ)))) bo)))
   (au (iP (sR (eZ 0) (jD ak) (jD (aw md ak (cF dg (ah (ae 5) ay))))) (cG (aU (aw vD (ae 3) ak)) (kq (i:=5) (ko (ax (SR.kSc (aw df (ae 8) (ae 3))) (ax (SR.kSc (aw df (aw ky (ae 8) (ae 3)) (ae 3))) aJ)))) bo))
   (au (aD (i:=9) (nY (ah (ae 3) ay) rp (dv aJ)))
   (au (jJ (aA 5) (au (aD (i:=8) (SR.kSc (aw ky (cj (ah (ae 0) (ah (ae 10) ay))) ak))) (au (EV (i:=12) (JD uT (D6 (i:=2)) (aw md ak (aw uT ak (aw df (ae 8) ak))))) (au (yw (Cc (yC 9) (aw cg (ae 11) ak)) (aw df (aw ky (ae 8) ak) (aw eP (cF dg (ah (aw nB (ae 9) (aw cg (ae 11) ak)) ay)) ak)) (ae 12)) (yw (Cc (yC 9) (aw cg (ae 11) ak)) (aw df (aw ky (ae 8) ak) (aw eP (cF dg (ah (aw nB (ae 9) (aw cg (ae 11) ak)) ay)) ak)) (zk uk (ae 12)))))))
   (aV (bG (ax (aA 9) aJ))))))))))) h⟩⟩
abbrev fi:Stmt:=pd 24
theorem xo:bw ["_law_found"] ["_law_found"] (aH fi):=⟨rfl,rfl,rfl,by decide +kernel,rfl,by decide +kernel,by decide +kernel⟩
theorem yk     (D:lH K mg "_law_whole" fi ["_law_found"] f fd) (B:Bt mg)     : Fn P w K mg base 1 "_law_whole" fi ["_law_found"] (bj K K75.cS) f fd :=
 ⟨D,D.F.ok xo (fun _ _ _ _=>cA) fun fT A outer s H vs Q E hr h=>⟨_,
   (ar (aW (yc (aK (fq.or (fq.or fG rz) wO) (by rfl) B.isi PyProof.Rows.boot_isinstance (aa (pv 0) (aa (gE (v:=.ty "int") (by rfl) B.int PyProof.Rows.boot_int rfl) ag))) (xX (HZ (aK (fq.or (fq.or fG rz) wO) (by rfl) B.isi PyProof.Rows.boot_isinstance (aa (pv 0) (aa (gE (v:=.ty "bool") (by rfl) B.bool PyProof.Rows.boot_bool rfl) ag)))))))),
   bg ["_law_found"] (K:=K) (aV (SR.kSc (yp (cF BU (ah (ae 0) (ah nO ay))) (Gn (cF BU (ah (ae 0) (ah nO ay))))))) h⟩⟩
abbrev kL:Stmt:=pd 25
theorem AG:bw ["_law_found"] ["_law_found"] (aH kL):=⟨rfl,rfl,rfl,by decide +kernel,rfl,by decide +kernel,by decide +kernel⟩
theorem Al     (D:lH K mg "_law_told" kL ["_law_found"] f fd) (B:Bt mg)    (b_tuple:mg "tuple" = none)   : Fn P w K mg base 1 "_law_told" kL ["_law_found"] (bj K K72.jg) f fd :=
 ⟨D,D.F.ok AG (fun _ _ _ _=>cA) fun fT A outer s H vs Q E hr h=>⟨_,
   (af (cH (PW.pt (ie (eT (fO (aK fG (by rfl) B.isi PyProof.Rows.boot_isinstance (aa (pv 0) (aa (gE (v:=.ty "tuple") (by rfl) b_tuple PyProof.Rows.boot_tuple rfl) ag))))) (ie (aX kG (aK bR (by rfl) B.len PySem.boot_len (aa (pv 0) ag)) aq (bq _)) (iK (eT (fO (aK fG (by rfl) B.isi PyProof.Rows.boot_isinstance (aa (bB bQ (pv 0) aq (fun _ _=>rfl)) (aa (gE (v:=.ty "str") (by rfl) B.str PyProof.Rows.boot_str rfl) ag))))))))) (ar (aW fw)) bp)
   (ar (aW (yc (aK (fq.or fG rz) (by rfl) B.isi PyProof.Rows.boot_isinstance (aa (bB bQ (pv 0) aq (fun _ _=>rfl)) (aa (gE (v:=.ty "list") (by rfl) B.list PyProof.Rows.boot_list rfl) ag))) (xX (uN zR (bB bQ (pv 0) aq (fun _ _=>rfl)) (kK (aa mE (aa mE ag))) rfl)))))),
   bg ["_law_found"] (K:=K) (au (cG (ic (eQ (gA (cF mH (ah (ae 0) (ah nO ay))))) (ic (aU (aw km (cF dg (ah (ae 0) ay)) ak)) (eQ (gA (cF mH (ah (aw cg (ae 0) ak) (ah nO ay))))))) (aV (SR.kSc ft)) bo)
   (aV (SR.kSc (yp (cF BX (ah (aw cg (ae 0) ak) (ah nO ay))) (aw (HU false) (aw cg (ae 0) ak) (SK.rOf (ko (ax (SR.kSc mD) (ax (SR.kSc mD) aJ))))))))) h⟩⟩
abbrev eh:Stmt:=pd 26
theorem eY:bw ["_law_near_here", "_law_many", "_law_colours", "_law_place", "_law_colour", "_law_there"] ["_law_near_here", "_law_many", "_law_colours"] (aH eh):=⟨rfl,rfl,rfl,by decide +kernel,rfl,by decide +kernel,by decide +kernel⟩
theorem pM  (D:lH K mg "_law_list_holds" eh ["_law_near_here", "_law_many", "_law_colours"] f fd) (B:Bt mg)    (b_set:mg "set" = none) (bT:Fn P w K mg base 1 "_law_whole" fi ["_law_found"] (bj K K75.cS) nM lz)  : Fn P w K mg base 2 "_law_list_holds" eh ["_law_near_here", "_law_many", "_law_colours"] (bj K K73.cL) f fd :=
 ⟨D,D.F.ok eY (fun _ _ _ _=>cA) fun fT A outer s H vs Q E hr h=>⟨_,
   (af (cH (PW.pt (ie (eT (fO (aK fG (by rfl) B.isi PyProof.Rows.boot_isinstance (aa (pv 2) (aa (gE (v:=.ty "list") (by rfl) B.list PyProof.Rows.boot_list rfl) ag))))) (iK (aX kG (aK bR (by rfl) B.len PySem.boot_len (aa (pv 2) ag)) (aK bR (by rfl) B.len PySem.boot_len (aa (pv 0) ag)) (bq _))))) (ar (aW fw)) bp)
   (af (cR PassesOwn.never rfl (iz (by rfl) B.enum (aa (pv 2) ag)) (ku rfl (cE (aZ (i:=3) eY.nd rfl (by first|exact Or.inl rfl|exact Or.inr rfl)) (cE (aZ (i:=4) eY.nd rfl (by first|exact Or.inl rfl|exact Or.inr rfl)) iG)))
    (af (cH (PW.pt (ie (eT (fO (bx bT (hr.mono (by decide)) (aa (pv 4) ag)))) (ie (eT (CF Kn tq aq (pv 4) (pv 1))) (iK (aX vH (pv 4) (pY rfl (by rfl) B.len (by rfl) b_set (aa (jh kT (pv 2) nj (jt (pv 3))) ag)) (bq _)))))) (ar (aW fw)) bp) (ar (cR PassesOwn.never rfl (dU (bB dc (pv 0) (pv 3) (fun _ _=>rfl))) (aZ (i:=5) eY.nd rfl (by first|exact Or.inl rfl|exact Or.inr rfl))
    (ar (cH (aX mV (bB dc (pv 2) (pv 5) (fun _ _=>rfl)) (pv 4) (bq _)) (ar (aW fw)) bp))))))
   (ar (aW fw)))),
   bg ["_law_near_here", "_law_many", "_law_colours", "_law_place", "_law_colour", "_law_there"] (K:=K) (au (cG (ic (eQ (gA (cF mH (ah (ae 2) (ah nO ay))))) (aU (aw km (cF dg (ah (ae 2) ay)) (cF dg (ah (ae 0) ay))))) (aV (SR.kSc ft)) bo)
   (au (jJ (aA 2) (au (cG (ic (eQ (gA (cj (ah (ae 4) ay)))) (ic (eQ (aU (Ha Jc sJ ak (ae 4) (ae 1) Kh))) (aU (aw vD (ae 4) (qf (SL.q (SK.lOf (sR (eZ 2) mW (jD (ae 3)))))))))) (aV (SR.kSc ft)) bo) (iP (we (eZ 0) (ae 3)) (cG (aU (aw lL (aw nB (ae 2) (ae 5)) (ae 4))) (aV (SR.kSc ft)) bo))))
   (aV (SR.kSc ft)))) h⟩⟩
abbrev cz:Stmt:=pd 27
theorem dO:bw ["_law_near_here", "_law_many", "_law_colours", "_law_tree", "_law_place", "_law_colour", "_law_entry", "_law_clashes"] ["_law_near_here", "_law_many", "_law_colours", "_law_tree"] (aH cz):=⟨rfl,rfl,rfl,by decide +kernel,rfl,by decide +kernel,by decide +kernel⟩
theorem br {fm:MF}{lv:Nat}(hlv:1<=lv)  {nM:Addr}{lz:FuncData}   {f:Addr}{fd:FuncData}(D:lH K mg "_law_tree_holds" cz ["_law_near_here", "_law_many", "_law_colours", "_law_tree"] f fd) (B:Bt mg)    (b_tuple:mg "tuple" = none)  (b_set:mg "set" = none) (bT:Fn P w K mg base 1 "_law_whole" fi ["_law_found"] (bj K K75.cS) nM lz)  (qS:Fn P w K mg base lv "_law_tree_holds" cz ["_law_near_here", "_law_many", "_law_colours", "_law_tree"] (bj K fm) f fd):Fn P w K mg base (lv+1) "_law_tree_holds" cz ["_law_near_here", "_law_many", "_law_colours", "_law_tree"] (bj K (K73.aQ fm)) f fd :=
 ⟨D,D.F.ok dO (fun _ _ _ _=>cA) fun fT A outer s H vs Q E hr h=>⟨_,
   (af (aF (i:=4) dO.nd rfl (by first|exact Or.inl rfl|exact Or.inr rfl) (aK bR (by rfl) B.len PySem.boot_len (aa (pv 2) ag)))
   (af (cH (PW.pt (ie (eT (fO (aK fG (by rfl) B.isi PyProof.Rows.boot_isinstance (aa (pv 3) (aa (gE (v:=.ty "list") (by rfl) B.list PyProof.Rows.boot_list rfl) ag))))) (iK (aX mV (pv 4) (aK bR (by rfl) B.len PySem.boot_len (aa (pv 0) ag)) (bq _))))) (ar (aW fw)) bp)
   (af (cH (aX kG (aK bR (by rfl) B.len PySem.boot_len (aa (pv 3) ag)) (aK (og rfl) (by rfl) B.min PyProof.Rows.boot_min (aa (pv 1) (aa (aP eR (pY rfl (by rfl) B.len (by rfl) b_set (aa (pv 2) ag)) aq) ag))) (bq _)) (ar (aW fw)) bp)
   (af (cR PassesOwn.never rfl (iz (by rfl) B.enum (aa (pv 3) ag)) (ku rfl (cE (aZ (i:=5) dO.nd rfl (by first|exact Or.inl rfl|exact Or.inr rfl)) (cE (aZ (i:=6) dO.nd rfl (by first|exact Or.inl rfl|exact Or.inr rfl)) iG)))
    (af (cH (PW.pt (ie (eT (fO (aK fG (by rfl) B.isi PyProof.Rows.boot_isinstance (aa (pv 6) (aa (gE (v:=.ty "tuple") (by rfl) b_tuple PyProof.Rows.boot_tuple rfl) ag))))) (ie (aX kG (aK bR (by rfl) B.len PySem.boot_len (aa (pv 6) ag)) aq (bq _)) (ie (eT (fO (bx bT (hr.mono (by lia)) (aa (bB bQ (pv 6) aq (fun _ _=>rfl)) ag)))) (iK (aX kG (bB bQ (pv 6) aq (fun _ _=>rfl)) (pv 5) (bq _))))))) (ar (aW fw)) bp) (af (uM (i:=7) (N:=["_law_there", "_law_place", "_law_colour", "_law_colours"]) (fr:=[4,5,2]) rfl dO.nd rfl (by first|exact Or.inl rfl|exact Or.inr rfl) rfl (by decide +kernel) rfl (by decide +kernel) rfl (iD.of (by decide +kernel) rfl rfl (by exact ⟨rfl,rfl,rfl,trivial⟩) (by repeat (first|exact trivial|refine ⟨(by first|exact fun _=>⟨_,rfl⟩|exact fun h=>(by rcases h with h|h <;> cases h)),?_⟩)) (by exact ⟨⟨rfl,rfl,rfl⟩,⟨rfl,rfl,rfl⟩,⟨rfl,rfl,rfl⟩,trivial⟩)) (dU (bB dc (pv 0) (pv 4) (fun _ _=>rfl))) (fun _ _ _ _=>yn (PW.pt (tW (aX tq (pv 0) (pv 1) (bq _)) (qe (aX mV (bB dc (pv 3) (pv 0) (fun _ _=>rfl)) (pv 2) (bq _)))))) (fun _ _ _ _=>(pv 0))) (ar (cH (mR (pv 7) (fun _=>rfl)) (ar (cH (PW.pt (ie (eT (fO (bx bT (hr.mono (by lia)) (aa (bB bQ (pv 6) aq (fun _ _=>rfl)) ag)))) (iK (aX kG (bB bQ (pv 6) aq (fun _ _=>rfl)) (bB dc (pv 7) aq (fun _ _=>rfl)) (bq _))))) (ar (aW fw)) bp)) (ar (cH (eT (fO (bx qS hr (aa (pv 0) (aa (pv 1) (aa (aP qI (pv 2) (du (aa (pv 5) ag))) (aa (bB bQ (pv 6) aq (fun _ _=>rfl)) ag))))))) (ar (aW fw)) bp)))))))
   (ar (aW fw)))))),
   bg ["_law_near_here", "_law_many", "_law_colours", "_law_tree", "_law_place", "_law_colour", "_law_entry", "_law_clashes"] (K:=K) (au (aD (i:=4) (SR.kSc (cF dg (ah (ae 2) ay))))
   (au (cG (ic (eQ (gA (cF mH (ah (ae 3) (ah nO ay))))) (aU (aw lL (ae 4) (cF dg (ah (ae 0) ay))))) (aV (SR.kSc ft)) bo)
   (au (cG (aU (aw km (cF dg (ah (ae 3) ay)) (cF ue (ah (ae 1) (ah (aw eP (qf (eZ 2)) ak) ay))))) (aV (SR.kSc ft)) bo)
   (au (jJ (aA 3) (au (cG (ic (eQ (gA (cF mH (ah (ae 6) (ah nO ay))))) (ic (aU (aw km (cF dg (ah (ae 6) ay)) ak)) (ic (eQ (gA (cj (ah (aw cg (ae 6) ak) ay)))) (aU (aw km (aw cg (ae 6) ak) (ae 5)))))) (aV (SR.kSc ft)) bo) (au (aD (i:=7) (nc (we (eZ 0) (ae 4)) (uD (aU (aw sJ (ae 0) (ae 1))) (aU (aw lL (aw nB (ae 3) (ae 0)) (ae 2)))) (aA 0))) (cG (ur (ae 7)) (cG (ic (eQ (gA (cj (ah (aw cg (ae 6) ak) ay)))) (aU (aw km (aw cg (ae 6) ak) (aw nB (ae 7) ak)))) (aV (SR.kSc ft)) bo) (cG (eQ (gA (cj (ah (ae 0) (ah (ae 1) (ah (SK.rOf (qX (nU 2) (SK.lOf (dv (ax (aA 5) aJ))))) (ah (aw cg (ae 6) ak) ay))))))) (aV (SR.kSc ft)) bo)))))
   (aV (SR.kSc ft)))))) h⟩⟩
theorem pJ  (D:lH K mg "_law_tree_holds" cz ["_law_near_here", "_law_many", "_law_colours", "_law_tree"] f fd) (B:Bt mg)    (b_tuple:mg "tuple" = none)  (b_set:mg "set" = none) (bT:Fn P w K mg base 1 "_law_whole" fi ["_law_found"] (bj K K75.cS) nM lz)  : Fn P w K mg base 11 "_law_tree_holds" cz ["_law_near_here", "_law_many", "_law_colours", "_law_tree"] (bj K K73.dq) f fd:=(br (by decide) D B b_tuple b_set bT (br (by decide) D B b_tuple b_set bT (br (by decide) D B b_tuple b_set bT (br (by decide) D B b_tuple b_set bT (br (by decide) D B b_tuple b_set bT (br (by decide) D B b_tuple b_set bT (br (by decide) D B b_tuple b_set bT (br (by decide) D B b_tuple b_set bT (br (by decide) D B b_tuple b_set bT (br (by decide) D B b_tuple b_set bT (uf (k:=1) D)))))))))))
abbrev dN:Stmt:=pd 28
theorem iU:bw ["_law_m", "_law_found", "_law_near_here"] ["_law_m", "_law_found"] (aH dN):=⟨rfl,rfl,rfl,by decide +kernel,rfl,by decide +kernel,by decide +kernel⟩
theorem nW  (D:lH K mg "_law_least_holds" dN ["_law_m", "_law_found"] f fd) (B:Bt mg)    (b_tuple:mg "tuple" = none)  (b_set:mg "set" = none) (BZ:Fn P w K mg base 2 "_law_near" kO ["_law_m"] (bj K K72.iq) KA Js) (rm:Fn P w K mg base 11 "_law_tree_holds" cz ["_law_near_here", "_law_many", "_law_colours", "_law_tree"] (bj K K73.dq) DT Cr) (bT:Fn P w K mg base 1 "_law_whole" fi ["_law_found"] (bj K K75.cS) nM lz) (qz:Fn P w K mg base 2 "_law_list_holds" eh ["_law_near_here", "_law_many", "_law_colours"] (bj K K73.cL) DV Dj)  : Fn P w K mg base 12 "_law_least_holds" dN ["_law_m", "_law_found"] (bj K K74.cC) f fd :=
 ⟨D,D.F.ok iU (fun _ _ _ _=>cA) fun fT A outer s H vs Q E hr h=>have hu:=hr.units;⟨_,
   (af (aF (i:=2) iU.nd rfl (by first|exact Or.inl rfl|exact Or.inr rfl) (bx BZ (hr.mono (by decide)) (aa (pv 0) ag)))
   (af (cH (PW.pt (ie (eT (fO (aK fG (by rfl) B.isi PyProof.Rows.boot_isinstance (aa (pv 1) (aa (gE (v:=.ty "tuple") (by rfl) b_tuple PyProof.Rows.boot_tuple rfl) ag))))) (ie (aX kG (aK bR (by rfl) B.len PySem.boot_len (aa (pv 1) ag)) aq (bq _)) (iK (eT (fO (bx bT (hr.mono (by decide)) (aa (bB bQ (pv 1) aq (fun _ _=>rfl)) ag)))))))) (ar (aW fw)) bp)
   (af (cH (PW.pt (ie (eT (fO (bx qz (hr.mono (by decide)) (aa (pv 2) (aa (bB bQ (pv 1) aq (fun _ _=>rfl)) (aa (bB bQ (pv 1) aq (fun _ _=>rfl)) ag)))))) (iK (aX kG (pY rfl (by rfl) B.len (by rfl) b_set (aa (bB bQ (pv 1) aq (fun _ _=>rfl)) ag)) (bB bQ (pv 1) aq (fun _ _=>rfl)) (bq _))))) (ar (aW fw)) bp)
   (af (cH (eT (mR (pv 0) (fun _=>rfl))) (ar (aW (uN (G6 hu) (pv 1) (kK (aa aq (aa (du ag) (aa (du ag) ag)))) (bq _)))) bp)
   (ar (aW (yc (uN vH (bB bQ (pv 1) aq (fun _ _=>rfl)) aq (bq _)) (xX (bx rm (hr.mono (by decide)) (aa (pv 2) (aa (aP mz (bB bQ (pv 1) aq (fun _ _=>rfl)) aq) (aa (du ag) (aa (bB bQ (pv 1) aq (fun _ _=>rfl)) ag))))))))))))),
   bg ["_law_m", "_law_found", "_law_near_here"] (K:=K) (au (aD (i:=2) (bG (ax (aA 0) aJ)))
   (au (cG (ic (eQ (gA (cF mH (ah (ae 1) (ah nO ay))))) (ic (aU (aw km (cF dg (ah (ae 1) ay)) ak)) (eQ (gA (cj (ah (aw cg (ae 1) ak) ay)))))) (aV (SR.kSc ft)) bo)
   (au (cG (ic (eQ (gA (cj (ah (ae 2) (ah (aw cg (ae 1) ak) (ah (aw cg (ae 1) ak) ay)))))) (aU (aw km (qf (SL.q (SK.lOf (xI (aA 1) ak)))) (aw cg (ae 1) ak)))) (aV (SR.kSc ft)) bo)
   (au (cG (eQ (ur (ae 0))) (aV (SR.kSc (aw Hj (ae 1) (SK.rOf (ko (ax (SR.kSc ak) (ax (dv aJ) (ax (dv aJ) aJ)))))))) bo)
   (aV (SR.kSc (yp (aw vD (aw cg (ae 1) ak) ak) (cj (ah (ae 2) (ah (aw md (aw cg (ae 1) ak) ak) (ah (SK.rOf (dv aJ)) (ah (aw cg (ae 1) ak) ay)))))))))))) h⟩⟩
abbrev jf:Stmt:=pd 29
theorem ij:bw ["_law_cell_here", "_law_many", "_law_left", "_law_order_here", "_law_k"] ["_law_cell_here", "_law_many"] (aH jf):=⟨rfl,rfl,rfl,by decide +kernel,rfl,by decide +kernel,by decide +kernel⟩
theorem xp     (D:lH K mg "_law_order" jf ["_law_cell_here", "_law_many"] f fd) (B:Bt mg)     : Fn P w K mg base 1 "_law_order" jf ["_law_cell_here", "_law_many"] (bj K K75.iY) f fd :=
 ⟨D,D.F.ok ij (fun _ _ _ _=>cA) fun fT A outer s H vs Q E hr h=>⟨_,
   (af (aF (i:=2) ij.nd rfl (by first|exact Or.inl rfl|exact Or.inr rfl) (vK rfl (by rfl) B.list (by rfl) B.range (aa (pv 1) ag)))
   (af (aF (i:=3) ij.nd rfl (by first|exact Or.inl rfl|exact Or.inr rfl) (du ag))
   (af (cR PassesOwn.never rfl (fg (by rfl) B.range (aa (pv 1) ag)) (aZ (i:=4) ij.nd rfl (by first|exact Or.inl rfl|exact Or.inr rfl))
    (af (eV (iu PySem.F.plainAttrs_list PySem.F.slot_list_append PySem.F.type_list_append dh (pv 3) (aa (iu PySem.F.plainAttrs_list PySem.F.slot_list_pop PySem.F.type_list_pop CV (pv 2) (aa (aP dr (pv 0) (aK bR (by rfl) B.len PySem.boot_len (aa (pv 2) ag))) ag)) ag))) (ar (aF (i:=0) ij.nd rfl (by first|exact Or.inl rfl|exact Or.inr rfl) (aP iE (pv 0) (aP eR (aK bR (by rfl) B.len PySem.boot_len (aa (pv 2) ag)) aq))))))
   (ar (aW (pv 3)))))),
   bg ["_law_cell_here", "_law_many", "_law_left", "_law_order_here", "_law_k"] (K:=K) (au (aD (i:=2) (vg (ah (ae 1) ay)))
   (au (aD (i:=3) (dv aJ))
   (au (kj (ah (ae 1) ay) (au (Ez (i:=3) (DI (i:=2) (aw df (ae 0) (cF dg (ah (ae 2) ay))))) (aD (i:=0) (SR.kSc (aw ky (ae 0) (aw eP (cF dg (ah (ae 2) ay)) ak))))))
   (aV (kJ 3))))) h⟩⟩
abbrev ir:Stmt:=pd 30
theorem dz:bw ["_law_script", "_law_many", "_law_cell_here", "_law_names", "_law_name", "_law_k", "_law_room"] ["_law_script", "_law_many"] (aH ir):=⟨rfl,rfl,rfl,by decide +kernel,rfl,by decide +kernel,by decide +kernel⟩
theorem wm  (D:lH K mg "_law_called" ir ["_law_script", "_law_many"] f fd) (B:Bt mg)   (cy:Fn P w K mg base 1 "_law_cell" fL ["_law_script", "_law_k"] (bj K Zl.az) pS nv)  : Fn P w K mg base 2 "_law_called" ir ["_law_script", "_law_many"] (bj K K75.gX) f fd :=
 ⟨D,D.F.ok dz (fun _ _ _ _=>cA) fun fT A outer s H vs Q E hr h=>⟨_,
   (af (aF (i:=2) dz.nd rfl (by first|exact Or.inl rfl|exact Or.inr rfl) (bx cy (hr.mono (by decide)) (aa (pv 0) (aa aq ag))))
   (af (aF (i:=3) dz.nd rfl (by first|exact Or.inl rfl|exact Or.inr rfl) (du ag))
   (af (aF (i:=4) dz.nd rfl (by first|exact Or.inl rfl|exact Or.inr rfl) aq)
   (af (cR PassesOwn.never rfl (fg (by rfl) B.range (aa (pv 1) ag)) (aZ (i:=5) dz.nd rfl (by first|exact Or.inl rfl|exact Or.inr rfl))
    (af (aF (i:=6) dz.nd rfl (by first|exact Or.inl rfl|exact Or.inr rfl) (aP mz (aP eR (aP mz (aP xh aq aq) (pv 1)) (pv 5)) (pv 4))) (af (aF (i:=4) dz.nd rfl (by first|exact Or.inl rfl|exact Or.inr rfl) (aP eR (aP eR (pv 4) aq) (aP dr (pv 2) (pv 6)))) (af (aF (i:=2) dz.nd rfl (by first|exact Or.inl rfl|exact Or.inr rfl) (aP Cn (pv 2) (pv 6))) (ar (eV (iu PySem.F.plainAttrs_list PySem.F.slot_list_append PySem.F.type_list_append dh (pv 3) (aa (pv 4) ag))))))))
   (ar (aW (pv 3))))))),
   bg ["_law_script", "_law_many", "_law_cell_here", "_law_names", "_law_name", "_law_k", "_law_room"] (K:=K) (au (aD (i:=2) (SR.kSc (cj (ah (ae 0) (ah ak ay)))))
   (au (aD (i:=3) (dv aJ))
   (au (aD (i:=4) (SR.kSc ak))
   (au (kj (ah (ae 1) ay) (au (aD (i:=6) (SR.kSc (aw md (aw eP (aw md (aw xH ak ak) (ae 1)) (ae 5)) (ae 4)))) (au (aD (i:=4) (SR.kSc (aw eP (aw eP (ae 4) ak) (aw df (ae 2) (ae 6))))) (au (aD (i:=2) (SR.kSc (aw Ft (ae 2) (ae 6)))) (kq (i:=3) (aA 4))))))
   (aV (kJ 3)))))) h⟩⟩
abbrev nz:Stmt:=pd 31
theorem ez:bw ["_law_script", "_law_most", "_law_many", "_law_ends", "_law_name", "_law_order_here", "_law_turns", "_law_met", "_law_end", "_law_turn", "_law_here"] ["_law_script", "_law_most"] (aH nz):=⟨rfl,rfl,rfl,by decide +kernel,rfl,by decide +kernel,by decide +kernel⟩
theorem BK  (D:lH K mg "_law_any" nz ["_law_script", "_law_most"] f fd) (B:Bt mg)   (xT:Fn P w K mg base 2 "_law_called" ir ["_law_script", "_law_many"] (bj K K75.gX) IR Gp) (Be:Fn P w K mg base 1 "_law_order" jf ["_law_cell_here", "_law_many"] (bj K K75.iY) Jt IJ) (kM:Fn P w K mg base 1 "_law_good" hU ["_law_turns"] (bj K K72.fQ) yA vx) (cy:Fn P w K mg base 1 "_law_cell" fL ["_law_script", "_law_k"] (bj K Zl.az) pS nv)  : Fn P w K mg base 3 "_law_any" nz ["_law_script", "_law_most"] (bj K K75.lg) f fd :=
 ⟨D,D.F.ok ez (fun _ _ _ _=>cA) fun fT A outer s H vs Q E hr h=>⟨_,
   (af (aF (i:=2) ez.nd rfl (by first|exact Or.inl rfl|exact Or.inr rfl) (aP dr (bx cy (hr.mono (by decide)) (aa (pv 0) (aa aq ag))) (aP eR (pv 1) aq)))
   (af (aF (i:=3) ez.nd rfl (by first|exact Or.inl rfl|exact Or.inr rfl) (du ag))
   (af (cR PassesOwn.never rfl (dU (bx xT (hr.mono (by decide)) (aa (pv 0) (aa (pv 2) ag)))) (aZ (i:=4) ez.nd rfl (by first|exact Or.inl rfl|exact Or.inr rfl))
    (ar (eV (iu PySem.F.plainAttrs_list PySem.F.slot_list_extend PySem.F.type_list_extend AY (pv 3) (aa (du (aa (pv 4) (aa (aP mz aq (pv 4)) ag))) ag)))))
   (af (aF (i:=5) ez.nd rfl (by first|exact Or.inl rfl|exact Or.inr rfl) (bx Be (hr.mono (by decide)) (aa (bx cy (hr.mono (by decide)) (aa (pv 0) (aa aq ag))) (aa (aK bR (by rfl) B.len PySem.boot_len (aa (pv 3) ag)) ag))))
   (af (uM (i:=6) (cl:=[]) (N:=["_law_k"]) (fr:=[]) rfl ez.nd rfl (by first|exact Or.inl rfl|exact Or.inr rfl) rfl (by decide +kernel) rfl (by decide +kernel) rfl (iD.none (by decide +kernel)) (fg (by rfl) B.range (aa (aP dr (aP iE (bx cy (hr.mono (by decide)) (aa (pv 0) (aa aq ag))) (aP eR (pv 1) aq)) aq) ag)) (fun _ _ _ _=>rP) (fun _ _ _ _=>(du ag)))
   (af (aF (i:=7) ez.nd rfl (by first|exact Or.inl rfl|exact Or.inr rfl) nK)
   (af (cR PassesOwn.never rfl (dU (pv 3)) (aZ (i:=8) ez.nd rfl (by first|exact Or.inl rfl|exact Or.inr rfl))
    (af (aF (i:=9) ez.nd rfl (by first|exact Or.inl rfl|exact Or.inr rfl) (du ag)) (af (aF (i:=10) ez.nd rfl (by first|exact Or.inl rfl|exact Or.inr rfl) (pv 8)) (af (vP PassesOwn.never (Hx (AJ (oN hr) (pv 10) (pv 7))) (af (qc (oN hr) (pv 7) (pv 10) fw rfl) (af (eV (iu PySem.F.plainAttrs_list PySem.F.slot_list_append PySem.F.type_list_append dh (pv 9) (aa (pv 10) ag))) (ar (aF (i:=10) ez.nd rfl (by first|exact Or.inl rfl|exact Or.inr rfl) (bB dc (pv 3) (bB dc (pv 5) (iu PySem.F.plainAttrs_list PySem.F.slot_list_index PySem.F.type_list_index vp (pv 3) (aa (pv 10) ag)) (fun _ _=>rfl)) (fun _ _=>rfl))))))) (ar (cH (mR (pv 9) (fun _=>rfl)) (ar (eV (iu PySem.F.plainAttrs_list PySem.F.slot_list_append PySem.F.type_list_append dh (pv 6) (aa (pv 9) ag)))) bp))))))
   (ar (aW (bx kM (hr.mono (by decide)) (aa (pv 6) ag))))))))))),
   bg ["_law_script", "_law_most", "_law_many", "_law_ends", "_law_name", "_law_order_here", "_law_turns", "_law_met", "_law_end", "_law_turn", "_law_here"] (K:=K) (au (aD (i:=2) (SR.kSc (aw df (cj (ah (ae 0) (ah ak ay))) (aw eP (ae 1) ak))))
   (au (aD (i:=3) (dv aJ))
   (au (iP (bG (ax (aA 0) (ax (aA 2) aJ))) (Gr (i:=3) (SK.lOf (dv (ax (aA 4) (ax (SR.kSc (aw md ak (ae 4))) aJ))))))
   (au (aD (i:=5) (bG (ax (SR.kSc (cj (ah (ae 0) (ah ak ay)))) (ax (SR.kSc (cF dg (ah (ae 3) ay))) aJ))))
   (au (aD (i:=6) (nY (ah (aw df (aw ky (cj (ah (ae 0) (ah ak ay))) (aw eP (ae 1) ak)) ak) ay) rp (dv aJ)))
   (au (aD (i:=7) pV)
   (au (iP (aA 3) (au (aD (i:=9) (dv aJ)) (au (aD (i:=10) (aA 8)) (au (wz 100000 (gA (Ak (ae 10) (ae 7))) (au (qh (i:=7) (SR.kSc ft) (ae 10)) (au (kq (i:=9) (aA 10)) (aD (i:=10) (SR.kSc (aw nB (ae 3) (aw nB (ae 5) (FF (T := "list") wA (ae 3) (ah (ae 10) ay))))))))) (cG (ur (ae 9)) (kq (i:=6) (aA 9)) bo)))))
   (aV (bG (ax (aA 6) aJ)))))))))) h⟩⟩
abbrev iZ:Stmt:=pd 32
theorem jK:bw ["_law_m", "_law_rows", "_law_k", "_law_turn"] ["_law_m"] (aH iZ):=⟨rfl,rfl,rfl,by decide +kernel,rfl,by decide +kernel,by decide +kernel⟩
theorem xJ  (D:lH K mg "_law_fewer" iZ ["_law_m"] f fd) (B:Bt mg)   (kM:Fn P w K mg base 1 "_law_good" hU ["_law_turns"] (bj K K72.fQ) yA vx)  : Fn P w K mg base 2 "_law_fewer" iZ ["_law_m"] (bj K K75.gM) f fd :=
 ⟨D,D.F.ok jK (fun _ _ _ _=>cA) fun fT A outer s H vs Q E hr h=>⟨_,
   (af (aF (i:=1) jK.nd rfl (by first|exact Or.inl rfl|exact Or.inr rfl) (jh kT (pv 0) nj (jt aq)))
   (af (cR PassesOwn.never rfl (iz (by rfl) B.enum (aa (jh kT (pv 0) (jt aq) nj) ag)) (ku rfl (cE (aZ (i:=2) jK.nd rfl (by first|exact Or.inl rfl|exact Or.inr rfl)) (cE (aZ (i:=3) jK.nd rfl (by first|exact Or.inl rfl|exact Or.inr rfl)) iG)))
    (ar (HR (aP qI (bB dc (pv 1) (aP dr (pv 2) aq) (fun _ _=>rfl)) (pv 3)) (GJ (pv 1) (aP dr (pv 2) aq) Dp))))
   (ar (aW (bx kM (hr.mono (by decide)) (aa (pv 1) ag)))))),
   bg ["_law_m", "_law_rows", "_law_k", "_law_turn"] (K:=K) (au (aD (i:=1) (sR (eZ 0) mW (jD ak)))
   (au (jJ (sR (eZ 0) (jD ak) mW) (GE (i:=1) (qX (SK.lOf (we (eZ 1) (aw df (ae 2) ak))) (nU 3)) (aw df (ae 2) ak)))
   (aV (bG (ax (aA 1) aJ))))) h⟩⟩
abbrev lV:Stmt:=pd 33
theorem jy:bw ["_law_script", "_law_m", "_law_handed", "_law_found", "_law_many", "_law_due", "_law_each"] ["_law_script"] (aH lV):=⟨rfl,rfl,rfl,by decide +kernel,rfl,by decide +kernel,by decide +kernel⟩
theorem GS  (D:lH K mg "law" lV ["_law_script"] f fd) (B:Bt mg)   (Aw:Fn P w K mg base 3 "_law_small" iT ["_law_script", "_law_most"] (bj K K72.fV) J4 IV) (C5:Fn P w K mg base 1 "_law_copy" kN ["_law_turns"] (bj K K51.gU) KS Ky) (Eg:Fn P w K mg base 12 "least" nJ ["m"] (bj K K75.lj) fleast fdleast) (Ax:Fn P w K mg base 2 "_law_fewer" iZ ["_law_m"] (bj K K75.gM) IZ IU) (pU:Fn P w K mg base 11 "tried" lp ["m", "many"] (bj K K72.cZ) ftried fdtried) (cy:Fn P w K mg base 1 "_law_cell" fL ["_law_script", "_law_k"] (bj K Zl.az) pS nv) (Ex:Fn P w K mg base 3 "_law_any" nz ["_law_script", "_law_most"] (bj K K75.lg) Lg KI) (pK:Fn P w K mg base 12 "_law_least_holds" dN ["_law_m", "_law_found"] (bj K K74.cC) B3 Bh) (BI:Fn P w K mg base 1 "_law_told" kL ["_law_found"] (bj K K72.jg) KF JG)  : Fn P w K mg base 13 "law" lV ["_law_script"] (bj K K74.zj) f fd :=
 ⟨D,D.F.ok jy (fun _ _ _ _=>cA) fun fT A outer s H vs Q E hr h=>have hu:=hr.units;⟨_,
   (af (aF (i:=1) jy.nd rfl (by first|exact Or.inl rfl|exact Or.inr rfl) (bx Aw (hr.mono (by decide)) (aa (pv 0) (aa aq ag))))
   (af (cH (aX mV (aP dr (bx cy (hr.mono (by decide)) (aa (pv 0) (aa aq ag))) aq) aq (bq _)) (ar (aF (i:=1) jy.nd rfl (by first|exact Or.inl rfl|exact Or.inr rfl) (bx Ax (hr.mono (by decide)) (aa (bx Ex (hr.mono (by decide)) (aa (pv 0) (aa aq ag))) ag)))) bp)
   (af (aF (i:=2) jy.nd rfl (by first|exact Or.inl rfl|exact Or.inr rfl) (bx C5 (hr.mono (by decide)) (aa (pv 1) ag)))
   (af (aF (i:=3) jy.nd rfl (by first|exact Or.inl rfl|exact Or.inr rfl) (bx Eg (hr.mono (by decide)) (aa (pv 2) ag)))
   (af (cH (PW.pt (ie (eT (fO (bx pK (hr.mono (by decide)) (aa (pv 1) (aa (pv 3) ag))))) (iK (aX (G9 hu) (pv 2) (pv 1) (bq _))))) (ar (aW fw)) bp)
   (af (cR PassesOwn.never rfl (fg (by rfl) B.range (aa aq ag)) (aZ (i:=4) jy.nd rfl (by first|exact Or.inl rfl|exact Or.inr rfl))
    (af (aF (i:=5) jy.nd rfl (by first|exact Or.inl rfl|exact Or.inr rfl) mE) (af (cH (aX tq (pv 4) (bB bQ (pv 3) aq (fun _ _=>rfl)) (bq _)) (ar (aF (i:=5) jy.nd rfl (by first|exact Or.inl rfl|exact Or.inr rfl) mE)) bp) (af (aF (i:=6) jy.nd rfl (by first|exact Or.inl rfl|exact Or.inr rfl) (bx pU (hr.mono (by decide)) (aa (pv 2) (aa (pv 4) ag)))) (af (cH (PW.pt (ie (eT (fO (bx BI (hr.mono (by decide)) (aa (pv 6) ag)))) (iK (aX kG (bB bQ (pv 6) aq (fun _ _=>rfl)) (pv 5) (bq _))))) (ar (aW fw)) bp) (af (cH (PW.pt (tW (aX mV (pv 4) (bB bQ (pv 3) aq (fun _ _=>rfl)) (bq _)) (qe (aX (Cz hu) (bB bQ (pv 6) aq (fun _ _=>rfl)) (bB bQ (pv 3) aq (fun _ _=>rfl)) (bq _))))) (ar (aW fw)) bp) (ar (cH (PW.pt (tW (aX mV (pv 4) (aP mz (bB bQ (pv 3) aq (fun _ _=>rfl)) aq) (bq _)) (qe (aX (Cz hu) (bB bQ (pv 6) aq (fun _ _=>rfl)) (bB bQ (pv 3) aq (fun _ _=>rfl)) (bq _))))) (ar (aW fw)) bp))))))))
   (ar (aW fw)))))))),
   bg ["_law_script", "_law_m", "_law_handed", "_law_found", "_law_many", "_law_due", "_law_each"] (K:=K) (au (aD (i:=1) (bG (ax (aA 0) (ax (SR.kSc ak) aJ))))
   (au (cG (aU (aw lL (aw df (cj (ah (ae 0) (ah ak ay))) ak) ak)) (aD (i:=1) (bG (ax (bG (ax (aA 0) (ax (SR.kSc ak) aJ))) aJ))) bo)
   (au (aD (i:=2) (bG (ax (aA 1) aJ)))
   (au (aD (i:=3) (bG (ax (aA 2) aJ)))
   (au (cG (ic (eQ (gA (cj (ah (ae 1) (ah (ae 3) ay))))) (aU (aw GW (ae 2) (ae 1)))) (aV (SR.kSc ft)) bo)
   (au (kj (ah ak ay) (au (aD (i:=5) (SR.kSc mD)) (au (cG (aU (aw sJ (ae 4) (aw cg (ae 3) ak))) (aD (i:=5) (SR.kSc mD)) bo) (au (aD (i:=6) (bG (ax (aA 2) (ax (aA 4) aJ)))) (au (cG (ic (eQ (gA (cj (ah (ae 6) ay)))) (aU (aw km (aw cg (ae 6) ak) (ae 5)))) (aV (SR.kSc ft)) bo) (au (cG (uD (aU (aw lL (ae 4) (aw cg (ae 3) ak))) (aU (aw Co (aw cg (ae 6) ak) (aw cg (ae 3) ak)))) (aV (SR.kSc ft)) bo) (cG (uD (aU (aw lL (ae 4) (aw md (aw cg (ae 3) ak) ak))) (aU (aw Co (aw cg (ae 6) ak) (aw cg (ae 3) ak)))) (aV (SR.kSc ft)) bo)))))))
   (aV (SR.kSc ft)))))))) h⟩⟩
end
end K74
namespace K74
open PySem L2 Mr Z Xe
theorem GN {l:W.OpenLaw}{w:World}{K:W.Frag}{h:Heap}{mg:Str->Option Value}{fa:Addr}(X:K.In h) (G:h.Ns mainGlobals mg) (hfa:mg "law" = some (.ref fa))
  {M:Addr}
  {kH:Addr}
  (a0:At K "places_at" gh f0 fd0)
  (a1:At K "led_to" kC f1 fd1)
  (a2:At K "neighbours" fI f2 fd2)
  (a3:At K "allowed" fj f3 fd3)
  (a4:At K "clashing" eA f4 fd4)
  (a5:At K "first_fit" dC f5 fd5)
  (a6:At K "tree_behind" cI f6 fd6)
  (a7:At K "tried" lp f7 fd7)
  (a8:At K "least" nJ f8 fd8)
  (a9:At K "_law_cell" fL f9 fd9)
  (a10:At K "_law_roads" je f10 fd10)
  (a11:At K "_law_good" hU f11 fd11)
  (a12:At K "_law_copy" kN f12 fd12)
  (a13:At K "_law_places" hZ f13 fd13)
  (a14:At K "_law_near" kO f14 fd14)
  (a15:At K "_law_small" iT f15 fd15)
  (a16:At K "_law_whole" fi f16 fd16)
  (a17:At K "_law_told" kL f17 fd17)
  (a18:At K "_law_list_holds" eh f18 fd18)
  (a19:At K "_law_tree_holds" cz f19 fd19)
  (a20:At K "_law_least_holds" dN f20 fd20)
  (a21:At K "_law_order" jf f21 fd21)
  (a22:At K "_law_called" ir f22 fd22)
  (a23:At K "_law_any" nz f23 fd23)
  (a24:At K "_law_fewer" iZ f24 fd24)
  (a25:W.nsIn K mainGlobals "law" = some (some (.ref f25))) (l25:K.lookup f25=some ⟨oc25,od25,.func (W.fnOf "law" "law" (gJ lV) (gg lV) (aH lV) .none kV25 dc25 pm25 an25 cd25 ct25),sl25⟩) (c25:W.codeIn K cd25 "law" = true) (k25:W.keepIn K (.ref f25)=true)
  (aM:W.nsIn K mainGlobals "MapError" = some (some (.ref M))) (xM:rX K "MapError" M yM=true)
  (a_TooBig:W.nsIn K mainGlobals "TooBig" = some (some (.ref kH))) (x_TooBig:rX K "TooBig" kH (.ref M::yM)=true) (l_TooBig:LJ K kH=true)
  (n_TooBig:W.findIn K (.ref kH) "__init__" = some (some (.builtin "ValueError.__init__"))) (kp_TooBig:W.keepIn K (.ref kH)=true)
  (btu:W.nsIn K mainGlobals "tuple" = some none)
  (bx_set:W.nsIn K mainGlobals "set" = some none)
  {t_MOST_PLACES:Tok}(q_MOST_PLACES:W.nsIn K mainGlobals "MOST_PLACES" = some (some (.int 8 t_MOST_PLACES)))
  (z0:W.nsIn K mainGlobals "len" = some none) (z1:W.nsIn K mainGlobals "min" = some none) (z2:W.nsIn K mainGlobals "max" = some none) (z3:W.nsIn K mainGlobals "abs" = some none) (z4:W.nsIn K mainGlobals "all" = some none) (z5:W.nsIn K mainGlobals "sorted" = some none) (z6:W.nsIn K mainGlobals "isinstance" = some none) (z7:W.nsIn K mainGlobals "list" = some none) (z8:W.nsIn K mainGlobals "int" = some none) (z9:W.nsIn K mainGlobals "bool" = some none) (z10:W.nsIn K mainGlobals "str" = some none) (z11:W.nsIn K mainGlobals "dict" = some none) (z12:W.nsIn K mainGlobals "zip" = some none) (z13:W.nsIn K mainGlobals "enumerate" = some none) (z14:W.nsIn K mainGlobals "range" = some none) (z15:W.nsIn K mainGlobals "reversed" = some none) :
  ∃ fd:FuncData,(∀ (s:Shared) (v:Value),BindsTo s fd ⟨[v],[]⟩ [("_law_script", v)])/\∀ base:Heap,K.In base->base.Ns mainGlobals mg->pG l.prog w K mg base HB 13 fa fd ["_law_script"] (yJ K):=by
 have e:=hfa.symm.trans (W.mg_of X G a25);cases e;have B:Bt mg:=⟨W.mg_none_of X G z0,W.mg_none_of X G z1,W.mg_none_of X G z2,W.mg_none_of X G z3,W.mg_none_of X G z4,W.mg_none_of X G z5,W.mg_none_of X G z6,W.mg_none_of X G z7,W.mg_none_of X G z8,W.mg_none_of X G z9,W.mg_none_of X G z10,W.mg_none_of X G z11,W.mg_none_of X G z12,W.mg_none_of X G z13,W.mg_none_of X G z14,W.mg_none_of X G z15⟩;have D25:lH K mg "law" lV ["_law_script"] _ _:=⟨yf l25 c25 k25,W.mg_of X G a25,b1 (yf l25 c25 k25) fun _ _ _ _ _ _ _=>rfl⟩
 have g_MOST_PLACES:=W.mg_of X G q_MOST_PLACES;refine ⟨W.fnOf "law" "law" (gJ lV) (gg lV) (aH lV) .none kV25 dc25 pm25 an25 cd25 ct25,fun s v=>.of_eq rfl,fun base kb nb=>?_⟩
 have bTU:=W.mg_none_of X G btu;have bX_set:=W.mg_none_of X G bx_set;have HK:=Fk X G aM xM;have R_TooBig:=GL a_TooBig aM x_TooBig xM l_TooBig;have vw:=Fi X G R_TooBig n_TooBig kp_TooBig;have F0:=uu (P:=l.prog) (w:=w) (base:=base) (pD X G a0 (b1 a0.F fun _ _ _ _ _ _ _=>rfl)) B
 have F1:=AA (P:=l.prog) (w:=w) (base:=base) (pD X G a1 (b3 a1.F fun _ _ _ _ _ _ _ _ _=>rfl)) B
 have F2:=rS (pD X G a2 (b1 a2.F fun _ _ _ _ _ _ _=>rfl)) B F0 F1
 have F3:=ye (P:=l.prog) (w:=w) (base:=base) (pD X G a3 (b2 a3.F fun _ _ _ _ _ _ _ _=>rfl)) B bX_set
 have F4:=wo (P:=l.prog) (w:=w) (base:=base) (pD X G a4 (b3 a4.F fun _ _ _ _ _ _ _ _ _=>rfl)) B
 have F5:=uU (pD X G a5 (b3 a5.F fun _ _ _ _ _ _ _ _ _=>rfl)) B F3 F4
 have F6:=qN (pD X G a6 (b3 a6.F fun _ _ _ _ _ _ _ _ _=>rfl)) B F3 F4
 have F7:=Dc (pD X G a7 (b2 a7.F fun _ _ _ _ _ _ _ _=>rfl)) B g_MOST_PLACES vw F2 F5 F6
 have F8:=Dd (pD X G a8 (b1 a8.F fun _ _ _ _ _ _ _=>rfl)) B F7
 have F9:=Aj (P:=l.prog) (w:=w) (base:=base) (pD X G a9 (b2 a9.F fun _ _ _ _ _ _ _ _=>rfl)) B
 have F10:=yo (pD X G a10 (b1 a10.F fun _ _ _ _ _ _ _=>rfl)) B F9
 have F11:=zJ (P:=l.prog) (w:=w) (base:=base) (pD X G a11 (b1 a11.F fun _ _ _ _ _ _ _=>rfl)) B
 have F12:=zI (P:=l.prog) (w:=w) (base:=base) (pD X G a12 (b1 a12.F fun _ _ _ _ _ _ _=>rfl)) B
 have F13:=vc (P:=l.prog) (w:=w) (base:=base) (pD X G a13 (b1 a13.F fun _ _ _ _ _ _ _=>rfl)) B
 have F14:=AH (pD X G a14 (b1 a14.F fun _ _ _ _ _ _ _=>rfl)) B bX_set F13
 have F15:=xB (pD X G a15 (b2 a15.F fun _ _ _ _ _ _ _ _=>rfl)) B F10 F11 F9
 have F16:=yk (P:=l.prog) (w:=w) (base:=base) (pD X G a16 (b1 a16.F fun _ _ _ _ _ _ _=>rfl)) B
 have F17:=Al (P:=l.prog) (w:=w) (base:=base) (pD X G a17 (b1 a17.F fun _ _ _ _ _ _ _=>rfl)) B bTU
 have F18:=pM (pD X G a18 (b3 a18.F fun _ _ _ _ _ _ _ _ _=>rfl)) B bX_set F16
 have F19:=pJ (pD X G a19 (b4 a19.F fun _ _ _ _ _ _ _ _ _ _=>rfl)) B bTU bX_set F16
 have F20:=nW (pD X G a20 (b2 a20.F fun _ _ _ _ _ _ _ _=>rfl)) B bTU bX_set F14 F19 F16 F18
 have F21:=xp (P:=l.prog) (w:=w) (base:=base) (pD X G a21 (b2 a21.F fun _ _ _ _ _ _ _ _=>rfl)) B
 have F22:=wm (pD X G a22 (b2 a22.F fun _ _ _ _ _ _ _ _=>rfl)) B F9
 have F23:=BK (pD X G a23 (b2 a23.F fun _ _ _ _ _ _ _ _=>rfl)) B F22 F21 F11 F9
 have F24:=xJ (pD X G a24 (b1 a24.F fun _ _ _ _ _ _ _=>rfl)) B F11
 have F25:=GS D25 B F15 F12 F8 F24 F7 F9 F23 F20 F17;exact F25.ok.imp (FA fun ns h=>Gm h)
theorem K2 {l:W.OpenLaw}{q:Program}{loose:List Str}{XP:(Str->Option Value)->Heap->Prop}{YP:World->Heap->Prop}{d:DefRec}{K:Params->W.Frag}(hn:l.most=some 63) (hdf:d.params.defaults=[])
  (hY:∀ (w:World) (h:Heap),YP w h->(K w.params).In h)
  (F:∀ (w:World) (mg:Str->Option Value) (fa:Addr) (h:Heap),(K w.params).In h->h.Ns mainGlobals mg->mg d.name=some (.ref fa) ->
   ∃ fd:FuncData,(∀ (s:Shared) (u:Value),BindsTo s fd ⟨[u],[]⟩ [("_law_script", u)])/\∀ base:Heap,(K w.params).In base->base.Ns mainGlobals mg->pG l.prog w (K w.params) mg base HB 13 fa fd ["_law_script"] (yJ (K w.params))) :
  W.WalkO q loose XP YP l.row.toRowW d [] (fun f vs=>PySem.call f vs) :=
 L2.EN (n:=63) (k:=13) (x := "_law_script") (CX:=fun _=>HB) (sp:=fun w=>yJ (K w.params)) hn (by decide) hdf ⟨rfl,by decide,by decide⟩ hY F (fun _ _ a ns hl _ hS=>⟨a,ns,rfl,hS,hl,fun _=>rfl⟩) fun _ _ _ _ _ z=>z
end K74
structure PySem.W.Fast:Prop where(tw6257077949204543131 tw9075529038506600689 tw9630434692019786383 tw10977962864118532930 tw13529852597211220770 tw13438402601478602086 tw13129103572386466553 tw7272217342150767769 tw3376869424363955780 tw4781833460917814869 tw14696910034074077676 tw2296147171654204153 tw8180369459988637086 tw14908331707264580739 tw6133547370529361383 tw5059159854992093901 tw14050265195883121593 tw3982117634205667530 tw14021474606717647726 tw11090591980853493056 tw16324573803033822691 tw4225184210669246009 tw6394863418200420152 tw14536784138569983456 tw9915354201006529637 tw9681143306087211867 tw17581918145029429777 tw14122525103686872636 tw13208355497247031748 tw17765854545737558763 tw14383707622558230089 tw16695838494997157133 tw7630911735276164509 tw4776225070506279773 tw2969382440831559385 tw4727623632399764689 tw13997510809755720995 tw15789199572743767779 tw18185365385919314704 tw17659884405569432511 tw11900222215046669370 tw3651564090570928154 tw2360368642679245127 tw16358015889649865322 tw2918779165158684755 tw5301102253753520461 tw10412636645741877106 tw9080468158812901003 tw13546582034779051274 tw17346171605449085063 tw14059047242465298163 tw9493676083119690676 tw17623723442919113929 tw17937696388034704547 tw16055003753610157351 tw1408838808075410299 tw267668682072486250 tw13453095085668043742 tw16455734394095721998 tw10457367456615403862 tw14803181097773163735 tw8270867483437597979 tw13280648171287936978 tw778862781520445482 tw12722252159608777348 tw9664092415953607590 tw3239036820223442688 tw10905031729494460136 tw17427090657599778587 tw5344785017747125559 tw3447694213398342039 tw4440227476437493574 tw8031189430619805094 tw8791814991839901420 tw5242747662655965751 tw4201835750940637829 tw13007340810532815892 tw709717459234235030 tw10677967823804724468 tw7462311108555963894 tw9615448936947668257 tw17391293161909453550 tw15471160869762080357 tw8569506702920733148 tw6417305698633856328 tw5640518630344252925 tw17587199478265883780 tw10564634954448417049 tw15755978511350393709 tw17739086814047225150 tw2221947594234864548 tw2764739873017585172 tw15023134511885757145 tw4237826038583733460 tw16124094035077528160 tw1833275882920808225 tw10335366042471098254 tw16529633733503556456 tw4533000130412861718 tw7877354682754433690 tw4482583437271862462 tw910793488153494587 tw15284037864449444532 tw5397857154917769754 tw10996450845534327787 tw17394928689238048034 tw3814641973559955919 tw14823552712996672055 tw14656357847832533149 tw4668144812603014727 tw3562762986502393205 tw11339046364765279602 tw8534925117775953537 tw5477232771308763608 tw9469901685986079755 tw503206609854304392 tw15963359638320562063 tw8009761593578089030 tw978244839677021659 tw13935683532856834756 tw7588236023248597599 tw1841558548776148523 tw11046537932971838729 tw3224600197834470596 tw12288916752763303068 tw1888120289239822840 tw7640095283479397695 tw7064903493544268854 tw3431118611142021118 tw9888821844599366187 tw15726498009139987745:True)
open PySem PySem.W PyProof.Rows
set_option maxRecDepth 100000 in
set_option maxHeartbeats 0 in
theorem PySem.Challenge.cw_mapround_k74_whole_least_told_holds : PySem.Challenge.rw_mapround_k74_whole_least_told.Holds := by
 w_on;o_law;k_head;(case hw=>w_witness2)
 k_fill
 refine K74.K2 (l:=PySem.Challenge.rw_mapround_k74_whole_least_told) rfl rfl (fun w h Y=>W.kIn_of Y) ?F
 case F =>
  intro w mg fa h KX G hmg;apply K74.GN KX G hmg
  all_goals first|exact Mr.Kp (by k_is) (by k_is) (by k_is) (by k_is)|exact Mr.atM_mk (by k_is) (by k_is) (by k_is) (by k_is) (by k_is)|k_is|kernel_rfl

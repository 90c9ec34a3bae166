import PyProof.Rows.All
import Wide.All
import OpenK.AllK
import Wide.FinOn
import Lean
import PyProof.EqAt
import PyProof.EqKinds
import PyProof.TupleCall
import PySem.Challenge.RW_creasecurve_k16_bends_told
set_option Elab.async false
set_option linter.all false
set_option maxRecDepth 100000
namespace L2
open PySem PySem.Spec PyProof.Rows
abbrev Key := Sum Int Str
def vU : Key -> Value -> Bool
 | .inl k, v => Value.isInt k v
 | .inr x, v => Value.isStrOf x v
def aPg (w : World) : Key -> Int
 | .inl k => hashInt k
 | .inr x => hashStr w x
theorem cS : ∀ {k : Key} {v : Value}, vU k v = true -> (∃ i t, k = Sum.inl i /\ v = Value.int i t) \/ (∃ x t, k = Sum.inr x /\ v = Value.str x t)
 | .inl i, v, h => by
  obtain ⟨t, e⟩ := Value.isInt_shape (k := i) (v := v) h
  exact .inl ⟨i, t, rfl, e⟩
 | .inr x, v, h => by
  obtain ⟨t, e⟩ := Value.isStrOf_shape (x := x) (v := v) h
  exact .inr ⟨x, t, rfl, e⟩
theorem aAx (i : Int) (t : Tok) : vU (.inl i) (.int i t) = true := by simp [vU, Value.isInt]
theorem zY (x : Str) (t : Tok) : vU (.inr x) (.str x t) = true := by simp [vU, Value.isStrOf]
theorem aMe (a b : Int) : decide ((Sum.inl a : Key) = Sum.inl b) = (a == b) := by
 by_cases e : a = b
 ·subst e; simp
 ·have h : ¬ (Sum.inl a : Key) = Sum.inl b := fun q => e (Sum.inl.inj q)
  rw [decide_eq_false h]
  exact (beq_eq_false_iff_ne.mpr e).symm
theorem aM1 (a b : Str) : decide ((Sum.inr a : Key) = Sum.inr b) = decide (a = b) := by
 by_cases e : a = b
 ·subst e; simp
 ·have h : ¬ (Sum.inr a : Key) = Sum.inr b := fun q => e (Sum.inr.inj q)
  rw [decide_eq_false h, decide_eq_false e]
theorem aM4 (a : Int) (b : Str) : decide ((Sum.inl a : Key) = Sum.inr b) = false := decide_eq_false (fun q => nomatch q)
theorem aNu (a : Str) (b : Int) : decide ((Sum.inr a : Key) = Sum.inl b) = false := decide_eq_false (fun q => nomatch q)
def dM (prog : Program) (w : World) : PySem.KeyKind prog w Key where
 is := vU
 hash := aPg w
 inj := fun v a b ha hb => by
  rcases cS ha with ⟨i, t, rfl, rfl⟩ | ⟨x, t, rfl, rfl⟩
  ·rcases cS hb with ⟨j, u, rfl, e⟩ | ⟨y, u, rfl, e⟩
   ·injection e with e1 _; rw [e1]
   ·exact nomatch e
  ·rcases cS hb with ⟨j, u, rfl, e⟩ | ⟨y, u, rfl, e⟩
   ·exact nomatch e
   ·injection e with e1 _; rw [e1]
 byValue := fun k v h => by
  rcases cS h with ⟨i, t, rfl, rfl⟩ | ⟨x, t, rfl, rfl⟩ <;> rfl
 pyHash := fun hv h => by
  rcases cS hv with ⟨i, t, rfl, rfl⟩ | ⟨x, t, rfl, rfl⟩
  ·exact wpAny_pyHash_int h
  ·exact wpAny_pyHash_str h
 eqBool := fun hu hv h => by
  rcases cS hu with ⟨i, t, rfl, rfl⟩ | ⟨x, t, rfl, rfl⟩
  ·rcases cS hv with ⟨j, u, rfl, rfl⟩ | ⟨y, u, rfl, rfl⟩
   ·rw [aMe] at h; exact wpAny_eqBool_int h
   ·rw [aM4] at h; exact SeqAt.EqAt.int_str i t y u _ _ _ _ h
  ·rcases cS hv with ⟨j, u, rfl, rfl⟩ | ⟨y, u, rfl, rfl⟩
   ·rw [aNu] at h; exact SeqAt.EqAt.str_int x t j u _ _ _ _ h
   ·rw [aM1] at h; exact wpAny_eqBool_str h
 «strs» := fun k x t v h => by
  rcases cS h with ⟨i, u, rfl, e⟩ | ⟨y, u, rfl, e⟩
  ·exact nomatch e
  ·injection e with e1 _
   subst e1
   cases v <;> rfl
theorem uN (prog : Program) (w : World) (i : Int) (t : Tok) : (dM prog w).is (.inl i) (.int i t) = true := aAx i t
theorem uS (prog : Program) (w : World) (x : Str) (t : Tok) : (dM prog w).is (.inr x) (.str x t) = true := zY x t
inductive V where
 | non | bl (b : Bool) | int (i : Int) | str (x : Str) | byt (b : Array UInt8) | flt (b : UInt64) | ref (a : Addr) | ty (n : String)
 deriving DecidableEq
def RelV : V -> Value -> Prop
 | .non, u => u = Value.none
 | .bl b, u => u = Value.bool b
 | .int i, u => ∃ t, u = Value.int i t
 | .str x, u => ∃ t, u = Value.str x t
 | .byt b, u => ∃ t, u = Value.bytes b t
 | .flt b, u => ∃ t, u = Value.float b t
 | .ref a, u => u = Value.ref a
 | .ty n, u => u = Value.type n
abbrev Vals : List V -> List Value -> Prop := Paired RelV
theorem Vals.length {xs : List V} {us : List Value} (r : Vals xs us) : xs.length = us.length := Paired.length r
theorem Vals.get : ∀ {xs : List V} {us : List Value} {i : Nat} {x : V}, Vals xs us -> xs[i]? = some x -> ∃ u, us[i]? = some u /\ RelV x u
 | _, _, _, _, .nil, e => by simp at e
 | _, _, 0, _, .cons r _, e => by simp at e; subst e; exact ⟨_, rfl, r⟩
 | _, _, i + 1, x, .cons _ t, e => by
  obtain ⟨u, h1, h2⟩ := Vals.get (i := i) (x := x) t (by simpa using e)
  exact ⟨u, by simpa using h1, h2⟩
theorem Vals.append : ∀ {xs ys : List V} {us ws : List Value}, Vals xs us -> Vals ys ws -> Vals (xs ++ ys) (us ++ ws)
 | _, _, _, _, .nil, s => s
 | _, _, _, _, .cons r t, s => .cons r (Vals.append t s)
theorem Vals.take : ∀ {xs : List V} {us : List Value} (n : Nat), Vals xs us -> Vals (xs.take n) (us.take n)
 | _, _, 0, _ => .nil
 | _, _, _ + 1, .nil => .nil
 | _, _, n + 1, .cons r t => .cons r (Vals.take n t)
theorem Vals.drop : ∀ {xs : List V} {us : List Value} (n : Nat), Vals xs us -> Vals (xs.drop n) (us.drop n)
 | _, _, 0, r => r
 | _, _, _ + 1, .nil => .nil
 | _, _, n + 1, .cons _ t => Vals.drop n t
def RelO : Option V -> Option Value -> Prop
 | some v, some u => RelV v u
 | none, none => True
 | _, _ => False
def KV {κ : Type} : List (κ × V) -> List (κ × Value) -> Prop := Paired fun (p : κ × V) (q : κ × Value) => p.1 = q.1 /\ RelV p.2 q.2
def kV : Key -> V
 | .inl i => .int i
 | .inr x => .str x
inductive HO where
 /-- a list -/
 | lst (xs : List V)
 /-- a tuple (never changes) -/
 | tup (xs : List V)
 /-- a dict whose keys are ints and texts; one whose keys are tuples of ints and texts (the empty one is both) -/
 | dK (kvs : List (Key × V)) | dT (kvs : List (List Key × V))
 /-- a set of ints: its members, its size -/
 | set (S : Int -> Bool) (n : Nat)
 /-- an instance of the class at C, its dict at dx, its attributes -/
 | ins (C dx : Addr) (fs : List (Str × V))
 /-- the dict of the instance at x -/
 | own (x : Addr)
 /-- the dict of an exception -/
 | xd (fs : List (Str × V))
 /-- a bound method, f of x -/
 | met (f x : Addr)
 /-- a range object lo, lo + 1, .. below hi -/
 | rng (lo hi : Int)
 /-- a thing that is known to the object (the script; a dict while a loop walks it): read, never written while it is so -/
 | frz (o : Obj) (u : HO)
 /-- a code object's table -/
 | tbl (ps : Array Value)
 /-- any other thing, by what is true of its one object (a def of one's own: SetO a S n := HO.ext fun h => ..) -/
 | ext (φ : Heap -> Prop)
abbrev Hp := Addr -> Option HO
def upd (H : Hp) (a : Addr) (o : HO) : Hp := fun b => if b = a then some o else H b
theorem a6 {H : Hp} {a : Addr} {o : HO} : upd H a o a = some o := by unfold upd; rw [if_pos rfl]
theorem aS {H : Hp} {a b : Addr} {o : HO} (h : b ≠ a) : upd H a o b = H b := by unfold upd; rw [if_neg h]
theorem aIk {H : Hp} {a : Addr} {o u : HO} : upd (upd H a o) a u = upd H a u := by
 funext b; unfold upd; split <;> rfl
theorem aOq {H : Hp} {a b : Addr} {o u : HO} (h : H a = some o) (h' : H b = some u) (d : o ≠ u) : a ≠ b := by
 intro e; subst e; rw [h] at h'; exact d (Option.some.inj h')
theorem bE {H : Hp} {a b : Addr} {o : HO} (h : H a = some o) (h' : H b = none) : a ≠ b := by
 intro e; subst e; rw [h] at h'; cases h'
section
variable (P : Program) (w : World)
def ObjOk (H : Hp) (h : Heap) (a : Addr) : HO -> Prop
 | .lst xs => xs.length <= sizeLine /\ ∃ (its : List Value) (n : Nat), Vals xs its /\ h.get? a = some { cls := .type "list", data := .seq its.toArray n }
 | .tup xs => xs.length <= sizeLine /\ ∃ its : List Value, Vals xs its /\ IsTup h a its.toArray
 | .dK kvs => kvs.length <= sizeLine /\ (a == sysModules) = false /\ ∃ vs, KV kvs vs /\ h.DictOf (dM P w) a vs
 | .dT kvs => kvs.length <= sizeLine /\ (a == sysModules) = false /\ ∃ xs : List (List Key × Addr × Value),
   Paired (fun (p : List Key × V) (q : List Key × Addr × Value) => p.1 = q.1 /\ H q.2.1 = some (.tup (p.1.map kV)) /\ RelV p.2 q.2.2) kvs xs /\
   ∃ o es ep, h.get? a = some o /\ o.ExactDict /\ o.data = .dict es ep /\ es.toList = xs.map (entryOfKey (tupleKind (dM P w))) /\ (xs.map (·.1)).Nodup
 | .set S n => h.SetOf (intKind P w) a S n
 | .ins C dx fs => H dx = some (.own a) /\ fs.length <= 1000 /\ dx ≠ a /\ h.get? a = some (PySem.W.instObj C dx) /\
   ∃ mA, h.Ns1 dx mA /\ (∀ f, RelO (fs.lookup f) (mA f)) /\ PySem.Within mA (fs.map (·.1))
 | .own _ => ∃ o, h.get? a = some o
 | .xd fs => ∃ mA, h.Ns1 a mA /\ ∀ f, RelO (fs.lookup f) (mA f)
 | .rng lo hi => ∃ t u v, h.get? a = some { cls := .type "range", data := .fields #[.int lo t, .int hi u, .int 1 v] }
 | .frz o u => h.get? a = some o /\ ObjOk H h a u
 | .tbl ps => ∃ qs, h.get? a = some { cls := .none, data := .fields qs } /\ TriplesOk qs.toList /\ ∀ n t, ps[0]? = some (.str n t) -> ∀ pos cv, codeAmong pos qs.toList = some cv ->
   ∃ c oc vs u, cv = .ref c /\ H c = some (.frz oc (.own a)) /\ oc.data = .fields vs /\ vs[1]? = some (.str (n ++ ".<locals>." ++ "<lambda>") u)
 | .met f x => h.get? a = some (PySem.W.methodObj (.ref f) (.ref x))
 | .ext φ => φ h /\ (∃ o, h.get? a = some o) /\ ∀ h1 h2 : Heap, φ h1 -> (∀ o, h1.get? a = some o -> h2.get? a = some o) -> φ h2
def HOk (H : Hp) (h : Heap) : Prop := ∀ a o, H a = some o -> ObjOk P w H h a o
end
section
variable {P : Program} {w : World} {H H' : Hp} {h h' : Heap} {a : Addr} {o : HO}
theorem ObjOk.lt (x : ObjOk P w H h a o) : a < h.objs.size := by
 cases o with
 | lst xs => obtain ⟨_, _, _, _, e⟩ := x; exact Heap.lt_size e
 | tup xs => obtain ⟨_, _, _, p⟩ := x; exact p.lt
 | dK kvs => obtain ⟨_, _, _, _, o, _, _, e, _⟩ := x; exact Heap.lt_size e
 | dT kvs => obtain ⟨_, _, _, _, o, _, _, e, _⟩ := x; exact Heap.lt_size e
 | set S n => obtain ⟨o, _, _, _, e, _⟩ := x; exact Heap.lt_size e
 | ins C dx fs => obtain ⟨_, _, _, e, _⟩ := x; exact Heap.lt_size e
 | own y => obtain ⟨_, e⟩ := x; exact Heap.lt_size e
 | xd fs => obtain ⟨_, ⟨_, _, _, e, _⟩, _⟩ := x; exact Heap.lt_size e
 | rng lo hi => obtain ⟨_, _, _, e⟩ := x; exact Heap.lt_size e
 | frz ob u => obtain ⟨e, _⟩ := x; exact Heap.lt_size e
 | tbl ps => obtain ⟨_, e, _⟩ := x; exact Heap.lt_size e
 | met f y => exact Heap.lt_size (show h.get? a = some _ from x)
 | ext φ => obtain ⟨_, ⟨_, e⟩, _⟩ := x; exact Heap.lt_size e
theorem Paired.mapP {α β : Type} {F G : α -> β -> Prop} : ∀ {l₁ : List α} {l₂ : List β}, Paired F l₁ l₂ -> (∀ a b, F a b -> G a b) -> Paired G l₁ l₂
 | _, _, .nil, _ => .nil
 | _, _, .cons r t, f => .cons (f _ _ r) (Paired.mapP t f)
theorem ObjOk.stay (x : ObjOk P w H h a o) (k : ∀ b u, (b = a \/ H b = some (.own a)) -> h.get? b = some u -> h'.get? b = some u)
  (ho : ∀ b, H b = some (.own a) -> H' b = some (.own a)) (ht : ∀ b xs, H b = some (.tup xs) -> H' b = some (.tup xs)) (hz : ∀ b o, H b = some (.frz o (.own a)) -> H' b = some (.frz o (.own a)) := by exact fun _ _ q => q) : ObjOk P w H' h' a o := by
 induction o with
 | lst xs => obtain ⟨z, its, n, r, e⟩ := x; exact ⟨z, its, n, r, k _ _ (.inl rfl) e⟩
 | tup xs => obtain ⟨z, its, r, ob, e, c⟩ := x; exact ⟨z, its, r, ob, k _ _ (.inl rfl) e, c⟩
 | dK kvs => obtain ⟨z, y, vs, r, ob, es, ep, e, c⟩ := x; exact ⟨z, y, vs, r, ob, es, ep, k _ _ (.inl rfl) e, c⟩
 | dT kvs =>
  obtain ⟨z, y, xs, r, ob, es, ep, e, c⟩ := x
  exact ⟨z, y, xs, Paired.mapP r fun p q z => ⟨z.1, ht _ _ z.2.1, z.2.2⟩, ob, es, ep, k _ _ (.inl rfl) e, c⟩
 | set S n => obtain ⟨ob, es, ep, t, e, c⟩ := x; exact ⟨ob, es, ep, t, k _ _ (.inl rfl) e, c⟩
 | ins C dx fs =>
  obtain ⟨d, z, ne, e, mA, ⟨od, es, ep, e2, c⟩, r⟩ := x
  exact ⟨ho _ d, z, ne, k _ _ (.inl rfl) e, mA, ⟨od, es, ep, k _ _ (.inr d) e2, c⟩, r⟩
 | own y => obtain ⟨ob, e⟩ := x; exact ⟨ob, k _ _ (.inl rfl) e⟩
 | xd fs => obtain ⟨mA, ⟨od, es, ep, e, c⟩, r⟩ := x; exact ⟨mA, ⟨od, es, ep, k _ _ (.inl rfl) e, c⟩, r⟩
 | rng lo hi => obtain ⟨t, u, v, e⟩ := x; exact ⟨t, u, v, k _ _ (.inl rfl) e⟩
 | frz ob u ih => obtain ⟨e, q⟩ := x; exact ⟨k _ _ (.inl rfl) e, ih q⟩
 | tbl ps =>
  obtain ⟨qs, e, t, z⟩ := x
  refine ⟨qs, k a _ (.inl rfl) e, t, fun n u en pos cv ec => ?_⟩
  obtain ⟨c, oc, vs, v, e1, e2, e3⟩ := z n u en pos cv ec
  exact ⟨c, oc, vs, v, e1, hz c oc e2, e3⟩
 | met f y =>
  have e : h.get? a = some (PySem.W.methodObj (.ref f) (.ref y)) := x
  show h'.get? a = some (PySem.W.methodObj (.ref f) (.ref y))
  exact k a _ (.inl rfl) e
 | ext φ => obtain ⟨p, ⟨o, e⟩, st⟩ := x; exact ⟨st _ _ p fun o q => k _ _ (.inl rfl) q, ⟨o, k _ _ (.inl rfl) e⟩, st⟩
theorem HOk.lt (x : HOk P w H h) (e : H a = some o) : a < h.objs.size := (x a o e).lt
theorem HOk.fresh (x : HOk P w H h) (e : h.objs.size <= a) : H a = none := by
 cases q : H a with
 | none => rfl
 | some u => exact absurd (Nat.lt_of_lt_of_le (x.lt q) e) (Nat.lt_irrefl _)
theorem HOk.kept (x : HOk P w H h) (k : ∀ b u, h.get? b = some u -> h'.get? b = some u) : HOk P w H h' := fun a o e =>
 (x a o e).stay (fun b u _ q => k b u q) (fun _ q => q) fun _ _ q => q
theorem HOk.laid (x : HOk P w H h) (k : ∀ b u, h.get? b = some u -> h'.get? b = some u) (hp : h.objs.size <= a) (new : ObjOk P w (upd H a o) h' a o) : HOk P w (upd H a o) h' := fun b u e => by
 have hn := x.fresh hp
 by_cases hb : b = a
 ·subst hb; rw [a6] at e; cases e; exact new
 ·rw [aS hb] at e
  exact (x b u e).stay (fun c v _ q => k c v q) (fun c q => by rw [aS (bE q hn)]; exact q) (fun c xs q => by rw [aS (bE q hn)]; exact q) fun c xs q => by rw [aS (bE q hn)]; exact q
end
def Rd (H : Hp) (a : Addr) (u : HO) : Prop := H a = some u \/ ∃ o, H a = some (.frz o u)
theorem Rd.ok {P : Program} {w : World} {H : Hp} {h : Heap} {a : Addr} {u : HO} (r : Rd H a u) (x : HOk P w H h) : ObjOk P w H h a u := by
 rcases r with r | ⟨o, r⟩
 ·exact x a u r
 ·obtain ⟨_, q⟩ := x a _ r
  exact q
def Mut : Option HO -> Prop
 | some (.lst _) => True
 | some (.dK _) => True
 | some (.dT _) => True
 | some (.set _ _) => True
 | some (.ins _ _ _) => True
 | some (.ext _) => True
 | _ => False
section
variable {P : Program} {w : World} {H : Hp} {h h' : Heap} {x e : Addr} {o' : HO}
theorem HOk.write (ok : HOk P w H h) (mu : Mut (H x)) (he : e = x \/ H e = some (.own x)) (k : ∀ b u, b ≠ e -> h.get? b = some u -> h'.get? b = some u) (heo : ∃ u, h'.get? e = some u)
  (new : ObjOk P w (upd H x o') h' x o') : HOk P w (upd H x o') h' := fun b u q => by
 have nown : ∀ c y, H c = some (.own y) -> c ≠ x := fun c y r z => by subst z; rw [r] at mu; exact mu
 have ntup : ∀ c xs, H c = some (.tup xs) -> c ≠ x := fun c xs r z => by subst z; rw [r] at mu; exact mu
 by_cases hb : b = x
 ·subst hb; rw [a6] at q; cases q; exact new
 ·rw [aS hb] at q
  by_cases hbe : b = e
  ·have q' : H b = some (.own x) := by
    rcases he with z | z
    ·exact absurd (hbe.trans z) hb
    ·rw [hbe]; exact z
   rw [q] at q'; cases q'
   obtain ⟨v, hv⟩ := heo
   exact ⟨v, by rw [hbe]; exact hv⟩
  ·refine (ok b u q).stay (fun c v hc r => k c v ?_ r) (fun c r => by rw [aS (nown c b r)]; exact r) (fun c xs r => by rw [aS (ntup c xs r)]; exact r) fun c xs r => by rw [aS (by rintro rfl; rw [r] at mu; exact mu)]; exact r
   rcases hc with rfl | hc
   ·exact hbe
   ·rintro rfl
    rcases he with z | z
    ·exact nown c b hc z
    ·rw [hc] at z; cases z; exact hb rfl
end
structure Un (fs ex : List Addr) (H H' : Hp) (h h' : Heap) : Prop where
 keep : ∀ b o, h.get? b = some o -> H b = none -> b ∉ fs -> b ∉ ex -> h'.get? b = some o
 slot : ∀ b o, h.get? b = some o -> H b = none -> b ∈ fs -> b ∉ ex -> ∃ sl, h'.get? b = some { o with slots := sl }
 free : ∀ b o, h.get? b = some o -> H b = none -> b ∉ ex -> H' b = none
 there : ∀ b o, h.get? b = some o -> b ∉ ex -> ∃ o', h'.get? b = some o'
 tups : ∀ b xs, H b = some (.tup xs) -> H' b = some (.tup xs)
 frzs : ∀ b o u, H b = some (.frz o u) -> H' b = some (.frz o u)
 tbls : ∀ b ps, H b = some (.tbl ps) -> ∃ more, H' b = some (.tbl (ps ++ more))
section
variable {fs fs' ex ex' : List Addr} {H H1 H2 : Hp} {h h1 h2 h' : Heap} {a x e : Addr} {o : HO}
theorem Un.any (u : Un fs ex H H1 h h1) {b : Addr} {ob : Obj} (q : h.get? b = some ob) (n : H b = none) (hx : b ∉ ex) : ∃ sl, h1.get? b = some { ob with slots := sl } := by
 by_cases hb : b ∈ fs
 ·exact u.slot b ob q n hb hx
 ·exact ⟨ob.slots, u.keep b ob q n hb hx⟩
theorem Un.kept (k : ∀ b u, h.get? b = some u -> h'.get? b = some u) : Un fs ex H H h h' :=
 ⟨fun b ob q _ _ _ => k b ob q, fun b ob q _ _ _ => ⟨ob.slots, k b ob q⟩, fun _ _ _ n _ => n, fun b ob q _ => ⟨ob, k b ob q⟩, fun _ _ q => q, fun _ _ _ q => q, fun _ ps q => ⟨#[], by rw [q]; simp⟩⟩
theorem Un.refl : Un fs ex H H h h := Un.kept fun _ _ q => q
theorem Un.laid (k : ∀ b u, h.get? b = some u -> h'.get? b = some u) (hp : h.objs.size <= a) (hn : H a = none) : Un fs ex H (upd H a o) h h' where
 keep := fun b u q _ _ _ => k b u q
 slot := fun b u q _ _ _ => ⟨u.slots, k b u q⟩
 free := fun b u q n _ => by rw [aS (Nat.ne_of_lt (Nat.lt_of_lt_of_le (Heap.lt_size q) hp))]; exact n
 there := fun b u q _ => ⟨u, k b u q⟩
 tups := fun b xs q => by rw [aS (bE q hn)]; exact q
 frzs := fun b u xs q => by rw [aS (bE q hn)]; exact q
 tbls := fun b ps q => ⟨#[], by rw [aS (bE q hn), q]; simp⟩
theorem Un.write (mu : Mut (H x)) (he : e = x \/ H e = some (.own x)) (k : ∀ b u, b ≠ e -> h.get? b = some u -> h'.get? b = some u) (heo : ∃ u, h'.get? e = some u) : Un fs ex H (upd H x o) h h' := by
 have hx : ∀ b, H b = none -> b ≠ x := fun b n z => by subst z; rw [n] at mu; exact mu
 have hb : ∀ b, H b = none -> b ≠ e := fun b n z => by
  subst z
  rcases he with r | r
  ·exact hx b n r
  ·rw [n] at r; cases r
 have hm : ∀ b u, H b = some u -> ¬ Mut (some u) -> b ≠ x := fun b u q nm z => by subst z; rw [q] at mu; exact nm mu
 refine ⟨fun b u q n _ _ => k b u (hb b n) q, fun b u q n _ _ => ⟨u.slots, k b u (hb b n) q⟩, fun b u q n _ => by rw [aS (hx b n)]; exact n, fun b u q _ => ?_,
  fun b xs q => by rw [aS (hm b _ q fun z => z)]; exact q, fun b u xs q => by rw [aS (hm b _ q fun z => z)]; exact q, fun b ps q => ⟨#[], by rw [aS (hm b _ q fun z => z), q]; simp⟩⟩
 by_cases hbe : b = e
 ·subst hbe; exact heo
 ·exact ⟨u, k b u hbe q⟩
end
def trk (h : Heap) (H : Hp) : List Addr := (List.range h.objs.size).filter fun a => (H a).isSome
def aEm (h : Heap) (H : Hp) : Heap := PySem.W.hideAll h (trk h H)
theorem aCn (h : Heap) (H : Hp) : (aEm h H).objs.size = h.objs.size := PySem.W.hideAll_size _ _
theorem aFt {h : Heap} {H : Hp} {b : Addr} {o : Obj} (e : h.get? b = some o) (n : H b = none) : (aEm h H).get? b = some o :=
 PySem.W.hideAll_get _ e fun hm => by
  have q : (H b).isSome = true := (List.mem_filter.mp hm).2
  rw [n] at q; simp at q
theorem aJc {h : Heap} {H : Hp} {b : Addr} {o : Obj} (e : (aEm h H).get? b = some o) : h.get? b = some o /\ H b = none := by
 have e' : h.get? b = some o := PySem.W.of_hideAll (trk h H) e
 refine ⟨e', ?_⟩
 cases q : H b with
 | none => rfl
 | some x =>
  have hm : b ∈ trk h H := List.mem_filter.mpr ⟨List.mem_range.mpr (Heap.lt_size e'), by simp [q]⟩
  have z : (aEm h H).get? b = none := PySem.W.hideAll_none (trk h H) hm
  rw [z] at e; cases e
def aHq (g h : Heap) (L : Addr) : List (Addr × Obj) := (List.range h.objs.size).filterMap fun a => if a = L \/ (g.get? a).isSome = true then none else (h.get? a).map fun o => (a, o)
def rest (g h : Heap) (L d : Addr) : List (Addr × Obj) := (aHq g h L).filter fun p => decide (p.1 ≠ d)
def lamsOf : List Str := ["rising", "points_in_order"]
def tbs (K : PySem.W.Frag) : List (Addr × Addr × Str) := K.filterMap fun p => match p.2.data with
 | .fields vs => match (vs[11]? : Option Value), (vs[1]? : Option Value) with
  | some (.ref P), some (.str n _) => if lamsOf.contains n then some (p.1, P, n) else none
  | _, _ => none
 | _ => none
def Tbs (K : PySem.W.Frag) (H : Hp) : Prop := ∀ p ∈ tbs K, ∃ more, H p.2.1 = some (.tbl (#[.str p.2.2 0] ++ more))
def aIb (K : PySem.W.Frag) (ts : List Addr) : Bool := (tbs K).all fun p => PySem.W.codeHdIn K p.1 p.2.1 && (K.lookup p.2.1).isNone && ts.contains p.2.1 && (tbs K).all fun q => p.2.1 != q.2.1 || p.2.2 == q.2.2
structure Mod (K : PySem.W.Frag) (mg : Str -> Option Value) (base : Heap) : Prop where
 kin : K.In base
 glob : base.Ns mainGlobals mg
 blt : ∃ mb, base.Ns builtinsNs mb /\ ∀ x : Str, x ≠ "__name__" -> mb x = bootBuiltins x
 nolimit : base.NoLimit
 bm : ∃ bm ob, mg "__builtins__" = some (.ref bm) /\ bm ≠ builtinsNs /\ base.get? bm = some ob /\ ob.cls = .type "module" /\ ob.dict = some builtinsNs /\ ob.data = .plain
structure Cx where
 prog : Program
 w : World
 K : PySem.W.Frag
 mg : Str -> Option Value
 base : Heap
 A : Around
 N : List Str
 s₀ : Shared
 H₀ : Hp
 env : Env
 outer : List Env
 stack : List Env
 ex : List Addr
 fn : Str -> Bool
 calm : Bool
 pn : List (Addr × Obj)
 xe : Value -> Shared -> Prop
def frs (l : List Env) : List Addr := l.filterMap (·.frame)
abbrev Cx.fs (X : Cx) : List Addr := frs X.outer
def Vis (sc : Scope) (x : Str) : Prop := sc.names.lookup x = some .local \/ sc.names.lookup x = some .cell \/ sc.names.lookup x = some .free
def Loc (sc : Scope) (x : Str) : Prop := sc.names.lookup x = some .local \/ sc.names.lookup x = some .cell
def Look (env : Env) (h : Heap) (m : Str -> Option Value) (x : Str) (u : Value) : Prop :=
 (env.kindOf x = some .local /\ m x = some u) \/ ((env.kindOf x = some .cell \/ env.kindOf x = some .free) /\ ∃ c, env.cells.lookup x = some c /\ h.IsCell c (some u))
structure Cx.Ok (X : Cx) : Prop where
 mod : Mod X.K X.mg X.base
 kind : X.env.scope.kind = .function
 glob : X.env.globals = mainGlobals
 blt : X.env.builtins = builtinsNs
 above : X.s₀.heap.objs.size <= X.env.locals
 inj : ∀ x y c, X.env.cells.lookup x = some c -> X.env.cells.lookup y = some c -> x = y
 has : ∀ x, (X.env.kindOf x = some .cell \/ X.env.kindOf x = some .free) -> ∃ c, X.env.cells.lookup x = some c
 cab : ∀ x c, X.fn x = true -> X.env.cells.lookup x = some c -> X.s₀.heap.objs.size <= c
 hd : X.calm = true -> X.A.handled = none
 frames : X.A.frames = some X.stack
 stk : X.stack = X.outer \/ (X.stack = X.env :: X.outer /\ X.env.frame = some X.env.locals)
 exf : ∀ b ∈ X.ex, b ≠ X.env.locals /\ ∀ x c, X.env.cells.lookup x = some c -> c ≠ b
 bs : ∀ b o, X.base.get? b = some o -> X.s₀.heap.get? b = some o /\ X.H₀ b = none
 bsz : X.base.objs.size <= X.s₀.heap.objs.size
 noex : ∀ b o, X.base.get? b = some o -> b ∉ X.ex
 exfs : ∀ b ∈ X.ex, b ∉ X.fs
 funs : X.s₀.heap.FunFrames X.base X.outer
 frf : ∀ b ∈ X.fs, X.H₀ b = none
 tab : Tbs X.K X.H₀
structure Inv (X : Cx) (pins : List (Addr × Obj)) (σ : List (Option V)) (H : Hp) (s : Shared) : Prop where
 ok : X.Ok
 os : s.os = X.s₀.os
 bare : AllBare s.gens
 base : Un X.fs X.ex X.H₀ H X.s₀.heap s.heap
 loc : ∃ m, s.heap.Ns X.env.locals m /\ ∀ (i : Nat) (x : Str) (v : V), X.N[i]? = some x -> σ[i]? = some (some v) -> Vis X.env.scope x -> ∃ u, RelV v u /\ Look X.env s.heap m x u
 cell : ∀ x c, X.env.cells.lookup x = some c -> ∃ v, s.heap.IsCell c v
 free : H X.env.locals = none
 freeC : ∀ x c, X.env.cells.lookup x = some c -> H c = none
 pin : ∀ p ∈ X.pn ++ pins, s.heap.get? p.1 = some p.2 /\ H p.1 = none /\ p.1 ≠ X.env.locals /\ p.1 ∉ X.fs /\ ∀ v, p.2.data ≠ .cell v
 hok : HOk X.prog X.w H s.heap
 len : σ.length = X.N.length
section
variable {X : Cx} {pins : List (Addr × Obj)} {σ : List (Option V)} {H H' : Hp} {s : Shared} {h' : Heap}
theorem Cx.Ok.nofr (ok : X.Ok) {b : Addr} {o : Obj} (e : X.base.get? b = some o) : b ∉ X.fs := fun hb => by
 have := (ok.funs.mem hb).1
 rw [e] at this; cases this
theorem Inv.tab (I : Inv X pins σ H s) : Tbs X.K H := fun p hp => by
 obtain ⟨m, e⟩ := I.ok.tab p hp
 obtain ⟨m2, e2⟩ := I.base.tbls _ _ e
 exact ⟨m ++ m2, by rw [e2, Array.append_assoc]⟩
theorem Inv.bs (I : Inv X pins σ H s) : ∀ b o, X.base.get? b = some o -> s.heap.get? b = some o /\ H b = none := fun b o e =>
 ⟨I.base.keep b o (I.ok.bs b o e).1 (I.ok.bs b o e).2 (I.ok.nofr e) (I.ok.noex b o e), I.base.free b o (I.ok.bs b o e).1 (I.ok.bs b o e).2 (I.ok.noex b o e)⟩
theorem Inv.bk (I : Inv X pins σ H s) : ∀ b o, X.base.get? b = some o -> s.heap.get? b = some o := fun b o e => (I.bs b o e).1
theorem Inv.mod (I : Inv X pins σ H s) : Mod X.K X.mg X.base := I.ok.mod
theorem Inv.kIn (I : Inv X pins σ H s) : X.K.In s.heap := I.ok.mod.kin.keeps I.bk
theorem Inv.nolimit (I : Inv X pins σ H s) : s.heap.NoLimit := I.ok.mod.nolimit.keeps I.bk
theorem Inv.lt (I : Inv X pins σ H s) : X.env.locals < s.heap.objs.size := let ⟨_, hn, _⟩ := I.loc; hn.lt
theorem Inv.sz (I : Inv X pins σ H s) : X.s₀.heap.objs.size <= s.heap.objs.size := Nat.le_trans I.ok.above (Nat.le_of_lt I.lt)
theorem Inv.nofs (I : Inv X pins σ H s) {a : Addr} (h : s.heap.objs.size <= a) : a ∉ X.fs := fun hb => by
 obtain ⟨_, o, ho, _⟩ := I.ok.funs.mem hb
 exact absurd (Nat.lt_of_lt_of_le (Heap.lt_size ho) (Nat.le_trans I.sz h)) (Nat.lt_irrefl _)
theorem Inv.cne (I : Inv X pins σ H s) : ∀ x c, X.env.cells.lookup x = some c -> c ≠ X.env.locals := fun x c e z => by
 obtain ⟨v, o, ho, hd⟩ := I.cell x c e
 obtain ⟨m, ⟨o', es, ep, ho', hd', _⟩, _⟩ := I.loc
 rw [z, ho'] at ho; cases ho; rw [hd'] at hd; cases hd
theorem Inv.funs (I : Inv X pins σ H s) : s.heap.FunFrames X.base X.outer := by
 have all : ∀ (l : List Env), (∀ b ∈ frs l, b ∈ X.fs) -> X.s₀.heap.FunFrames X.base l -> s.heap.FunFrames X.base l := by
  intro l
  induction l with
  | nil => intro _ _; trivial
  | cons env r ih =>
   intro hs hl
   obtain ⟨hk, ⟨L, o, hf, hn, ho, hd⟩, hr⟩ := hl
   have hL : L ∈ X.fs := hs L (by unfold frs; rw [List.filterMap_cons, hf]; exact List.mem_cons_self)
   obtain ⟨sl, e⟩ := I.base.slot L o ho (I.ok.frf L hL) hL fun z => I.ok.exfs L z hL
   exact ⟨hk, ⟨L, _, hf, hn, e, hd⟩, ih (fun b hb => hs b (by unfold frs; rw [List.filterMap_cons, hf]; exact List.mem_cons_of_mem _ hb)) hr⟩
 exact all X.outer (fun _ hb => hb) I.ok.funs
theorem Inv.stack (I : Inv X pins σ H s) : s.heap.FunFrames X.base X.stack := by
 rcases I.ok.stk with e | ⟨e, hf⟩
 ·rw [e]; exact I.funs
 ·rw [e]
  obtain ⟨m, hn, _⟩ := I.loc
  refine .cons (by rw [I.ok.kind]; decide) hf hn ?_ I.funs
  exact Heap.get?_none_of_le (Nat.le_trans I.ok.bsz I.ok.above)
theorem Inv.stkSub (I : Inv X pins σ H s) : ∀ b ∈ frs X.stack, b ∈ X.env.locals :: X.fs := fun b hb => by
 rcases I.ok.stk with e | ⟨e, hf⟩
 ·rw [e] at hb; exact List.mem_cons_of_mem _ hb
 ·rw [e] at hb
  unfold frs at hb
  rw [List.filterMap_cons, hf] at hb
  exact hb
theorem Inv.stkFree (I : Inv X pins σ H s) : ∀ b ∈ frs X.stack, H b = none := fun b hb => by
 rcases List.mem_cons.mp (I.stkSub b hb) with e | hb
 ·rw [e]; exact I.free
 ·obtain ⟨_, o, ho, _⟩ := I.ok.funs.mem hb
  exact I.base.free b o ho (I.ok.frf b hb) fun z => I.ok.exfs b z hb
theorem Inv.step {g' : Array GenState} {t' : Nat} {d' : Drawn} {ch : List Addr} (I : Inv X pins σ H s)
  (hch : ∀ b ∈ ch, (b ∈ X.ex \/ X.s₀.heap.objs.size <= b) /\ b ≠ X.env.locals /\ (∀ x c, X.env.cells.lookup x = some c -> c ≠ b) /\ ∀ p ∈ X.pn ++ pins, p.1 ≠ b)
  (keep : ∀ b o, b ≠ X.env.locals -> b ∉ X.fs -> b ∉ ch -> s.heap.get? b = some o -> H b = none -> h'.get? b = some o)
  (slot : ∀ b o, b ≠ X.env.locals -> b ∈ X.fs -> b ∉ ch -> s.heap.get? b = some o -> H b = none -> ∃ sl, h'.get? b = some { o with slots := sl }) (free : ∀ b o, b ∉ ch -> s.heap.get? b = some o -> H b = none -> H' b = none)
  (there : ∀ b o, b ∉ ch -> s.heap.get? b = some o -> ∃ o', h'.get? b = some o')
  (tups : ∀ b xs, H b = some (.tup xs) -> H' b = some (.tup xs)) (frzs : ∀ b o u, H b = some (.frz o u) -> H' b = some (.frz o u)) (tbls : ∀ b ps, H b = some (.tbl ps) -> ∃ more, H' b = some (.tbl (ps ++ more)))
  (ns : ∀ m, s.heap.Ns X.env.locals m -> h'.Ns X.env.locals m) (hok : HOk X.prog X.w H' h') (hg : AllBare g') :
  Inv X pins σ H' { s with heap := h', gens := g', drawn := d', toks := t' } := by
 have neL : ∀ b o, X.s₀.heap.get? b = some o -> b ≠ X.env.locals := fun b o e => Nat.ne_of_lt (Nat.lt_of_lt_of_le (Heap.lt_size e) I.ok.above)
 have neC : ∀ b o, X.s₀.heap.get? b = some o -> b ∉ X.ex -> b ∉ ch := fun b o e hx hb => by
  rcases (hch b hb).1 with z | z
  ·exact hx z
  ·exact absurd (Nat.lt_of_lt_of_le (Heap.lt_size e) z) (Nat.lt_irrefl _)
 have cellK : ∀ x c, X.env.cells.lookup x = some c -> ∀ v, s.heap.IsCell c v -> h'.IsCell c v := fun x c e v ⟨o, ho, hd⟩ => by
  have nch : c ∉ ch := fun z => (hch c z).2.2.1 x c e rfl
  by_cases hc : c ∈ X.fs
  ·obtain ⟨sl, q⟩ := slot c o (I.cne x c e) hc nch ho (I.freeC x c e)
   exact ⟨_, q, hd⟩
  ·exact ⟨o, keep c o (I.cne x c e) hc nch ho (I.freeC x c e), hd⟩
 refine ⟨I.ok, I.os, hg, ⟨fun b o e n hb hx => ?_, fun b o e n hb hx => ?_, fun b o e n hx => ?_, fun b o e hx => ?_, fun b xs e => tups b xs (I.base.tups b xs e), fun b o xs e => frzs b o xs (I.base.frzs b o xs e), fun b ps e => ?_⟩, ?_, fun x c e => ?_, ?_, fun x c e => ?_, fun p hp => ?_, hok, I.len⟩
 ·exact keep b o (neL b o e) hb (neC b o e hx) (I.base.keep b o e n hb hx) (I.base.free b o e n hx)
 ·obtain ⟨sl, e1⟩ := I.base.slot b o e n hb hx
  obtain ⟨sl', e2⟩ := slot b _ (neL b o e) hb (neC b o e hx) e1 (I.base.free b o e n hx)
  exact ⟨sl', e2⟩
 ·obtain ⟨o', e1⟩ := I.base.there b o e hx
  exact free b o' (neC b o e hx) e1 (I.base.free b o e n hx)
 ·obtain ⟨o', e1⟩ := I.base.there b o e hx
  exact there b o' (neC b o e hx) e1
 ·obtain ⟨m1, e1⟩ := I.base.tbls b ps e
  obtain ⟨m2, e2⟩ := tbls b _ e1
  exact ⟨m1 ++ m2, by rw [e2, Array.append_assoc]⟩
 ·obtain ⟨m, hn, hl⟩ := I.loc
  refine ⟨m, ns m hn, fun i x v e1 e2 e3 => ?_⟩
  obtain ⟨u, r, l⟩ := hl i x v e1 e2 e3
  refine ⟨u, r, ?_⟩
  rcases l with l | ⟨k, c, e, z⟩
  ·exact .inl l
  ·exact .inr ⟨k, c, e, cellK x c e _ z⟩
 ·obtain ⟨v, z⟩ := I.cell x c e
  exact ⟨v, cellK x c e v z⟩
 ·obtain ⟨m, ⟨o, _, _, ho, _⟩, _⟩ := I.loc
  exact free _ o (fun z => (hch _ z).2.1 rfl) ho I.free
 ·obtain ⟨v, o, ho, hd⟩ := I.cell x c e
  exact free c o (fun z => (hch c z).2.2.1 x c e rfl) ho (I.freeC x c e)
 ·obtain ⟨e, n, ne, nf, d⟩ := I.pin p hp
  have nch : p.1 ∉ ch := fun z => (hch p.1 z).2.2.2 p hp rfl
  exact ⟨keep p.1 p.2 ne nf nch e n, free p.1 p.2 nch e n, ne, nf, d⟩
theorem Inv.un {t' : Nat} (I : Inv X pins σ H s) (u : Un X.fs [] H H' s.heap h') (hok : HOk X.prog X.w H' h') : Inv X pins σ H' { s with heap := h', toks := t' } := by
 obtain ⟨m, ⟨o, es, ep, ho, r⟩, _⟩ := id I.loc
 obtain ⟨sl, hL⟩ := u.any ho I.free (by simp)
 exact I.step (g' := s.gens) (d' := s.drawn) (ch := []) (fun _ z => nomatch z) (fun b o _ hb _ e n => u.keep b o e n hb (by simp)) (fun b o _ hb _ e n => u.slot b o e n hb (by simp)) (fun b o _ e n => u.free b o e n (by simp)) (fun b o _ e => u.there b o e (by simp)) u.tups u.frzs u.tbls (fun m' hm => by
  obtain ⟨o', es', ep', ho', r'⟩ := hm
  rw [ho] at ho'; cases ho'
  exact ⟨_, es', ep', hL, r'⟩) hok I.bare
theorem Inv.call {g' : Array GenState} {t' : Nat} {d' : Drawn} {ch : List Addr} (I : Inv X pins σ H s) (u : Un (frs X.stack) ch H H' s.heap h') (hok : HOk X.prog X.w H' h') (hg : AllBare g')
  (hch : ∀ b ∈ ch, (b ∈ X.ex \/ X.s₀.heap.objs.size <= b) /\ b ≠ X.env.locals /\ (∀ x c, X.env.cells.lookup x = some c -> c ≠ b) /\ ∀ p ∈ X.pn ++ pins, p.1 ≠ b) :
  Inv X pins σ H' { s with heap := h', gens := g', drawn := d', toks := t' } := by
 obtain ⟨m, ⟨o, es, ep, ho, r⟩, _⟩ := id I.loc
 obtain ⟨sl, hL⟩ := u.any ho I.free fun z => (hch _ z).2.1 rfl
 exact I.step (ch := ch) hch (fun b o hL hb hc e n => u.keep b o e n (fun z => (List.mem_cons.mp (I.stkSub b z)).elim hL hb) hc) (fun b o _ _ hc e n => u.any e n hc) (fun b o hc e n => u.free b o e n hc) (fun b o hc e => u.there b o e hc) u.tups u.frzs u.tbls (fun m' hm => by
  obtain ⟨o', es', ep', ho', r'⟩ := hm
  rw [ho] at ho'; cases ho'
  exact ⟨_, es', ep', hL, r'⟩) hok hg
theorem Inv.turned {t' : Nat} {it : Addr} (I : Inv X pins σ H s) (k : ∀ b o, b ≠ it -> s.heap.get? b = some o -> h'.get? b = some o) (hn : H it = none) (hL : it ≠ X.env.locals)
  (h1 : it ∈ X.ex \/ X.s₀.heap.objs.size <= it) (h2 : ∀ x c, X.env.cells.lookup x = some c -> c ≠ it) (h3 : ∀ p ∈ X.pn ++ pins, p.1 ≠ it) : Inv X pins σ H { s with heap := h', toks := t' } := by
 have nit : ∀ b u, H b = some u -> b ≠ it := fun b u e z => by rw [z, hn] at e; cases e
 refine I.step (g' := s.gens) (d' := s.drawn) (ch := [it]) (fun b hb => ?_) (fun b o _ _ hc e _ => k b o (fun z => hc (by simp [z])) e) (fun b o _ _ hc e _ => ⟨o.slots, k b o (fun z => hc (by simp [z])) e⟩) (fun _ _ _ _ n => n)
  (fun b o hc e => ⟨o, k b o (fun z => hc (by simp [z])) e⟩) (fun _ _ e => e) (fun _ _ _ e => e) (fun b ps e => ⟨#[], by rw [e]; simp⟩) (fun m hm => ?_) (fun b u e => ?_) I.bare
 ·have e : b = it := by simpa using hb
  subst e
  exact ⟨h1, hL, h2, h3⟩
 ·obtain ⟨o, es, ep, ho, r⟩ := hm
  exact ⟨o, es, ep, k _ o (Ne.symm hL) ho, r⟩
 ·refine (I.hok b u e).stay (fun c v hc q => k c v ?_ q) (fun _ q => q) fun _ _ q => q
  rcases hc with z | z
  ·rw [z]; exact nit b u e
  ·exact nit c _ z
theorem Inv.tok (I : Inv X pins σ H s) (t : Nat) : Inv X pins σ H { s with toks := t } := I.un (h' := s.heap) (t' := t) Un.refl I.hok
theorem Inv.kept {t' : Nat} (I : Inv X pins σ H s) (k : ∀ b u, s.heap.get? b = some u -> h'.get? b = some u) : Inv X pins σ H { s with heap := h', toks := t' } := I.un (Un.kept k) (I.hok.kept k)
theorem Inv.laid {a : Addr} {o : HO} {t' : Nat} (I : Inv X pins σ H s) (k : ∀ b u, s.heap.get? b = some u -> h'.get? b = some u) (hp : s.heap.objs.size <= a) (new : ObjOk X.prog X.w (upd H a o) h' a o) :
  Inv X pins σ (upd H a o) { s with heap := h', toks := t' } := I.un (Un.laid k hp (I.hok.fresh hp)) (I.hok.laid k hp new)
theorem Inv.write {x e : Addr} {o : HO} {t' : Nat} (I : Inv X pins σ H s) (mu : Mut (H x)) (he : e = x \/ H e = some (.own x)) (k : ∀ b u, b ≠ e -> s.heap.get? b = some u -> h'.get? b = some u) (heo : ∃ u, h'.get? e = some u)
  (new : ObjOk X.prog X.w (upd H x o) h' x o) : Inv X pins σ (upd H x o) { s with heap := h', toks := t' } := I.un (Un.write mu he k heo) (I.hok.write mu he k heo new)
theorem Inv.weak {σ' : List (Option V)} (I : Inv X pins σ H s) (hl : σ'.length = σ.length) (w : ∀ (i : Nat) v, σ'[i]? = some (some v) -> σ[i]? = some (some v)) : Inv X pins σ' H s :=
 ⟨I.ok, I.os, I.bare, I.base, let ⟨m, hn, hl'⟩ := I.loc; ⟨m, hn, fun i x v e1 e2 e3 => hl' i x v e1 (w i v e2) e3⟩, I.cell, I.free, I.freeC, I.pin, I.hok, hl.trans I.len⟩
theorem Inv.pins_of {pins' : List (Addr × Obj)} (I : Inv X pins σ H s) (h : ∀ p ∈ pins', s.heap.get? p.1 = some p.2 /\ H p.1 = none /\ p.1 ≠ X.env.locals /\ p.1 ∉ X.fs /\ ∀ v, p.2.data ≠ .cell v) : Inv X pins' σ H s :=
 ⟨I.ok, I.os, I.bare, I.base, I.loc, I.cell, I.free, I.freeC, fun p hp => (List.mem_append.mp hp).elim (fun z => I.pin p (List.mem_append_left _ z)) (h p), I.hok, I.len⟩
theorem vY {N : List Str} (hN : N.Nodup) {i j : Nat} {x : Str} (a : N[i]? = some x) (b : N[j]? = some x) : i = j := by
 obtain ⟨h1, e1⟩ := List.getElem?_eq_some_iff.mp a
 obtain ⟨h2, e2⟩ := List.getElem?_eq_some_iff.mp b
 exact (List.getElem_inj hN).mp (e1.trans e2.symm)
theorem zA {M : Model} {A : Around} {E : Value -> Shared -> Prop} {i : Nat} {x : Str} {v : V} {u : Value} {Q : Unit -> Shared -> Prop} (I : Inv X pins σ H s) (hN : X.N.Nodup) (hi : X.N[i]? = some x) (hx : Loc X.env.scope x) (r : RelV v u)
  (h : ∀ s', Inv X pins (σ.set i (some v)) H s' -> (∃ a, Heap.SameBut a s.heap s'.heap /\ (a = X.env.locals \/ X.env.cells.lookup x = some a)) -> Q () s') (hf : X.fn x = true \/ X.env.scope.names.lookup x = some .local := by first | exact .inl rfl | exact .inr rfl | assumption) : wpAny M A (storeName X.env x u) Q E s := by
 obtain ⟨m, hn, hl⟩ := id I.loc
 have hcls : (X.env.scope.kind == .class || (X.env.scope.kind == .module && X.env.locals != X.env.globals)) = false := by rw [I.ok.kind]; rfl
 have hiσ : i < σ.length := by rw [I.len]; exact (List.getElem?_eq_some_iff.mp hi).1
 have cne := I.cne
 have tracked : ∀ {a : Addr} {h' : Heap}, (∃ o, s.heap.get? a = some o /\ H a = none) -> Heap.SameBut a s.heap h' -> HOk X.prog X.w H h' := fun {a h'} ha hs b ob e => by
  obtain ⟨_, _, hfree⟩ := ha
  refine (I.hok b ob e).stay (fun c w' hc q => (hs.2 c ?_).trans q) (fun _ q => q) fun _ _ q => q
  rintro rfl
  rcases hc with rfl | hc
  ·rw [hfree] at e; cases e
  ·rw [hfree] at hc; cases hc
 rcases hx with hk | hk
 ·refine wpAny_storeName_local hk hn (fun h' hn' hs => ?_) hcls
  obtain ⟨oL, _, _, hoL, _⟩ := id hn
  refine h _ ⟨I.ok, I.os, I.bare, ⟨fun b o e n hb hx => ?_, fun b o e n hb hx => ?_, I.base.free, fun b o e hx => ?_, I.base.tups, I.base.frzs, I.base.tbls⟩, ⟨_, hn', fun j y v' e1 e2 e3 => ?_⟩, fun y c e => ?_, I.free, I.freeC, fun p hp => ?_, tracked ⟨oL, hoL, I.free⟩ hs, by simpa using I.len⟩ ⟨_, hs, .inl rfl⟩
  ·exact (hs.2 b (Nat.ne_of_lt (Nat.lt_of_lt_of_le (Heap.lt_size e) I.ok.above))).trans (I.base.keep b o e n hb hx)
  ·obtain ⟨sl, e1⟩ := I.base.slot b o e n hb hx
   exact ⟨sl, (hs.2 b (Nat.ne_of_lt (Nat.lt_of_lt_of_le (Heap.lt_size e) I.ok.above))).trans e1⟩
  ·obtain ⟨o', e1⟩ := I.base.there b o e hx
   exact ⟨o', (hs.2 b (Nat.ne_of_lt (Nat.lt_of_lt_of_le (Heap.lt_size e) I.ok.above))).trans e1⟩
  ·by_cases hj : j = i
   ·subst hj
    rw [hi] at e1; cases e1
    rw [List.getElem?_set_self hiσ] at e2
    cases e2
    exact ⟨u, r, .inl ⟨hk, by simp⟩⟩
   ·rw [List.getElem?_set_ne (Ne.symm hj)] at e2
    obtain ⟨u', r', q⟩ := hl j y v' e1 e2 e3
    refine ⟨u', r', ?_⟩
    rcases q with ⟨k, e⟩ | ⟨k, c, e, z⟩
    ·refine .inl ⟨k, ?_⟩
     have : y ≠ x := fun e => hj (vY hN e1 (e ▸ hi))
     simp [this, e]
    ·exact .inr ⟨k, c, e, z.sameBut hs (cne y c e)⟩
  ·obtain ⟨w', z⟩ := I.cell y c e
   exact ⟨w', z.sameBut hs (cne y c e)⟩
  ·obtain ⟨e, n, ne, nf, d⟩ := I.pin p hp
   exact ⟨(hs.2 p.1 ne).trans e, n, ne, nf, d⟩
 ·have hfn : X.fn x = true := by
   rcases hf with z | z
   ·exact z
   ·rw [z] at hk; cases hk
  obtain ⟨c, hc⟩ := I.ok.has x (.inl hk)
  obtain ⟨w', z⟩ := I.cell x c hc
  refine wpAny_storeName_cell I.ok.kind hk hc z (fun h' hc' hs => ?_)
  obtain ⟨oc, hoc, hocd⟩ := id z
  refine h { s with heap := h' } ⟨I.ok, I.os, I.bare, ⟨fun b o e n hb hx => ?_, fun b o e n hb hx => ?_, I.base.free, fun b o e hx => ?_, I.base.tups, I.base.frzs, I.base.tbls⟩, ⟨m, hn.sameBut hs (Ne.symm (cne x c hc)), fun j y v' e1 e2 e3 => ?_⟩, fun y c' e => ?_, I.free, I.freeC, fun p hp => ?_, tracked ⟨oc, hoc, I.freeC x c hc⟩ hs, by simpa using I.len⟩ ⟨c, hs, .inr hc⟩
  ·exact (hs.2 b (Nat.ne_of_lt (Nat.lt_of_lt_of_le (Heap.lt_size e) (I.ok.cab x c hfn hc)))).trans (I.base.keep b o e n hb hx)
  ·obtain ⟨sl, e1⟩ := I.base.slot b o e n hb hx
   exact ⟨sl, (hs.2 b (Nat.ne_of_lt (Nat.lt_of_lt_of_le (Heap.lt_size e) (I.ok.cab x c hfn hc)))).trans e1⟩
  ·obtain ⟨o', e1⟩ := I.base.there b o e hx
   exact ⟨o', (hs.2 b (Nat.ne_of_lt (Nat.lt_of_lt_of_le (Heap.lt_size e) (I.ok.cab x c hfn hc)))).trans e1⟩
  ·by_cases hj : j = i
   ·subst hj
    rw [hi] at e1; cases e1
    rw [List.getElem?_set_self hiσ] at e2
    cases e2
    exact ⟨u, r, .inr ⟨.inl hk, c, hc, hc'⟩⟩
   ·rw [List.getElem?_set_ne (Ne.symm hj)] at e2
    obtain ⟨u', r', q⟩ := hl j y v' e1 e2 e3
    refine ⟨u', r', ?_⟩
    rcases q with q | ⟨k, c', e, z'⟩
    ·exact .inl q
    ·refine .inr ⟨k, c', e, z'.sameBut hs ?_⟩
     rintro rfl
     exact hj (vY hN e1 (I.ok.inj _ _ _ e hc ▸ hi))
  ·by_cases hcc : c' = c
   ·subst hcc; exact ⟨_, hc'⟩
   ·obtain ⟨w2, z2⟩ := I.cell y c' e
    exact ⟨w2, z2.sameBut hs hcc⟩
  ·obtain ⟨e, n, ne, nf, d⟩ := I.pin p hp
   refine ⟨(hs.2 p.1 ?_).trans e, n, ne, nf, d⟩
   intro q
   rw [q, hoc] at e
   have q' : oc = p.2 := Option.some.inj e
   exact d w' (by rw [<- q']; exact hocd)
theorem xC {M : Model} {A : Around} {E : Value -> Shared -> Prop} {i : Nat} {x : Str} {v : V} {u : Value} {Q : Unit -> Shared -> Prop} (I : Inv X pins σ H s) (hN : X.N.Nodup) (hi : X.N[i]? = some x) (hx : Loc X.env.scope x) (r : RelV v u)
  (h : ∀ s', Inv X pins (σ.set i (some v)) H s' -> Q () s') (hf : X.fn x = true \/ X.env.scope.names.lookup x = some .local := by first | exact .inl rfl | exact .inr rfl | assumption) : wpAny M A (storeName X.env x u) Q E s :=
 zA I hN hi hx r (fun s' I' _ => h s' I') hf
theorem Inv.call' {s' : Shared} {ch : List Addr} (I : Inv X pins σ H s) (ho : s'.os = s.os) (u : Un (frs X.stack) ch H H' s.heap s'.heap) (hok : HOk X.prog X.w H' s'.heap) (hg : AllBare s'.gens)
  (hch : ∀ b ∈ ch, (b ∈ X.ex \/ X.s₀.heap.objs.size <= b) /\ b ≠ X.env.locals /\ (∀ x c, X.env.cells.lookup x = some c -> c ≠ b) /\ ∀ p ∈ X.pn ++ pins, p.1 ≠ b) : Inv X pins σ H' s' := by
 obtain ⟨h', g', d', t', o'⟩ := s'
 have e : o' = s.os := ho
 subst e
 exact I.call (g' := g') (t' := t') (d' := d') u hok hg hch
end
abbrev XK := Value -> Option Addr -> Hp -> Prop
abbrev St := List (Option V)
abbrev VK := V -> Hp -> Prop
abbrev TE := St -> Hp -> VK -> Prop
abbrev TT := St -> Hp -> (Bool -> Hp -> Prop) -> Prop
abbrev TA := St -> Hp -> (List V -> Hp -> Prop) -> Prop
structure Ends where
 nx : St -> Hp -> Prop
 rt : VK
 bk : St -> Hp -> Prop := fun _ _ => False
 ct : St -> Hp -> Prop := fun _ _ => False
abbrev TS := Ends -> St -> Hp -> Prop
def EP (X : Cx) (pins : List (Addr × Obj)) (σ : St) (Q : VK) (u : Value) (s' : Shared) : Prop := ∃ v H', Inv X pins σ H' s' /\ RelV v u /\ Q v H'
def TP (X : Cx) (pins : List (Addr × Obj)) (σ : St) (Q : Bool -> Hp -> Prop) (b : Bool) (s' : Shared) : Prop := ∃ H', Inv X pins σ H' s' /\ Q b H'
def AP (X : Cx) (pins : List (Addr × Obj)) (σ : St) (Q : List V -> Hp -> Prop) (us : List Value) (s' : Shared) : Prop := ∃ vs H', Inv X pins σ H' s' /\ Vals vs us /\ Q vs H'
def SP (X : Cx) (pins : List (Addr × Obj)) (D : Ends) (f : Flow) (s' : Shared) : Prop :=
 match f with
 | .next => ∃ σ' H', Inv X pins σ' H' s' /\ D.nx σ' H'
 | .brk => ∃ σ' H', Inv X pins σ' H' s' /\ D.bk σ' H'
 | .cont => ∃ σ' H', Inv X pins σ' H' s' /\ D.ct σ' H'
 | .ret u => ∃ v σ' H', Inv X pins σ' H' s' /\ RelV v u /\ D.rt v H'
def PE (X : Cx) (e : Expr) (t : TE) : Prop :=
 ∀ (pins : List (Addr × Obj)) (s : Shared) (σ : St) (H : Hp) (Q : VK), Inv X pins σ H s -> t σ H Q -> wpAny (model X.prog X.w) X.A (eval e X.env) (EP X pins σ Q) X.xe s
def PT (X : Cx) (e : Expr) (t : TT) : Prop :=
 ∀ (pins : List (Addr × Obj)) (s : Shared) (σ : St) (H : Hp) (Q : Bool -> Hp -> Prop), Inv X pins σ H s -> t σ H Q -> wpAny (model X.prog X.w) X.A (isTrue e X.env (eval e X.env)) (TP X pins σ Q) X.xe s
def PW (X : Cx) (e : Expr) (t : TT) : Prop :=
 ∀ (whole : Sem Value) (pins : List (Addr × Obj)) (s : Shared) (σ : St) (H : Hp) (Q : Bool -> Hp -> Prop), Inv X pins σ H s -> t σ H Q -> wpAny (model X.prog X.w) X.A (isTrue e X.env whole) (TP X pins σ Q) X.xe s
def PA (X : Cx) (es : List Expr) (t : TA) : Prop :=
 ∀ (pos : Pos) (pins : List (Addr × Obj)) (s : Shared) (σ : St) (H : Hp) (Q : List V -> Hp -> Prop), Inv X pins σ H s -> t σ H Q -> wpAny (model X.prog X.w) X.A (spliced (backTo pos (starEach es X.env))) (AP X pins σ Q) X.xe s
def PS (X : Cx) (st : Stmt) (t : TS) : Prop :=
 ∀ (pins : List (Addr × Obj)) (s : Shared) (σ : St) (H : Hp) (D : Ends), Inv X pins σ H s -> t D σ H -> wpAny (model X.prog X.w) X.A (exec st X.env) (SP X pins D) X.xe s
def PSs (X : Cx) (st : List Stmt) (t : TS) : Prop :=
 ∀ (pins : List (Addr × Obj)) (s : Shared) (σ : St) (H : Hp) (D : Ends), Inv X pins σ H s -> t D σ H -> wpAny (model X.prog X.w) X.A (execs st X.env) (SP X pins D) X.xe s
theorem thn {α : Type} {t : Sem α} {Q Q' : α -> Shared -> Prop} {M : Model} {A : Around} {E : Value -> Shared -> Prop} {s : Shared} (h : wpAny M A t Q E s) (hQ : ∀ a s, Q a s -> Q' a s) : wpAny M A t Q' E s := wpAny_mono h hQ fun _ _ x => x
section
variable {X : Cx}
def aJi (i : Nat) : TE := fun σ H Q => ∃ v, σ[i]? = some (some v) /\ Q v H
def tC (v : V) : TE := fun _ H Q => Q v H
theorem aGj {i : Nat} {x : Str} {pos : Pos} (hN : X.N[i]? = some x) (hv : Vis X.env.scope x) (hd : (x == ("__debug__" : Str)) = false := by decide) (hcd : (x == ("__classdict__" : Str)) = false := by decide) : PE X (.Name x pos) (aJi i) := by
 intro pins s σ H Q I h
 obtain ⟨v, e, h⟩ := h
 obtain ⟨m, hn, hl⟩ := I.loc
 obtain ⟨u, r, l⟩ := hl i x v hN e hv
 have fin : EP X pins σ Q u s := ⟨v, H, I, r, h⟩
 rcases l with ⟨hk, hm⟩ | ⟨hk, c, hc, hcell⟩
 ·exact wpAny_Name (wpAny_loadName_local I.ok.kind hk hn hm fin) hd
 ·rcases hk with hk | hk
  ·exact wpAny_Name (wpAny_loadName_cell I.ok.kind hk hc hcell fin) hd
  ·exact wpAny_Name (wpAny_loadName_free I.ok.kind hk hc hcell fin hcd) hd
theorem aHm {i j pos} : PE X (.Constant (.int i) j pos) (tC (.int i)) := fun _ _ _ H _ I h => wpAny_Constant_int ⟨.int i, H, I.tok _, ⟨_, rfl⟩, h⟩
theorem aOh {b j pos} : PE X (.Constant (.bool b) j pos) (tC (.bl b)) := fun _ _ _ H _ I h => Constant_bool ⟨.bl b, H, I, rfl, h⟩
theorem aMq {x j pos} : PE X (.Constant (.str x) j pos) (tC (.str x)) := fun _ _ _ H _ I h => Calls.Constant_str ⟨.str x, H, I.tok _, ⟨_, rfl⟩, h⟩
def Gl (X : Cx) (x : Str) : Prop := X.env.kindOf x = some .globalImplicit
theorem aBp {E : Value -> Shared -> Prop} {pins : List (Addr × Obj)} {s : Shared} {σ : St} {H : Hp} {x : Str} {u : Value} {pos : Pos} {Q : Value -> Shared -> Prop} (I : Inv X pins σ H s) (hg : Gl X x) (hm : X.mg x = some u) (h : Q u s)
  (hd : (x == ("__debug__" : Str)) = false := by decide) : wpAny (model X.prog X.w) X.A (eval (.Name x pos) X.env) Q E s :=
 Calls.Name_function_global I.ok.kind hg (Calls.loadGlobal_global (by rw [I.ok.glob]; exact I.mod.glob.keeps I.bk) hm h) hd
theorem lZ {E : Value -> Shared -> Prop} {pins : List (Addr × Obj)} {s : Shared} {σ : St} {H : Hp} {x : Str} {u : Value} {pos : Pos} {Q : Value -> Shared -> Prop} (I : Inv X pins σ H s) (hg : Gl X x) (hm : X.mg x = none) (hv : bootBuiltins x = some u) (h : Q u s)
  (hn : x ≠ "__name__" := by decide) (hd : (x == ("__debug__" : Str)) = false := by decide) : wpAny (model X.prog X.w) X.A (eval (.Name x pos) X.env) Q E s := by
 obtain ⟨mb, h1, h2⟩ := I.mod.blt
 exact Calls.Name_function_global I.ok.kind hg (Calls.loadGlobal_builtin (by rw [I.ok.glob]; exact I.mod.glob.keeps I.bk) hm (by rw [I.ok.blt]; exact h1.keeps I.bk) ((h2 x hn).trans hv) h) hd
theorem i4 {x : Str} {v : V} {u : Value} {pos : Pos} (hg : Gl X x) (hm : X.mg x = none) (hv : bootBuiltins x = some u) (r : RelV v u) (hn : x ≠ "__name__" := by decide) (hd : (x == ("__debug__" : Str)) = false := by decide) : PE X (.Name x pos) (tC v) :=
 fun _ _ _ H _ I h => lZ I hg hm hv ⟨v, H, I, r, h⟩ hn hd
variable {a b : Expr} {ta tb : TE} {pos : Pos}
def PC (X : Cx) (op : CmpOp) (a b : Expr) (t : TE) : Prop :=
 ∀ (pins : List (Addr × Obj)) (s : Shared) (σ : St) (H : Hp) (Q : VK), Inv X pins σ H s -> t σ H Q ->
  wpAny (model X.prog X.w) X.A (eval a X.env) (fun v s₁ => wpAny (model X.prog X.w) X.A (eval b X.env) (fun u s₂ => wpAny (model X.prog X.w) X.A (compareOp op v u) (EP X pins σ Q) X.xe s₂) X.xe s₁) X.xe s
theorem aFd (b : Expr) {op : CmpOp} (h : op ≠ .In) (h2 : op ≠ .NotIn) : behindInMarks op b = false := by
 have e1 : (op == CmpOp.In) = false := by cases op <;> first | rfl | exact absurd rfl h
 have e2 : (op == CmpOp.NotIn) = false := by cases op <;> first | rfl | exact absurd rfl h2
 cases b <;> simp [behindInMarks, e1, e2]
def tB (t : TE) : TT := fun σ H Q => t σ H fun x H1 => ∃ c, x = .bl c /\ Q c H1
theorem aNt {op : CmpOp} {t : TE} (h : PC X op a b t) (h1 : behindInMarks op b = false := by first | exact aFd _ (by decide) (by decide) | rfl) : PT X (.Compare a [op] [b] pos) (tB t) := by
 intro pins s σ H Q I hw
 refine wpAny_isTrue_Compare1 (thn (h pins s σ H _ I hw) fun v s1 h1 => thn h1 fun u s2 h2 => thn h2 fun c s3 ⟨x, H1, I1, r1, q1⟩ => ?_) h1
 obtain ⟨d, rfl, q⟩ := q1
 cases r1
 exact wpAny_truthy_bool ⟨H1, I1, q⟩
theorem aNs {e : Expr} {t : TE} (h : PE X e t) (he : ∀ whole, isTrue e X.env whole = (do let v <- whole; standAt e.pos; holding [v] (truthy v)) := by intro _; rfl) : PT X e (tB t) := by
 intro pins s σ H Q I hw
 refine isTrue_plain (thn (h pins s σ H _ I hw) fun v s1 ⟨x, H1, I1, r1, q1⟩ => ?_) (he _)
 obtain ⟨d, rfl, q⟩ := q1
 cases r1
 exact wpAny_truthy_bool ⟨H1, I1, q⟩
variable {tA tB' : TT} {rest : List Expr}
def aQa (t u : TT) : TT := fun σ H Q => t σ H fun c H1 => if c = true then u σ H1 Q else Q false H1
def tOr (t u : TT) : TT := fun σ H Q => t σ H fun c H1 => if c = true then Q true H1 else u σ H1 Q
def aQf (t : TT) : TT := fun σ H Q => t σ H fun c H1 => Q (!c) H1
theorem aKb (ha : PT X a tA) : PW X (.BoolOp .And [a] pos) tA := by
 intro wh pins s σ H Q I h
 refine isTrue_and (thn (ha pins s σ H Q I h) fun c s1 e => ?_)
 cases c with
 | true => exact isTrue_and_nil e
 | false => exact e
theorem aMc (ha : PT X a tA) : PW X (.BoolOp .Or [a] pos) tA := by
 intro wh pins s σ H Q I h
 refine isTrue_or (thn (ha pins s σ H Q I h) fun c s1 e => ?_)
 cases c with
 | false => exact isTrue_or_nil e
 | true => exact e
theorem aK3 (ha : PT X a tA) (hb : PW X (.BoolOp .And (b :: rest) pos) tB') : PW X (.BoolOp .And (a :: b :: rest) pos) (aQa tA tB') := by
 intro wh pins s σ H Q I h
 refine isTrue_and (thn (ha pins s σ H _ I h) fun c s1 ⟨H1, I1, q1⟩ => ?_)
 cases c with
 | true => exact hb wh pins s1 σ H1 Q I1 q1
 | false => exact ⟨H1, I1, q1⟩
theorem aOb (ha : PT X a tA) (hb : PW X (.BoolOp .Or (b :: rest) pos) tB') : PW X (.BoolOp .Or (a :: b :: rest) pos) (tOr tA tB') := by
 intro wh pins s σ H Q I h
 refine isTrue_or (thn (ha pins s σ H _ I h) fun c s1 ⟨H1, I1, q1⟩ => ?_)
 cases c with
 | true => exact ⟨H1, I1, q1⟩
 | false => exact hb wh pins s1 σ H1 Q I1 q1
theorem aMb (ha : PT X a tA) : PT X (.UnaryOp .Not a pos) (aQf tA) := by
 intro pins s σ H Q I h
 exact isTrue_not (ha pins s σ H (fun c H1 => Q (!c) H1) I h)
def aPs (ta tb : TE) : TE := fun σ H Q => ta σ H fun x H1 => ∃ c, x = .bl c /\ if c = true then tb σ H1 Q else Q (.bl false) H1
def aOx (ta : TE) : TE := fun σ H Q => ta σ H fun x H1 => ∃ c, x = .bl c /\ Q (.bl (!c)) H1
theorem aM5 {op} {t : TE} (h : PE X a t) : PE X (.BoolOp op [a] pos) t := fun pins s σ H Q I hw => BoolOp_one (h pins s σ H Q I hw)
theorem aNo (ha : PE X a ta) (hb : PE X (.BoolOp .And (b :: rest) pos) tb) : PE X (.BoolOp .And (a :: b :: rest) pos) (aPs ta tb) := by
 intro pins s σ H Q I h
 refine BoolOp_and (thn (ha pins s σ H _ I h) fun v s1 ⟨x, H1, I1, r1, q1⟩ => ?_)
 obtain ⟨c, rfl, q1⟩ := q1
 cases r1
 refine wpAny_truthy_bool ?_
 cases c with
 | true => exact hb pins s1 σ H1 Q I1 q1
 | false => exact ⟨.bl false, H1, I1, rfl, q1⟩
theorem aNb (ha : PE X a ta) : PE X (.UnaryOp .Not a pos) (aOx ta) := by
 intro pins s σ H Q I h
 refine UnaryOp_ (thn (ha pins s σ H _ I h) fun v s1 ⟨x, H1, I1, r1, q1⟩ => ?_)
 obtain ⟨c, rfl, q1⟩ := q1
 cases r1
 exact not_of (wpAny_truthy_bool ⟨.bl (!c), H1, I1, rfl, q1⟩)
end
def SqL (K : PySem.W.Frag) (H : Hp) (a : Addr) (xs : List V) : Prop :=
 Rd H a (.lst xs) \/
  ∃ (o : Obj) (its : Array Value) (n : Nat), K.lookup a = some o /\ o.cls = .type "list" /\ o.dict = none /\ o.data = .seq its n /\ its.size <= sizeLine /\ Vals xs its.toList
def SqT (K : PySem.W.Frag) (H : Hp) (a : Addr) (xs : List V) : Prop :=
 Rd H a (.tup xs) \/
  ∃ (o : Obj) (its : Array Value) (n : Nat), K.lookup a = some o /\ o.cls = .type "tuple" /\ o.data = .seq its n /\ its.size <= sizeLine /\ Vals xs its.toList
def aQd : Value -> Option V
 | .none => some .non
 | .bool b => some (.bl b)
 | .int i _ => some (.int i)
 | .str x _ => some (.str x)
 | .bytes b _ => some (.byt b)
 | .float b _ => some (.flt b)
 | .ref a => some (.ref a)
 | .type n => some (.ty n)
 | _ => none
theorem RelV.abs {x : V} {u : Value} (r : RelV x u) : aQd u = some x := by
 cases x with
 | non => cases r; rfl
 | bl _ => cases r; rfl
 | int _ => obtain ⟨t, rfl⟩ := r; rfl
 | str _ => obtain ⟨t, rfl⟩ := r; rfl
 | byt _ => obtain ⟨t, rfl⟩ := r; rfl
 | flt _ => obtain ⟨t, rfl⟩ := r; rfl
 | ref _ => cases r; rfl
 | ty _ => cases r; rfl
theorem RelV.inj {x y : V} {u : Value} (r : RelV x u) (q : RelV y u) : x = y := Option.some.inj (r.abs.symm.trans q.abs)
theorem Vals.inj : ∀ {xs ys : List V} {us : List Value}, Vals xs us -> Vals ys us -> xs = ys
 | _, _, _, .nil, .nil => rfl
 | _, _, _, .cons r t, .cons r' t' => by rw [r.inj r', Vals.inj t t']
section
variable {X : Cx} {pins : List (Addr × Obj)} {σ : St} {H : Hp} {s : Shared} {a : Addr} {xs ys : List V}
theorem SqL.of {K : PySem.W.Frag} (h : H a = some (.lst xs)) : SqL K H a xs := .inl (.inl h)
theorem SqT.of {K : PySem.W.Frag} (h : H a = some (.tup xs)) : SqT K H a xs := .inl (.inl h)
theorem Inv.list (I : Inv X pins σ H s) (h : SqL X.K H a xs) : ∃ its : List Value, Vals xs its /\ PlainL s.heap a its.toArray /\ xs.length <= sizeLine := by
 rcases h with h | ⟨o, its, n, hk, hc, hd, hs, hz, r⟩
 ·obtain ⟨z, its, n, r, e⟩ := h.ok I.hok
  exact ⟨its, r, ⟨_, n, e, rfl, rfl, rfl⟩, z⟩
 ·refine ⟨its.toList, r, ⟨o, n, I.kIn a o hk, hc, hd, by simpa using hs⟩, ?_⟩
  have e := r.length
  simp only [Array.length_toList] at e
  omega
theorem Inv.tuple (I : Inv X pins σ H s) (h : SqT X.K H a xs) : ∃ its : List Value, Vals xs its /\ IsTup s.heap a its.toArray /\ xs.length <= sizeLine := by
 rcases h with h | ⟨o, its, n, hk, hc, hs, hz, r⟩
 ·obtain ⟨z, its, r, p⟩ := h.ok I.hok
  exact ⟨its, r, p, z⟩
 ·refine ⟨its.toList, r, ⟨o, I.kIn a o hk, hc, n, by simpa using hs⟩, ?_⟩
  have e := r.length
  simp only [Array.length_toList] at e
  omega
theorem Inv.list_inj (I : Inv X pins σ H s) (h : SqL X.K H a xs) (h' : SqL X.K H a ys) : xs = ys := by
 obtain ⟨its, r, ⟨o, n, e, _, _, d⟩, _⟩ := I.list h
 obtain ⟨its', r', ⟨o', n', e', _, _, d'⟩, _⟩ := I.list h'
 rw [e] at e'; cases e'
 rw [d] at d'
 injection d' with d1 _
 have : its = its' := by simpa using congrArg Array.toList d1
 subst this
 exact r.inj r'
end
section
variable {X : Cx} {pins : List (Addr × Obj)} {σ : St} {H : Hp} {s : Shared} {E : Value -> Shared -> Prop}
end
section
variable {X : Cx} {st : Stmt} {rest : List Stmt} {t u : TS} {e : Expr} {te : TE} {pos : Pos}
def aOs : TS := fun D σ H => D.nx σ H
def aQk (t u : TS) : TS := fun D σ H => t { D with nx := u D } σ H
theorem vT : PSs X [] aOs := fun _ _ σ H _ I h => wpAny_execs_nil ⟨σ, H, I, h⟩
theorem jH (h1 : PS X st t) (h2 : PSs X rest u) : PSs X (st :: rest) (aQk t u) := by
 intro pins s σ H D I h
 refine wpAny_execs_cons (thn (h1 pins s σ H { D with nx := u D } I h) fun f s1 q => ?_)
 cases f with
 | next =>
  obtain ⟨σ', H', I', q⟩ := q
  exact h2 pins s1 σ' H' D I' q
 | ret v => exact q
 | brk => exact q
 | cont => exact q
theorem zQ (h1 : PS X st t) : PSs X [st] t := by
 intro pins s σ H D I h
 refine wpAny_execs_cons (thn (h1 pins s σ H D I h) fun f s1 q => ?_)
 cases f with
 | next => exact wpAny_execs_nil q
 | ret v => exact q
 | brk => exact q
 | cont => exact q
theorem Inv.quiet {pins : List (Addr × Obj)} {σ : St} {H : Hp} {s : Shared} (I : Inv X pins σ H s) : interactive X.env = false := by simp [interactive, I.ok.kind]
def aCy (te : TE) : TS := fun D σ H => te σ H fun _ H1 => D.nx σ H1
theorem iZ (he : PE X e te) (hs : swapsWith e none pos.line X.env = pure false := by rfl) : PS X (.Expr e pos) (aCy te) := by
 intro pins s σ H D I h
 exact wpAny_Expr_any (thn (he pins s σ H _ I h) fun v s1 ⟨x, H1, I1, r1, q1⟩ => ⟨σ, H1, I1, q1⟩) I.quiet hs
def aP9 (te : TE) : TS := fun D σ H => te σ H D.rt
theorem aLu (he : PE X e te) : PS X (.Return (some e) pos) (aP9 te) := by
 intro pins s σ H D I h
 exact wpAny_Return_some (thn (he pins s σ H _ I h) fun v s1 ⟨x, H1, I1, r1, q1⟩ => ⟨x, σ, H1, I1, r1, q1⟩)
def aQg (c : TT) (t u : TS) : TS := fun D σ H => c σ H fun b H1 => if b = true then t D σ H1 else u D σ H1
theorem aIo {c : Expr} {a b : List Stmt} {tc : TT} (hc : PT X c tc) (ha : PSs X a t) (hb : PSs X b u) : PS X (.If c a b pos) (aQg tc t u) := by
 intro pins s σ H D I h
 refine wpAny_If (thn (hc pins s σ H _ I h) fun d s1 ⟨H1, I1, q1⟩ => ?_)
 cases d with
 | true => exact ha pins s1 σ H1 D I1 q1
 | false => exact hb pins s1 σ H1 D I1 q1
end
abbrev TG := V -> St -> Hp -> (St -> Hp -> Prop) -> Prop
abbrev TGs := List V -> St -> Hp -> (St -> Hp -> Prop) -> Prop
def PG (X : Cx) (target : Expr) (t : TG) : Prop :=
 ∀ (pins : List (Addr × Obj)) (s : Shared) (σ : St) (H : Hp) (v : V) (u : Value) (Q : St -> Hp -> Prop), Inv X pins σ H s -> RelV v u -> t v σ H Q ->
  wpAny (model X.prog X.w) X.A (assign target X.env u) (fun _ s' => ∃ σ' H', Inv X pins σ' H' s' /\ Q σ' H') X.xe s
def PGs (X : Cx) (ts : List Expr) (t : TGs) : Prop :=
 ∀ (pins : List (Addr × Obj)) (s : Shared) (σ : St) (H : Hp) (vs : List V) (us : List Value) (Q : St -> Hp -> Prop), Inv X pins σ H s -> Vals vs us -> t vs σ H Q ->
  wpAny (model X.prog X.w) X.A (assignInOrder ((assignEach ts X.env).map (·.2)) us) (fun _ s' => ∃ σ' H', Inv X pins σ' H' s' /\ Q σ' H') X.xe s
section
variable {X : Cx} {pos : Pos}
def aIq (i : Nat) : TG := fun v σ H Q => Q (σ.set i (some v)) H
theorem uY {i : Nat} {x : Str} (hN : X.N.Nodup) (hi : X.N[i]? = some x) (hx : Loc X.env.scope x) (hf : X.fn x = true \/ X.env.scope.names.lookup x = some .local := by first | exact .inl rfl | exact .inr rfl | assumption) : PG X (.Name x pos) (aIq i) := by
 intro pins s σ H v u Q I r h
 exact wpAny_assign_Name (xC I hN hi hx r (fun s' I' => ⟨_, H, I', h⟩) hf)
def aQr : TGs := fun vs σ H Q => vs = [] /\ Q σ H
def aO3 (t : TG) (u : TGs) : TGs := fun vs σ H Q => ∃ v r, vs = v :: r /\ t v σ H fun σ' H' => u r σ' H' Q
theorem aJ7 : PGs X [] aQr := by
 intro pins s σ H vs us Q I r h
 obtain ⟨e, h⟩ := h
 subst e
 cases r
 exact assignInOrder_nil ⟨σ, H, I, h⟩
theorem aEw {e : Expr} {es : List Expr} {t : TG} {u : TGs} (h1 : PG X e t) (h2 : PGs X es u)
  (hs : (assignEach (e :: es) X.env).map (·.2) = assign e X.env :: (assignEach es X.env).map (·.2) := by rfl) : PGs X (e :: es) (aO3 t u) := by
 intro pins s σ H vs us Q I r h
 obtain ⟨v, vr, e1, h⟩ := h
 subst e1
 cases r with
 | cons r rr =>
  rw [hs]
  refine assignInOrder_cons (thn (h1 pins s σ H _ _ _ I r h) fun _ s1 ⟨σ1, H1, I1, q1⟩ => ?_)
  exact h2 pins s1 σ1 H1 _ _ Q I1 rr q1
def aQo (K : PySem.W.Frag) (n : Nat) (t : TGs) : TG := fun v σ H Q => ∃ a xs, v = .ref a /\ SqT K H a xs /\ xs.length = n /\ t xs σ H Q
theorem aMg {es : List Expr} {k : Nat} {t : TGs} {n : Nat} (hc : X.calm = true) (h : PGs X es t)
  (hn : (assignEach es X.env).length = n := by rfl) (hst : (assignEach es X.env).findIdx? (·.1) = none := by rfl) : PG X (.Tuple es k pos) (aQo X.K n t) := by
 intro pins s σ H v u Q I r hw
 obtain ⟨a, xs, e1, hq, hl, hw⟩ := hw
 subst e1
 cases r
 obtain ⟨its, rv, ht, hz⟩ := I.tuple hq
 refine assign_Tuple_tuple (I.ok.hd hc) ht (by simp [hn, <- hl, rv.length]) hst fun h' hx => ?_
 have I1 : Inv X pins σ H { s with heap := h' } := I.kept (t' := s.toks) fun b o e => hx b o (Nat.ne_of_lt (Heap.lt_size e)) e
 exact h pins _ σ H xs _ Q I1 (by simpa using rv) hw
def aP1 (te : TE) (g : TG) : TS := fun D σ H => te σ H fun x H1 => g x σ H1 D.nx
theorem aAq {i : Nat} {x : Str} {e : Expr} {te : TE} {pos' : Pos} (hN : X.N.Nodup) (hi : X.N[i]? = some x) (hx : Loc X.env.scope x) (he : PE X e te) (hs : swapsWith e (some (.Name x pos')) pos.line X.env = pure false := by rfl) (hf : X.fn x = true \/ X.env.scope.names.lookup x = some .local := by first | exact .inl rfl | exact .inr rfl | assumption) :
  PS X (.Assign [.Name x pos'] e pos) (aP1 te (aIq i)) := by
 intro pins s σ H D I h
 refine wpAny_Assign_Name (thn (he pins s σ H _ I h) fun v s1 ⟨y, H1, I1, r1, q1⟩ => ?_) hs
 exact xC I1 hN hi hx r1 (fun s2 I2 => ⟨_, H1, I2, q1⟩) hf
end
section
variable {X : Cx} {pos : Pos}
def aMl (c : TT) (tb : TS) : TS := fun D σ H => ∃ W : Nat -> St -> Hp -> Prop, (∃ m, W m σ H) /\ ∀ m σ H, W m σ H ->
 c σ H fun b H1 => if b = true then ∃ N : St -> Hp -> Prop, (∀ σ' H', N σ' H' -> ∃ m', m' < m /\ W m' σ' H') /\ tb { D with nx := N, ct := N, bk := D.nx } σ H1 else D.nx σ H1
theorem aE1 {c : Expr} {body : List Stmt} {tc : TT} {tb : TS} (hp : PassesOwn (model X.prog X.w) X.A X.env X.xe) (hc : PT X c tc) (hb : PSs X body tb) : PS X (.While c body [] pos) (aMl tc tb) := by
 intro pins s σ H D I h
 obtain ⟨W, ⟨m0, w0⟩, turn⟩ := h
 refine wpAny_While (codeAny_whileLoop (fun n s' => ∃ σ' H', Inv X pins σ' H' s' /\ W n σ' H') ?_ m0 ⟨σ, H, I, w0⟩)
 rintro n s1 ⟨σ1, H1, I1, w1⟩
 refine wpAny_passesOwn hp (thn (hc pins s1 σ1 H1 _ I1 (turn n σ1 H1 w1)) fun b s2 ⟨H2, I2, q2⟩ => ?_)
 cases b with
 | true =>
  obtain ⟨N, hN, q2⟩ := q2
  rw [if_pos rfl]
  refine wpAny_passesOwn hp (thn (hb pins s2 σ1 H2 _ I2 q2) fun f s3 q3 => ?_)
  cases f with
  | next =>
   obtain ⟨σ3, H3, I3, n3⟩ := q3
   obtain ⟨m', hm, w3⟩ := hN σ3 H3 n3
   exact ⟨m', hm, σ3, H3, I3, w3⟩
  | cont =>
   obtain ⟨σ3, H3, I3, n3⟩ := q3
   obtain ⟨m', hm, w3⟩ := hN σ3 H3 n3
   exact ⟨m', hm, σ3, H3, I3, w3⟩
  | brk => exact q3
  | ret v => exact q3
 | false =>
  rw [if_neg Bool.false_ne_true]
  exact wpAny_execs_nil ⟨σ1, H2, I2, q2⟩
end
structure It where
 go : Nat -> Hp -> Prop
 yld : Nat -> Hp -> V -> Hp -> Prop
 stop : Nat -> Hp -> Prop
def qD (X : Cx) (pins : List (Addr × Obj)) (H : Hp) (b : Addr) : Prop :=
 H b = none /\ b ≠ X.env.locals /\ b ∉ X.fs /\ (b ∈ X.ex \/ X.s₀.heap.objs.size <= b) /\ (∀ x c, X.env.cells.lookup x = some c -> c ≠ b) /\ ∀ p ∈ X.pn ++ pins, p.1 ≠ b
theorem Inv.fpOk {X : Cx} {pins : List (Addr × Obj)} {σ : St} {H H' : Hp} {s : Shared} {b : Addr} (I : Inv X pins σ H s) (hb : s.heap.objs.size <= b) (hn : H' b = none) : qD X pins H' b := by
 refine ⟨hn, Nat.ne_of_gt (Nat.lt_of_lt_of_le I.lt hb), I.nofs hb, .inr (Nat.le_trans I.sz hb), fun x c e z => ?_, fun p hp z => ?_⟩
 ·obtain ⟨v, q⟩ := I.cell x c e
  exact absurd (Nat.lt_of_lt_of_le q.lt (by rw [z]; exact hb)) (Nat.lt_irrefl _)
 ·exact absurd (Nat.lt_of_lt_of_le (Heap.lt_size (I.pin p hp).1) (by rw [z]; exact hb)) (Nat.lt_irrefl _)
structure Turn (P : Program) (w : World) (K : PySem.W.Frag) (tg : Expr) (J : It) (fp : List Addr) (it : Addr) (tn : Nat -> Heap -> Prop) : Prop where
 mem : it ∈ fp
 obj : ∀ i h, tn i h -> ∀ b ∈ fp, ∃ o, h.get? b = some o /\ ∀ v, o.data ≠ .cell v
 keep : ∀ i h h', tn i h -> (∀ b ∈ fp, ∀ o, h.get? b = some o -> h'.get? b = some o) -> tn i h'
 item : ∀ (X : Cx), X.prog = P -> X.w = w -> X.K = K -> X.calm = true -> ∀ (i : Nat) (pins : List (Addr × Obj)) (s : Shared) (σ : St) (H : Hp) (E : Value -> Shared -> Prop), Inv X pins σ H s -> (∀ b ∈ fp, qD X pins H b) -> tn i s.heap -> J.go i H ->
  wpAny (model P w) X.A (pyNext (.ref it)) (fun r s1 => ∃ u, r = some u /\
   wpAny (model P w) X.A (letOwnedTupleGo tg (.ref it) u) (fun _ s2 => ∃ x H', Inv X pins σ H' s2 /\ RelV x u /\ J.yld i H x H' /\ tn (i + 1) s2.heap /\ ∀ b ∈ fp, H' b = none) E s1) E s
 done : ∀ (X : Cx), X.prog = P -> X.w = w -> X.K = K -> X.calm = true -> ∀ (i : Nat) (pins : List (Addr × Obj)) (s : Shared) (σ : St) (H : Hp) (E : Value -> Shared -> Prop), Inv X pins σ H s -> (∀ b ∈ fp, qD X pins H b) -> tn i s.heap -> J.stop i H ->
  wpAny (model P w) X.A (pyNext (.ref it)) (fun r s1 => r = none /\ Inv X pins σ H s1) E s
 self : ∀ (A : Around) (i : Nat) (s : Shared) (Q : Value -> Shared -> Prop) (E : Value -> Shared -> Prop), tn i s.heap -> Q (.ref it) s -> wpAny (model P w) A (pyIter (.ref it)) Q E s
abbrev TI := St -> Hp -> (It -> Hp -> Prop) -> Prop
def PIE (X : Cx) (pins : List (Addr × Obj)) (σ : St) (tg : Expr) (R : It -> Hp -> Prop) (itv : Value) (s2 : Shared) : Prop :=
 ∃ (it : Addr) (fp : List Addr) (tn : Nat -> Heap -> Prop) (J : It) (H' : Hp), itv = .ref it /\ Inv X pins σ H' s2 /\ Turn X.prog X.w X.K tg J fp it tn /\ tn 0 s2.heap /\ (∀ b ∈ fp, qD X pins H' b) /\ R J H'
def PI (X : Cx) (tg iter : Expr) (wi : TI) : Prop :=
 ∀ (pins : List (Addr × Obj)) (s : Shared) (σ : St) (H : Hp) (R : It -> Hp -> Prop), Inv X pins σ H s -> wi σ H R ->
  wpAny (model X.prog X.w) X.A (eval iter X.env) (fun v s1 => wpAny (model X.prog X.w) X.A (pyIter v) (PIE X pins σ tg R) X.xe s1) X.xe s
theorem aMm {M : Model} {A : Around} {E : Value -> Shared -> Prop} {s : Shared} {tg : Expr} {it : Addr} {u : Value} {o : Obj} {n : String} {vs : Array Value} {Q : Unit -> Shared -> Prop} (ho : s.heap.get? it = some o) (hc : o.cls = .type n) (hd : o.data = .fields vs)
  (hn : ["enumerate", "zip", "dict_itemiterator", "dict_reverseitemiterator", "odict_iterator", "itertools.zip_longest", "itertools.pairwise"].contains n = false) (hQ : Q () s) : wpAny M A (letOwnedTupleGo tg (.ref it) u) Q E s := by
 unfold letOwnedTupleGo
 cases tg <;> first
  | exact wpAny_pure hQ
  | (cases u <;> first
    | exact wpAny_pure hQ
    | (refine wpAny_bind (wpAny_load ho ?_)
       rw [hc, hd]
       show wpAny M A (if (["enumerate", "zip", "dict_itemiterator", "dict_reverseitemiterator", "odict_iterator", "itertools.zip_longest", "itertools.pairwise"].contains n && vs[0]? == some (rawInt _)) = true then _ else _) Q E s
       rw [if_neg (by intro h; rw [hn, Bool.false_and] at h; cases h)]
       exact wpAny_pure hQ))
def Itl (K : PySem.W.Frag) (a : Addr) : It :=
 ⟨fun i H => ∃ xs x, SqL K H a xs /\ xs[i]? = some x, fun i H x H' => H' = H /\ ∀ xs, SqL K H a xs -> xs[i]? = some x, fun i H => ∃ xs, SqL K H a xs /\ xs.length <= i⟩
def Itr (lo : Int) (n : Nat) : It := ⟨fun i _ => i < n, fun i H x H' => H' = H /\ x = .int (lo + i), fun i _ => n <= i⟩
theorem zV {P : Program} {w : World} {K : PySem.W.Frag} {tg : Expr} (a it : Addr) : Turn P w K tg (Itl K a) [it] it (fun i h => h.IsListIter it a i) where
 mem := by simp
 obj := fun i h st b hb => by
  have e : b = it := by simpa using hb
  subst e
  obtain ⟨o, e, c, d⟩ := st
  exact ⟨o, e, fun v z => by rw [d] at z; cases z⟩
 keep := fun i h h' st k => st.at fun o e => k it (by simp) o e
 item := by
  intro X hP hw hK hc i pins s σ H E I hf st hg
  subst hP hw hK
  obtain ⟨xs, x, hq, hx⟩ := hg
  obtain ⟨its, rv, p, hz⟩ := I.list hq
  obtain ⟨u, hu, ru⟩ := rv.get hx
  obtain ⟨f0, f1, f2, f3, f4, f5⟩ := hf it (by simp)
  refine wpAny_pyNext_list_item st p.isList (x := u) (by simpa using hu) fun h' st' sb => ?_
  have I1 : Inv X pins σ H { s with heap := h' } := I.turned (t' := s.toks) (fun b o hb e => (sb.2 b hb).trans e) f0 f1 f3 f4 f5
  obtain ⟨o, e, c, d⟩ := id st'
  exact ⟨u, rfl, aMm (s := { s with heap := h' }) e c d (by decide) ⟨x, H, I1, ru, ⟨rfl, fun ys hy => by rw [I.list_inj hy hq]; exact hx⟩, st', fun b hb => (hf b hb).1⟩⟩
 done := by
  intro X hP hw hK hc i pins s σ H E I hf st hg
  subst hP hw hK
  obtain ⟨xs, hq, hx⟩ := hg
  obtain ⟨its, rv, p, hz⟩ := I.list hq
  obtain ⟨f0, f1, f2, f3, f4, f5⟩ := hf it (by simp)
  have hl := rv.length
  exact wpAny_pyNext_list_end (I.ok.hd hc) st p.isList (by simp; omega) fun h' eb => ⟨rfl, I.turned (t' := s.toks) (fun b o hb e => eb b o hb e) f0 f1 f3 f4 f5⟩
 self := fun _ _ _ _ _ st h => wpAny_pyIter_listiter st h
theorem yP {P : Program} {w : World} {K : PySem.W.Frag} {tg : Expr} (it : Addr) (lo : Int) (n : Nat) : Turn P w K tg (Itr lo n) [it] it (fun i h => IsRangeIter h it (lo + (i : Nat) * 1) ((n : Int) - (i : Nat)) 1) where
 mem := by simp
 obj := fun i h st b hb => by
  have e : b = it := by simpa using hb
  subst e
  exact ⟨_, st, fun v z => by
   have z' : Data.fields _ = Data.cell v := z
   cases z'⟩
 keep := fun i h h' st k => k it (by simp) _ st
 item := by
  intro X hP hw hK hc i pins s σ H E I hf st hg
  subst hP hw hK
  obtain ⟨f0, f1, f2, f3, f4, f5⟩ := hf it (by simp)
  have W := Walks.range (prog := X.prog) (w := X.w) (I.ok.hd hc) it lo 1 n
  refine W.item i s _ _ hg st fun v h' tk hv st' kk => ?_
  obtain ⟨t, rfl⟩ := hv
  have I1 : Inv X pins σ H { s with heap := h', toks := tk } := I.turned (fun b o hb e => kk b o (by simpa using hb) e) f0 f1 f3 f4 f5
  refine ⟨_, rfl, aMm (s := { s with heap := h', toks := tk }) (n := "range_iterator") st' rfl rfl (by decide) ⟨.int (lo + i), H, I1, ⟨t, ?_⟩, ⟨rfl, rfl⟩, st', fun b hb => (hf b hb).1⟩⟩
  rw [Int.mul_one]
 done := by
  intro X hP hw hK hc i pins s σ H E I hf st hg
  subst hP hw hK
  obtain ⟨f0, f1, f2, f3, f4, f5⟩ := hf it (by simp)
  exact wpAny_pyNext_range_end (I.ok.hd hc) st (by have : n <= i := hg; omega) fun h' eb => ⟨rfl, I.turned (t' := s.toks) (fun b o hb e => eb b o hb e) f0 f1 f3 f4 f5⟩
 self := fun _ _ _ _ _ st h => wpAny_pyIter_rangeiter st h
section
variable {X : Cx} {tg : Expr}
def aPj (K : PySem.W.Frag) (tl : TE) : TI := fun σ H R => tl σ H fun x H1 => ∃ a, x = .ref a /\ (∃ xs, SqL K H1 a xs) /\ R (Itl K a) H1
theorem aH9 {l : Expr} {tl : TE} (hl : PE X l tl) : PI X tg l (aPj X.K tl) := by
 intro pins s σ H R I h
 refine thn (hl pins s σ H _ I h) fun v s1 ⟨x, H1, I1, r1, q1⟩ => ?_
 obtain ⟨a, e, ⟨xs, hq⟩, q⟩ := q1
 subst e
 cases r1
 obtain ⟨its, rv, p, hz⟩ := I1.list hq
 refine wpAny_pyIter_list p.isList ?_
 refine ⟨s1.heap.objs.size, [s1.heap.objs.size], _, _, H1, rfl, I1.kept (t' := s1.toks) fun b o e => Heap.get?_push_of_some _ e, zV a _, ⟨_, Heap.get?_push_size _ rfl, rfl, rfl⟩, fun b hb => ?_, q⟩
 have e : b = s1.heap.objs.size := by simpa using hb
 subst e
 exact I1.fpOk (Nat.le_refl _) (I1.hok.fresh (Nat.le_refl _))
theorem aD5 {pins : List (Addr × Obj)} {σ : St} {H : Hp} {s : Shared} {R : It -> Hp -> Prop} {E : Value -> Shared -> Prop} {lo hi : Int} {t u v : Tok} {tk : Nat} (I : Inv X pins σ H s) (h1 : -(2 ^ 62) <= lo) (h2 : lo < 2 ^ 62) (h3 : -(2 ^ 62) <= hi) (h4 : hi < 2 ^ 62)
  (q : R (Itr lo (hi - lo).toNat) H) : wpAny (model X.prog X.w) X.A (pyIter (.ref s.heap.objs.size)) (PIE X pins σ tg R) E { s with heap := s.heap.push { cls := .type "range", data := .fields #[.int lo t, .int hi u, .int 1 v] }, toks := tk } := by
 refine wpAny_pyIter_range (IsRange.new ..) (small_one h1 h2 h3 h4) ?_
 have I1 : Inv X pins σ H { s with heap := s.heap.push { cls := .type "range", data := .fields #[.int lo t, .int hi u, .int 1 v] }, toks := tk } := I.kept fun b o e => Heap.get?_push_of_some _ e
 refine ⟨(s.heap.push { cls := .type "range", data := .fields #[.int lo t, .int hi u, .int 1 v] }).objs.size, [(s.heap.push { cls := .type "range", data := .fields #[.int lo t, .int hi u, .int 1 v] }).objs.size], _, _, H, rfl,
  I1.kept (t' := tk) fun b o e => Heap.get?_push_of_some _ e, yP _ lo (hi - lo).toNat, ?_, fun b hb => ?_, q⟩
 ·have e1 : lo + ((0 : Nat) : Int) * 1 = lo := by simp
  have e2 : (((hi - lo).toNat : Nat) : Int) - ((0 : Nat) : Int) = Builtin.Range.rangeSize lo hi 1 := by rw [rangeSize_one]; split <;> omega
  show IsRangeIter _ _ (lo + ((0 : Nat) : Int) * 1) ((((hi - lo).toNat : Nat) : Int) - ((0 : Nat) : Int)) 1
  rw [e1, e2]
  exact Heap.get?_push_size _ rfl
 ·have e : b = (s.heap.push { cls := .type "range", data := .fields #[.int lo t, .int hi u, .int 1 v] }).objs.size := by simpa using hb
  subst e
  exact I1.fpOk (Nat.le_refl _) (I1.hok.fresh (Nat.le_refl _))
def aPq (ta : TA) : TI := fun σ H R => ta σ H fun vs H1 => ∃ i j : Int, vs = [.int i, .int j] /\ (-(2 ^ 62) <= i /\ i < 2 ^ 62 /\ -(2 ^ 62) <= j /\ j < 2 ^ 62) /\ R (Itr i (j - i).toNat) H1
theorem aDc {a b : Expr} {ta : TA} {p pos : Pos} (hg : Gl X "range") (hm : X.mg "range" = none) (ha : PA X [a, b] ta) (hs : starEach [a, b] X.env = [(false, eval a X.env), (false, eval b X.env)] := by rfl) (hs2 : starEach [b] X.env = [(false, eval b X.env)] := by rfl) :
  PI X tg (.Call (.Name "range" p) [a, b] [] pos) (aPq ta) := by
 intro pins s σ H R I h
 refine Call_ (lZ I hg hm boot_range (PyProof.Rows.callWith_type1 (thn (ha pos pins s σ H _ I h) fun us s1 ⟨vs, H1, I1, r1, q1⟩ => ?_) (by rw [hs, hs2]) (by rw [hs2]; rfl)))
 obtain ⟨i, j, e, ⟨q1, q2, q3, q4⟩, q⟩ := q1
 subst e
 cases r1 with
 | cons r rr =>
  cases rr with
  | cons r' rr =>
   cases rr
   obtain ⟨t, rfl⟩ := r
   obtain ⟨t', rfl⟩ := r'
   exact call_range_2 (aD5 I1 q1 q2 q3 q4 q)
def aQc (wi : TI) (g : TG) (tb : TS) : TS := fun D σ H => wi σ H fun J H1 => ∃ W : Nat -> Nat -> St -> Hp -> Prop, (∃ m, W 0 m σ H1) /\ ∀ i m σ H, W i m σ H ->
 (J.stop i H /\ D.nx σ H) \/ (J.go i H /\ ∃ N : St -> Hp -> Prop, (∀ σ' H', N σ' H' -> ∃ m', m' < m /\ W (i + 1) m' σ' H') /\ ∀ x H', J.yld i H x H' -> g x σ H' fun σ2 H2 => tb { D with nx := N, ct := N, bk := D.nx } σ2 H2)
def xB (fp : List Addr) (h : Heap) : List (Addr × Obj) := fp.filterMap fun b => (h.get? b).map fun o => (b, o)
theorem eQ {fp : List Addr} {h : Heap} {b : Addr} {o : Obj} (hb : b ∈ fp) (e : h.get? b = some o) : (b, o) ∈ xB fp h := List.mem_filterMap.mpr ⟨b, hb, by rw [e]; rfl⟩
theorem aC0 {fp : List Addr} {h : Heap} {p : Addr × Obj} (hp : p ∈ xB fp h) : p.1 ∈ fp /\ h.get? p.1 = some p.2 := by
 obtain ⟨b, hb, e⟩ := List.mem_filterMap.mp hp
 cases q : h.get? b with
 | none => rw [q] at e; cases e
 | some o =>
  rw [q] at e
  have e' : (b, o) = p := Option.some.inj e
  subst e'
  exact ⟨hb, q⟩
theorem Inv.pinned {pins : List (Addr × Obj)} {σ : St} {H : Hp} {s : Shared} {fp : List Addr} (I : Inv X pins σ H s) (hf : ∀ b ∈ fp, qD X pins H b) (ho : ∀ b ∈ fp, ∃ o, s.heap.get? b = some o /\ ∀ v, o.data ≠ .cell v) : Inv X (pins ++ xB fp s.heap) σ H s :=
 I.pins_of fun p hp => (List.mem_append.mp hp).elim (fun z => I.pin p (List.mem_append_right _ z)) fun z => by
  obtain ⟨hb, e⟩ := aC0 z
  obtain ⟨f0, f1, f2, _⟩ := hf p.1 hb
  obtain ⟨o, e', d⟩ := ho p.1 hb
  rw [e] at e'; cases e'
  exact ⟨e, f0, f1, f2, d⟩
theorem Inv.unpinned {pins pl : List (Addr × Obj)} {σ : St} {H : Hp} {s : Shared} (I : Inv X (pins ++ pl) σ H s) : Inv X pins σ H s := I.pins_of fun p hp => I.pin p (List.mem_append_right _ (List.mem_append_left _ hp))
theorem aGl {iter : Expr} {body : List Stmt} {wi : TI} {g : TG} {tb : TS} {pos : Pos} (hp : PassesOwn (model X.prog X.w) X.A X.env X.xe) (hc : X.calm = true) (hi : PI X tg iter wi) (hg : PG X tg g) (hb : PSs X body tb)
  (hs : ∀ x, foldedSetIterable iter X.env x = pure x := by intro _; rfl) : PS X (.For tg iter body [] pos) (aQc wi g tb) := by
 intro pins s σ H D I h
 refine wpAny_For (thn (hi pins s σ H _ I h) fun v s1 h1 => thn h1 fun itv s2 h2 => ?_) hs
 obtain ⟨it, fp, tn, J, H2, e, I2, T, st2, f2, W, ⟨m0, w0⟩, turn⟩ := h2
 subst e
 have stat : ∀ {H' : Hp}, (∀ b ∈ fp, H' b = none) -> ∀ b ∈ fp, qD X pins H' b := fun hn b hb => ⟨hn b hb, (f2 b hb).2⟩
 refine codeAny_forLoop_any (fun n s' => ∃ i σ' H', Inv X pins σ' H' s' /\ tn i s'.heap /\ (∀ b ∈ fp, H' b = none) /\ W i n σ' H') ?_ m0 ⟨0, σ, H2, I2, st2, fun b hb => (f2 b hb).1, w0⟩
 rintro n s3 ⟨i, σ3, H3, I3, st3, fr3, w3⟩
 rcases turn i n σ3 H3 w3 with ⟨stop, qn⟩ | ⟨go, N, hN, step⟩
 ·refine wpAny_passesOwn hp (thn (T.done X rfl rfl rfl hc i pins s3 σ3 H3 X.xe I3 (stat fr3) st3 stop) fun r s4 ⟨hr, I4⟩ => ?_)
  subst hr
  exact wpAny_execs_nil ⟨σ3, H3, I4, qn⟩
 ·refine wpAny_passesOwn hp (thn (T.item X rfl rfl rfl hc i pins s3 σ3 H3 X.xe I3 (stat fr3) st3 go) fun r s4 ⟨u, hr, h4⟩ => ?_)
  subst hr
  refine wpAny_passesOwn hp (thn h4 fun _ s5 ⟨x, H5, I5, r5, y5, st5, fr5⟩ => ?_)
  have I5' := I5.pinned (stat fr5) (T.obj _ _ st5)
  refine wpAny_passesOwn hp (thn (hg _ s5 σ3 H5 x u _ I5' r5 (step x H5 y5)) fun _ s6 ⟨σ6, H6, I6, q6⟩ => ?_)
  refine wpAny_passesOwn hp (thn (hb _ s6 σ6 H6 _ I6 q6) fun f s7 q7 => ?_)
  have again : ∀ {σ7 : St} {H7 : Hp}, Inv X (pins ++ xB fp s5.heap) σ7 H7 s7 -> N σ7 H7 -> ∃ m, m < n /\ ∃ i σ' H', Inv X pins σ' H' s7 /\ tn i s7.heap /\ (∀ b ∈ fp, H' b = none) /\ W i m σ' H' := fun {σ7 H7} I7 n7 => by
   obtain ⟨m', hm, w7⟩ := hN σ7 H7 n7
   refine ⟨m', hm, i + 1, σ7, H7, I7.unpinned, T.keep _ _ _ st5 fun b hb o e => (I7.pin (b, o) (List.mem_append_right _ (List.mem_append_right _ (eQ hb e)))).1, fun b hb => ?_, w7⟩
   obtain ⟨o, e, d⟩ := T.obj _ _ st5 b hb
   exact (I7.pin (b, o) (List.mem_append_right _ (List.mem_append_right _ (eQ hb e)))).2.1
  cases f with
  | next => obtain ⟨σ7, H7, I7, n7⟩ := q7; exact again I7 n7
  | cont => obtain ⟨σ7, H7, I7, n7⟩ := q7; exact again I7 n7
  | brk => obtain ⟨σ7, H7, I7, q7⟩ := q7; exact ⟨σ7, H7, I7.unpinned, q7⟩
  | ret v => obtain ⟨x7, σ7, H7, I7, r7, q7⟩ := q7; exact ⟨x7, σ7, H7, I7.unpinned, r7, q7⟩
end
abbrev R2 := V -> V -> Hp -> VK -> Prop
def OpR (X : Cx) (f : Value -> Value -> Sem Value) (r : R2) : Prop :=
 ∀ (pins : List (Addr × Obj)) (s : Shared) (σ : St) (H : Hp) (x y : V) (v u : Value) (Q : VK), Inv X pins σ H s -> RelV x v -> RelV y u -> r x y H Q ->
  wpAny (model X.prog X.w) X.A (f v u) (EP X pins σ Q) X.xe s
def UnR (X : Cx) (f : Value -> Sem Value) (r : V -> Hp -> VK -> Prop) : Prop :=
 ∀ (pins : List (Addr × Obj)) (s : Shared) (σ : St) (H : Hp) (x : V) (v : Value) (Q : VK), Inv X pins σ H s -> RelV x v -> r x H Q ->
  wpAny (model X.prog X.w) X.A (f v) (EP X pins σ Q) X.xe s
def l5 (X : Cx) (f : Value) (r : List V -> Hp -> VK -> Prop) : Prop :=
 ∀ (pins : List (Addr × Obj)) (s : Shared) (σ : St) (H : Hp) (xs : List V) (us : List Value) (Q : VK), Inv X pins σ H s -> Vals xs us -> r xs H Q ->
  wpAny (model X.prog X.w) X.A (call f us) (EP X pins σ Q) X.xe s
def tOp (r : R2) (ta tb : TE) : TE := fun σ H Q => ta σ H fun x H1 => tb σ H1 fun y H2 => r x y H2 Q
def tUn (r : V -> Hp -> VK -> Prop) (ta : TE) : TE := fun σ H Q => ta σ H fun x H1 => r x H1 Q
def rI (C : Int -> Int -> Prop) (g : Int -> Int -> V) : R2 := fun x y H Q => ∃ i j, x = .int i /\ y = .int j /\ C i j /\ Q (g i j) H
def rI0 (g : Int -> Int -> V) : R2 := fun x y H Q => ∃ i j, x = .int i /\ y = .int j /\ Q (g i j) H
def rU (g : Int -> V) : V -> Hp -> VK -> Prop := fun x H Q => ∃ i, x = .int i /\ Q (g i) H
section
variable {X : Cx} {a b c : Expr} {ta tb tc : TE} {pos : Pos}
theorem aO6 (ha : PE X a ta) (hb : PE X b tb) {pins : List (Addr × Obj)} {s : Shared} {σ : St} {H : Hp} {R : V -> V -> Hp -> Prop} (I : Inv X pins σ H s)
  (h : ta σ H fun x H1 => tb σ H1 fun y H2 => R x y H2) {Q : Value -> Shared -> Prop} {f : Value -> Value -> Sem Value}
  (hf : ∀ v u s2 x y H2, Inv X pins σ H2 s2 -> RelV x v -> RelV y u -> R x y H2 -> wpAny (model X.prog X.w) X.A (f v u) Q X.xe s2) :
  wpAny (model X.prog X.w) X.A (eval a X.env) (fun v s₁ => wpAny (model X.prog X.w) X.A (eval b X.env) (fun u s₂ => wpAny (model X.prog X.w) X.A (f v u) Q X.xe s₂) X.xe s₁) X.xe s := by
 refine thn (ha pins s σ H _ I h) fun v s1 ⟨x, H1, I1, r1, q1⟩ => ?_
 refine thn (hb pins s1 σ H1 _ I1 q1) fun u s2 ⟨y, H2, I2, r2, q2⟩ => ?_
 exact hf v u s2 x y H2 I2 r1 r2 q2
theorem aOw {op : Operator} {r : R2} (ho : OpR X (binaryOp op) r) (ha : PE X a ta) (hb : PE X b tb) : PE X (.BinOp a op b pos) (tOp r ta tb) := by
 intro pins s σ H Q I h
 exact wpAny_BinOp (aO6 ha hb I h fun v u s2 x y H2 I2 rx ry q => ho pins s2 σ H2 x y v u Q I2 rx ry q)
theorem aPh {op : UnaryOp} {r : V -> Hp -> VK -> Prop} (ho : UnR X (unaryOp op) r) (ha : PE X a ta) : PE X (.UnaryOp op a pos) (tUn r ta) := by
 intro pins s σ H Q I h
 exact UnaryOp_ (thn (ha pins s σ H _ I h) fun v s1 ⟨x, H1, I1, r1, q1⟩ => ho pins s1 σ H1 x v Q I1 r1 q1)
theorem opI {f : Value -> Value -> Sem Value} {C : Int -> Int -> Prop} {g : Int -> Int -> Int}
  (rule : ∀ (i j : Int) (t u : Tok) (s : Shared) (Q : Value -> Shared -> Prop) (E : Value -> Shared -> Prop), C i j -> Q (.int (g i j) s.toks) { s with toks := s.toks + 1 } -> wpAny (model X.prog X.w) X.A (f (.int i t) (.int j u)) Q E s) :
  OpR X f (rI C fun i j => .int (g i j)) := by
 intro pins s σ H x y v u Q I rx ry h
 obtain ⟨i, j, rfl, rfl, hc, q⟩ := h
 obtain ⟨t, rfl⟩ := rx
 obtain ⟨t', rfl⟩ := ry
 exact rule i j t t' s _ _ hc ⟨.int (g i j), H, I.tok _, ⟨_, rfl⟩, q⟩
theorem aPx {f : Value -> Value -> Sem Value} {g : Int -> Int -> Int}
  (rule : ∀ (i j : Int) (t u : Tok) (s : Shared) (Q : Value -> Shared -> Prop) (E : Value -> Shared -> Prop), Q (.int (g i j) s.toks) { s with toks := s.toks + 1 } -> wpAny (model X.prog X.w) X.A (f (.int i t) (.int j u)) Q E s) :
  OpR X f (rI0 fun i j => .int (g i j)) := by
 intro pins s σ H x y v u Q I rx ry h
 obtain ⟨i, j, rfl, rfl, q⟩ := h
 obtain ⟨t, rfl⟩ := rx
 obtain ⟨t', rfl⟩ := ry
 exact rule i j t t' s _ _ ⟨.int (g i j), H, I.tok _, ⟨_, rfl⟩, q⟩
theorem aPt {f : Value -> Value -> Sem Value} {g : Int -> Int -> Bool}
  (rule : ∀ (i j : Int) (t u : Tok) (s : Shared) (Q : Value -> Shared -> Prop) (E : Value -> Shared -> Prop), Q (.bool (g i j)) s -> wpAny (model X.prog X.w) X.A (f (.int i t) (.int j u)) Q E s) :
  OpR X f (rI0 fun i j => .bl (g i j)) := by
 intro pins s σ H x y v u Q I rx ry h
 obtain ⟨i, j, rfl, rfl, q⟩ := h
 obtain ⟨t, rfl⟩ := rx
 obtain ⟨t', rfl⟩ := ry
 exact rule i j t t' s _ _ ⟨.bl (g i j), H, I, rfl, q⟩
def aJp (i j : Int) : Prop := 0 <= j /\ j <= 1000000 /\ i.natAbs < 2 ^ 64
def CMul (i j : Int) : Prop := (-(2 ^ 64) < i /\ i < 2 ^ 64) \/ (-(2 ^ 64) < j /\ j < 2 ^ 64)
theorem CMul.ok {i j : Int} (h : CMul i j) : IntMulOk i j := by
 rcases h with ⟨h1, h2⟩ | ⟨h1, h2⟩
 ·exact .of_left (intBits_le_64 h1 h2)
 ·exact .of_right (intBits_le_64 h1 h2)
theorem aNp : OpR X (binaryOp .Add) (rI0 fun i j => .int (i + j)) := aPx fun _ _ _ _ _ _ _ q => add_int q
theorem eL : OpR X (binaryOp .Sub) (rI0 fun i j => .int (i - j)) := aPx fun _ _ _ _ _ _ _ q => sub_int q
theorem dN : OpR X (binaryOp .Mod) (rI (fun _ j => j ≠ 0) fun i j => .int (i.fmod j)) := opI fun _ _ _ _ _ _ _ hc q => mod_int' hc q
theorem uF : OpR X (binaryOp .Pow) (rI aJp fun i j => .int (i ^ j.toNat)) := opI fun _ _ _ _ _ _ _ hc q => pow_int_small hc.1 hc.2.1 hc.2.2 q
theorem unI {f : Value -> Sem Value} {g : Int -> Int}
  (rule : ∀ (i : Int) (t : Tok) (s : Shared) (Q : Value -> Shared -> Prop) (E : Value -> Shared -> Prop), Q (.int (g i) s.toks) { s with toks := s.toks + 1 } -> wpAny (model X.prog X.w) X.A (f (.int i t)) Q E s) :
  UnR X f (rU fun i => .int (g i)) := by
 intro pins s σ H x v Q I rx h
 obtain ⟨i, rfl, q⟩ := h
 obtain ⟨t, rfl⟩ := rx
 exact rule i t s _ _ ⟨.int (g i), H, I.tok _, ⟨_, rfl⟩, q⟩
theorem aNg : UnR X (unaryOp .USub) (rU fun i => .int (-i)) := unI fun _ _ _ _ _ q => neg_int q
end
section
variable {X : Cx} {a b c : Expr} {ta tb tc : TE} {pos : Pos}
theorem aFn : OpR X (compareOp .Lt) (rI0 fun i j => .bl (decide (i < j))) := aPt fun _ _ _ _ _ _ _ q => lt_int q
theorem aPd : OpR X (compareOp .LtE) (rI0 fun i j => .bl (decide (i <= j))) := aPt fun _ _ _ _ _ _ _ q => le_int q
theorem aI1 : OpR X (compareOp .Gt) (rI0 fun i j => .bl (decide (j < i))) := aPt fun _ _ _ _ _ _ _ q => gt_int q
theorem OpR.or {f : Value -> Value -> Sem Value} {r r' : R2} (h : OpR X f r) (h' : OpR X f r') : OpR X f (fun x y H Q => r x y H Q \/ r' x y H Q) := by
 intro pins s σ H x y v u Q I rx ry q
 rcases q with q | q
 ·exact h pins s σ H x y v u Q I rx ry q
 ·exact h' pins s σ H x y v u Q I rx ry q
theorem dH (b : Expr) {op : CmpOp} (h : op ≠ .In := by decide) (h2 : op ≠ .NotIn := by decide) : behindInMarks op b = false := by
 have e1 : (op == CmpOp.In) = false := by cases op <;> first | rfl | exact absurd rfl h
 have e2 : (op == CmpOp.NotIn) = false := by cases op <;> first | rfl | exact absurd rfl h2
 cases b <;> simp [behindInMarks, e1, e2]
theorem aKa {op : CmpOp} {r : R2} (ho : OpR X (compareOp op) r) (ha : PE X a ta) (hb : PE X b tb) (hm : behindInMarks op b = false) : PE X (.Compare a [op] [b] pos) (tOp r ta tb) := by
 intro pins s σ H Q I h
 exact wpAny_Compare1 (aO6 ha hb I h fun v u s2 x y H2 I2 rx ry q => ho pins s2 σ H2 x y v u Q I2 rx ry q) hm
def aPe (t : TE) : TT := fun σ H Q => t σ H fun x H' => ∃ k, x = .bl k /\ Q k H'
theorem aIu {op : CmpOp} {r : R2} (ho : OpR X (compareOp op) r) (ha : PE X a ta) (hb : PE X b tb) (hm : behindInMarks op b = false) : PT X (.Compare a [op] [b] pos) (aPe (tOp r ta tb)) := by
 intro pins s σ H Q I h
 refine wpAny_isTrue_Compare1 (thn (ha pins s σ H _ I h) fun v s1 ⟨x, H1, I1, r1, q1⟩ => thn (hb pins s1 σ H1 _ I1 q1) fun u s2 ⟨y, H2, I2, r2, q2⟩ =>
  thn (ho pins s2 σ H2 x y v u _ I2 r1 r2 q2) fun c s3 ⟨z, H3, I3, r3, k, e, q3⟩ => ?_) hm
 subst e
 cases r3
 exact wpAny_truthy_bool ⟨H3, I3, q3⟩
theorem aB2 : (sizeLine : Nat) < 2 ^ 63 := by rw [sizeLine_eq]; decide
theorem yH : OpR X (binaryOp .Add) (fun x y H Q => ∃ i j, x = .str i /\ y = .str j /\ i.length + j.length <= sizeLine /\ Q (.str (i ++ j)) H) := by
 intro pins s σ H x y v u Q I rx ry h
 obtain ⟨i, j, rfl, rfl, hz, q⟩ := h
 obtain ⟨t, rfl⟩ := rx
 obtain ⟨t', rfl⟩ := ry
 exact add_str (fun t' tk => ⟨.str (i ++ j), H, I.tok _, ⟨_, rfl⟩, q⟩) hz
theorem vals1 {x : V} {us : List Value} (r : Vals [x] us) : ∃ u, us = [u] /\ RelV x u := by
 cases r with
 | cons r1 r2 => cases r2; exact ⟨_, rfl, r1⟩
theorem vals2 {x y : V} {us : List Value} (r : Vals [x, y] us) : ∃ u w', us = [u, w'] /\ RelV x u /\ RelV y w' := by
 cases r with
 | cons r1 r2 =>
  cases r2 with
  | cons r3 r4 => cases r4; exact ⟨_, _, rfl, r1, r3⟩
theorem mW : l5 X (.builtin "abs") (fun xs H Q => ∃ i, xs = [.int i] /\ Q (.int (if i < 0 then -i else i)) H) := by
 intro pins s σ H xs us Q I r h
 obtain ⟨i, rfl, q⟩ := h
 obtain ⟨u, rfl, t, rfl⟩ := vals1 r
 exact call_abs_int fun u tk => ⟨.int (if i < 0 then -i else i), H, I.tok _, ⟨_, rfl⟩, q⟩
theorem aAr (hc : X.calm = true) : l5 X (.builtin "max") (fun xs H Q => ∃ i j, xs = [.int i, .int j] /\ Q (.int (if j > i then j else i)) H) := by
 intro pins s σ H xs us Q I r h
 obtain ⟨i, j, rfl, q⟩ := h
 obtain ⟨u, w', rfl, ⟨t, rfl⟩, ⟨t', rfl⟩⟩ := vals2 r
 refine max_two_ints (I.ok.hd hc) fun h' tk k => ⟨_, H, I.kept k, ?_, q⟩
 by_cases hj : j > i
 ·rw [if_pos hj, if_pos hj]; exact ⟨_, rfl⟩
 ·rw [if_neg hj, if_neg hj]; exact ⟨_, rfl⟩
end
structure ObjM (h : Heap) (x dx C : Addr) (mA : Str -> Option Value) : Prop where
 obj : h.get? x = some (PySem.W.instObj C dx)
 ns : h.Ns1 dx mA
 ne : dx ≠ x
theorem aC4 {h : Heap} {dx : Addr} {mA : Str -> Option Value} (n : h.Ns1 dx mA) : ∃ od, h.get? dx = some od /\ ∀ name, PySem.W.lookIn name od = some (mA name) := by
 obtain ⟨o, es, ep, ho, hd, hk, _, hm⟩ := n
 refine ⟨o, ho, fun name => ?_⟩
 have e := hm name
 unfold nsFind findBy at e
 rw [<- Array.find?_toList] at e
 unfold PySem.W.lookIn
 rw [hd]
 dsimp only
 split
 ·rename_i y q
  rw [q] at e
  exact congrArg some e
 ·rename_i q
  rw [q] at e
  have a : es.toList.any (·.refKey) = false := by
   rw [List.any_eq_false]
   intro y hy
   obtain ⟨z, t, hkey⟩ := hk y (Array.mem_toList_iff.mp hy)
   simp [DictEntry.refKey, hkey]
  have a' : ¬ es.toList.any (·.refKey) = true := by rw [a]; exact Bool.false_ne_true
  rw [if_neg a']
  exact congrArg some e
theorem ObjM.look {h : Heap} {x dx C : Addr} {mA : Str -> Option Value} (I : ObjM h x dx C mA) : ∃ od, PySem.W.InstAt h x (PySem.W.instObj C dx) C (some od) /\ ∀ name, PySem.W.lookIn name od = some (mA name) :=
 let ⟨od, ho, hl⟩ := aC4 I.ns
 ⟨od, ⟨I.obj, rfl, rfl, ho⟩, hl⟩
section
variable {prog : Program} {w : World} {A : Around} {E : Value -> Shared -> Prop} {s : Shared} {K : PySem.W.Frag} {x dx C f : Addr} {mA : Str -> Option Value} {name : Str} {v : Value}
end
theorem RelO.some_of {v : V} {o : Option Value} (r : RelO (some v) o) : ∃ u, o = some u /\ RelV v u := by
 cases o with
 | none => exact (show False from r).elim
 | some u => exact ⟨u, rfl, r⟩
section
variable {P : Program} {w : World} {H H' : Hp} {h h' : Heap} {a C dx : Addr} {fs fs' : List (Str × V)}
theorem aIf (hok : HOk P w H h) (e : H a = some (.ins C dx fs)) : ∃ mA, ObjM h a dx C mA /\ (∀ f, RelO (fs.lookup f) (mA f)) /\ PySem.Within mA (fs.map (·.1)) /\ fs.length <= 1000 /\ H dx = some (.own a) := by
 obtain ⟨d, z, ne, ob, mA, n, r, q⟩ := (show ObjOk P w H h a (.ins C dx fs) from hok a _ e)
 exact ⟨mA, ⟨ob, n, ne⟩, r, q, z, d⟩
end
structure Cls (K : PySem.W.Frag) (C : Addr) : Prop where
 pg : PySem.W.plainGet K C Str.empty = true
 hd : PySem.W.hasDictIn K C = true
 po : PySem.W.plainOver K C = true
 sa : PySem.W.findIn K (.ref C) "__setattr__" = some (some (.builtin "object.__setattr__"))
theorem Cls.get {K : PySem.W.Frag} {C : Addr} (c : Cls K C) (f : Str) : PySem.W.plainGet K C f = true := c.pg
section
variable {X : Cx} {pins : List (Addr × Obj)} {σ : St} {H : Hp} {s : Shared} {a C dx : Addr} {fs : List (Str × V)} {f : Str} {v : V} {A : Around} {E : Value -> Shared -> Prop}
end
section
variable {X : Cx} {o e value : Expr} {f : Str} {pos pos' tpos : Pos} {ta tv : TE}
end
section
variable {X : Cx} {pins : List (Addr × Obj)} {σ : St} {H : Hp} {s : Shared} {A : Around} {E : Value -> Shared -> Prop} {Q : Value -> Shared -> Prop} {c : Value} {b : Bool}
inductive xV (K : PySem.W.Frag) (H : Hp) : V -> Value -> Prop where
 | non : xV K H .non (.type "NoneType")
 | bl (x : Bool) : xV K H (.bl x) (.type "bool")
 | int (i : Int) : xV K H (.int i) (.type "int")
 | str (x : Str) : xV K H (.str x) (.type "str")
 | flt (x : UInt64) : xV K H (.flt x) (.type "float")
 | lst {a : Addr} {xs : List V} (e : H a = some (.lst xs)) : xV K H (.ref a) (.type "list")
 | frz {a : Addr} {o : Obj} {xs : List V} (e : H a = some (.frz o (.lst xs))) : xV K H (.ref a) (.type "list")
 | tup {a : Addr} {xs : List V} (e : H a = some (.tup xs)) : xV K H (.ref a) (.type "tuple")
 | dK {a : Addr} {kvs : List (Key × V)} (e : H a = some (.dK kvs)) : xV K H (.ref a) (.type "dict")
 | dT {a : Addr} {kvs : List (List Key × V)} (e : H a = some (.dT kvs)) : xV K H (.ref a) (.type "dict")
 | ins {a C dx : Addr} {fs : List (Str × V)} (e : H a = some (.ins C dx fs)) (cl : Cls K C) (ha : PySem.W.findIn K (.ref C) "__class__" = some (some (.builtin "object.__class__")))
   (hn : PySem.W.specialIn K (.builtin "object.__class__") "__get__" = some (some (.builtin "getset_descriptor.__get__"))) (htk : PySem.W.takesIn K (.builtin "object.__class__") = some true)
   (hm : PySem.W.mroIn K C (.type "object") = some true) : xV K H (.ref a) (.ref C)
theorem zK {x : V} {u t : Value} (I : Inv X pins σ H s) (rx : RelV x u) (ty : xV X.K H x t) (e : PySem.W.kitOne X.K t c = some b) (h : ∀ tk, Q (.bool b) { s with toks := tk }) :
  wpAny (model X.prog X.w) A (call (.builtin "isinstance") [u, c]) Q E s := by
 cases ty with
 | non => cases (show u = Value.none from rx); exact PySem.W.kia_one PySem.W.kitx_none I.kIn True.intro e (fun z => nomatch z) h
 | bl y => cases (show u = Value.bool y from rx); exact PySem.W.kia_one PySem.W.kitx_bool I.kIn True.intro e (fun z => nomatch z) h
 | int i => obtain ⟨t, q⟩ := (show ∃ t, u = Value.int i t from rx); cases q; exact PySem.W.kia_one PySem.W.kitx_int I.kIn True.intro e (fun z => nomatch z) h
 | str y => obtain ⟨t, q⟩ := (show ∃ t, u = Value.str y t from rx); cases q; exact PySem.W.kia_one PySem.W.kitx_str I.kIn True.intro e (fun z => nomatch z) h
 | flt y => obtain ⟨t, q⟩ := (show ∃ t, u = Value.float y t from rx); cases q; exact PySem.W.kia_one PySem.W.kitx_float I.kIn True.intro e (fun z => nomatch z) h
 | @lst a xs ea =>
  cases (show u = Value.ref a from rx)
  obtain ⟨_, _, n, _, h1⟩ := (show ObjOk X.prog X.w H s.heap a (.lst xs) from I.hok a _ ea)
  exact PySem.W.kia_one PySem.W.kitx_list I.kIn ⟨_, h1, rfl⟩ e (fun z => nomatch z) h
 | @frz a ob xs ea =>
  cases (show u = Value.ref a from rx)
  obtain ⟨_, _, _, n, _, h1⟩ := (show ObjOk X.prog X.w H s.heap a (.frz ob (.lst xs)) from I.hok a _ ea)
  exact PySem.W.kia_one PySem.W.kitx_list I.kIn ⟨_, h1, rfl⟩ e (fun z => nomatch z) h
 | @tup a xs ea =>
  cases (show u = Value.ref a from rx)
  obtain ⟨_, _, _, p⟩ := (show ObjOk X.prog X.w H s.heap a (.tup xs) from I.hok a _ ea)
  obtain ⟨o, h1, h2, _⟩ := p
  exact PySem.W.kia_one PySem.W.kitx_tuple I.kIn ⟨o, h1, h2⟩ e (fun z => nomatch z) h
 | @dK a kvs ea =>
  cases (show u = Value.ref a from rx)
  obtain ⟨_, _, vs, _, p⟩ := (show ObjOk X.prog X.w H s.heap a (.dK kvs) from I.hok a _ ea)
  obtain ⟨o, es, ep, h1, h2, _⟩ := p
  exact PySem.W.kia_one PySem.W.kitx_dict I.kIn ⟨o, h1, h2.1⟩ e (fun z => nomatch z) h
 | @dT a kvs ea =>
  cases (show u = Value.ref a from rx)
  obtain ⟨_, _, xs, _, o, es, ep, h1, h2, _⟩ := (show ObjOk X.prog X.w H s.heap a (.dT kvs) from I.hok a _ ea)
  exact PySem.W.kia_one PySem.W.kitx_dict I.kIn ⟨o, h1, h2.1⟩ e (fun z => nomatch z) h
 | @ins a C dx fs ea cl ha hn htk hm =>
  cases (show u = Value.ref a from rx)
  obtain ⟨mA, O, _⟩ := aIf I.hok ea
  obtain ⟨od, J, _⟩ := O.look
  exact PySem.W.kia_one (PySem.W.kitx_own (cl.get _) cl.hd ha hn htk hm) I.kIn J e (fun z => nomatch z) h
end
structure Room (k : Nat) (A : Around) : Prop where
 hd : A.handled = none
 dp : A.depth + 3 * k + 5 < recursionLimit
 un : A.units + 16 * k + 200 < cLine
theorem Room.mono {j k : Nat} {A : Around} (r : Room k A) (h : j <= k) : Room j A := ⟨r.hd, by have := r.dp; omega, by have := r.un; omega⟩
theorem Room.deeper {k : Nat} {A : Around} (r : Room (k + 1) A) (env : Env) : Room k (A.deeper env) :=
 ⟨r.hd, by have := r.dp; show A.depth + 1 + 3 * k + 5 < _; omega, by have := r.un; show A.units + 3 + 16 * k + 200 < _; omega⟩
theorem Room.in1 {k : Nat} {A : Around} (r : Room (k + 1) A) : Room k A.in1 :=
 ⟨r.hd, by have := r.dp; show A.depth + 3 * k + 5 < _; omega, by have := r.un; show A.units + 1 + 16 * k + 200 < _; omega⟩
theorem Room.depth {k : Nat} {A : Around} (r : Room k A) : A.depth < recursionLimit := by have := r.dp; omega
def aP2 : TA := fun _ H Q => Q [] H
def aM2 (ta : TE) (tr : TA) : TA := fun σ H Q => ta σ H fun x H1 => tr σ H1 fun xs H2 => Q (x :: xs) H2
section
variable {X : Cx} {e : Expr} {es : List Expr} {te : TE} {t : TA} {pos : Pos}
theorem lO : PA X [] aP2 := fun _ _ _ _ H Q I h => Calls.spliced_nil ⟨[], H, I, .nil, h⟩
theorem iB (ha : PE X e te) (hr : PA X es t) (hs : starEach (e :: es) X.env = (false, eval e X.env) :: starEach es X.env := by rfl) : PA X (e :: es) (aM2 te t) := by
 intro pos pins s σ H Q I h
 rw [hs]
 show wpAny _ _ (spliced ((false, eval e X.env) :: backTo pos (starEach es X.env))) _ _ s
 refine Calls.spliced_cons (thn (ha pins s σ H _ I h) fun u s1 ⟨x, H1, I1, r1, q1⟩ => ?_)
 exact thn (hr pos pins s1 σ H1 _ I1 q1) fun us s2 ⟨xs, H2, I2, r2, q2⟩ => ⟨x :: xs, H2, I2, .cons r1 r2, q2⟩
def aQm (t : TA) : TE := fun σ H Q => t σ H fun xs H1 => xs.length <= sizeLine /\ ∀ p, H1 p = none -> Q (.ref p) (upd H1 p (.tup xs))
def aQi (t : TA) : TE := fun σ H Q => t σ H fun xs H1 => xs.length <= sizeLine /\ ∀ p, H1 p = none -> Q (.ref p) (upd H1 p (.lst xs))
theorem aLv {x1} (h : PA X es t) : PE X (.Tuple es x1 pos) (aQm t) := by
 intro pins s σ H Q I hq
 refine wpAny_Tuple_spliced (thn (h pos pins s σ H _ I hq) fun us s1 ⟨xs, H1, I1, r, z, q⟩ => ⟨by rw [<- r.length]; exact z, ?_⟩)
 have hf : H1 s1.heap.objs.size = none := I1.hok.fresh (Nat.le_refl _)
 refine ⟨.ref s1.heap.objs.size, upd H1 s1.heap.objs.size (.tup xs), I1.laid (t' := s1.toks) (fun b u e => Heap.get?_push_of_some _ e) (Nat.le_refl _) ?_, rfl, q _ hf⟩
 exact ⟨z, us, r, ⟨_, Heap.get?_push_size _ rfl, rfl, _, rfl⟩⟩
theorem aNc (h : PA X es t) : PE X (.List es pos) (aQi t) := by
 intro pins s σ H Q I hq
 refine wpAny_List_spliced (thn (h pos pins s σ H _ I hq) fun us s1 ⟨xs, H1, I1, r, z, q⟩ => ⟨by rw [<- r.length]; exact z, ?_⟩)
 have hf : H1 s1.heap.objs.size = none := I1.hok.fresh (Nat.le_refl _)
 refine ⟨.ref s1.heap.objs.size, upd H1 s1.heap.objs.size (.lst xs), I1.laid (t' := s1.toks) (fun b u e => Heap.get?_push_of_some _ e) (Nat.le_refl _) ?_, rfl, q _ hf⟩
 exact ⟨z, us, 0, r, Heap.get?_push_size _ rfl⟩
end
abbrev Sp := List V -> Hp -> VK -> XK -> Prop
abbrev CXT := List Env -> Hp -> Shared -> XK -> Value -> Shared -> Prop
structure aN0 (P : Program) (w : World) (K : PySem.W.Frag) (mg : Str -> Option Value) (base : Heap) (A : Around) (outer : List Env) (s : Shared) (H : Hp) : Prop where
 frames : A.frames = some outer
 mod : Mod K mg base
 bs : ∀ b o, base.get? b = some o -> s.heap.get? b = some o /\ H b = none
 bsz : base.objs.size <= s.heap.objs.size
 funs : s.heap.FunFrames base outer
 frf : ∀ b ∈ frs outer, H b = none
 hok : HOk P w H s.heap
 bare : AllBare s.gens
 tab : Tbs K H
def CE (outer : List Env) (P : Program) (w : World) (H : Hp) (s : Shared) (Q : VK) (u : Value) (s' : Shared) : Prop :=
 ∃ v H', s'.os = s.os /\ AllBare s'.gens /\ Un (frs outer) [] H H' s.heap s'.heap /\ HOk P w H' s'.heap /\ RelV v u /\ Q v H'
def CR (CX : CXT) (outer : List Env) (P : Program) (w : World) (H : Hp) (s : Shared) (Q : VK) (E : XK) (r : Result) (s' : Shared) : Prop :=
 match r with
 | .ok (.ret u) => CE outer P w H s Q u s'
 | .ok _ => False
 | .error e => CX outer H s E e s'
structure FnOk (P : Program) (w : World) (K : PySem.W.Frag) (mg : Str -> Option Value) (base : Heap) (CX : CXT) (k : Nat) (f : Addr) (fd : FuncData) (ps : List Str) (sp : Sp) : Prop where
 len : ∀ vs H Q E, sp vs H Q E -> vs.length = ps.length
 run : ∀ (A : Around) (outer : List Env) (s : Shared) (H : Hp) (args : Args) (us : List Value) (vs : List V) (Q : VK) (E : XK), Room k A -> aN0 P w K mg base A outer s H -> BindsTo s fd args (ps.zip us) -> Vals vs us -> sp vs H Q E ->
  codeAny (model P w) A (.call (.ref f) args) (CR CX outer P w H s Q E) s
theorem FnOk.mono {P : Program} {w : World} {K : PySem.W.Frag} {mg : Str -> Option Value} {base : Heap} {CX : CXT} {j k : Nat} {f : Addr} {fd : FuncData} {ps : List Str} {sp : Sp} (F : FnOk P w K mg base CX j f fd ps sp) (h : j <= k) :
  FnOk P w K mg base CX k f fd ps sp := ⟨F.len, fun A outer s H args us vs Q E hr => F.run A outer s H args us vs Q E (hr.mono h)⟩
theorem FnOk.imp {P : Program} {w : World} {K : PySem.W.Frag} {mg : Str -> Option Value} {base : Heap} {CX : CXT} {k : Nat} {f : Addr} {fd : FuncData} {ps : List Str} {sp sp' : Sp} (F : FnOk P w K mg base CX k f fd ps sp)
  (h : ∀ vs H Q E, sp' vs H Q E -> sp vs H Q E) : FnOk P w K mg base CX k f fd ps sp' :=
 ⟨fun vs H Q E q => F.len vs H Q E (h _ _ _ _ q), fun A outer s H args us vs Q E hr he hb hv hs => F.run A outer s H args us vs Q E hr he hb hv (h _ _ _ _ hs)⟩
section
variable {X : Cx} {pins : List (Addr × Obj)} {σ : St} {H : Hp} {s s' : Shared}
theorem Inv.env0 (I : Inv X pins σ H s) : aN0 X.prog X.w X.K X.mg X.base X.A X.stack s H :=
 ⟨I.ok.frames, I.ok.mod, I.bs, Nat.le_trans I.ok.bsz I.sz, I.stack, I.stkFree, I.hok, I.bare, I.tab⟩
theorem Inv.after {Q : VK} {u : Value} (I : Inv X pins σ H s) (h : CE X.stack X.prog X.w H s Q u s') : EP X pins σ Q u s' := by
 obtain ⟨v, H', os, bare, un, hok, r, q⟩ := h
 obtain ⟨hh, g, d, t, os'⟩ := s'
 obtain rfl : os' = s.os := os
 exact ⟨v, H', I.call (h' := hh) (g' := g) (d' := d) (t' := t) (ch := []) un hok bare (fun b z => absurd z (by simp)), r, q⟩
end
def Binds (K : PySem.W.Frag) (fd : FuncData) (ps : List Str) (ds : List Value) : Prop :=
 ∀ (s : Shared) (us : List Value), K.In s.heap -> (us ++ ds).length = ps.length -> BindsTo s fd ⟨us, []⟩ (ps.zip (us ++ ds))
theorem Binds.all {K : PySem.W.Frag} {fd : FuncData} {ps : List Str} (h : ∀ us : List Value, us.length = ps.length -> bindArgs fd ⟨us, []⟩ = pure (ps.zip us)) : Binds K fd ps [] := fun s us _ hl => by
 rw [List.append_nil] at hl ⊢
 exact .of_eq (h us hl)
def aNx (CX : CXT) (X : Cx) (E : XK) : Prop := ∀ (pins : List (Addr × Obj)) (σ : St) (H : Hp) (s : Shared) (e : Value) (s' : Shared), Inv X pins σ H s -> CX X.stack H s E e s' -> X.xe e s'
section
variable {X : Cx} {CX : CXT} {k : Nat} {f C : Addr} {fd : FuncData} {ps : List Str} {sp : Sp} {dvs : List V} {ds : List Value} {E : XK} {x m : Str} {p pos apos : Pos} {e o : Expr} {es : List Expr} {ta : TE} {t : TA}
end
section
variable {X : Cx} {CX : CXT} {k : Nat} {f C : Addr} {fd : FuncData} {ps ks : List Str} {sp : Sp} {E : XK} {x m : Str} {p pos apos kpos : Pos} {e o : Expr} {es : List Expr} {kws : List Keyword} {te ta : TE} {t tk : TA} {nm : Option Str}
variable {g : List Value -> List Value -> List Value} {gV : List V -> List V -> List V}
end
structure aY (N P : List Str) (sc : Scope) : Prop where
 kind : sc.kind = .function
 co : sc.isCoroutine = false
 gen : sc.isGenerator = false
 nd : N.Nodup
 pre : N.take P.length = P
 par : ∀ x ∈ P, sc.names.lookup x = some .local \/ sc.names.lookup x = some .cell
 nofree : ∀ y ∈ sc.names, y.2 ≠ .free
theorem t6 {kindOf : Str -> Option NameKind} {x : Str} : ∀ {binds : List (Str × Value)} {m : Str -> Option Value}, (∀ v, (x, v) ∉ binds) -> bindL kindOf binds m x = m x
 | [], _, _ => rfl
 | (n, v) :: r, m, h => by
  unfold bindL
  rw [t6 fun w hw => h w (List.mem_cons_of_mem _ hw)]
  split
  ·have : x ≠ n := by rintro rfl; exact h v List.mem_cons_self
   simp [this]
  ·rfl
theorem uC {kindOf : Str -> Option NameKind} {x : Str} : ∀ {binds : List (Str × Value)} {m : Str -> Option Value}, (∀ v, (x, v) ∉ binds) -> bindC kindOf binds m x = m x
 | [], _, _ => rfl
 | (n, v) :: r, m, h => by
  unfold bindC
  rw [uC fun w hw => h w (List.mem_cons_of_mem _ hw)]
  split
  ·rfl
  ·have : x ≠ n := by rintro rfl; exact h v List.mem_cons_self
   simp [this]
theorem r9 {kindOf : Str -> Option NameKind} {x : Str} {v : Value} : ∀ {P : List Str} {vs : List Value} {i : Nat} {m : Str -> Option Value}, P.Nodup -> P[i]? = some x -> vs[i]? = some v -> kindOf x = some .local ->
  bindL kindOf (P.zip vs) m x = some v
 | [], _, _, _, _, h, _, _ => by simp at h
 | _ :: _, [], _, _, _, _, h, _ => by simp at h
 | p :: P, w :: vs, 0, m, nd, h1, h2, hk => by
  simp at h1 h2; subst h1; subst h2
  show bindL kindOf ((p, w) :: P.zip vs) m p = _
  unfold bindL
  rw [t6 fun v hv => (List.nodup_cons.mp nd).1 (List.of_mem_zip hv).1, if_pos hk]
  simp
 | p :: P, w :: vs, i + 1, m, nd, h1, h2, hk => by
  show bindL kindOf ((p, w) :: P.zip vs) m x = _
  unfold bindL
  exact r9 (i := i) (List.nodup_cons.mp nd).2 (by simpa using h1) (by simpa using h2) hk
theorem sY {kindOf : Str -> Option NameKind} {x : Str} {v : Value} : ∀ {P : List Str} {vs : List Value} {i : Nat} {m : Str -> Option Value}, P.Nodup -> P[i]? = some x -> vs[i]? = some v -> kindOf x ≠ some .local ->
  bindC kindOf (P.zip vs) m x = some v
 | [], _, _, _, _, h, _, _ => by simp at h
 | _ :: _, [], _, _, _, _, h, _ => by simp at h
 | p :: P, w :: vs, 0, m, nd, h1, h2, hk => by
  simp at h1 h2; subst h1; subst h2
  show bindC kindOf ((p, w) :: P.zip vs) m p = _
  unfold bindC
  rw [uC fun v hv => (List.nodup_cons.mp nd).1 (List.of_mem_zip hv).1, if_neg hk]
  simp
 | p :: P, w :: vs, i + 1, m, nd, h1, h2, hk => by
  show bindC kindOf ((p, w) :: P.zip vs) m x = _
  unfold bindC
  exact sY (i := i) (List.nodup_cons.mp nd).2 (by simpa using h1) (by simpa using h2) hk
def start (N : List Str) (vs : List V) : St := vs.map some ++ List.replicate (N.length - vs.length) none
def pL (CX : CXT) (P : Program) (w : World) (K : PySem.W.Frag) (mg : Str -> Option Value) (base : Heap) (N : List Str) (qual : Str) (scope : Scope) (f : Addr) (cd : Value) (A : Around) (outer : List Env) (s : Shared) (H : Hp) (E : XK) : Cx where
 prog := P
 w := w
 K := K
 mg := mg
 base := base
 A := A.deeper (envOfC qual scope s.heap.objs.size f cd)
 N := N
 s₀ := s
 H₀ := H
 env := envOfC qual scope s.heap.objs.size f cd
 outer := outer
 stack := envOfC qual scope s.heap.objs.size f cd :: outer
 ex := []
 calm := true
 fn := fun _ => true
 pn := []
 xe := fun e s' => wpAny (model P w) (A.deeper (envOfC qual scope s.heap.objs.size f cd)) (leaving (envOfC qual scope s.heap.objs.size f cd) e) (fun _ s'' => CX outer H s E e s'') (fun e' s'' => CX outer H s E e' s'') s'
theorem wY {sc : Scope} {n : Nat} {x : Str} (h : sc.names.lookup x = some .cell) : ∃ c, (cellsFrom n sc.names []).lookup x = some c := by
 have q := PySem.W.cellsFrom_some sc.names n [] (.inl h)
 exact Option.isSome_iff_exists.mp q
theorem aBr {CX : CXT} {P : Program} {w : World} {K : PySem.W.Frag} {mg : Str -> Option Value} {base : Heap} {N ps : List Str} {qual : Str} {scope : Scope} {f : Addr} {cd : Value} {A : Around} {outer : List Env} {s s1 : Shared} {H : Hp} {E : XK} {us : List Value} {vs : List V}
  (S : aY N ps scope) (hd : A.handled = none) (e0 : aN0 P w K mg base A outer s H) (hl : vs.length = ps.length) (r : Vals vs us)
  (x : InCallC s s.heap.objs.size (bindL (envOfC qual scope s.heap.objs.size f cd).kindOf (ps.zip us) fun _ => none) (cellsFrom (s.heap.objs.size + 1) scope.names []) (bindC (envOfC qual scope s.heap.objs.size f cd).kindOf (ps.zip us) fun _ => none) s1) :
  Inv (pL CX P w K mg base N qual scope f cd A outer s H E) [] (start N vs) H s1 := by
 have hpl : ps.length <= N.length := by have := congrArg List.length S.pre; rw [List.length_take] at this; omega
 obtain ⟨h1, tk, rfl, hk⟩ := x.done
 have noA : ∀ b : Addr, b ∉ (pL CX P w K mg base N qual scope f cd A outer s H E).ex := fun b z => absurd (show b ∈ ([] : List Addr) from z) (by simp)
 refine ⟨⟨e0.mod, S.kind, rfl, rfl, Nat.le_refl _, fun y z c h1 h2 => ?_, fun y hy => ?_, fun y c _ h => ?_, fun _ => hd, Around.frames_deeper e0.frames, .inr ⟨rfl, rfl⟩, fun b z => absurd z (noA b), e0.bs, e0.bsz, fun b _ _ => noA b, fun b z => absurd z (noA b), e0.funs, e0.frf, e0.tab⟩,
  rfl, e0.bare, Un.kept hk, ⟨_, x.toInCall.ns, fun i y v h1 h2 h3 => ?_⟩, fun y c h => ⟨_, x.cell y c h⟩, e0.hok.fresh (Nat.le_refl _), fun y c h => ?_, fun p hp => absurd (show p ∈ ([] : List (Addr × Obj)) from hp) (by simp), e0.hok.kept hk, ?_⟩
 ·exact name_of_addr x.apart (PySem.mem_of_lookup h1) (PySem.mem_of_lookup h2)
 ·have hy : scope.names.lookup y = some .cell \/ scope.names.lookup y = some .free := hy
  rcases hy with hy | hy
  ·exact wY hy
  ·exact absurd rfl (S.nofree _ (PySem.mem_of_lookup hy))
 ·exact Nat.le_of_lt (x.above y c (PySem.mem_of_lookup h))
 ·have hi : i < vs.length := by
   unfold start at h2
   by_cases hi : i < vs.length
   ·exact hi
   ·rw [List.getElem?_append_right (by simpa using hi)] at h2
    rw [List.getElem?_replicate] at h2
    split at h2 <;> cases h2
  have ha : vs[i]? = some v := by
   unfold start at h2
   rw [List.getElem?_append_left (by simpa using hi), List.getElem?_map] at h2
   cases e : vs[i]? with
   | none => rw [e] at h2; cases h2
   | some a => rw [e] at h2; cases h2; rfl
  obtain ⟨u, hu, rv⟩ := r.get ha
  have hp : ps[i]? = some y := by
   rw [<- S.pre, List.getElem?_take_of_lt (by omega)]; exact h1
  have ndP : ps.Nodup := by rw [<- S.pre]; exact S.nd.sublist (List.take_sublist _ _)
  refine ⟨u, rv, ?_⟩
  rcases S.par y (List.mem_of_getElem? hp) with k | k
  ·exact .inl ⟨k, r9 ndP hp hu k⟩
  ·obtain ⟨c, e⟩ := wY (n := s.heap.objs.size + 1) k
   refine .inr ⟨.inl k, c, e, ?_⟩
   have q := x.cell y c e
   rw [sY ndP hp hu (by show scope.names.lookup y ≠ _; rw [k]; decide)] at q
   exact q
 ·exact e0.hok.fresh (Nat.le_of_lt (x.above y c (PySem.mem_of_lookup h)))
 ·unfold start
  show _ = N.length
  rw [List.length_append, List.length_map, List.length_replicate]
  omega
theorem aNd {CX : CXT} {P : Program} {w : World} {K : PySem.W.Frag} {mg : Str -> Option Value} {base : Heap} {k : Nat} {f : Addr} {name qual : Str} {params : Arguments} {body : List Stmt} {scope : Scope} {dV kV doc pm cdv ct oc : Value} {an od : Option Addr}
  {osl : Array (Option Value)} {N ps : List Str} {sp : Sp} (lk : K.lookup f = some ⟨oc, od, .func (PySem.W.fnOf name qual params body scope dV kV doc pm an cdv ct), osl⟩) (hcd : PySem.W.codeIn K cdv qual = true) (S : aY N ps scope)
  (len : ∀ vs H Q E, sp vs H Q E -> vs.length = ps.length)
  (hbody : ∀ (A : Around) (outer : List Env) (s : Shared) (H : Hp) (vs : List V) (Q : VK) (E : XK), Room k (A.deeper (envOfC qual scope s.heap.objs.size f cdv)) -> sp vs H Q E ->
   ∃ t, PSs (pL CX P w K mg base N qual scope f cdv A outer s H E) body t /\ t { nx := fun _ H' => Q .non H', rt := Q } (start N vs) H) :
  FnOk P w K mg base CX (k + 1) f (PySem.W.fnOf name qual params body scope dV kV doc pm an cdv ct) ps sp := by
 refine ⟨len, fun A outer s H args us vs Q E hr e0 hb r hsp => ?_⟩
 have hl := len _ _ _ _ hsp
 have KX : K.In s.heap := e0.mod.kin.keeps fun b o e => (e0.bs b o e).1
 have lim : s.heap.NoLimit := e0.mod.nolimit.keeps fun b o e => (e0.bs b o e).1
 have hkind : ∀ y ∈ ps.zip us, scope.names.lookup y.1 = some .local \/ (scope.names.lookup y.1 = some .cell /\ ((cellsFrom (s.heap.objs.size + 1) scope.names []).lookup y.1).isSome = true) := fun ⟨n, v⟩ hy => by
  rcases S.par n (List.of_mem_zip hy).1 with q | q
  ·exact .inl q
  ·exact .inr ⟨q, PySem.W.cellsFrom_some _ _ _ (.inl q)⟩
 refine codeAny_call_function hr.depth (KX _ _ lk) rfl S.co S.gen rfl (PySem.W.codeRec_of KX hcd) (hb _ _ _ _ ?_)
 refine wpAny_newFunctionEnv_cells S.kind hkind fun env he s1 x => ?_
 subst he
 refine ⟨lim.keeps x.toInCall.keep, codeAny_func ?_⟩
 obtain ⟨t, ht, hq⟩ := hbody A outer s H vs Q E (hr.deeper _) hsp
 have I : Inv (pL CX P w K mg base N qual scope f cdv A outer s H E) [] (start N vs) H s1 := aBr S hr.hd e0 hl r x
 refine wpAny_mono (ht [] s1 (start N vs) H _ I hq) (fun fl s' hs => ?_) fun e s' hs => hs
 have fin : ∀ {σ' : St} {H' : Hp} {v : V} {u : Value}, Inv (pL CX P w K mg base N qual scope f cdv A outer s H E) [] σ' H' s' -> RelV v u -> Q v H' -> CE outer P w H s Q u s' :=
  fun {σ' H' v u} J rv q => ⟨v, H', J.os, J.bare, J.base, J.hok, rv, q⟩
 cases fl with
 | ret u =>
  obtain ⟨v, σ', H', J, rv, q⟩ := hs
  exact fin J rv q
 | next =>
  obtain ⟨σ', H', J, q⟩ := hs
  exact fin (v := V.non) (u := Value.none) J rfl q
 | brk =>
  obtain ⟨_, _, _, q⟩ := hs
  exact False.elim q
 | cont =>
  obtain ⟨_, _, _, q⟩ := hs
  exact False.elim q
section
variable {X : Cx} {x : Str} {p pos : Pos} {e : Expr} {es : List Expr} {t : TA} {id T : String} {r : List V -> Hp -> VK -> Prop}
def tCB (r : List V -> Hp -> VK -> Prop) (t : TA) : TE := fun σ H Q => t σ H fun vs H1 => r vs H1 Q
theorem w5 (hc : l5 X (.builtin id) r) (hg : Gl X x) (hm : X.mg x = none) (hv : bootBuiltins x = some (.builtin id)) (ha : PA X (e :: es) t) (hn : x ≠ "__name__" := by decide) (hdb : (x == ("__debug__" : Str)) = false := by decide)
  (he : starEach (e :: es) X.env = (false, eval e X.env) :: starEach es X.env := by rfl) (hpl : (backTo pos (starEach es X.env)).any (·.1) = false := by rfl) : PE X (.Call (.Name x p) (e :: es) [] pos) (tCB r t) := by
 intro pins s σ H Q I h
 refine wpAny_Call_Name_kw (lZ I hg hm hv ?_ hn hdb)
 exact PyProof.Rows.callWith_builtin1 (thn (ha pos pins s σ H _ I h) fun us s1 ⟨vs, H1, I1, r1, q1⟩ => hc pins s1 σ H1 vs us Q I1 r1 q1) he hpl
theorem aBe (hc : l5 X (.type T) r) (hg : Gl X x) (hm : X.mg x = none) (hv : bootBuiltins x = some (.type T)) (ha : PA X (e :: es) t) (hn : x ≠ "__name__" := by decide) (hdb : (x == ("__debug__" : Str)) = false := by decide)
  (he : starEach (e :: es) X.env = (false, eval e X.env) :: starEach es X.env := by rfl) (hpl : (backTo pos (starEach es X.env)).any (·.1) = false := by rfl) : PE X (.Call (.Name x p) (e :: es) [] pos) (tCB r t) := by
 intro pins s σ H Q I h
 refine wpAny_Call_Name_kw (lZ I hg hm hv ?_ hn hdb)
 exact PyProof.Rows.callWith_type1 (thn (ha pos pins s σ H _ I h) fun us s1 ⟨vs, H1, I1, r1, q1⟩ => hc pins s1 σ H1 vs us Q I1 r1 q1) he hpl
end
end L2
namespace HT
open PySem PyProof.Rows
def lexLt : List Int -> List Int -> Bool
 | [], [] => false
 | [], _ :: _ => true
 | _ :: _, [] => false
 | x :: xs, y :: ys => if x = y then lexLt xs ys else decide (x < y)
theorem fN (x y : Int) (xs ys : List Int) : lexLt (x :: xs) (y :: ys) = if x = y then lexLt xs ys else decide (x < y) := rfl
section
open PySem.SeqAt
open PySem.AutoSeq1 (wpAny_loadPart')
open PySem.MeetsSeq PySem.MeetsSeq2 PySem.MeetsSeq3
end
section
variable {prog : Program} {w : World} {A : Around} {E : Value -> Shared -> Prop} {s : Shared}
def sIx (n d : Nat) : Option Int -> Nat
 | none => d
 | some v => if v < 0 then (v + (n : Int)).toNat else min v.toNat n
theorem aFo (n d : Nat) : sIx n d none = d := rfl
theorem uP (n d k : Nat) : sIx n d (some (k : Int)) = min k n := by
 show (if (k : Int) < 0 then ((k : Int) + (n : Int)).toNat else min (k : Int).toNat n) = min k n
 rw [if_neg (by omega), Int.toNat_natCast]
end
end HT
namespace L2
open PySem PySem.Spec PyProof.Rows
abbrev TO := St -> Hp -> (Option Int -> Hp -> Prop) -> Prop
def PO (X : Cx) (e : Option Expr) (t : TO) : Prop :=
 ∀ (pins : List (Addr × Obj)) (s : Shared) (σ : St) (H : Hp) (Q : Option Int -> Hp -> Prop), Inv X pins σ H s -> t σ H Q ->
  wpAny (model X.prog X.w) X.A (evalPart e X.env) (fun u s' => ∃ o H', Inv X pins σ H' s' /\ IsPart u o /\ Q o H') X.xe s
def aIy : TO := fun _ H Q => Q none H
def aOd (t : TE) : TO := fun σ H Q => t σ H fun x H1 => ∃ i, x = .int i /\ Q (some i) H1
theorem intsAre_of {ns : List Int} : ∀ {us : List Value}, Vals (ns.map V.int) us -> IntsAre us ns := by
 induction ns with
 | nil => intro us r; rw [List.map_nil] at r; cases r; exact .nil
 | cons n ns ih =>
  intro us r
  rw [List.map_cons] at r
  cases r with
  | cons r1 r2 =>
   obtain ⟨t, e⟩ := r1
   subst e
   exact .cons n t (ih r2)
section
variable {X : Cx} {e : Expr} {te : TE} {lo hi : Option Expr} {tl th : TO} {pos p2 : Pos}
theorem aJq : PO X none aIy := by
 intro pins s σ H Q I h
 rw [evalPart_none]
 exact wpAny_pure ⟨none, H, I, .none, h⟩
theorem aJ3 (h : PE X e te) : PO X (some e) (aOd te) := by
 intro pins s σ H Q I hw
 rw [evalPart_some]
 refine thn (h pins s σ H _ I hw) fun u s1 ⟨x, H1, I1, r1, q1⟩ => ?_
 obtain ⟨i, rfl, q⟩ := q1
 obtain ⟨t, rfl⟩ := r1
 exact ⟨some i, H1, I1, .int i t, q⟩
def SlR (X : Cx) (r : V -> Option Int -> Option Int -> Hp -> VK -> Prop) : Prop :=
 ∀ (pins : List (Addr × Obj)) (s : Shared) (σ : St) (H : Hp) (x : V) (v vl vu : Value) (lo hi : Option Int) (sl : Addr) (Q : VK), Inv X pins σ H s -> RelV x v -> s.heap.IsSliceOf sl vl vu .none -> IsPart vl lo -> IsPart vu hi -> r x lo hi H Q ->
  ∃ T id, typeLookup (.type T) "__getitem__" = pure (some (.builtin id)) /\ s.TypeIs v T /\ wpAny (model X.prog X.w) X.A (getItem v (.ref sl)) (EP X pins σ Q) X.xe s
def tSl (r : V -> Option Int -> Option Int -> Hp -> VK -> Prop) (te : TE) (tl th : TO) : TE := fun σ H Q => te σ H fun x H1 => tl σ H1 fun l H2 => th σ H2 fun u H3 => r x l u H3 Q
theorem aEo {r : V -> Option Int -> Option Int -> Hp -> VK -> Prop} (hr : SlR X r) (he : PE X e te) (hl : PO X lo tl) (hu : PO X hi th) : PE X (.Subscript e (.Slice lo hi none p2) pos) (tSl r te tl th) := by
 intro pins s σ H Q I h
 refine Subscript_ (thn (he pins s σ H _ I h) fun v s1 ⟨x, H1, I1, r1, q1⟩ => ?_)
 refine wpAny_Slice (thn (hl pins s1 σ H1 _ I1 q1) fun vl s2 ⟨l, H2, I2, pl, q2⟩ => thn (hu pins s2 σ H2 _ I2 q2) fun vu s3 ⟨u, H3, I3, pu, q3⟩ => ?_)
 rw [evalPart_none]
 refine wpAny_pure ?_
 have I4 : Inv X pins σ H3 { s3 with heap := s3.heap.push { cls := .type "slice", data := .fields #[vl, vu, .none] } } := I3.kept (t' := s3.toks) fun b ob q => Heap.get?_push_of_some _ q
 obtain ⟨T, id, hT, ht, hg⟩ := hr pins { s3 with heap := s3.heap.push { cls := .type "slice", data := .fields #[vl, vu, .none] } } σ H3 x v vl vu l u s3.heap.objs.size Q I4 r1 (Heap.IsSliceOf.new ..) pl pu q3
 show wpAny (model X.prog X.w) X.A (subscriptTail e (.Slice lo hi none p2) v (.ref s3.heap.objs.size)) (EP X pins σ Q) X.xe { s3 with heap := s3.heap.push { cls := .type "slice", data := .fields #[vl, vu, .none] } }
 exact tail_any (ops := [.ref s3.heap.objs.size, v]) ht hT hg (by with_unfolding_all rfl)
def aKt (xs : List V) (lo hi : Option Int) : List V := (xs.drop (HT.sIx xs.length 0 lo)).take (HT.sIx xs.length xs.length hi - HT.sIx xs.length 0 lo)
theorem uZ (xs : List V) (lo hi : Option Int) : (aKt xs lo hi).length <= xs.length := by
 unfold aKt
 rw [List.length_take, List.length_drop]
 omega
end
def ixN (n : Nat) (i : Int) : Option Nat := if 0 <= i then (if i < n then some i.toNat else none) else if -(n : Int) <= i then some (i + n).toNat else none
def atI {α : Type} (xs : List α) (i : Int) : Option α := (ixN xs.length i).bind fun j => xs[j]?
theorem aIc {n : Nat} {i : Int} {j : Nat} (h : ixN n i = some j) : seqIndex? i n = some j /\ j < n /\ -(n : Int) <= i /\ i < n := by
 unfold ixN at h
 by_cases h0 : 0 <= i
 ·rw [if_pos h0] at h
  by_cases h1 : i < n
  ·rw [if_pos h1] at h
   have e : i.toNat = j := Option.some.inj h
   exact ⟨by rw [seqIndex_of h0 h1, e], by omega, by omega, h1⟩
  ·rw [if_neg h1] at h; cases h
 ·rw [if_neg h0] at h
  by_cases h1 : -(n : Int) <= i
  ·rw [if_pos h1] at h
   have e : (i + n).toNat = j := Option.some.inj h
   exact ⟨by rw [seqIndex_neg (by omega) h1, e], by omega, h1, by omega⟩
  ·rw [if_neg h1] at h; cases h
theorem zI {α : Type} {xs : List α} {i : Int} {v : α} (h : atI xs i = some v) : ∃ j, seqIndex? i xs.length = some j /\ xs[j]? = some v /\ j < xs.length /\ -(xs.length : Int) <= i /\ i < xs.length := by
 unfold atI at h
 cases e : ixN xs.length i with
 | none => rw [e] at h; cases h
 | some j =>
  rw [e] at h
  obtain ⟨h1, h2, h3, h4⟩ := aIc e
  exact ⟨j, h1, h, h2, h3, h4⟩
theorem qQ {α : Type} {xs : List α} {j : Nat} {v : α} (h : xs[j]? = some v) : atI xs (j : Int) = some v := by
 have hj : j < xs.length := (List.getElem?_eq_some_iff.mp h).1
 have e : ixN xs.length (j : Int) = some j := by
  unfold ixN
  rw [if_pos (by omega), if_pos (by omega)]; simp
 unfold atI; rw [e]; exact h
theorem aFx {α : Type} (xs : List α) (v : α) : atI (xs ++ [v]) (-1) = some v := by
 have hl : (xs ++ [v]).length = xs.length + 1 := by simp
 have e : ixN (xs ++ [v]).length (-1) = some xs.length := by
  unfold ixN
  rw [hl, if_neg (by decide), if_pos (by omega)]
  congr 1
  omega
 unfold atI
 rw [e]
 show (xs ++ [v])[xs.length]? = some v
 simp
def aB3 (b : Expr) : Prop := ∀ o i, subscripted b false o i = operate [o, i] (getItem o i)
def IxR (X : Cx) (r : R2) : Prop :=
 ∀ (value slice : Expr) (pins : List (Addr × Obj)) (s : Shared) (σ : St) (H : Hp) (x y : V) (v u : Value) (Q : VK), Inv X pins σ H s -> RelV x v -> RelV y u -> r x y H Q ->
  subscripted slice false v u = operate [v, u] (getItem v u) -> wpAny (model X.prog X.w) X.A (subscriptTail value slice v u) (EP X pins σ Q) X.xe s
def MtR (X : Cx) (id : String) (r : V -> List V -> Hp -> VK -> Prop) : Prop :=
 ∀ (pins : List (Addr × Obj)) (s : Shared) (σ : St) (H : Hp) (x : V) (xs : List V) (v : Value) (us : List Value) (Q : VK), Inv X pins σ H s -> RelV x v -> Vals xs us -> r x xs H Q ->
  wpAny (model X.prog X.w) X.A (call (.builtin id) (v :: us)) (EP X pins σ Q) X.xe s
section
variable {X : Cx} {a b : Expr} {ta tb : TE} {pos : Pos}
theorem IxR.or {r r' : R2} (h : IxR X r) (h' : IxR X r') : IxR X (fun x y H Q => r x y H Q \/ r' x y H Q) := by
 intro value slice pins s σ H x y v u Q I rx ry q hs
 rcases q with q | q
 ·exact h value slice pins s σ H x y v u Q I rx ry q hs
 ·exact h' value slice pins s σ H x y v u Q I rx ry q hs
theorem aMs {r : R2} (hr : IxR X r) (ha : PE X a ta) (hb : PE X b tb) (hs : aB3 b) : PE X (.Subscript a b pos) (tOp r ta tb) := by
 intro pins s σ H Q I h
 exact Subscript_ (aO6 ha hb I h fun v u s2 x y H2 I2 rx ry q => hr a b pins s2 σ H2 x y v u Q I2 rx ry q (hs _ _))
def aP5 (K : PySem.W.Frag) : R2 := fun x y H Q => ∃ p xs i v, x = .ref p /\ y = .int i /\ SqL K H p xs /\ atI xs i = some v /\ Q v H
def aP4 (K : PySem.W.Frag) : R2 := fun x y H Q => ∃ p xs i v, x = .ref p /\ y = .int i /\ SqT K H p xs /\ atI xs i = some v /\ Q v H
theorem ix_list : IxR X (aP5 X.K) := by
 intro value slice pins s σ H x y v u Q I rx ry h hs
 obtain ⟨p, xs, i, z, rfl, rfl, hq, he, q⟩ := h
 cases rx
 obtain ⟨t, rfl⟩ := ry
 obtain ⟨its, r, pl, hz⟩ := I.list hq
 obtain ⟨j, h1, h2, h3, h4, h5⟩ := zI he
 obtain ⟨w, ew, rw'⟩ := r.get h2
 have hl := r.length
 have hn := aB2
 have fin : EP X pins σ Q w s := ⟨z, H, I, rw', q⟩
 by_cases h0 : 0 <= i
 ·have hj : i.toNat = j := by
   rw [seqIndex_of h0 h5] at h1
   exact Option.some.inj h1
  exact item_listR pl.isList h0 (by omega) (by rw [hj]; simpa using ew) fin hs
 ·have hj : (i + (its.toArray.size : Int)).toNat = j := by
   rw [seqIndex_neg (by omega) h4] at h1
   rw [List.size_toArray, <- hl]
   exact Option.some.inj h1
  exact subscriptTail_builtinR (x := w) pl.isList.typeIs slot_list_getitem.lookup
   (wpAny_getItem_list_neg (Q := fun r s' => r = w /\ EP X pins σ Q r s') pl.isList (by omega) (by rw [List.size_toArray] <;> omega) (by omega) (by rw [hj]; simpa using ew) ⟨rfl, fin⟩) hs
theorem aMr : IxR X (aP4 X.K) := by
 intro value slice pins s σ H x y v u Q I rx ry h hs
 obtain ⟨p, xs, i, z, rfl, rfl, hq, he, q⟩ := h
 cases rx
 obtain ⟨t, rfl⟩ := ry
 obtain ⟨its, r, pl, hz⟩ := I.tuple hq
 obtain ⟨j, h1, h2, h3, h4, h5⟩ := zI he
 obtain ⟨w, ew, rw'⟩ := r.get h2
 have hl := r.length
 have hn := aB2
 have fin : EP X pins σ Q w s := ⟨z, H, I, rw', q⟩
 exact subscriptTail_builtinR (x := w) pl.typeIs slot_tuple_getitem.lookup
  (getItem_tuple (j := j) (Q := fun r s' => r = w /\ EP X pins σ Q r s') pl (by omega) (by omega) (by rw [List.size_toArray, <- hl]; exact h1) (by simpa using ew) ⟨rfl, fin⟩) hs
theorem sP (lo hi : Option Int) (n : Nat) : (sliceBounds lo hi none n).1 = ((HT.sIx n 0 lo : Nat) : Int) /\ (sliceBounds lo hi none n).2.1 = ((HT.sIx n n hi : Nat) : Int) /\ (sliceBounds lo hi none n).2.2 = 1 := by
 refine ⟨?_, ?_, rfl⟩
 ·cases lo with
  | none => simp [sliceBounds, HT.sIx]
  | some i =>
   simp only [sliceBounds, HT.sIx, Option.getD_none, show (1 : Int) > 0 by decide, if_true]
   by_cases h : i < 0
   ·simp only [h, if_true] <;> omega
   ·simp only [h, if_false] <;> omega
 ·cases hi with
  | none => simp [sliceBounds, HT.sIx]
  | some i =>
   simp only [sliceBounds, HT.sIx, Option.getD_none, show (1 : Int) > 0 by decide, if_true]
   by_cases h : i < 0
   ·simp only [h, if_true] <;> omega
   ·simp only [h, if_false] <;> omega
theorem pX (its : List Value) (lo hi : Option Int) : slicePick its.toArray lo hi none = ((its.drop (HT.sIx its.length 0 lo)).take (HT.sIx its.length its.length hi - HT.sIx its.length 0 lo)).toArray := by
 obtain ⟨h1, h2, h3⟩ := sP lo hi its.toArray.size
 unfold slicePick
 rw [h1, h2, h3]
 simp only [sliceRange_one, pick_run, List.size_toArray] <;> rfl
def aP8 (K : PySem.W.Frag) : V -> Option Int -> Option Int -> Hp -> VK -> Prop := fun x lo hi H Q => ∃ a xs, x = .ref a /\ SqL K H a xs /\ ∀ p, H p = none -> Q (.ref p) (upd H p (.lst (aKt xs lo hi)))
theorem aJk : SlR X (aP8 X.K) := by
 intro pins s σ H x v vl vu lo hi sl Q I rx hs pl pu h
 obtain ⟨a, xs, rfl, hx, q⟩ := h
 cases rx
 obtain ⟨its, r, ht, hz⟩ := I.list hx
 have hlen := r.length
 refine ⟨"list", _, slot_list_getitem.lookup, ht.isList.typeIs, ?_⟩
 refine wpAny_getItem_list_slice ht.isList hs pl pu .none (by simp) ?_ (by rw [List.size_toArray] <;> omega)
 rw [pX, <- hlen]
 refine ⟨.ref s.heap.objs.size, _, I.laid (t' := s.toks) (o := .lst (aKt xs lo hi)) (fun b ob q => Heap.get?_push_of_some _ q) (Nat.le_refl _) ?_, rfl, q _ (I.hok.fresh (Nat.le_refl _))⟩
 exact ⟨Nat.le_trans (uZ xs lo hi) hz, _, 0, (r.drop (HT.sIx xs.length 0 lo)).take (HT.sIx xs.length xs.length hi - HT.sIx xs.length 0 lo), Heap.get?_push_size _ rfl⟩
def nX : V -> Bool
 | .non => true
 | .bl _ => true
 | .int _ => true
 | .str _ => true
 | _ => false
def eqV : V -> V -> Bool
 | .non, .non => true
 | .bl a, .bl b => a == b
 | .bl a, .int b => (if a then 1 else 0) == b
 | .int a, .bl b => a == (if b then 1 else 0)
 | .int a, .int b => a == b
 | .str a, .str b => a == b
 | _, _ => false
theorem aM9 {A : Around} {s : Shared} {y x : V} {u v : Value} (ry : RelV y u) (rx : RelV x v) (fy : nX y = true) (fx : nX x = true) : SeqAt.EqAt A s u v (eqV y x) := by
 cases y with
 | non =>
  cases ry
  cases x with
  | non => cases rx; exact SeqAt.EqAt.same _
  | bl b => cases rx; exact SeqAt.EqAt.none_bool b
  | int b => obtain ⟨t, rfl⟩ := rx; exact SeqAt.EqAt.none_int b t
  | str b => obtain ⟨t, rfl⟩ := rx; exact SeqAt.EqAt.none_str b t
  | _ => exact absurd (show false = true from fx) Bool.false_ne_true
 | bl a =>
  cases ry
  cases x with
  | non => cases rx; exact SeqAt.EqAt.bool_none a
  | bl b => cases rx; exact SeqAt.EqAt.bool_bool a b
  | int b => obtain ⟨t, rfl⟩ := rx; exact SeqAt.EqAt.bool_int a b t
  | str b => obtain ⟨t, rfl⟩ := rx; exact SeqAt.EqAt.bool_str a b t
  | _ => exact absurd (show false = true from fx) Bool.false_ne_true
 | int a =>
  obtain ⟨t', rfl⟩ := ry
  cases x with
  | non => cases rx; exact SeqAt.EqAt.int_none a t'
  | bl b => cases rx; exact SeqAt.EqAt.int_bool a t' b
  | int b => obtain ⟨t, rfl⟩ := rx; exact SeqAt.EqAt.int_int a t' b t
  | str b => obtain ⟨t, rfl⟩ := rx; exact SeqAt.EqAt.int_str a t' b t
  | _ => exact absurd (show false = true from fx) Bool.false_ne_true
 | str a =>
  obtain ⟨t', rfl⟩ := ry
  cases x with
  | non => cases rx; exact SeqAt.EqAt.str_none a t'
  | bl b => cases rx; exact SeqAt.EqAt.str_bool a t' b
  | int b => obtain ⟨t, rfl⟩ := rx; exact SeqAt.EqAt.str_int a t' b t
  | str b => obtain ⟨t, rfl⟩ := rx; exact SeqAt.EqAt.str_str a t' b t
  | _ => exact absurd (show false = true from fx) Bool.false_ne_true
 | _ => exact absurd (show false = true from fy) Bool.false_ne_true
def eqU (x : V) (u : Value) : Bool := match u with
 | .none => eqV .non x
 | .bool b => eqV (.bl b) x
 | .int i _ => eqV (.int i) x
 | .str z _ => eqV (.str z) x
 | _ => false
theorem aHn {x y : V} {u : Value} (r : RelV y u) (f : nX y = true) : eqU x u = eqV y x := by
 cases y with
 | non => cases r; rfl
 | bl b => cases r; rfl
 | int i => obtain ⟨t, rfl⟩ := r; rfl
 | str z => obtain ⟨t, rfl⟩ := r; rfl
 | _ => exact absurd (show false = true from f) Bool.false_ne_true
theorem vC {x : V} : ∀ {xs : List V} {us : List Value}, Vals xs us -> xs.all nX = true -> us.any (eqU x) = xs.any fun y => eqV y x
 | _, _, .nil, _ => rfl
 | y :: xs, u :: us, .cons r t, f => by
  rw [List.all_cons, Bool.and_eq_true] at f
  rw [List.any_cons, List.any_cons, aHn r f.1, vC t f.2]
theorem q9 {A : Around} {s : Shared} {x : V} {v : Value} (rx : RelV x v) (fx : nX x = true) : ∀ {xs : List V} {us : List Value}, Vals xs us -> xs.all nX = true -> ∀ u ∈ us, SeqAt.EqAt A s u v (eqU x u)
 | _, _, .nil, _ => fun u hu => by cases hu
 | y :: xs, u :: us, .cons r t, f => fun u' hu => by
  rw [List.all_cons, Bool.and_eq_true] at f
  rcases List.mem_cons.mp hu with rfl | hu
  ·rw [aHn r f.1]; exact aM9 r rx f.1 fx
  ·exact q9 rx fx t f.2 u' hu
def inV (x : V) (xs : List V) : Bool := xs.any fun y => eqV y x
def rIn (K : PySem.W.Frag) (neg : Bool) : R2 := fun x y H Q => ∃ p xs, y = .ref p /\ (SqL K H p xs \/ SqT K H p xs) /\ nX x = true /\ xs.all nX = true /\ Q (.bl (if neg then !inV x xs else inV x xs)) H
theorem zX : OpR X (compareOp .In) (rIn X.K false) := by
 intro pins s σ H x y v u Q I rx ry h
 obtain ⟨p, xs, rfl, hq, fx, fs, q⟩ := h
 cases ry
 rcases hq with hq | hq
 ·obtain ⟨its, r, pl, hz⟩ := I.list hq
  refine SeqAt.in_listAt (eqU x) pl.isList (fun w hw => q9 rx fx r fs w (by simpa using hw)) ⟨.bl _, H, I, rfl, ?_⟩
  rw [show its.toArray.any (eqU x) = its.any (eqU x) by simp, vC r fs]
  exact q
 ·obtain ⟨its, r, pl, hz⟩ := I.tuple hq
  refine SeqAt.in_tupleAt (eqU x) pl (fun w hw => q9 rx fx r fs w (by simpa using hw)) ⟨.bl _, H, I, rfl, ?_⟩
  rw [show its.toArray.any (eqU x) = its.any (eqU x) by simp, vC r fs]
  exact q
theorem cQ : l5 X (.builtin "len") (fun xs H Q => ∃ p ys, xs = [.ref p] /\ (SqL X.K H p ys \/ SqT X.K H p ys) /\ Q (.int ys.length) H) := by
 intro pins s σ H xs us Q I r h
 obtain ⟨p, ys, rfl, hq, q⟩ := h
 obtain ⟨u, rfl, rx⟩ := vals1 r
 cases rx
 have hn := aB2
 rcases hq with hq | hq
 ·obtain ⟨its, r', pl, hz⟩ := I.list hq
  have hlen := r'.length
  exact Calls.call_len_list pl.isList (by simp only [List.size_toArray] <;> omega) ⟨.int ys.length, H, I.tok _, ⟨s.toks + 1, by rw [List.size_toArray, hlen]⟩, q⟩
 ·obtain ⟨its, r', pl, hz⟩ := I.tuple hq
  have hlen := r'.length
  exact len_tuple pl (by simp only [List.size_toArray] <;> omega) ⟨.int ys.length, H, I.tok _, ⟨s.toks + 1, by rw [List.size_toArray, hlen]⟩, q⟩
theorem sE : l5 X (.type "list") (fun xs H Q => ∃ p ys, xs = [.ref p] /\ (SqL X.K H p ys \/ SqT X.K H p ys) /\ ∀ l, H l = none -> Q (.ref l) (upd H l (.lst ys))) := by
 intro pins s σ H xs us Q I r h
 obtain ⟨p, ys, rfl, hq, q⟩ := h
 obtain ⟨u, rfl, rx⟩ := vals1 r
 cases rx
 have fin : ∀ (its : List Value), Vals ys its -> ys.length <= sizeLine -> ∀ (h' : Heap) (c' : Nat), (∀ b o', s.heap.get? b = some o' -> h'.get? b = some o') ->
   h'.get? s.heap.objs.size = some { cls := .type "list", dict := none, data := .seq its.toArray c', slots := #[] } -> EP X pins σ Q (.ref s.heap.objs.size) { s with heap := h' } := fun its r' hz h' c' kp e =>
  ⟨.ref s.heap.objs.size, _, I.laid (t' := s.toks) kp (Nat.le_refl _) (show ObjOk X.prog X.w _ h' _ (.lst ys) from ⟨hz, its, c', r', e⟩), rfl, q _ (I.hok.fresh (Nat.le_refl _))⟩
 rcases hq with hq | hq
 ·obtain ⟨its, r', pl, hz⟩ := I.list hq
  have hlen := r'.length
  obtain ⟨o, ho, hc, n, hd⟩ := pl.isList
  exact call_list_seq p (.inl rfl) ho hc hd (fun h' c' kp e => fin its r' hz h' c' kp e) (by simp only [List.size_toArray] <;> omega)
 ·obtain ⟨its, r', pl, hz⟩ := I.tuple hq
  have hlen := r'.length
  obtain ⟨o, ho, hc, n, hd⟩ := pl
  exact call_list_seq p (.inr rfl) ho hc hd (fun h' c' kp e => fin its r' hz h' c' kp e) (by simp only [List.size_toArray] <;> omega)
def tyV (K : PySem.W.Frag) (T : String) (x : V) (H : Hp) : Prop := match x with
 | .str _ => T = "str"
 | .int _ => T = "int"
 | .ref p => (T = "list" /\ ∃ xs, SqL K H p xs) \/ (T = "tuple" /\ ∃ o, K.lookup p = some o /\ o.cls = .type "tuple" /\ o.dict = none) \/
   (T = "dict" /\ ((∃ kvs, H p = some (.dK kvs)) \/ ∃ kvs, H p = some (.dT kvs))) \/ (T = "set" /\ ∃ S n, H p = some (.set S n))
 | _ => False
theorem aGz {pins : List (Addr × Obj)} {σ : St} {H : Hp} {s : Shared} {T : String} {x : V} {v : Value} (I : Inv X pins σ H s) (r : RelV x v) (ty : tyV X.K T x H) :
  s.TypeIs v T /\ ∀ a, v = .ref a -> ∃ ob, s.heap.get? a = some ob /\ ob.dict = none := by
 cases x with
 | str z =>
  obtain ⟨t, rfl⟩ := r
  cases (show T = "str" from ty)
  exact ⟨typeIs_str s z t, fun _ e => nomatch e⟩
 | int i =>
  obtain ⟨t, rfl⟩ := r
  cases (show T = "int" from ty)
  exact ⟨typeIs_int s i t, fun _ e => nomatch e⟩
 | ref p =>
  cases r
  rcases ty with ⟨rfl, xs, hq⟩ | ⟨rfl, o, hk, hc, hd⟩ | ⟨rfl, hk⟩ | ⟨rfl, S, n, hk⟩
  ·obtain ⟨its, _, pl, _⟩ := I.list hq
   refine ⟨pl.isList.typeIs, fun a e => ?_⟩
   cases e
   obtain ⟨o, n, e, c, hd, _⟩ := pl
   exact ⟨o, e, hd⟩
  ·refine ⟨⟨o, I.kIn p o hk, hc⟩, fun a e => ?_⟩
   cases e
   exact ⟨o, I.kIn _ o hk, hd⟩
  ·have z : ∃ o, s.heap.get? p = some o /\ o.ExactDict := by
    rcases hk with ⟨kvs, hk⟩ | ⟨kvs, hk⟩
    ·obtain ⟨_, _, _, _, o, _, _, e, ex, _⟩ := I.hok p _ hk
     exact ⟨o, e, ex⟩
    ·obtain ⟨_, _, _, _, o, _, _, e, ex, _⟩ := I.hok p _ hk
     exact ⟨o, e, ex⟩
   obtain ⟨o, e, ex⟩ := z
   refine ⟨⟨o, e, ex.1⟩, fun a e2 => ?_⟩
   cases e2
   exact ⟨o, e, ex.2.1⟩
  ·obtain ⟨o, _, _, _, e, ex, _⟩ := I.hok p _ hk
   refine ⟨⟨o, e, ex.1⟩, fun a e2 => ?_⟩
   cases e2
   exact ⟨o, e, ex.2.1⟩
 | _ => exact False.elim ty
def aN3 (K : PySem.W.Frag) (T : String) (r : V -> List V -> Hp -> VK -> Prop) (to : TE) : TE := fun σ H Q => to σ H fun x H1 => tyV K T x H1 /\ r x [] H1 Q
def tBM (K : PySem.W.Frag) (T : String) (r : V -> List V -> Hp -> VK -> Prop) (to : TE) (t : TA) : TE := fun σ H Q => to σ H fun x H1 => tyV K T x H1 /\ t σ H1 fun xs H2 => r x xs H2 Q
variable {o e : Expr} {es : List Expr} {to : TE} {t : TA} {name : Str} {apos cpos : Pos} {T id : String} {r : V -> List V -> Hp -> VK -> Prop}
theorem aA4 (pa : PlainAttrs T) (slot : Slot T name id) (hty : typeOf (.builtin id) = pure (.type "method_descriptor")) (hm : MtR X id r) (ho : PE X o to)
  (hbase : attributeBase o name X.env (eval o X.env) = eval o X.env := by rfl) (hline : (apos.endLine == cpos.line) = true := by rfl) : PE X (.Call (.Attribute o name apos) [] [] cpos) (aN3 X.K T r to) := by
 intro pins s σ H Q I h
 refine wpAny_Call_method0_late hbase hline (thn (ho pins s σ H _ I h) fun v s1 ⟨x, H1, I1, r1, ty, q1⟩ => ?_)
 obtain ⟨h1, h2⟩ := aGz I1 r1 ty
 exact ⟨T, id, pa, slot, hty, h1, h2, Calls.callWith_builtin rfl (PySem.evalArgs_none (hm pins s1 σ H1 x [] v [] Q I1 r1 .nil q1))⟩
theorem aBv (pa : PlainAttrs T) (slot : Slot T name id) (hty : typeOf (.builtin id) = pure (.type "method_descriptor")) (hm : MtR X id r) (ho : PE X o to) (ha : PA X (e :: es) t)
  (hbase : attributeBase o name X.env (eval o X.env) = eval o X.env := by rfl)
  (hfew : ((backTo cpos (starEach (e :: es) X.env)).all (fun x => !x.1) && (backToKw cpos (keywordEach [] X.env)).all (fun x => x.1.isSome)
   && decide ((e :: es).length + ([] : List Keyword).length + (if ([] : List Keyword).isEmpty then 0 else 1) < 30)) = true := by rfl)
  (hline : (apos.endLine == cpos.line) = true := by rfl) (hs : starEach (e :: es) X.env = (false, eval e X.env) :: starEach es X.env := by rfl) (hplain : (backTo cpos (starEach es X.env)).any (·.1) = false := by rfl) :
  PE X (.Call (.Attribute o name apos) (e :: es) [] cpos) (tBM X.K T r to t) := by
 intro pins s σ H Q I h
 refine wpAny_Call_method_late hbase hfew hline rfl (thn (ho pins s σ H _ I h) fun v s1 ⟨x, H1, I1, r1, ty, q1⟩ => ?_)
 obtain ⟨h1, h2⟩ := aGz I1 r1 ty
 refine ⟨T, id, pa, slot, hty, h1, h2, ?_⟩
 have hA := ha cpos pins s1 σ H1 _ I1 q1
 rw [hs] at hA ⊢
 refine Calls.callWith_builtin (by show (false || (backTo cpos (starEach es X.env)).any (·.1)) = false; rw [hplain] <;> rfl) (Calls.evalArgs_plain ?_)
 exact thn hA fun us s2 ⟨vs, H2, I2, r2, q2⟩ => hm pins s2 σ H2 x vs v us Q I2 r1 r2 q2
end
def MtM (X : Cx) (id : String) (r : V -> List V -> Hp -> VK -> Prop) : Prop :=
 ∀ (pins : List (Addr × Obj)) (s : Shared) (σ : St) (H : Hp) (x : V) (xs : List V) (v : Value) (us : List Value) (Q : VK), Inv X pins σ H s -> RelV x v -> Vals xs us -> r x xs H Q ->
  wpAny (model X.prog X.w) X.A (call (.builtin id) (v :: us)) (EP X pins σ Q) X.xe s
theorem Vals.one : ∀ {x : V} {us : List Value}, Vals [x] us -> ∃ u, us = [u] /\ RelV x u
 | _, _, .cons r .nil => ⟨_, rfl, r⟩
theorem Vals.zero : ∀ {us : List Value}, Vals [] us -> us = []
 | _, .nil => rfl
theorem Vals.dropLast {xs : List V} {us : List Value} (h : Vals xs us) : Vals xs.dropLast us.dropLast := by
 induction h with
 | nil => exact .nil
 | cons r t ih =>
  cases t with
  | nil => exact .nil
  | cons q t' => exact .cons r ih
theorem yO {α : Type} (l : List α) : l.eraseIdx (l.length - 1) = l.dropLast := by
 induction l with
 | nil => rfl
 | cons a r ih =>
  cases r with
  | nil => rfl
  | cons b r =>
   have e : (a :: b :: r).length - 1 = ((b :: r).length - 1) + 1 := by
    have h1 : (a :: b :: r).length = r.length + 2 := rfl
    have h2 : (b :: r).length = r.length + 1 := rfl
    omega
   rw [e, List.eraseIdx_cons_succ, ih]
   all_goals rfl
section
variable {X : Cx} {pins : List (Addr × Obj)} {σ : St} {H : Hp} {s : Shared} {l b : Addr} {xs ys zs : List V}
theorem Inv.lset {its its' : List Value} {n : Nat} {f : Array Value -> Array Value} {t' : Nat} (I : Inv X pins σ H s) (hH : H l = some (.lst xs))
  (e : s.heap.get? l = some { cls := .type "list", data := .seq its.toArray n }) (hf : f its.toArray = its'.toArray) (hv : Vals ys its') (hz : ys.length <= sizeLine) :
  Inv X pins σ (upd H l (.lst ys)) { s with heap := s.heap.update l (Obj.mapSeq f), toks := t' } := by
 have q := PySem.IsL.update e f
 rw [hf] at q
 refine I.write (x := l) (e := l) (by rw [hH]; exact trivial) (.inl rfl) (fun b' u hb hu => (Heap.get?_update_other s.heap (Obj.mapSeq f) (Ne.symm hb)).trans hu) ⟨_, q⟩ ?_
 exact ⟨hz, its', _, hv, q⟩
theorem Inv.lnew {its : List Value} {t' : Nat} (I : Inv X pins σ H s) (hv : Vals ys its) (hz : ys.length <= sizeLine) :
  Inv X pins σ (upd H s.heap.objs.size (.lst ys)) { s with heap := s.heap.push { cls := .type "list", data := .seq its.toArray }, toks := t' } :=
 I.laid (fun _ _ q => Heap.get?_push_of_some _ q) (Nat.le_refl _) ⟨hz, its, 0, hv, Heap.get?_push_size _ rfl⟩
theorem Inv.fresh (I : Inv X pins σ H s) : H s.heap.objs.size = none := I.hok.fresh (Nat.le_refl _)
theorem Inv.lstM (I : Inv X pins σ H s) (hH : H l = some (.lst xs)) : xs.length <= sizeLine /\ ∃ (its : List Value) (n : Nat), Vals xs its /\ xs.length = its.length /\ s.heap.get? l = some { cls := .type "list", data := .seq its.toArray n } := by
 obtain ⟨z, its, n, r, e⟩ := I.hok l _ hH
 exact ⟨z, its, n, r, r.length, e⟩
end
section
variable {X : Cx}
def aCo : V -> List V -> Hp -> VK -> Prop := fun x vs H Q => ∃ l xs y, x = .ref l /\ vs = [y] /\ H l = some (.lst xs) /\ xs.length < sizeLine /\ Q .non (upd H l (.lst (xs ++ [y])))
theorem iQ : MtM X "list.append" aCo := by
 intro pins s σ H x vs v us Q I rx rv h
 obtain ⟨l, xs, y, rfl, rfl, hH, hz, q⟩ := h
 cases rx
 obtain ⟨u, rfl, ru⟩ := rv.one
 obtain ⟨z, its, n, r, hl, e⟩ := I.lstM hH
 refine call_meets F.slot_list_append ⟨_, e, rfl⟩ F.entry_list_append (F.args_list_append_2 _ _) (PySem.list_append l its.toArray n u (by rw [List.size_toArray]; omega)) ⟨e, ?_⟩
 refine ⟨.non, _, I.lset (its' := its ++ [u]) hH e (by simp) (r.append (.cons ru .nil)) ?_, rfl, q⟩
 rw [List.length_append, List.length_singleton]
 omega
def aPw : V -> List V -> Hp -> VK -> Prop := fun x vs H Q => ∃ l xs y, x = .ref l /\ vs = [] /\ H l = some (.lst xs) /\ xs[xs.length - 1]? = some y /\ Q y (upd H l (.lst xs.dropLast))
theorem aHi : MtM X "list.pop" aPw := by
 intro pins s σ H x vs v us Q I rx rv h
 obtain ⟨l, xs, y, rfl, rfl, hH, hy, q⟩ := h
 cases rx
 have hus := rv.zero
 subst hus
 obtain ⟨z, its, n, r, hl, e⟩ := I.lstM hH
 obtain ⟨u, hu, ru⟩ := r.get hy
 have hy' : its.toArray[its.toArray.size - 1]? = some u := by
  show its.toArray[its.length - 1]? = some u
  rw [<- Array.getElem?_toList, <- hl]
  exact hu
 refine call_meets F.slot_list_pop ⟨_, e, rfl⟩ F.entry_list_pop (F.args_list_pop_1 _) (MeetsSeq.list_pop_last l its.toArray n u hy' (by rw [List.size_toArray]; omega)) ⟨e, ?_⟩
 refine ⟨y, _, I.lset (its' := its.dropLast) hH e ?_ r.dropLast ?_, ru, q⟩
 ·show its.toArray.eraseIdxIfInBounds (its.toArray.size - 1) = its.dropLast.toArray
  rw [List.size_toArray, List.eraseIdxIfInBounds_toArray, yO]
 ·rw [List.length_dropLast]
  omega
def aK8 : V -> List V -> Hp -> VK -> Prop := fun x vs H Q => ∃ l xs, x = .ref l /\ vs = [] /\ H l = some (.lst xs) /\ Q .non (upd H l (.lst []))
theorem wC : MtM X "list.clear" aK8 := by
 intro pins s σ H x vs v us Q I rx rv h
 obtain ⟨l, xs, rfl, rfl, hH, q⟩ := h
 cases rx
 have hus := rv.zero
 subst hus
 obtain ⟨z, its, n, r, hl, e⟩ := I.lstM hH
 refine call_meets F.slot_list_clear ⟨_, e, rfl⟩ F.entry_list_clear (F.args_list_clear_1 _) (AutoSeq1.list_clear_list_0 l its.toArray n (by rw [List.size_toArray]; omega)) ⟨e, ?_⟩
 exact ⟨.non, _, I.lset (its' := []) (ys := []) hH e rfl .nil (Nat.zero_le _), rfl, q⟩
end
section
variable {prog : Program} {w : World} {A : Around} {E : Value -> Shared -> Prop} {s : Shared}
set_option maxRecDepth 100000 in
end
section
variable {X : Cx}
end
section
variable {κ : Type} [DecidableEq κ]
def rR (kvs : List (κ × V)) (k : κ) : Option V := (kvs.find? fun kv => decide (kv.1 = k)).map (·.2)
def putK (kvs : List (κ × V)) (k : κ) (v : V) : List (κ × V) :=
 if (kvs.any fun kv => decide (kv.1 = k)) = true then kvs.map (fun kv => if kv.1 = k then (kv.1, v) else kv) else kvs ++ [(k, v)]
theorem kP {p : κ × V} {r : List (κ × V)} {k : κ} (e : p.1 = k) : rR (p :: r) k = some p.2 := by simp [rR, List.find?_cons, e]
theorem kK {p : κ × V} {r : List (κ × V)} {k : κ} (e : ¬ p.1 = k) : rR (p :: r) k = rR r k := by simp [rR, List.find?_cons, e]
theorem mT (k : κ) : ∀ kvs : List (κ × V), (kvs.any fun kv => decide (kv.1 = k)) = (rR kvs k).isSome
 | [] => rfl
 | p :: r => by
  rw [List.any_cons]
  by_cases e : p.1 = k
  ·simp only [kP e, decide_eq_true e, Bool.true_or, Option.isSome_some]
  ·rw [kK e, decide_eq_false e, Bool.false_or]; exact mT k r
theorem oS (kvs : List (κ × V)) (k : κ) (v : V) : (putK kvs k v).length <= kvs.length + 1 := by
 unfold putK
 split
 ·rw [List.length_map]; omega
 ·rw [List.length_append, List.length_cons, List.length_nil]; omega
theorem RelO.isSome_eq {o : Option V} {u : Option Value} (r : RelO o u) : o.isSome = u.isSome := by
 cases o with
 | none => cases u with
  | none => rfl
  | some _ => exact (show False from r).elim
 | some _ => cases u with
  | none => exact (show False from r).elim
  | some _ => rfl
theorem RelO.getD {o : Option V} {u : Option Value} {d : V} {d' : Value} (r : RelO o u) (rd : RelV d d') : RelV (o.getD d) (u.getD d') := by
 cases o with
 | none => cases u with
  | none => exact rd
  | some _ => exact (show False from r).elim
 | some _ => cases u with
  | none => exact (show False from r).elim
  | some _ => exact r
theorem KV.val {kvs : List (κ × V)} {vs : List (κ × Value)} (r : KV kvs vs) (k : κ) : RelO (rR kvs k) (valueAt vs k) := by
 unfold KV at r
 induction r with
 | nil => exact True.intro
 | @cons p q ps qs h t ih =>
  obtain ⟨h1, h2⟩ := h
  by_cases e : p.1 = k
  ·have e' : q.1 = k := h1.symm.trans e
   have b : valueAt (q :: qs) k = some q.2 := by simp [valueAt, List.find?_cons, e']
   rw [kP e, b]; exact h2
  ·have e' : ¬ q.1 = k := fun z => e (h1.trans z)
   have b : valueAt (q :: qs) k = valueAt qs k := by simp [valueAt, List.find?_cons, e']
   rw [kK e, b]; exact ih
theorem KV.any {kvs : List (κ × V)} {vs : List (κ × Value)} (r : KV kvs vs) (k : κ) : (kvs.any fun kv => decide (kv.1 = k)) = vs.any fun kv => decide (kv.1 = k) := by
 unfold KV at r
 induction r with
 | nil => rfl
 | cons h t ih => rw [List.any_cons, List.any_cons, ih, h.1]
theorem KV.repl {kvs : List (κ × V)} {vs : List (κ × Value)} (r : KV kvs vs) (k : κ) {y : V} {u : Value} (ry : RelV y u) :
  KV (kvs.map fun kv => if kv.1 = k then (kv.1, y) else kv) (vs.map fun kv => if kv.1 = k then (kv.1, u) else kv) := by
 unfold KV at r ⊢
 induction r with
 | nil => exact .nil
 | @cons p q ps qs h t ih =>
  rw [List.map_cons, List.map_cons]
  refine .cons ?_ ih
  obtain ⟨h1, h2⟩ := h
  by_cases e : p.1 = k
  ·rw [if_pos e, if_pos (h1.symm.trans e)]; exact ⟨h1, ry⟩
  ·rw [if_neg e, if_neg (fun z => e (h1.trans z))]; exact ⟨h1, h2⟩
theorem KV.put {kvs : List (κ × V)} {vs : List (κ × Value)} (r : KV kvs vs) (k : κ) {y : V} {u : Value} (ry : RelV y u) : KV (putK kvs k y) (stored vs k u) := by
 unfold putK stored
 rw [r.any k]
 by_cases e : (vs.any fun kv => decide (kv.1 = k)) = true
 ·rw [if_pos e, if_pos e]; exact r.repl k ry
 ·rw [if_neg e, if_neg e]; exact Paired.snoc r ⟨rfl, ry⟩
theorem KV.length {kvs : List (κ × V)} {vs : List (κ × Value)} (r : KV kvs vs) : kvs.length = vs.length := Paired.length r
end
theorem zS {P : Program} {w : World} {k : Key} {u : Value} (r : RelV (kV k) u) : (dM P w).is k u = true := by
 cases k with
 | inl i => obtain ⟨t, e⟩ := (show ∃ t, u = Value.int i t from r); subst e; exact uN P w i t
 | inr x => obtain ⟨t, e⟩ := (show ∃ t, u = Value.str x t from r); subst e; exact uS P w x t
theorem tJ {P : Program} {w : World} : ∀ {ks : List Key} {us : List Value}, Vals (ks.map kV) us -> ItemsAre (dM P w) ks us
 | [], _, r => by rw [List.map_nil] at r; cases r; exact .nil
 | k :: ks, _, r => by
  rw [List.map_cons] at r
  cases r with
  | cons h t => exact .cons (zS h) (tJ t)
abbrev KT (H : Hp) : List (List Key × V) -> List (List Key × Addr × Value) -> Prop := Paired fun p q => p.1 = q.1 /\ H q.2.1 = some (.tup (p.1.map kV)) /\ RelV p.2 q.2.2
theorem KT.val {H : Hp} {kvs : List (List Key × V)} {xs : List (List Key × Addr × Value)} (r : KT H kvs xs) (k : List Key) : RelO (rR kvs k) ((atKey xs k).map (·.2)) := by
 induction r with
 | nil => exact True.intro
 | @cons p q ps qs h t ih =>
  obtain ⟨h1, _, h2⟩ := h
  by_cases e : p.1 = k
  ·have e' : q.1 = k := h1.symm.trans e
   have b : atKey (q :: qs) k = some q.2 := by simp [atKey, List.find?_cons, e']
   rw [kP e, b]; exact h2
  ·have e' : ¬ q.1 = k := fun z => e (h1.trans z)
   have b : atKey (q :: qs) k = atKey qs k := by simp [atKey, List.find?_cons, e']
   rw [kK e, b]; exact ih
theorem KT.repl {H : Hp} {kvs : List (List Key × V)} {xs : List (List Key × Addr × Value)} (r : KT H kvs xs) (k : List Key) {y : V} {u : Value} (ry : RelV y u) :
  KT H (kvs.map fun kv => if kv.1 = k then (kv.1, y) else kv) (xs.map (putAt k u)) := by
 induction r with
 | nil => exact .nil
 | @cons p q ps qs h t ih =>
  rw [List.map_cons, List.map_cons]
  refine .cons ?_ ih
  obtain ⟨h1, h2, h3⟩ := h
  unfold putAt
  by_cases e : p.1 = k
  ·rw [if_pos e, if_pos (h1.symm.trans e)]; exact ⟨h1, h2, ry⟩
  ·rw [if_neg e, if_neg (fun z => e (h1.trans z))]; exact ⟨h1, h2, h3⟩
theorem KT.put {H : Hp} {kvs : List (List Key × V)} {xs : List (List Key × Addr × Value)} (r : KT H kvs xs) (k : List Key) {b : Addr} {y : V} {u : Value} (hb : H b = some (.tup (k.map kV))) (ry : RelV y u) :
  KT H (putK kvs k y) (storedH xs k b u) := by
 have e : (kvs.any fun kv => decide (kv.1 = k)) = (atKey xs k).isSome := by
  rw [mT, (r.val k).isSome_eq, Option.isSome_map]
 unfold putK storedH
 rw [e]
 by_cases q : (atKey xs k).isSome = true
 ·rw [if_pos q, if_pos q]; exact r.repl k ry
 ·rw [if_neg q, if_neg q]; exact Paired.snoc r ⟨rfl, hb, ry⟩
theorem KT.keeps {H H' : Hp} {kvs : List (List Key × V)} {xs : List (List Key × Addr × Value)} (r : KT H kvs xs) (ht : ∀ b ys, H b = some (.tup ys) -> H' b = some (.tup ys)) : KT H' kvs xs :=
 Paired.mapP r fun _ _ z => ⟨z.1, ht _ _ z.2.1, z.2.2⟩
section
variable {P : Program} {w : World} {H : Hp} {h : Heap} {a : Addr}
theorem aK7 {u : HO} (ok : HOk P w H h) (e : Rd H a u) : ObjOk P w H h a u := e.ok ok
theorem u0 {kvs : List (Key × V)} (ok : HOk P w H h) (e : Rd H a (.dK kvs)) : kvs.length <= sizeLine /\ (a == sysModules) = false /\ ∃ vs, KV kvs vs /\ h.DictOf (dM P w) a vs :=
 show ObjOk P w H h a (.dK kvs) from aK7 ok e
theorem aO0 {kvs : List (Key × V)} (ok : HOk P w H h) (e : H a = some (.dK kvs)) : kvs.length <= sizeLine /\ (a == sysModules) = false /\ ∃ vs, KV kvs vs /\ h.DictOf (dM P w) a vs := u0 ok (.inl e)
theorem tV {ks : List Key} (ok : HOk P w H h) (e : H a = some (.tup (ks.map kV))) : (tupleKind (dM P w)).is h ks a := by
 obtain ⟨_, its, r, o, h1, h2, n, h3⟩ := (show ObjOk P w H h a (.tup (ks.map kV)) from ok a _ e)
 exact ⟨o, its.toArray, n, h1, h2, h3, by simpa using tJ r⟩
theorem yY {kvs : List (List Key × V)} (ok : HOk P w H h) (e : Rd H a (.dT kvs)) : kvs.length <= sizeLine /\ (a == sysModules) = false /\
  ∃ xs, KT H kvs xs /\ h.DictOfH (tupleKind (dM P w)) a xs := by
 obtain ⟨z, y, xs, r, o, es, ep, h1, h2, h3, h4, h5⟩ := (show ObjOk P w H h a (.dT kvs) from aK7 ok e)
 refine ⟨z, y, xs, r, o, es, ep, h1, h2, h3, h4, fun x hx => ?_, h5⟩
 have all : ∀ {l : List (List Key × V)} {m : List (List Key × Addr × Value)}, KT H l m -> ∀ x ∈ m, (tupleKind (dM P w)).is h x.1 x.2.1 := by
  intro l m q
  induction q with
  | nil => intro x hx; exact nomatch hx
  | @cons p q ps qs hq t ih =>
   intro x hx
   rcases List.mem_cons.mp hx with e | hx
   ·subst e
    exact tV ok (by rw [<- hq.1]; exact hq.2.1)
   ·exact ih x hx
 exact all r x hx
theorem aN9 {kvs : List (List Key × V)} (ok : HOk P w H h) (e : H a = some (.dT kvs)) : kvs.length <= sizeLine /\ (a == sysModules) = false /\
  ∃ xs, KT H kvs xs /\ h.DictOfH (tupleKind (dM P w)) a xs := yY ok (.inl e)
end
def DGet (H : Hp) (a : Addr) (y : V) (r : Option V) : Prop :=
 (∃ kvs k, Rd H a (.dK kvs) /\ y = kV k /\ r = rR kvs k) \/ ∃ kvs k b, Rd H a (.dT kvs) /\ y = .ref b /\ H b = some (.tup (k.map kV)) /\ r = rR kvs k
def DPut (H : Hp) (a : Addr) (y v : V) (H' : Hp) : Prop :=
 (∃ kvs k, H a = some (.dK kvs) /\ y = kV k /\ kvs.length < sizeLine /\ H' = upd H a (.dK (putK kvs k v))) \/
 ∃ kvs k b, H a = some (.dT kvs) /\ y = .ref b /\ H b = some (.tup (k.map kV)) /\ kvs.length < sizeLine /\ H' = upd H a (.dT (putK kvs k v))
theorem DGet.k {H : Hp} {a : Addr} {kvs : List (Key × V)} {k : Key} (e : H a = some (.dK kvs)) : DGet H a (kV k) (rR kvs k) := .inl ⟨kvs, k, .inl e, rfl, rfl⟩
theorem DGet.t {H : Hp} {a b : Addr} {kvs : List (List Key × V)} {k : List Key} (e : H a = some (.dT kvs)) (eb : H b = some (.tup (k.map kV))) : DGet H a (.ref b) (rR kvs k) := .inr ⟨kvs, k, b, .inl e, rfl, eb, rfl⟩
theorem DPut.k {H : Hp} {a : Addr} {kvs : List (Key × V)} {k : Key} {v : V} (e : H a = some (.dK kvs)) (hl : kvs.length < sizeLine) : DPut H a (kV k) v (upd H a (.dK (putK kvs k v))) := .inl ⟨kvs, k, e, rfl, hl, rfl⟩
theorem DPut.t {H : Hp} {a b : Addr} {kvs : List (List Key × V)} {k : List Key} {v : V} (e : H a = some (.dT kvs)) (eb : H b = some (.tup (k.map kV))) (hl : kvs.length < sizeLine) :
  DPut H a (.ref b) v (upd H a (.dT (putK kvs k v))) := .inr ⟨kvs, k, b, e, rfl, eb, hl, rfl⟩
section
variable {X : Cx} {pins : List (Addr × Obj)} {σ : St} {H : Hp} {s : Shared} {a : Addr} {y v : V} {u r : Value} {o : Option V} {A : Around} {E : Value -> Shared -> Prop}
theorem Inv.big (I : Inv X pins σ H s) : sysModules < s.heap.objs.size := by
 have h : mainGlobals < s.heap.objs.size := (I.mod.glob.keeps I.bk).lt
 exact Nat.lt_trans (by decide) h
theorem zM {Q : Value -> Shared -> Prop} (hu : A.units + 1 < cLine) (I : Inv X pins σ H s) (g : DGet H a y (some v)) (ry : RelV y u) (h : ∀ w' s', Inv X pins σ H s' -> RelV v w' -> Q w' s') :
  wpAny (model X.prog X.w) A (getItem (.ref a) u) Q E s := by
 rcases g with ⟨kvs, k, e, ey, l⟩ | ⟨kvs, k, b, e, ey, eb, l⟩
 ·subst ey
  obtain ⟨z, hd, vs, rel, dd⟩ := u0 I.hok e
  obtain ⟨w', hw, rw'⟩ := RelO.some_of (v := v) (o := valueAt vs k) (by rw [l]; exact rel.val k)
  exact wpAny_getItem_of (zS ry) dd.mapOf hw (h w' _ (I.tok _) rw')
 ·subst ey
  cases (show u = Value.ref b from ry)
  obtain ⟨z, hd, xs, rel, dd⟩ := yY I.hok e
  obtain ⟨w', hw, rw'⟩ := RelO.some_of (v := v) (o := (atKey xs k).map (·.2)) (by rw [l]; exact rel.val k)
  obtain ⟨p, hp, hp2⟩ := Option.map_eq_some_iff.mp hw
  refine wpAny_getItem_heap (tupleKind_room_in1 hu) (tV I.hok eb) dd hp ?_
  rw [hp2]
  exact h w' _ (I.tok _) rw'
theorem aHu {Q : Value -> Shared -> Prop} (hu : A.units + 1 < cLine) (I : Inv X pins σ H s) (g : DGet H a y o) (ry : RelV y u) (h : ∀ s', Inv X pins σ H s' -> Q (.bool (!o.isSome)) s') :
  wpAny (model X.prog X.w) A (compareOp .NotIn u (.ref a)) Q E s := by
 rcases g with ⟨kvs, k, e, ey, l⟩ | ⟨kvs, k, b, e, ey, eb, l⟩
 ·subst ey
  obtain ⟨z, hd, vs, rel, dd⟩ := u0 I.hok e
  refine wpAny_notIn_of (zS ry) hd dd.mapOf ?_
  rw [<- (rel.val k).isSome_eq, <- l]
  exact h _ (I.tok _)
 ·subst ey
  cases (show u = Value.ref b from ry)
  obtain ⟨z, hd, xs, rel, dd⟩ := yY I.hok e
  refine wpAny_notIn_heap (tupleKind_room_in1 hu) (tV I.hok eb) hd dd ?_
  have q := (rel.val k).isSome_eq
  rw [Option.isSome_map] at q
  rw [<- q, <- l]
  exact h _ (I.tok _)
theorem zO {h' : Heap} {t' : Nat} {ob : HO} (I : Inv X pins σ H s) (mu : Mut (H a)) (hs : Heap.SameBut a s.heap h') (he : ∃ q, h'.get? a = some q) (new : ObjOk X.prog X.w (upd H a ob) h' a ob) :
  Inv X pins σ (upd H a ob) { s with heap := h', toks := t' } :=
 I.write (x := a) (e := a) mu (.inl rfl) (fun b q hb z => (hs.2 b hb).trans z) he new
theorem aMx {P : Program} {w : World} {H' : Hp} {h' : Heap} {kvs : List (Key × V)} {vs : List (Key × Value)} (z : kvs.length <= sizeLine) (hd : (a == sysModules) = false) (rel : KV kvs vs) (dd : h'.DictOf (dM P w) a vs) :
  ObjOk P w H' h' a (.dK kvs) := ⟨z, hd, vs, rel, dd⟩
theorem zJ {H' : Hp} {Q : Unit -> Shared -> Prop} (hu : A.units + 1 < cLine) (I : Inv X pins σ H s) (g : DPut H a y v H') (ry : RelV y u) (rv : RelV v r) (h : ∀ s', Inv X pins σ H' s' -> Q () s') :
  wpAny (model X.prog X.w) A (setItem (.ref a) u r) Q E s := by
 rcases g with ⟨kvs, k, e, ey, l, eH⟩ | ⟨kvs, k, b, e, ey, eb, l, eH⟩
 ·subst ey eH
  obtain ⟨z, hd, vs, rel, dd⟩ := aO0 I.hok e
  have hz : vs.length <= sizeLine := by rw [<- rel.length]; exact z
  have hl : (putK kvs k v).length <= sizeLine := by have := oS kvs k v; omega
  refine wpAny_setItem_pairs (hsz := hz) (zS ry) dd fun h' dd' hs => h _ ?_
  have he : ∃ q, h'.get? a = some q := let ⟨q, _, _, hq, _⟩ := dd'; ⟨q, hq⟩
  exact zO I (by rw [e]; exact True.intro) hs he (aMx hl hd (rel.put k rv) dd')
 ·subst ey eH
  cases (show u = Value.ref b from ry)
  obtain ⟨z, hd, xs, rel, dd⟩ := aN9 I.hok e
  have hz : xs.length <= sizeLine := by rw [<- Paired.length rel]; exact z
  have hl : (putK kvs k v).length <= sizeLine := by have := oS kvs k v; omega
  refine wpAny_setItem_heap (hsz := hz) (tupleKind_room_in1 hu) (tV I.hok eb) dd fun h' dd' hs => h _ ?_
  obtain ⟨q, es, ep, hq, h2, h3, h4, _, h5⟩ := dd'
  refine zO I (by rw [e]; exact True.intro) hs ⟨q, hq⟩ ⟨hl, hd, _, (rel.put k eb rv).keeps fun c ys ec => ?_, q, es, ep, hq, h2, h3, h4, h5⟩
  rw [aS (aOq ec e (fun z => nomatch z))]
  exact ec
end
section
variable {X : Cx} {pins : List (Addr × Obj)} {σ : St} {H : Hp} {s : Shared} {a : Addr} {kvs : List (Key × V)} {k : Key} {u : Value} {A : Around} {E : Value -> Shared -> Prop}
end
def aOr (i : Expr) : Prop := ∀ ov iv, subscripted i false ov iv = operate [ov, iv] (getItem ov iv)
theorem aIt {prog : Program} {w : World} {A : Around} {E : Value -> Shared -> Prop} {s : Shared} {env : Env} {value slice : Expr} {pos : Pos} {T id : String} {Q : Value -> Shared -> Prop}
  (hl : typeLookup (.type T) "__getitem__" = pure (some (.builtin id))) (hs : aOr slice)
  (h : wpAny (model prog w) A (eval value env) (fun o s₁ => wpAny (model prog w) A (eval slice env) (fun i s₂ => s₂.TypeIs o T /\ wpAny (model prog w) A (getItem o i) Q E s₂) E s₁) E s) :
  wpAny (model prog w) A (eval (.Subscript value slice pos) env) Q E s := by
 refine Subscript_ (wpAny_mono h (fun o s₁ h₁ => wpAny_mono h₁ (fun i s₂ h₂ => ?_) fun _ _ x => x) fun _ _ x => x)
 obtain ⟨hT, h₂⟩ := h₂
 unfold subscriptTail
 refine wpAny_bind ?_
 rw [getitemInPython_of_ne hT.not_modules]
 refine wpAny_bind (wpAny_specialOf hT hl ?_)
 have fin : wpAny (model prog w) A (subscripted slice false o i) (fun r s₃ => wpAny (model prog w) A (letTemporaryGo value o r >>= fun _ => pure r) Q E s₃) E s₂ := by
  rw [hs o i]
  exact wpAny_operating (wpAny_mono h₂ (fun r s₃ h₃ => wpAny_bind (wpAny_letTemporaryGo (wpAny_pure h₃))) fun _ _ x => x)
 first
  | exact wpAny_pure (wpAny_bind fin)
  | exact wpAny_bind (wpAny_pure (wpAny_bind fin))
  | exact wpAny_bind fin
theorem uJ {X : Cx} {pins : List (Addr × Obj)} {σ : St} {H : Hp} {s : Shared} {a : Addr} {y : V} {o : Option V} (I : Inv X pins σ H s) (g : DGet H a y o) : s.TypeIs (.ref a) "dict" := by
 rcases g with ⟨kvs, k, e, _, _⟩ | ⟨kvs, k, b, e, _, _, _⟩
 ·obtain ⟨_, _, vs, _, dd⟩ := u0 I.hok e
  exact dd.typeIs
 ·obtain ⟨_, _, xs, _, dd⟩ := yY I.hok e
  exact dd.typeIs
def aOc (td ty : TE) : TE := fun σ H Q => td σ H fun x H1 => ty σ H1 fun y H2 => ∃ a v, x = .ref a /\ DGet H2 a y (some v) /\ Q v H2
def aA6 (ty td : TE) : TE := fun σ H Q => ty σ H fun y H1 => td σ H1 fun x H2 => ∃ a o, x = .ref a /\ DGet H2 a y o /\ Q (.bl (!o.isSome)) H2
def aO2 (td ty tv : TE) : TS := fun D σ H => tv σ H fun v H1 => td σ H1 fun x H2 => ty σ H2 fun y H3 => ∃ a H4, x = .ref a /\ DPut H3 a y v H4 /\ D.nx σ H4
section
variable {X : Cx} {o i e value : Expr} {pos pos' tpos : Pos} {td ty tv : TE}
theorem aIj (hu : X.A.units + 1 < cLine) (ho : PE X o td) (hi : PE X i ty) (hs : aOr i) : PE X (.Subscript o i pos) (aOc td ty) := by
 intro pins s σ H Q I h
 refine aIt PySem.F.slot_dict_getitem.lookup hs (thn (ho pins s σ H _ I h) fun u s1 ⟨x, H1, I1, rx, q1⟩ => thn (hi pins s1 σ H1 _ I1 q1) fun iv s2 ⟨y, H2, I2, ry, a, v, ex, g, q2⟩ => ?_)
 subst ex
 obtain rfl : u = Value.ref a := rx
 exact ⟨uJ I2 g, zM hu I2 g ry fun w' s3 I3 rw' => ⟨v, H2, I3, rw', q2⟩⟩
theorem aAj (hu : X.A.units + 1 < cLine) (hi : PE X i ty) (ho : PE X o td) : PC X .NotIn i o (aA6 ty td) := by
 intro pins s σ H Q I h
 refine thn (hi pins s σ H _ I h) fun iv s1 ⟨y, H1, I1, ry, q1⟩ => thn (ho pins s1 σ H1 _ I1 q1) fun u s2 ⟨x, H2, I2, rx, a, ov, ex, g, q2⟩ => ?_
 subst ex
 obtain rfl : u = Value.ref a := rx
 exact aHu hu I2 g ry fun s3 I3 => ⟨.bl (!ov.isSome), H2, I3, rfl, q2⟩
theorem aKd (hu : X.A.units + 1 < cLine) (ho : PE X o td) (hi : PE X i ty) (hv : PE X value tv) (hs : swapsWith value (some (.Subscript o i pos')) pos.line X.env = pure false) :
  PS X (.Assign [.Subscript o i pos'] value pos) (aO2 td ty tv) := by
 intro pins s σ H D I h
 refine wpAny_Assign_Subscript (thn (hv pins s σ H _ I h) fun r s1 ⟨v, H1, I1, rv, q1⟩ => thn (ho pins s1 σ H1 _ I1 q1) fun u s2 ⟨x, H2, I2, rx, q2⟩ => thn (hi pins s2 σ H2 _ I2 q2) fun iv s3 ⟨y, H3, I3, ry, a, H4, ex, g, q3⟩ => ?_) hs
 subst ex
 obtain rfl : u = Value.ref a := rx
 exact zJ hu I3 g ry rv fun s4 I4 => ⟨σ, H4, I4, q3⟩
end
theorem aGf {P : Program} {w : World} {H : Hp} (h : Heap) (hb : sysModules < h.objs.size) : ObjOk P w H (h.push { cls := .type "dict", data := .dict #[] }) h.objs.size (.dK []) :=
 ⟨Nat.zero_le _, beq_eq_false_iff_ne.mpr (Ne.symm (Nat.ne_of_lt hb)), [], .nil, Heap.DictOf.new h⟩
theorem aFy {P : Program} {w : World} {H : Hp} (h : Heap) (hb : sysModules < h.objs.size) : ObjOk P w H (h.push { cls := .type "dict", data := .dict #[] }) h.objs.size (.dT []) :=
 ⟨Nat.zero_le _, beq_eq_false_iff_ne.mpr (Ne.symm (Nat.ne_of_lt hb)), [], .nil, _, #[], 0, Heap.get?_push_size _ rfl, ⟨rfl, rfl, rfl⟩, rfl, rfl, List.nodup_nil⟩
def aM6 : TE := fun _ H Q => ∀ p, H p = none -> Q (.ref p) (upd H p (.dK []))
def aLh : TE := fun _ H Q => ∀ p, H p = none -> Q (.ref p) (upd H p (.dT []))
section
variable {X : Cx} {pos : Pos}
theorem aF7 : PE X (.Dict [] [] pos) aM6 := fun pins s σ H Q I h =>
 wpAny_Dict_empty ⟨.ref s.heap.objs.size, _, I.laid (a := s.heap.objs.size) (o := .dK []) (t' := s.toks) (fun _ _ q => Heap.get?_push_of_some _ q) (Nat.le_refl _) (aGf s.heap I.big), rfl, h _ (I.hok.fresh (Nat.le_refl _))⟩
theorem aEx : PE X (.Dict [] [] pos) aLh := fun pins s σ H Q I h =>
 wpAny_Dict_empty ⟨.ref s.heap.objs.size, _, I.laid (a := s.heap.objs.size) (o := .dT []) (t' := s.toks) (fun _ _ q => Heap.get?_push_of_some _ q) (Nat.le_refl _) (aFy s.heap I.big), rfl, h _ (I.hok.fresh (Nat.le_refl _))⟩
end
structure M2 (X : Cx) (o : Expr) (m : Str) (apos : Pos) (e f : Expr) (cpos : Pos) : Prop where
 base : attributeBase o m X.env (eval o X.env) = eval o X.env
 few : ((backTo cpos (starEach [e, f] X.env)).all (fun x => !x.1) && (backToKw cpos (keywordEach [] X.env)).all (fun x => x.1.isSome)
  && decide (([e, f] : List Expr).length + ([] : List Keyword).length + (if ([] : List Keyword).isEmpty then 0 else 1) < 30)) = true
 line : (apos.endLine == cpos.line) = true
 trees : backTo cpos (starEach [e, f] X.env) = [(false, eval e X.env), (false, eval f X.env)]
def IsD (H : Hp) (a : Addr) : Prop := (∃ kvs, Rd H a (.dK kvs)) \/ ∃ kvs, Rd H a (.dT kvs)
theorem aLr {X : Cx} {pins : List (Addr × Obj)} {σ : St} {H : Hp} {s : Shared} {a : Addr} (I : Inv X pins σ H s) (d : IsD H a) :
  s.TypeIs (.ref a) "dict" /\ (∀ b, Value.ref a = .ref b -> ∃ ob, s.heap.get? b = some ob /\ ob.dict = none) /\ (a == sysModules) = false := by
 rcases d with ⟨kvs, e⟩ | ⟨kvs, e⟩
 ·obtain ⟨_, hd, vs, _, dd⟩ := u0 I.hok e
  refine ⟨dd.typeIs, fun b q => ?_, hd⟩
  cases q
  obtain ⟨ob, _, _, h1, h2, _⟩ := dd
  exact ⟨ob, h1, h2.2.1⟩
 ·obtain ⟨_, hd, xs, _, dd⟩ := yY I.hok e
  refine ⟨dd.typeIs, fun b q => ?_, hd⟩
  cases q
  obtain ⟨ob, _, _, h1, h2, _⟩ := dd
  exact ⟨ob, h1, h2.2.1⟩
section
variable {X : Cx} {pins : List (Addr × Obj)} {σ : St} {H : Hp} {s : Shared} {a : Addr} {y d : V} {u r : Value} {o : Option V} {A : Around} {E : Value -> Shared -> Prop}
theorem aMn {Q : Value -> Shared -> Prop} (hu : A.units + 1 < cLine) (I : Inv X pins σ H s) (g : DGet H a y o) (ry : RelV y u) (rd : RelV d r) (h : ∀ w' s', Inv X pins σ H s' -> RelV (o.getD d) w' -> Q w' s') :
  wpAny (model X.prog X.w) A (call (.builtin "dict.get") [.ref a, u, r]) Q E s := by
 rcases g with ⟨kvs, k, e, ey, l⟩ | ⟨kvs, k, b, e, ey, eb, l⟩
 ·subst ey
  obtain ⟨z, hd, vs, rel, dd⟩ := u0 I.hok e
  refine call_meetsIn PySem.F.slot_dict_get dd.typeIs PySem.F.entry_dict_get (PySem.F.args_dict_get_3 _ _ _) (meets_dict_get_default (dM X.prog X.w) a (zS ry) hd r) ⟨_, dd.mapOf, h _ _ (I.tok _) ?_⟩
  rw [l]
  exact (rel.val k).getD rd
 ·subst ey
  cases (show u = Value.ref b from ry)
  obtain ⟨z, hd, xs, rel, dd⟩ := yY I.hok e
  refine call_meetsIn PySem.F.slot_dict_get dd.typeIs PySem.F.entry_dict_get (PySem.F.args_dict_get_3 _ _ _) (meetsH_dict_get_default (tupleKind (dM X.prog X.w)) a b hd r) ⟨tupleKind_room_in1 hu, k, xs, tV I.hok eb, dd, h _ _ (I.tok _) ?_⟩
  rw [l]
  exact (rel.val k).getD rd
end
def aLz (td ty tx : TE) : TE := fun σ H Q => td σ H fun x H1 => ∃ a, x = .ref a /\ IsD H1 a /\ ty σ H1 fun y H2 => tx σ H2 fun z H3 => ∃ o, DGet H3 a y o /\ Q (o.getD z) H3
section
variable {X : Cx} {o e f : Expr} {apos cpos : Pos} {td ty tx : TE}
theorem aE3 (hu : X.A.units + 1 < cLine) (ho : PE X o td) (he : PE X e ty) (hf : PE X f tx) (m : M2 X o "get" apos e f cpos) : PE X (.Call (.Attribute o "get" apos) [e, f] [] cpos) (aLz td ty tx) := by
 intro pins s σ H Q I h
 refine wpAny_Call_method m.base m.few m.line PySem.F.plainAttrs_dict PySem.F.slot_dict_get PySem.F.type_dict_get (thn (ho pins s σ H _ I h) fun u s1 ⟨x, H1, I1, rx, a, ex, d, q1⟩ => ?_)
 subst ex
 obtain rfl : u = Value.ref a := rx
 obtain ⟨t1, t2, _⟩ := aLr I1 d
 refine ⟨t1, t2, ?_⟩
 rw [m.trees]
 refine Calls.callWith_builtin rfl (Calls.evalArgs_plain (Calls.spliced_cons (thn (he pins s1 σ H1 _ I1 q1) fun iv s2 ⟨y, H2, I2, ry, q2⟩ =>
  Calls.spliced_cons (thn (hf pins s2 σ H2 _ I2 q2) fun fv s3 ⟨z, H3, I3, rz, ov, g, q3⟩ => Calls.spliced_nil ?_))))
 exact aMn hu I3 g ry rz fun w' s4 I4 rw' => ⟨_, H3, I4, rw', q3⟩
end
section
variable {X : Cx} {pins : List (Addr × Obj)} {σ : St} {H : Hp} {s : Shared} {a : Addr} {kvs : List (Key × V)} {A : Around} {E : Value -> Shared -> Prop}
end
section
variable {X : Cx} {pins : List (Addr × Obj)} {σ : St} {H : Hp} {s : Shared} {a : Addr} {y : V} {u : Value} {A : Around} {E : Value -> Shared -> Prop}
end
end L2
namespace Att
open PySem PySem.W PySem.Calls PyProof.Rows
theorem oG {P : Params} {h : Heap} : ∀ (ns : List Int) (vs : List Value), WellAll P h vs (ns.map WData.int) -> IntsAre vs ns := by
 intro ns
 induction ns with
 | nil =>
  intro vs w
  rw [List.map_nil] at w
  cases w
  exact .nil
 | cons n ns ih =>
  intro vs w
  rw [List.map_cons] at w
  cases w with
  | cons a b =>
   cases a
   exact .cons _ _ (ih _ b)
theorem aCj {l : OpenLaw} {n : Nat} (hn : l.most = some n) {P : Params} {h : Heap} {args : List WData} {vals : List Value}
  (aKw : l.row.toRowW.claim.pre args = true) (hwl : WellAll P h vals args) :
  ∃ a vs ns, vals = [Value.ref a] /\ args = [WData.list (ns.map WData.int)] /\ h.get? a = some { cls := .type "list", data := .seq vs.toArray } /\ IntsAre vs ns /\ ns.length <= n := by
 have hsh : WShape.hasAll [] args [.list .int] = true := (pre_splitW aKw).1
 have hc : l.pre.holds [] { args := args } = true := (pre_splitW aKw).2
 obtain ⟨d, r, rfl, h1, h2⟩ := hasAllW_cons hsh
 obtain rfl := hasAllW_nil h2
 obtain ⟨xs, rfl, h3⟩ := hasW_list h1
 obtain ⟨ns, rfl⟩ := items_int h3
 have hlen : ns.length <= n := by
  unfold OpenLaw.pre at hc
  have h4 : (WTm.not (.lt (.lit (.int (n : Int))) (.len (.arg 0)))).holds [] { args := [.list (ns.map .int)] } = true := by
   have h4 := (holds_andW hc).1
   rw [hn] at h4
   exact h4
  have h5 := condW_of h4 (w_not (w_lt w_lit (w_len_list (w_arg rfl))))
  rw [List.length_map] at h5
  refine Nat.le_of_not_lt fun q => ?_
  have q' : (n : Int) < ((ns.length : Nat) : Int) := by omega
  first
   | (rw [decide_eq_true q'] at h5; exact absurd h5 (by decide))
   | (simp at h5; omega)
 cases hwl with
 | cons w1 w2 =>
  cases w2
  cases w1 with
  | list ho hall => exact ⟨_, _, ns, rfl, rfl, ho, oG ns _ hall, hlen⟩
theorem aB5 (l : OpenLaw) (args : List WData) : l.row.toRowW.claim.post args (.bool true) args = true :=
 postW_of (r := l.row.toRowW) (X := (true == true))
  (show WShape.has [] (.bool true) .bool = true by first | rfl | decide | simp [WShape.has, WShape.arms, WShape.armsAll])
  (show (WTm.eq .res (.lit (.bool true))).value [] { args := args, res := some (.bool true), after := args } = some (.bool (true == true)) from w_eq_bool (w_res rfl) w_lit) rfl
theorem u3 {l : OpenLaw} {n : Nat} {q : Program} {loose : List Str} {XP : (Str -> Option Value) -> Heap -> Prop} {YP : World -> Heap -> Prop} {d : DefRec}
  (hn : l.most = some n) (hdf : d.params.defaults = [])
  (call : ∀ (w : World) (s₀ s₁ : Shared) (mg mb : Str -> Option Value) (fa : Addr) (o : Obj) (pm cd doc : Value) (a : Addr) (vs : List Value) (ns : List Int),
   Ground q loose [] XP w s₀ mg mb s₁.heap -> YP w s₁.heap ->
   s₁.heap.get? fa = some o -> o.data = .func (docDef d.name d.params d.body d.scope pm cd doc) -> s₁.heap.CodeRec cd d.name -> mg d.name = some (.ref fa) ->
   s₁.heap.get? a = some { cls := .type "list", data := .seq vs.toArray } -> IntsAre vs ns -> ns.length <= n -> s₁.gens = #[] ->
   codeAny (model l.prog w) callerA (.call (.ref fa) ⟨[.ref a], []⟩) (fun r s' => r = .ok (.ret (.bool true)) /\ OldK s₁.heap s'.heap /\ s'.os = s₁.os /\ AllBare s'.gens) s₁) :
  WalkO q loose XP YP l.row.toRowW d [] (fun f vs => PySem.call f vs) := by
 intro w s₀ s₁ mg mb G Y fa o pm cd doc dV kV ho hd hcd hD hmg hg args vals as aKw hlay hrd hwl hlo
 obtain rfl : dV = .none := Dflts.none hD hdf
 obtain rfl : kV = .none := Dflts.noKw hD
 obtain ⟨a, vs, ns, rfl, rfl, hobj, hints, hlen⟩ := aCj hn aKw hwl
 refine enter_call (codeAny_mono (call w s₀ s₁ mg mb fa o pm cd doc a vs ns G Y ho (fd_plain hd) hcd hmg hobj hints hlen hg) fun r s' hq => ?_)
 obtain ⟨rfl, h2, h3, h4⟩ := hq
 exact ⟨.inl ⟨.bool true, .bool true, [], rfl, fun _ => rfl, .bool true, aB5 l _, fun _ => ⟨List.Pairwise.nil, fun _ hm => (nomatch hm)⟩⟩, h2, h3, h4⟩
section
variable {prog : Program} {w : World} {A : Around} {E : Value -> Shared -> Prop} {s : Shared} {K : Frag}
end
end Att
namespace L2
open PySem PySem.Spec PyProof.Rows
theorem uE : ∀ {vs : List Value} {ns : List Int}, IntsAre vs ns -> Vals (ns.map V.int) vs
 | _, _, .nil => .nil
 | _, _, .cons n t h => .cons ⟨t, rfl⟩ (uE h)
def aPf (H : Hp) : Prop := ∀ b, H b = none \/ (∃ o xs, H b = some (.frz o (.lst xs))) \/ ∃ ps, H b = some (.tbl ps)
theorem aFu {P : Program} {w : World} {K : PySem.W.Frag} {mg mb : Str -> Option Value} {CX : CXT} {k : Nat} {fa a : Addr} {fd : FuncData} {x : Str} {sp : Sp} {s₁ : Shared} {vs : List Value} {ns : List Int} {ts : List Addr}
  (hT : aIb K ts = true) (hT2 : ∀ P ∈ ts, s₁.heap.get? P = some (PySem.W.tabObj #[])) (hbm : ∃ bm ob, mg "__builtins__" = some (.ref bm) /\ bm ≠ builtinsNs /\ s₁.heap.get? bm = some ob /\ ob.cls = .type "module" /\ ob.dict = some builtinsNs /\ ob.data = .plain)
  (KX : K.In s₁.heap) (hns : s₁.heap.Ns mainGlobals mg) (hb : s₁.heap.Ns builtinsNs mb) (hbb : ∀ x : Str, x ≠ "__name__" -> mb x = bootBuiltins x) (hlim : s₁.heap.NoLimit) (hg : s₁.gens = #[])
  (ha : s₁.heap.get? a = some { cls := .type "list", data := .seq vs.toArray }) (hi : IntsAre vs ns) (hl : ns.length <= sizeLine) (hr : Room k callerA)
  (F : ∀ base : Heap, K.In base -> base.Ns mainGlobals mg -> FnOk P w K mg base CX k fa fd [x] sp) (hbind : ∀ (s : Shared) (u : Value), BindsTo s fd ⟨[u], []⟩ [(x, u)])
  (hsp : ∀ H : Hp, aPf H -> SqL K H a (ns.map V.int) -> sp [.ref a] H (fun v _ => v = .bl true) fun _ _ _ => False)
  (hCX : ∀ H e s', CX [] H s₁ (fun _ _ _ => False) e s' -> False) :
  codeAny (model P w) callerA (.call (.ref fa) ⟨[.ref a], []⟩) (fun r s' => r = .ok (.ret (.bool true)) /\ OldK s₁.heap s'.heap /\ s'.os = s₁.os /\ AllBare s'.gens) s₁ := by
 have rv := uE hi
 have lenV := hi.length
 have tk : ∀ p ∈ tbs K, PySem.W.CodeHd s₁.heap p.1 p.2.1 /\ K.lookup p.2.1 = none /\ s₁.heap.get? p.2.1 = some (PySem.W.tabObj #[]) /\ ∀ q ∈ tbs K, p.2.1 = q.2.1 -> p.2.2 = q.2.2 := fun p hp => by
  have z := List.all_eq_true.mp hT p hp
  simp only [Bool.and_eq_true] at z
  obtain ⟨⟨⟨z1, z2⟩, z3⟩, z4⟩ := z
  refine ⟨PySem.W.codeHd_of_K KX z1, by simpa using z2, hT2 _ (by simpa using z3), fun q hq e => ?_⟩
  have y := List.all_eq_true.mp z4 q hq
  rw [Bool.or_eq_true] at y
  rcases y with y | y
  ·rw [e] at y; simp at y
  ·exact beq_iff_eq.mp y
 have aP : ∀ p ∈ tbs K, a ≠ p.2.1 := fun p hp z => by
  have e := (tk p hp).2.2.1
  rw [<- z, ha] at e
  cases e
 have core : ∀ H : Hp, aPf H -> SqL K H a (ns.map V.int) -> HOk P w H s₁.heap -> (∀ b, H b ≠ none -> b = a \/ ∃ p ∈ tbs K, b = p.2.1) -> (H a ≠ none -> K.lookup a = none) -> Tbs K H ->
   codeAny (model P w) callerA (.call (.ref fa) ⟨[.ref a], []⟩) (fun r s' => r = .ok (.ret (.bool true)) /\ OldK s₁.heap s'.heap /\ s'.os = s₁.os /\ AllBare s'.gens) s₁ := by
  intro H hO hS hok hA hK hTb
  have base_of : ∀ {b : Addr} {o : Obj}, s₁.heap.get? b = some o -> H b = none -> (aEm s₁.heap H).get? b = some o := fun e n => aFt e n
  have noT : ∀ {b : Addr} {o : Obj}, s₁.heap.get? b = some o -> o ≠ { cls := .type "list", data := .seq vs.toArray } -> o ≠ PySem.W.tabObj #[] -> H b = none := fun {b o} e d1 d2 => by
   cases q : H b with
   | none => rfl
   | some u =>
    rcases hA b (by rw [q]; simp) with e' | ⟨p, hp, e'⟩
    ·subst e'
     rw [ha] at e; cases e
     exact absurd rfl d1
    ·subst e'
     rw [(tk p hp).2.2.1] at e; cases e
     exact absurd rfl d2
  have noA : ∀ {b : Addr} {o : Obj} {es : Array DictEntry} {ep : Nat}, s₁.heap.get? b = some o -> o.data = .dict es ep -> H b = none := fun {b o es ep} e d =>
   noT e (fun z => by subst z; cases d) fun z => by subst z; cases d
  have nsK : ∀ {b : Addr} {m : Str -> Option Value}, s₁.heap.Ns b m -> (aEm s₁.heap H).Ns b m := fun {b m} ⟨o, es, ep, e, d, r⟩ => ⟨o, es, ep, base_of e (noA e d), d, r⟩
  have hKb : K.In (aEm s₁.heap H) := fun b o e => base_of (KX b o e) (by
   cases q : H b with
   | none => rfl
   | some u =>
    rcases hA b (by rw [q]; simp) with e' | ⟨p, hp, e'⟩
    ·subst e'
     rw [hK (by rw [q]; simp)] at e; cases e
    ·subst e'
     rw [(tk p hp).2.1] at e; cases e)
  have hM : Mod K mg (aEm s₁.heap H) := ⟨hKb, nsK hns, ⟨mb, nsK hb, hbb⟩, (let ⟨mc, h1, h2⟩ := hlim; ⟨mc, nsK h1, h2⟩), (let ⟨bm, ob, b1, b2, b3, b4, b5⟩ := hbm; ⟨bm, ob, b1, b2, base_of b3 (noT b3 (fun z => by subst z; simp at b4) fun z => by subst z; simp at b4), b4, b5⟩)⟩
  have e0 : aN0 P w K mg (aEm s₁.heap H) callerA [] s₁ H := ⟨rfl, hM, fun b o e => aJc e, Nat.le_of_eq (aCn _ _), trivial, fun b hb => absurd (show b ∈ ([] : List Addr) from hb) (by simp), hok, .of_eq hg, hTb⟩
  refine codeAny_mono ((F _ hKb (nsK hns)).run callerA [] s₁ H ⟨[.ref a], []⟩ [.ref a] [.ref a] _ _ hr e0 (hbind s₁ (.ref a)) (.cons rfl .nil) (hsp H hO hS)) fun r s' h => ?_
  cases r with
  | error e => exact (hCX H e s' h).elim
  | ok fl =>
   cases fl with
   | next => exact False.elim h
   | brk => exact False.elim h
   | cont => exact False.elim h
   | ret u =>
    obtain ⟨v, H', os, bare, un, hok', r', q⟩ := h
    have q' : v = .bl true := q
    subst q'
    obtain rfl : u = Value.bool true := r'
    have old : ∀ b o, s₁.heap.get? b = some o -> s'.heap.get? b = some o \/ ∃ p ∈ tbs K, ∃ qs, b = p.2.1 /\ o = PySem.W.tabObj #[] /\ s'.heap.get? b = some (PySem.W.tabObj qs) := fun b o e => by
     cases q : H b with
     | none => exact .inl (un.keep b o e q (by intro z; exact absurd (show b ∈ ([] : List Addr) from z) (by simp)) (by simp))
     | some u =>
      rcases hO b with z | ⟨ob, xs, z⟩ | ⟨ps, z⟩
      ·rw [q] at z; cases z
      ·have z2 := un.frzs b ob _ z
       obtain ⟨e1, _⟩ := hok b _ z
       obtain ⟨e2, _⟩ := hok' b _ z2
       rw [e] at e1; cases e1
       exact .inl e2
      ·obtain ⟨more, z2⟩ := un.tbls b ps z
       obtain ⟨qs, e2, _⟩ := hok' b _ z2
       rcases hA b (by rw [z]; simp) with e' | ⟨p, hp, e'⟩
       ·subst e'
        obtain ⟨qs0, e3, _⟩ := hok b _ z
        rw [ha] at e3; cases e3
       ·subst e'
        rw [(tk p hp).2.2.1] at e; cases e
        exact .inr ⟨p, hp, qs, rfl, rfl, e2⟩
    refine ⟨rfl, ⟨fun b o e => ?_, fun b o e => ?_⟩, os, bare⟩
    ·rcases old b o e with z | ⟨p, hp, qs, rfl, rfl, z⟩
     ·exact .inl z
     ·exact .inr (.inl ⟨((tk p hp).1.tab (tk p hp).2.2.1).isCodeTable, rfl, #[], qs, rfl, by rw [z]; simp⟩)
    ·rcases old b o e with z | ⟨p, hp, qs, rfl, rfl, z⟩
     ·exact ⟨_, z⟩
     ·exact ⟨_, z⟩
 have tab : ∀ {b : Addr} {u : HO}, ((tbs K).find? (fun p => p.2.1 == b)).map (fun p => HO.tbl #[.str p.2.2 0]) = some u -> ∃ p ∈ tbs K, b = p.2.1 /\ u = .tbl #[.str p.2.2 0] := fun {b u} e => by
  obtain ⟨p, e1, e2⟩ := Option.map_eq_some_iff.mp e
  have := List.find?_some e1
  exact ⟨p, List.mem_of_find?_eq_some e1, (beq_iff_eq.mp this).symm, e2.symm⟩
 have tabTb : ∀ p ∈ tbs K, ((tbs K).find? (fun q => q.2.1 == p.2.1)).map (fun p => HO.tbl #[.str p.2.2 0]) = some (.tbl (#[.str p.2.2 0] ++ #[])) := fun p hp => by
  cases e : (tbs K).find? (fun q => q.2.1 == p.2.1) with
  | none => exact absurd (List.find?_eq_none.mp e p hp) (by simp)
  | some q =>
   have e1 := List.find?_some e
   have e2 := (tk p hp).2.2.2 q (List.mem_of_find?_eq_some e) (beq_iff_eq.mp e1).symm
   simp [e2]
 have tabOk : ∀ {H : Hp} {p : Addr × Addr × Str}, p ∈ tbs K -> ObjOk P w H s₁.heap p.2.1 (.tbl #[.str p.2.2 0]) := fun hp => ⟨#[], (tk _ hp).2.2.1, trivial, fun n t _ pos cv e => by cases e⟩
 have tabA : ((tbs K).find? (fun p => p.2.1 == a)).map (fun p => HO.tbl #[.str p.2.2 0]) = none := by
  cases e : ((tbs K).find? (fun p => p.2.1 == a)).map (fun p => HO.tbl #[.str p.2.2 0]) with
  | none => rfl
  | some u => obtain ⟨p, hp, z, _⟩ := tab e; exact absurd z (aP p hp)
 cases hk : K.lookup a with
 | some o =>
  have e := KX a o hk
  rw [ha] at e
  cases e
  refine core (fun b => ((tbs K).find? (fun p => p.2.1 == b)).map (fun p => HO.tbl #[.str p.2.2 0])) (fun b => ?_) (.inr ⟨_, vs.toArray, _, hk, rfl, rfl, rfl, by rw [List.size_toArray, lenV]; exact hl, by simpa using rv⟩) (fun b u z => ?_) (fun b z => ?_) (fun z => absurd tabA z) fun p hp => ⟨#[], tabTb p hp⟩
  ·dsimp only
   cases e : ((tbs K).find? (fun p => p.2.1 == b)).map (fun p => HO.tbl #[.str p.2.2 0]) with
   | none => exact .inl rfl
   | some u => obtain ⟨p, _, _, rfl⟩ := tab e; exact .inr (.inr ⟨_, rfl⟩)
  ·obtain ⟨p, hp, rfl, rfl⟩ := tab z
   exact tabOk hp
  ·obtain ⟨u, e⟩ := Option.ne_none_iff_exists'.mp z
   obtain ⟨p, hp, e1, _⟩ := tab e
   exact .inr ⟨p, hp, e1⟩
 | none =>
  refine core (fun b => if b = a then some (.frz { cls := .type "list", data := .seq vs.toArray } (.lst (ns.map V.int))) else ((tbs K).find? (fun p => p.2.1 == b)).map (fun p => HO.tbl #[.str p.2.2 0])) (fun b => ?_) (.inl (.inr ⟨{ cls := .type "list", data := .seq vs.toArray }, if_pos rfl⟩)) (fun b u z => ?_) (fun b z => ?_) (fun _ => hk) fun p hp => ⟨#[], (if_neg (aP p hp).symm).trans (tabTb p hp)⟩
  ·dsimp only
   by_cases hb : b = a
   ·exact .inr (.inl ⟨_, _, if_pos hb⟩)
   ·rw [if_neg hb]
    cases e : ((tbs K).find? (fun p => p.2.1 == b)).map (fun p => HO.tbl #[.str p.2.2 0]) with
    | none => exact .inl rfl
    | some u => obtain ⟨p, _, _, rfl⟩ := tab e; exact .inr (.inr ⟨_, rfl⟩)
  ·by_cases hb : b = a
   ·have z' := (if_pos hb).symm.trans z
    cases z'
    subst hb
    exact ⟨ha, by rw [List.length_map]; exact hl, vs, _, rv, ha⟩
   ·have z' := (if_neg hb).symm.trans z
    obtain ⟨p, hp, rfl, rfl⟩ := tab z'
    exact tabOk hp
  ·by_cases hb : b = a
   ·exact .inl hb
   ·rw [if_neg hb] at z
    obtain ⟨u, e⟩ := Option.ne_none_iff_exists'.mp z
    obtain ⟨p, hp, e1, _⟩ := tab e
    exact .inr ⟨p, hp, e1⟩
theorem aIh {l : PySem.W.OpenLaw} {n k : Nat} {q : Program} {loose : List Str} {XP : (Str -> Option Value) -> Heap -> Prop} {YP : World -> Heap -> Prop} {d : DefRec} {K : Params -> PySem.W.Frag} {CX : World -> CXT} {sp : World -> Sp} {x : Str}
  (hn : l.most = some n) (hn2 : n <= sizeLine) (hdf : d.params.defaults = []) (hr : Room k callerA)
  {ts : List Addr} (hY : ∀ (w : World) (h : Heap), YP w h -> (K w.params).In h /\ ∀ P ∈ ts, h.get? P = some (PySem.W.tabObj #[])) (hK : ∀ w : World, aIb (K w.params) ts = true)
  (F : ∀ (w : World) (mg : Str -> Option Value) (fa : Addr) (h : Heap), (K w.params).In h -> h.Ns mainGlobals mg -> mg d.name = some (.ref fa) ->
   ∃ fd : FuncData, (∀ (s : Shared) (u : Value), BindsTo s fd ⟨[u], []⟩ [(x, u)]) /\
    ∀ base : Heap, (K w.params).In base -> base.Ns mainGlobals mg -> FnOk l.prog w (K w.params) mg base (CX w) k fa fd [x] (sp w))
  (hsp : ∀ (w : World) (H : Hp) (a : Addr) (ns : List Int), ns.length <= n -> aPf H -> SqL (K w.params) H a (ns.map V.int) -> sp w [.ref a] H (fun v _ => v = .bl true) fun _ _ _ => False)
  (hCX : ∀ (w : World) (H : Hp) (s : Shared) (e : Value) (s' : Shared), CX w [] H s (fun _ _ _ => False) e s' -> False) :
  PySem.W.WalkO q loose XP YP l.row.toRowW d [] (fun f vs => PySem.call f vs) := by
 refine Att.u3 hn hdf fun w s₀ s₁ mg mb fa o pm cd doc a vs ns G Y ho hd hcd hmg hobj hints hlen hg => ?_
 obtain ⟨KX, TX⟩ := hY w _ Y
 obtain ⟨fd, hb, hF⟩ := F w mg fa _ KX G.T.g hmg
 exact aFu (hK w) TX G.T.bmain KX G.T.g G.T.b G.T.builtins G.T.nolimit hg hobj hints (Nat.le_trans hlen hn2) hr hF hb (fun H hO hS => hsp w H a ns hlen hO hS) fun H e s' => hCX w H s₁ e s'
def gQ (s : Stmt) : Arguments := match s with
 | .FunctionDef _ a _ _ _ _ _ _ _ _ => a
 | _ => { posonlyargs := [], args := [], vararg := none, kwonlyargs := [], kw_defaults := [], kwarg := none, defaults := [] }
def eJ (s : Stmt) : List Stmt := match s with
 | .FunctionDef _ _ b _ _ _ _ _ _ _ => b
 | _ => []
def aJ (s : Stmt) : Scope := match s with
 | .FunctionDef _ _ _ _ _ _ sc _ _ _ => sc
 | _ => { kind := .function, names := [], isGenerator := false, isCoroutine := false }
abbrev E0 : XK := fun _ _ _ => False
structure Fun (K : PySem.W.Frag) (x qual : Str) (st : Stmt) (f : Addr) (fd : FuncData) : Prop where
 ex : ∃ (oc : Value) (od : Option Addr) (kV doc pm : Value) (an : Option Addr) (cdv ct : Value) (osl : Array (Option Value)),
  fd = PySem.W.fnOf x qual (gQ st) (eJ st) (aJ st) .none kV doc pm an cdv ct /\ K.lookup f = some ⟨oc, od, .func fd, osl⟩ /\ PySem.W.codeIn K cdv qual = true
 kp : PySem.W.keepIn K (.ref f) = true
section
variable {P : Program} {w : World} {K : PySem.W.Frag} {mg : Str -> Option Value} {base : Heap}
theorem Fun.binds {x qual : Str} {st : Stmt} {f : Addr} {fd : FuncData} {ps : List Str} (F : Fun K x qual st f fd)
  (h : ∀ (kV doc pm : Value) (an : Option Addr) (cdv ct : Value) (us : List Value), us.length = ps.length -> bindArgs (PySem.W.fnOf x qual (gQ st) (eJ st) (aJ st) .none kV doc pm an cdv ct) ⟨us, []⟩ = pure (ps.zip us)) : Binds K fd ps [] := by
 obtain ⟨oc, od, kV, doc, pm, an, cdv, ct, osl, rfl, lk, hcd⟩ := F.ex
 exact .all (h kV doc pm an cdv ct)
theorem aGy {x qual : Str} {st : Stmt} {f : Addr} {oc : Value} {od an : Option Addr} {osl : Array (Option Value)} {kV doc pm cdv ct : Value} (l : K.lookup f = some ⟨oc, od, .func (PySem.W.fnOf x qual (gQ st) (eJ st) (aJ st) .none kV doc pm an cdv ct), osl⟩)
  (c : PySem.W.codeIn K cdv qual = true) (k : PySem.W.keepIn K (.ref f) = true) : Fun K x qual st f (PySem.W.fnOf x qual (gQ st) (eJ st) (aJ st) .none kV doc pm an cdv ct) := ⟨⟨oc, od, kV, doc, pm, an, cdv, ct, osl, rfl, l, c⟩, k⟩
end
section
variable {X : Cx}
theorem pv (i : Nat) {x : Str} {pos : Pos} (hN : X.N[i]? = some x := by rfl) (hv : Vis X.env.scope x := by first | exact Or.inl rfl | exact Or.inr (Or.inl rfl) | exact Or.inr (Or.inr rfl)) (hd : (x == ("__debug__" : Str)) = false := by decide)
  (hcd : (x == ("__classdict__" : Str)) = false := by decide) : PE X (.Name x pos) (aJi i) := aGj hN hv hd hcd
end
def Same (H H' : Hp) : Prop := ∀ b o, H b = some o -> H' b = some o
theorem Same.refl (H : Hp) : Same H H := fun _ _ h => h
theorem Same.trans {H H1 H2 : Hp} (a : Same H H1) (b : Same H1 H2) : Same H H2 := fun c o h => b c o (a c o h)
theorem Same.free {H H' : Hp} (e : Same H H') {l : Addr} (h : H' l = Option.none) : H l = Option.none := by
 cases q : H l with
 | none => rfl
 | some o =>
  rw [e l o q] at h
  cases h
theorem Same.seq {K : PySem.W.Frag} {H H' : Hp} {a : Addr} {xs : List V} (e : Same H H') (h : SqL K H a xs) : SqL K H' a xs := by
 rcases h with (h | ⟨o, h⟩) | h
 ·exact .inl (.inl (e _ _ h))
 ·exact .inl (.inr ⟨o, e _ _ h⟩)
 ·exact .inr h
section
variable {X : Cx}
end
section
variable {κ : Type} [DecidableEq κ]
end
end L2
set_option maxHeartbeats 4000000
namespace PySem.W
open PySem PySem.Spec PySem.Calls PyProof.Rows Builtin Builtin.ObjectAttr Builtin.Getset_descriptor
section
variable {prog : Program} {w : World} {A : Around} {E : Value -> Shared -> Prop} {K : Frag} {h : Heap} {g : Array GenState} {d : Drawn} {t : Nat} {os : OsState} {a C : Addr}
structure ExcK (K : Frag) (C : Addr) : Prop where
 ga : findIn K (.ref C) "__getattribute__" = some (some (.builtin "BaseException.__getattribute__"))
 gt : findIn K (.ref C) "__getattr__" = some none
 cl : findIn K (.ref C) "__class__" = some (some (.builtin "object.__class__"))
 mo : mroIn K C (.type "object") = some true
 mb : mroIn K C (.type "BaseException") = some true
 ic : (clsIn K C).isSome = true
def ExcAt (a : Addr) (cls : Value) (h : Heap) : Prop := ∃ o, h.get? a = some o /\ o.cls = cls /\ ∃ vs, o.data = .fields vs
theorem ExcAt.ty {cls : Value} (p : ExcAt a cls h) (M : Model) : Looks M h (typeOf (.ref a)) cls := by
 obtain ⟨o, h1, h2, _⟩ := p
 exact h2 ▸ (Looks.ld h1).andThen .now
theorem aNf {tp : Value} {R : Result -> Shared -> Prop} (X : K.In h) (T : ExcK K C) (p : ExcAt a (.ref C) h) (hq : R (.ok (.ret (.ref C))) ⟨h, g, d, t, os⟩) :
  codeAny (model prog w) A (.call (.builtin "getset_descriptor.__get__") ⟨[.builtin "object.__class__", .ref a, tp], []⟩) R ⟨h, g, d, t, os⟩ := by
 have La := p.ty (model prog w)
 have Lb := looks_mroIn (M := model prog w) X T.mo
 refine codeAny_call_builtin KF.slot_gs.plain KF.entry_gs (KF.slot_gs.check _ _ _ _ _ _ _ _ KF.type_class (KF.args_gs _ _ _) ?_)
 unfold Builtin.«getset_descriptor.__get__» descrGet
 rw [dga_obj]
 refine wpAny_bind (wpAny_pure ?_)
 unfold descrGetter descrCheckInstance descrNameAndClass isInstance
 simp only [KF.owner_class]
 repeat lk
 refine ⟨Code.quiet_builtin _ (by decide +kernel), codeAny_builtin KF.entry_class ?_⟩
 unfold Builtin.«object.__class__» shownTypeOf
 repeat lk
 exact hq
theorem aEs {tk : Tok} {Q : Fin -> Shared -> Prop} (X : K.In h) (T : ExcK K C) (p : ExcAt a (.ref C) h) (hq : Q (.done (.ret (.ref C))) ⟨h, g, d, t, os⟩) :
  wpAny (model prog w) A (Builtin.«object.__getattribute__» ⟨[.ref a, .str "__class__" tk], []⟩) Q E ⟨h, g, d, t, os⟩ := by
 have La := p.ty (model prog w)
 have Lc := looks_findIn (M := model prog w) X T.cl
 have hT5 : (⟨h, g, d, t, os⟩ : Shared).TypeIs (.builtin "object.__class__") "getset_descriptor" := F.typeOf_object_class
 have e5 := F.typeOf_object_class
 have e6 := F.slot_gs_get.lookup
 have e7 := F.slot_gs_set.lookup
 repeat (any_goals (first | assumption | with_reducible refine Looks.at (by assumption) ?_ | wp_step))
 refine aNf X T p ?_
 repeat (any_goals (first | assumption | wp_step))
theorem aD9 {M : Model} {nameV : Value} {Q : Unit -> Shared -> Prop} (X : K.In h) (T : ExcK K C) (p : ExcAt a (.ref C) h) (hq : Q () ⟨h, g, d, t, os⟩) :
  wpAny M A (checkBuiltinCall "BaseException.__getattribute__" ⟨[.ref a, nameV], []⟩) Q E ⟨h, g, d, t, os⟩ := by
 have hk : builtinKind "BaseException.__getattribute__" = some .slot := by decide +kernel
 have hsp : splitId "BaseException.__getattribute__" = some ("BaseException", "__getattribute__") := by decide +kernel
 have La := p.ty M
 have Lb := looks_mroIn (M := M) X T.mb
 have ha := F.args_bexc_ga (.ref a) nameV
 simp only [checkBuiltinCall, hk, hsp]
 refine wpAny_bind ?_
 unfold isInstance
 repeat (any_goals (first | assumption | with_reducible refine Looks.at (by assumption) ?_ | wp_step))
theorem aH6 {tk : Tok} {R : Result -> Shared -> Prop} (X : K.In h) (T : ExcK K C) (p : ExcAt a (.ref C) h) (hq : R (.ok (.ret (.ref C))) ⟨h, g, d, t, os⟩) :
  codeAny (model prog w) A (.call (.builtin "BaseException.__getattribute__") ⟨[.ref a, .str "__class__" tk], []⟩) R ⟨h, g, d, t, os⟩ :=
 codeAny_call_builtin F.attr_ValueError.ga.plain F.entry_bexc_ga (aD9 X T p (aEs X T p hq))
theorem aPa {tk : Tok} {Q : Value -> Shared -> Prop} (X : K.In h) (T : ExcK K C) (p : ExcAt a (.ref C) h) (hq : Q (.ref C) ⟨h, g, d, t, os⟩) : wpAny (model prog w) A (getAttrBy (.ref a) (.str "__class__" tk) false) Q E ⟨h, g, d, t, os⟩ := by
 have La := p.ty (model prog w)
 have Lg := looks_findIn (M := model prog w) X T.ga
 have Lt := looks_findIn (M := model prog w) X T.gt
 have f3 := F.attr_ValueError.ga.bind (.ref a)
 have hx0 : (false && onTheHeap (Value.builtin "BaseException.__getattribute__")) = false := rfl
 have hx2 : (Value.builtin "BaseException.__getattribute__" == Value.builtin "object.__getattribute__") = false := by decide +kernel
 have hx1 : (onTheHeap (Value.ref C) && Value.builtin "BaseException.__getattribute__" == Value.builtin "object.__getattribute__") = false := by rw [hx2]; rfl
 repeat (any_goals (first | assumption | with_reducible refine Looks.at (by assumption) ?_ | wp_step))
 refine aH6 X T p ?_
 repeat (any_goals (first | assumption | wp_step))
theorem aJy {Q : Option Value -> Shared -> Prop} (X : K.In h) (T : ExcK K C) (p : ExcAt a (.ref C) h) (hq : Q (some (.ref C)) ⟨h, g, d, t + 1, os⟩) : wpAny (model prog w) A (getAttr? (.ref a) "__class__") Q E ⟨h, g, d, t, os⟩ := by
 unfold getAttr? getAttrBy?
 repeat (any_goals (first | assumption | with_reducible apply aPa X T p | wp_step))
theorem kitx_exc (T : ExcK K C) : KitX K (.ref a) (.ref C) (ExcAt a (.ref C)) where
 ty := fun M _ _ p => p.ty M
 it := fun _ _ X _ => by
  have hs := T.ic
  unfold clsIn at hs
  split at hs
  ·rename_i ho
   intro A' Q' E' s' k q
   unfold isType loadHead
   exact wpAny_bind (wpAny_loadPart (k _ _ (X _ _ ho)) (wpAny_pure q))
  ·cases hs
 ne := fun h tp dd its n sl X htp => by
  refine Bool.eq_false_iff.mpr fun q => ?_
  have e : C = tp := Value.ref.inj (beq_iff_eq.mp q)
  have hs := T.ic
  unfold clsIn at hs
  split at hs
  ·rename_i ho
   have z := X _ _ ho
   rw [e, htp] at z
   cases z
  ·cases hs
 ca := fun {_ _ _ _ _ s} X p k => by
  obtain ⟨hh, gg, dd, tt, oo⟩ := s
  exact aJy X T p k
end
end PySem.W
namespace L2
open PySem PySem.Spec PyProof.Rows
structure aNi (P : Program) (w : World) (outer : List Env) (H : Hp) (s : Shared) (ea : Addr) (cls : Value) (H' : Hp) (B : Heap) (a0 : Value) (s' : Shared) : Prop where
 os : s'.os = s.os
 bare : AllBare s'.gens
 un : Un (frs outer) [] H H' s.heap s'.heap
 hok : HOk P w H' s'.heap
 fly : Heap.FlyingW B outer ea cls a0 s'.heap
 inB : ∀ b o, s'.heap.get? b = some o -> (H' b ≠ none \/ ((∃ u, s.heap.get? b = some u) /\ b ∉ frs outer)) -> B.get? b = some o
 new : s.heap.get? ea = none
 nt : H' ea = none
def CXr (P : Program) (w : World) : CXT := fun outer H s E e s' =>
 ∃ (ea : Addr) (cls : Value) (H' : Hp) (B : Heap) (a0 : Value), e = .ref ea /\ aNi P w outer H s ea cls H' B a0 s' /\ E cls none H'
theorem rP {P : Program} {w : World} {H : Hp} {h h' : Heap} (ok : HOk P w H h) (k : ∀ b o, H b ≠ none -> h.get? b = some o -> h'.get? b = some o) : HOk P w H h' := fun a o e =>
 (ok a o e).stay (fun b u hb q => k b u (by
  rcases hb with z | z
  ·rw [z, e]; exact fun q => nomatch q
  ·rw [z]; exact fun q => nomatch q) q) (fun _ q => q) fun _ _ q => q
theorem oO {P : Program} {w : World} {H : Hp} {h : Heap} {a : Addr} {o : HO} (x : ObjOk P w H h a o) : ∃ ob, h.get? a = some ob := by
 cases o with
 | lst xs => obtain ⟨_, _, _, _, e⟩ := x; exact ⟨_, e⟩
 | tup xs => obtain ⟨_, _, _, ob, e, _⟩ := x; exact ⟨_, e⟩
 | dK kvs => obtain ⟨_, _, _, _, o, _, _, e, _⟩ := x; exact ⟨_, e⟩
 | dT kvs => obtain ⟨_, _, _, _, o, _, _, e, _⟩ := x; exact ⟨_, e⟩
 | set S n => obtain ⟨o, _, _, _, e, _⟩ := x; exact ⟨_, e⟩
 | ins C dx fs => obtain ⟨_, _, _, e, _⟩ := x; exact ⟨_, e⟩
 | own y => exact x
 | xd fs => obtain ⟨_, ⟨_, _, _, e, _⟩, _⟩ := x; exact ⟨_, e⟩
 | rng lo hi => obtain ⟨_, _, _, e⟩ := x; exact ⟨_, e⟩
 | frz ob u => obtain ⟨e, _⟩ := x; exact ⟨_, e⟩
 | tbl ps => obtain ⟨_, e, _⟩ := x; exact ⟨_, e⟩
 | met f y => exact ⟨_, (show h.get? a = some _ from x)⟩
 | ext φ => obtain ⟨_, e, _⟩ := x; exact e
theorem HOk.there {P : Program} {w : World} {H : Hp} {h : Heap} {a : Addr} (x : HOk P w H h) (n : H a ≠ none) : ∃ ob, h.get? a = some ob := by
 cases q : H a with
 | none => exact absurd q n
 | some u => exact oO (x a u q)
section
variable {P : Program} {w : World} {K : PySem.W.Frag} {mg : Str -> Option Value} {base : Heap} {N : List Str} {qual : Str} {scope : Scope} {f : Addr} {cd : Value} {A : Around} {outer : List Env} {s : Shared} {H : Hp} {E : XK}
theorem qI {env : Env} {l : List Env} {L : Addr} (h : env.frame = some L) : frs (env :: l) = L :: frs l := by
 unfold frs
 rw [List.filterMap_cons, h]
theorem xW {X : Cx} {pins : List (Addr × Obj)} {σ : St} {H1 H' : Hp} {s1 : Shared} {B h'' : Heap} {ea : Addr} {cls a0 : Value} {g' : Array GenState} {d' : Drawn} {t' : Nat} {os' : OsState}
  (I : Inv X pins σ H1 s1) (hx : X.ex = []) (hs : X.env.locals ∉ frs X.outer)
  (ho : os' = X.s₀.os) (hg : AllBare g')
  (fly : Heap.FlyingW B X.outer ea cls a0 h'')
  (kp : ∀ b o, s1.heap.get? b = some o -> H1 b = none -> b ∉ frs X.outer -> b ≠ X.env.locals -> B.get? b = some o)
  (sl : ∀ b o, s1.heap.get? b = some o -> b ∈ frs X.outer -> ∃ sl, h''.get? b = some { o with slots := sl })
  (fr : ∀ b o, s1.heap.get? b = some o -> H1 b = none -> H' b = none)
  (tups : ∀ b xs, H1 b = some (.tup xs) -> H' b = some (.tup xs)) (frzs : ∀ b o u, H1 b = some (.frz o u) -> H' b = some (.frz o u)) (tbls : ∀ b ps, H1 b = some (.tbl ps) -> ∃ more, H' b = some (.tbl (ps ++ more)))
  (hok : HOk X.prog X.w H' h'') (inH : ∀ b o, h''.get? b = some o -> H' b ≠ none -> B.get? b = some o)
  (th : ∀ b o, s1.heap.get? b = some o -> H1 b ≠ none -> ∃ o', h''.get? b = some o')
  (inB : ∀ b o, s1.heap.get? b = some o -> b ∉ frs X.outer -> b ≠ X.env.locals -> ∃ o', B.get? b = some o')
  (new : s1.heap.get? ea = none) (nt : H' ea = none) :
  aNi X.prog X.w X.outer X.H₀ X.s₀ ea cls H' B a0 ⟨h'', g', d', t', os'⟩ := by
 have hxn : ∀ b : Addr, b ∉ X.ex := fun b z => by rw [hx] at z; cases z
 have neL : ∀ b o, X.s₀.heap.get? b = some o -> b ≠ X.env.locals := fun b o e => Nat.ne_of_lt (Nat.lt_of_lt_of_le (Heap.lt_size e) I.ok.above)
 have st := fly.1
 refine ⟨ho, hg, ⟨fun b o e n hb _ => ?_, fun b o e n hb _ => ?_, fun b o e n _ => ?_, fun b o e _ => ?_, fun b xs e => tups b xs (I.base.tups b xs e), fun b o u e => frzs b o u (I.base.frzs b o u e), fun b ps e => ?_⟩, hok, fly, fun b o e hb => ?_, ?_, nt⟩
 ·exact st b o (kp b o (I.base.keep b o e n hb (hxn b)) (I.base.free b o e n (hxn b)) hb (neL b o e))
 ·obtain ⟨l1, e1⟩ := I.base.slot b o e n hb (hxn b)
  obtain ⟨l2, e2⟩ := sl b _ e1 hb
  exact ⟨l2, e2⟩
 ·obtain ⟨o1, e1⟩ := I.base.there b o e (hxn b)
  exact fr b o1 e1 (I.base.free b o e n (hxn b))
 ·obtain ⟨o1, e1⟩ := I.base.there b o e (hxn b)
  by_cases hb : b ∈ frs X.outer
  ·obtain ⟨l2, e2⟩ := sl b o1 e1 hb
   exact ⟨_, e2⟩
  ·obtain ⟨o2, e2⟩ := inB b o1 e1 hb (neL b o e)
   exact ⟨o2, st b o2 e2⟩
 ·obtain ⟨m1, e1⟩ := I.base.tbls b ps e
  obtain ⟨m2, e2⟩ := tbls b _ e1
  exact ⟨m1 ++ m2, by rw [e2, Array.append_assoc]⟩
 ·rcases hb with hb | ⟨⟨u, hu⟩, hb⟩
  ·exact inH b o e hb
  ·obtain ⟨o1, e1⟩ := I.base.there b u hu (hxn b)
   obtain ⟨o2, e2⟩ := inB b o1 e1 hb (neL b u hu)
   have e3 := st b o2 e2
   have e4 : h''.get? b = some o := e
   rw [e3] at e4
   cases e4
   exact e2
 ·cases q : X.s₀.heap.get? ea with
  | none => rfl
  | some o =>
   obtain ⟨o', e'⟩ := I.base.there ea o q (hxn ea)
   rw [new] at e'
   cases e'
theorem aPc : aNx (CXr P w) (pL (CXr P w) P w K mg base N qual scope f cd A outer s H E) E := by
 intro pins σ H1 s1 e s1' I h
 obtain ⟨ea, cls, H', B, a0, rfl, F, want⟩ := h
 have hfr : (pL (CXr P w) P w K mg base N qual scope f cd A outer s H E).A.frames = some (envOfC qual scope s.heap.objs.size f cd :: outer) := I.ok.frames
 have hstk : frs (pL (CXr P w) P w K mg base N qual scope f cd A outer s H E).stack = s.heap.objs.size :: frs outer := qI rfl
 have hLo : s.heap.objs.size ∉ frs outer := fun z => by
  obtain ⟨_, o, ho, _⟩ := I.ok.funs.mem z
  exact absurd (Heap.lt_size ho) (Nat.lt_irrefl _)
 have nst : ∀ {b : Addr}, b ∉ frs outer -> b ≠ s.heap.objs.size -> b ∉ frs (pL (CXr P w) P w K mg base N qual scope f cd A outer s H E).stack := fun h1 h2 z => by
  rw [hstk] at z
  rcases List.mem_cons.mp z with z | z
  ·exact h2 z
  ·exact h1 z
 show wpAny (model P w) _ (leaving _ (.ref ea)) _ _ s1'
 refine wpAny_leaves_onW hfr rfl F.fly fun h'' fl' up => ?_
 have inB' : ∀ b o, s1'.heap.get? b = some o -> H' b ≠ none -> h''.get? b = some o := fun b o e n => fl'.1 b o (F.inB b o e (.inl n))
 refine ⟨ea, cls, H', B, a0, rfl, xW (X := pL (CXr P w) P w K mg base N qual scope f cd A outer s H E) I rfl hLo (F.os.trans I.os) F.bare fl' (fun b o e n hb hL => ?_) (fun b o e hb => ?_) (fun b o e n => F.un.free b o e n (by simp)) F.un.tups F.un.frzs F.un.tbls
  (rP F.hok fun b o n e => inB' b o e n) (fun b o e n => ?_) (fun b o e n => ?_) (fun b o e hb hL => ?_) F.new F.nt, want⟩
 ·exact F.inB b o (F.un.keep b o e n (nst hb hL) (by simp)) (.inr ⟨⟨o, e⟩, nst hb hL⟩)
 ·have hb' : b ∈ frs outer := hb
  have n : H1 b = none := by
   have := I.stkFree b (by rw [hstk]; exact List.mem_cons_of_mem _ hb')
   exact this
  obtain ⟨l1, e1⟩ := F.un.slot b o e n (by rw [hstk]; exact List.mem_cons_of_mem _ hb') (by simp)
  obtain ⟨_, o', ho', hd'⟩ := F.fly.2.2.1.mem (b := b) (by
   have : b ∈ frs (pL (CXr P w) P w K mg base N qual scope f cd A outer s H E).stack := by rw [hstk]; exact List.mem_cons_of_mem _ hb'
   exact this)
  rw [e1] at ho'
  cases ho'
  obtain ⟨l2, e2⟩ := up b _ e1 hd'
  exact ⟨l2, e2⟩
 ·obtain ⟨o1, e1⟩ := F.hok.there n
  have e2 := F.inB b o1 e1 (.inl n)
  have e3 := fl'.1 b o1 e2
  rw [e] at e3
  cases e3
  exact e2
 ·obtain ⟨o1, e1⟩ := F.un.there b o e (by simp)
  by_cases hb : b ∈ frs outer
  ·have hz : H1 b = none := I.stkFree b (by rw [hstk]; exact List.mem_cons_of_mem _ hb)
   exact absurd hz n
  ·by_cases hL : b = s.heap.objs.size
   ·have hz : H1 b = none := I.stkFree b (by rw [hstk, hL]; exact List.mem_cons_self)
    exact absurd hz n
   ·exact ⟨o1, fl'.1 b o1 (F.inB b o1 e1 (.inr ⟨⟨o, e⟩, nst hb hL⟩))⟩
 ·obtain ⟨o1, e1⟩ := F.un.there b o e (by simp)
  exact ⟨o1, F.inB b o1 e1 (.inr ⟨⟨o, e⟩, nst hb hL⟩)⟩
def aBu (X : Cx) (E : XK) : Prop := ∀ (pins : List (Addr × Obj)) (σ : St) (H : Hp) (s : Shared) (C : Addr) (h' : Heap) (e : Addr) (vs : List Value), Inv X pins σ H s -> Heap.MadeExcOf s.heap h' e (.ref C) vs -> E (.ref C) none H -> X.xe (.ref e) { s with heap := h' }
theorem aIg : aBu (pL (CXr P w) P w K mg base N qual scope f cd A outer s H E) E := by
 intro pins σ H1 s1 C h' e vs I hx want
 have hstk : frs (pL (CXr P w) P w K mg base N qual scope f cd A outer s H E).stack = s.heap.objs.size :: frs outer := qI rfl
 have hfr : (pL (CXr P w) P w K mg base N qual scope f cd A outer s H E).A.frames = some (envOfC qual scope s.heap.objs.size f cd :: outer) := I.ok.frames
 have hLo : s.heap.objs.size ∉ frs outer := fun z => by
  obtain ⟨_, o, ho, _⟩ := I.ok.funs.mem z
  exact absurd (Heap.lt_size ho) (Nat.lt_irrefl _)
 have st : s1.heap.FunFrames base (envOfC qual scope s.heap.objs.size f cd :: outer) := I.stack
 have fin : s1.heap.FunFrames (PySem.W.hideAll s1.heap (s.heap.objs.size :: frs outer)) (envOfC qual scope s.heap.objs.size f cd :: outer) :=
  PySem.W.funFrames_hide st fun env he a ha => by
   rw [<- hstk]
   exact List.mem_filterMap.mpr ⟨env, he, ha⟩
 have nfr : ∀ {b : Addr}, H1 b ≠ none -> b ∉ s.heap.objs.size :: frs outer := fun n z => n (I.stkFree _ (by rw [hstk]; exact z))
 have nin : ∀ {b : Addr}, b ∉ frs outer -> b ≠ s.heap.objs.size -> b ∉ s.heap.objs.size :: frs outer := fun h1 h2 z => (List.mem_cons.mp z).elim h2 h1
 show wpAny (model P w) _ (leaving _ (.ref e)) _ _ { s1 with heap := h' }
 refine wpAny_leaves_madeW (base := PySem.W.hideAll s1.heap (s.heap.objs.size :: frs outer)) (h := s1.heap) hfr rfl (fun b o q => PySem.W.of_hideAll _ q) fin hx fun h'' t fl _ _ up => ?_
 refine ⟨e, .ref C, H1, _, .ref t, rfl, xW (X := pL (CXr P w) P w K mg base N qual scope f cd A outer s H E) I rfl hLo I.os I.bare fl (fun b o q n hb hL => PySem.W.hideAll_get _ q (nin hb hL)) (fun b o q hb => ?_) (fun _ _ _ n => n) (fun _ _ q => q) (fun _ _ _ q => q)
  (fun b ps q => ⟨#[], by rw [q]; simp⟩) (rP I.hok fun b o n q => fl.1 b o (PySem.W.hideAll_get _ q (nfr n))) (fun b o q n => ?_) (fun b o q n => ⟨o, fl.1 b o (PySem.W.hideAll_get _ q (nfr n))⟩) (fun b o q hb hL => ⟨o, PySem.W.hideAll_get _ q (nin hb hL)⟩) hx.new ?_, want⟩
 ·obtain ⟨_, o', ho', hd'⟩ := st.mem (b := b) (by
   have : b ∈ frs (envOfC qual scope s.heap.objs.size f cd :: outer) := by
    rw [qI rfl]
    exact List.mem_cons_of_mem _ hb
   exact this)
  rw [q] at ho'
  cases ho'
  exact up b o (hx.keeps b o q) hd'
 ·obtain ⟨o1, e1⟩ := I.hok.there n
  have e2 := PySem.W.hideAll_get _ e1 (nfr n)
  have e3 := fl.1 b o1 e2
  rw [q] at e3
  cases e3
  exact e2
 ·cases q : H1 e with
  | none => rfl
  | some u =>
   obtain ⟨ob, eo⟩ := oO (I.hok e u q)
   rw [hx.new] at eo
   cases eo
end
section
variable {X : Cx} {E : XK}
def aL3 (C : Addr) (E : XK) (t : TA) : TS := fun _ σ H => t σ H fun vs H1 => vs.length <= sizeLine /\ E (.ref C) none H1
theorem aD6 {x : Str} {e₀ : Expr} {rest : List Expr} {t : TA} {C : Addr} {bm : List Value} {B newId initId : String} {np cpos pos : Pos} (hx : aBu X E) (hc : X.calm = true) (hg : Gl X x) (O : OwnCls x C bm newId X.mg X.base)
  (FB : ExcBaseFacts B newId initId bm) (ha : PA X (e₀ :: rest) t) (hdb : (x == ("__debug__" : Str)) = false := by decide)
  (he : starEach (e₀ :: rest) X.env = (false, eval e₀ X.env) :: starEach rest X.env := by rfl) (hpl : (backTo cpos (starEach rest X.env)).any (·.1) = false := by rfl) :
  PS X (.Raise (some (.Call (.Name x np) (e₀ :: rest) [] cpos)) none pos) (aL3 C E t) := by
 intro pins s σ H D I h
 obtain ⟨tl, NN, nm, qn, bs, hdc, sn, sb, ab, cl, dd, z0, z1, z2, z3, z5, mN, hC, hN, hni, T⟩ := O.obj
 have hp : (backTo cpos (starEach (e₀ :: rest) X.env)).any (·.1) = false := by
  rw [he]
  show (false || (backTo cpos (starEach rest X.env)).any (·.1)) = false
  rw [hpl]
  all_goals rfl
 have h2 := ha cpos pins s σ H _ I h
 refine wpAny_Raise_call_subT (bm := tl) (N := NN) (nm := nm) (q := qn) (bs := bs) (hdct := hdc) (sn := sn) (sub := sb) (ab := ab) (col := cl) (dd := dd) (k0 := z0) (k1 := z1) (k2 := z2) (k3 := z3) (k5 := z5) FB (T.hasType FB.hasBase) (I.ok.hd hc) hp hni
  (aBp I hg O.bound ⟨rfl, ?_⟩ hdb)
 rw [he] at h2 ⊢
 refine Calls.evalArgs_plain (thn h2 fun us s2 ⟨vs, H1, I1, r, z, w'⟩ => ?_)
 exact ⟨rfl, by rw [<- r.length]; exact z, I1.bk _ _ hC, hN.keeps I1.bk, T.keeps I1.bk, fun h' e hm => hx pins σ H1 s2 C h' e us I1 hm w'⟩
end
def oK (CX : CXT) (X : Cx) (E : St -> XK) : Prop := ∀ (pins : List (Addr × Obj)) (σ : St) (H : Hp) (s : Shared) (e : Value) (s' : Shared), Inv X pins σ H s -> CX X.stack H s (E σ) e s' -> X.xe e s'
def aLt (sp : Sp) (E : St -> XK) (t : TA) : TE := fun σ H Q => t σ H fun vs H1 => sp vs H1 Q (E σ)
section
variable {X : Cx} {CX : CXT} {k : Nat} {f : Addr} {fd : FuncData} {ps : List Str} {sp : Sp} {E : St -> XK} {x : Str} {p pos : Pos} {e : Expr} {es : List Expr} {t : TA}
theorem aFb (F : FnOk X.prog X.w X.K X.mg X.base CX k f fd ps sp) (hr : Room k X.A) (hg : Gl X x) (hm : X.mg x = some (.ref f)) (hk : PySem.W.keepIn X.K (.ref f) = true) (hb : Binds X.K fd ps []) (hx : oK CX X E)
  (ha : PA X (e :: es) t) (hdb : (x == ("__debug__" : Str)) = false := by decide) (he : starEach (e :: es) X.env = (false, eval e X.env) :: starEach es X.env := by rfl) (hpl : (backTo pos (starEach es X.env)).any (·.1) = false := by rfl) :
  PE X (.Call (.Name x p) (e :: es) [] pos) (aLt sp E t) := by
 intro pins s σ H Q I h
 refine wpAny_Call_Name_kw (aBp I hg hm ?_ hdb)
 refine PySem.W.callWith_K (h₀ := X.base) I.ok.mod.kin hk (thn (ha pos pins s σ H _ I h) fun us s1 ⟨vs, H1, I1, r, q⟩ => ⟨I1.kIn, ?_⟩) he hpl
 have hl : us.length = ps.length := by rw [<- r.length]; exact F.len _ _ _ _ q
 have hb' := hb s1 us I1.kIn (by rw [List.append_nil]; exact hl)
 rw [List.append_nil] at hb'
 refine wpAny_call (codeAny_mono (F.run X.A X.stack s1 H1 ⟨us, []⟩ us vs Q (E σ) hr I1.env0 hb' r q) fun rr s' hq => ?_)
 cases rr with
 | error e' => exact hx pins σ H1 s1 e' s' I1 hq
 | ok fl =>
  cases fl with
  | ret u => exact I1.after hq
  | next => exact False.elim hq
  | brk => exact False.elim hq
  | cont => exact False.elim hq
end
section
variable {X : Cx} {k : Nat} {f : Addr} {fd : FuncData} {ps : List Str} {sp : Sp} {x : Str} {p pos : Pos} {e : Expr} {es : List Expr} {t : TA}
end
def aKs (e : Addr) (cls : Value) : HO := .ext fun h => ∃ o, h.get? e = some o /\ o.cls = cls /\ ∃ vs, o.data = .fields vs
abbrev bT (X : Cx) (scope : Scope) (cl : List (Str × Addr)) (C : Addr) (N : List Str) (s₀ : Shared) (H₀ : Hp) (ex : List Addr) (pn : List (Addr × Obj)) : Cx :=
 { X with env := compEnvC scope cl C X.env, N := N, s₀ := s₀, H₀ := H₀, outer := X.stack, stack := X.stack, ex := ex, fn := fun _ => false, pn := pn, xe := fun _ _ => False }
structure aIe (X : Cx) (scope : Scope) (cl : List (Str × Addr)) : Prop where
 clos : closureFor scope X.env = pure cl
 sub : ∀ y c, cl.lookup y = some c -> X.env.cells.lookup y = some c
 has : ∀ y, (relabel scope X.env).names.lookup y = some .cell \/ (relabel scope X.env).names.lookup y = some .free -> ∃ c, cl.lookup y = some c
def lL (js : List Nat) (σ : St) : St := js.map fun j => (σ[j]?).getD none
structure o7 (X : Cx) (scope : Scope) (cl : List (Str × Addr)) (ys : List Str) (js : List Nat) : Prop where
 len : ys.length = js.length
 at_ : ∀ (i : Nat) (y : Str) (j : Nat), ys[i]? = some y -> js[i]? = some j -> X.N[j]? = some y /\ (X.env.kindOf y = some .cell \/ X.env.kindOf y = some .free) /\ ((relabel scope X.env).names.lookup y = some .cell \/ (relabel scope X.env).names.lookup y = some .free) /\ (X.env.cells.lookup y).isSome = true /\ cl.lookup y = X.env.cells.lookup y
section
variable {X : Cx}
end
def Sz (n : Nat) (x : Int) : Prop := x.natAbs < 2 ^ n
theorem Sz.mono {m n : Nat} {x : Int} (h : Sz m x) (l : m <= n) : Sz n x := Nat.lt_of_lt_of_le h (Nat.pow_le_pow_right (by decide) l)
theorem Sz.mul {m n : Nat} {x y : Int} (hx : Sz m x) (hy : Sz n y) : Sz (m + n) (x * y) := by
 unfold Sz at *
 rw [Int.natAbs_mul, Nat.pow_add]
 exact Nat.mul_lt_mul'' hx hy
theorem Sz.add {n : Nat} {x y : Int} (hx : Sz n x) (hy : Sz n y) : Sz (n + 1) (x + y) := by
 unfold Sz at *
 have := Int.natAbs_add_le x y
 rw [Nat.pow_succ]
 omega
theorem Sz.neg {n : Nat} {x : Int} (hx : Sz n x) : Sz n (-x) := by
 unfold Sz at *
 rw [Int.natAbs_neg]
 exact hx
theorem Sz.sub {n : Nat} {x y : Int} (hx : Sz n x) (hy : Sz n y) : Sz (n + 1) (x - y) := by
 have := Sz.add hx hy.neg
 rwa [Int.sub_eq_add_neg]
theorem Sz.le {n : Nat} {x y : Int} (hy : Sz n y) (h : x.natAbs <= y.natAbs) : Sz n x := Nat.lt_of_le_of_lt h hy
def CMulW (i j : Int) : Prop := Sz 60000 i /\ Sz 60000 j
theorem CMulW.ok {i j : Int} (h : CMulW i j) : IntMulOk i j := .of_le (intBits_le_iff.mpr h.1) (intBits_le_iff.mpr h.2) (by decide)
def mE (i j : Int) : Prop := j ≠ 0 /\ Sz 8000 j
section
variable {X : Cx}
theorem bS : OpR X (binaryOp .Mult) (rI CMulW fun i j => .int (i * j)) := opI fun _ _ _ _ _ _ _ hc q => mul_int q hc.ok
theorem log2_small {n : Nat} (h : n < 2 ^ 8000) : n.log2 < 9000 := by
 by_cases z : n = 0
 ·rw [z]; decide
 ·have : n.log2 < 8000 := (Nat.log2_lt z).mpr h
  omega
theorem jK : OpR X (binaryOp .FloorDiv) (rI mE fun i j => .int (i.fdiv j)) := opI fun _ _ _ _ _ _ _ hc q => floordiv_int hc.1 q (.inl (PyProof.noPylong_of_log2 (log2_small hc.2)))
inductive TyX (K : PySem.W.Frag) (H : Hp) : V -> Value -> Prop where
 | plain {x : V} {t : Value} (h : xV K H x t) : TyX K H x t
 | exc {a C : Addr} (e : H a = some (aKs a (.ref C))) (T : PySem.W.ExcK K C) : TyX K H (.ref a) (.ref C)
theorem RelV.tyOrRef {y : V} {c u : Value} (h : (∃ n, y = .ty n) \/ ∃ a, y = .ref a) (r : RelV y c) (r' : RelV y u) : u = c := by
 rcases h with ⟨n, rfl⟩ | ⟨n, rfl⟩
 ·cases r; cases r'; rfl
 ·cases r; cases r'; rfl
def aNa (K : PySem.W.Frag) : List V -> Hp -> VK -> Prop := fun xs H Q => ∃ x y t c b, xs = [x, y] /\ ((∃ n, y = .ty n) \/ ∃ a, y = .ref a) /\ TyX K H x t /\ RelV y c /\ PySem.W.kitOne K t c = some b /\ Q (.bl b) H
theorem aE9 : l5 X (.builtin "isinstance") (aNa X.K) := by
 intro pins s σ H xs us Q I r h
 obtain ⟨x, y, t, c, b, rfl, hy, ty, rc, e, q⟩ := h
 obtain ⟨u, w', rfl, r1, r2⟩ := vals2 r
 have ec := RelV.tyOrRef hy rc r2
 subst ec
 cases ty with
 | plain ty => exact zK I r1 ty e fun tk => ⟨.bl b, H, I.tok _, rfl, q⟩
 | @exc a C ea T =>
  cases (show u = Value.ref a from r1)
  obtain ⟨p, _, _⟩ := (show ObjOk X.prog X.w H s.heap a (aKs a (.ref C)) from I.hok a _ ea)
  exact PySem.W.kia_one (PySem.W.kitx_exc T) I.kIn p e (fun z => nomatch z) fun tk => ⟨.bl b, H, I.tok _, rfl, q⟩
end
def aQp (K : PySem.W.Frag) (te : TE) (v : V) : TE := fun σ H Q => te σ H fun x H1 => aNa K [x, v] H1 Q
theorem aMw {X : Cx} {e c : Expr} {te : TE} {v : V} {p pos : Pos} (hg : Gl X "isinstance") (hm : X.mg "isinstance" = none) (he : PE X e te) (hc : PE X c (tC v)) (h1 : starEach [e, c] X.env = (false, eval e X.env) :: starEach [c] X.env := by rfl)
  (h2 : (backTo pos (starEach [c] X.env)).any (·.1) = false := by rfl) (h3 : starEach [c] X.env = (false, eval c X.env) :: starEach [] X.env := by rfl) : PE X (.Call (.Name "isinstance" p) [e, c] [] pos) (aQp X.K te v) := fun pins s σ H Q I h =>
 w5 aE9 hg hm (by decide +kernel) (iB he (iB hc lO h3) h1) (by decide) (by decide) h1 h2 pins s σ H Q I h
theorem Fun.okX {P : Program} {w : World} {K : PySem.W.Frag} {mg : Str -> Option Value} {base : Heap} {x qual : Str} {st : Stmt} {f : Addr} {fd : FuncData} {N ps : List Str} {k : Nat} {sp : Sp} (F : Fun K x qual st f fd) (S : aY N ps (aJ st)) (len : ∀ vs H Q E, sp vs H Q E -> vs.length = ps.length)
  (hbody : ∀ (cdv : Value) (A : Around) (outer : List Env) (s : Shared) (H : Hp) (vs : List V) (Q : VK) (E : XK), Room k (A.deeper (envOfC qual (aJ st) s.heap.objs.size f cdv)) -> sp vs H Q E ->
   ∃ t, PSs (pL (CXr P w) P w K mg base N qual (aJ st) f cdv A outer s H E) (eJ st) t /\ t { nx := fun _ H' => Q .non H', rt := Q } (start N vs) H) : FnOk P w K mg base (CXr P w) (k + 1) f fd ps sp := by
 obtain ⟨oc, od, kV, doc, pm, an, cdv, ct, osl, rfl, lk, hcd⟩ := F.ex
 exact aNd lk hcd S len fun A outer s H vs Q E hr hsp => hbody cdv A outer s H vs Q E hr hsp
theorem Same.upd {H H' : Hp} {p : Addr} (h : Same H H') (hp : H' p = none) (o : HO) : Same H (upd H' p o) := fun b u q => by
 have := h b u q
 rw [aS (bE this hp)]
 exact this
end L2
namespace FR
theorem aF5 {a b : Int} (ha : 0 <= a) (hb : 0 <= b) : Int.gcd b (a % b) = Int.gcd a b := by
 obtain ⟨m, rfl⟩ := Int.eq_ofNat_of_zero_le ha
 obtain ⟨n, rfl⟩ := Int.eq_ofNat_of_zero_le hb
 rw [<- Int.natCast_emod, Int.gcd_natCast_natCast, Int.gcd_natCast_natCast, Nat.gcd_comm n, <- Nat.gcd_rec, Nat.gcd_comm]
theorem aBh (a b : Int) : Int.gcd (if a < 0 then -a else a) (if b < 0 then -b else b) = Int.gcd a b := by
 split <;> split <;> simp [Int.gcd_neg, Int.neg_gcd]
theorem aKo {a : Int} (ha : 0 <= a) : ((Int.gcd a 0 : Nat) : Int) = a := by
 rw [Int.gcd_zero_right]
 omega
def sgn (b : Int) (g : Int) : Int := if b < 0 then -g else g
def mk (t b : Int) : Int × Int := (t.fdiv (sgn b (Int.gcd t b)), b.fdiv (sgn b (Int.gcd t b)))
theorem uT {t b : Int} (hb : b ≠ 0) : 0 < Int.gcd t b := Int.gcd_pos_of_ne_zero_right t hb
theorem parts (t b : Int) (hb : b ≠ 0) : ∃ t' b' : Int, t = (Int.gcd t b : Int) * t' /\ b = (Int.gcd t b : Int) * b' /\ Int.gcd t' b' = 1 := by
 obtain ⟨t', ht⟩ := Int.gcd_dvd_left t b
 obtain ⟨b', hb'⟩ := Int.gcd_dvd_right t b
 refine ⟨t', b', ht, hb', ?_⟩
 have g0 := uT (t := t) hb
 have e : Int.gcd t b = Int.gcd t b * Int.gcd t' b' := by
  have h : Int.gcd ((Int.gcd t b : Int) * t') ((Int.gcd t b : Int) * b') = (Int.gcd t b : Int).natAbs * Int.gcd t' b' := Int.gcd_mul_left ..
  rw [<- ht, <- hb'] at h
  simpa using h
 have e2 : Int.gcd t b * 1 = Int.gcd t b * Int.gcd t' b' := by omega
 exact (Nat.eq_of_mul_eq_mul_left g0 e2).symm
theorem aDn {t b g t' b' : Int} (g0 : 0 < g) (ht : t = g * t') (hb : b = g * b') : (t.fdiv (sgn b g) = (if b < 0 then -t' else t')) /\ (b.fdiv (sgn b g) = if b < 0 then -b' else b') := by
 unfold sgn
 by_cases h : b < 0
 ·rw [if_pos h, if_pos h, if_pos h]
  have e1 : t = (-g) * (-t') := by rw [ht, Int.neg_mul_neg]
  have e2 : b = (-g) * (-b') := by rw [hb, Int.neg_mul_neg]
  constructor
  ·conv => lhs; rw [e1]
   exact Int.mul_fdiv_cancel_left _ (by omega)
  ·conv => lhs; rw [e2]
   exact Int.mul_fdiv_cancel_left _ (by omega)
 ·rw [if_neg h, if_neg h, if_neg h]
  constructor
  ·conv => lhs; rw [ht]
   exact Int.mul_fdiv_cancel_left _ (by omega)
  ·conv => lhs; rw [hb]
   exact Int.mul_fdiv_cancel_left _ (by omega)
structure Fr (f : Int × Int) : Prop where
 pos : 1 <= f.2
 low : Int.gcd f.1 f.2 = 1
theorem aC5 {t b : Int} (hb : b ≠ 0) : Fr (mk t b) /\ (mk t b).1 * b = t * (mk t b).2 := by
 obtain ⟨t', b', e1, e2, e3⟩ := parts t b hb
 have g0 : (0 : Int) < (Int.gcd t b : Int) := by have := uT (t := t) hb; omega
 obtain ⟨p1, p2⟩ := aDn g0 e1 e2
 have q1 : (mk t b).1 = if b < 0 then -t' else t' := p1
 have q2 : (mk t b).2 = if b < 0 then -b' else b' := p2
 have hs : b < 0 ↔ b' < 0 := by
  constructor
  ·intro h
   rcases Int.lt_or_le b' 0 with z | z
   ·exact z
   ·have := Int.mul_nonneg (Int.le_of_lt g0) z
    omega
  ·intro h
   have := Int.mul_neg_of_pos_of_neg g0 h
   omega
 have hb' : b' ≠ 0 := by
  rintro rfl
  rw [Int.mul_zero] at e2
  exact hb e2
 refine ⟨⟨?_, ?_⟩, ?_⟩
 ·rw [q2]
  split
  ·rename_i h
   have := hs.mp h
   omega
  ·rename_i h
   have : ¬ b' < 0 := fun z => h (hs.mpr z)
   omega
 ·rw [q1, q2]
  split
  ·rw [Int.gcd_neg, Int.neg_gcd, e3]
  ·exact e3
 ·rw [q1, q2]
  generalize hg : (Int.gcd t b : Int) = g at *
  rw [e1, e2]
  split
  ·rw [Int.neg_mul, Int.mul_neg, Int.mul_left_comm, Int.mul_assoc]
  ·rw [Int.mul_left_comm, Int.mul_assoc]
end FR
namespace L2
open PySem PySem.Spec PyProof.Rows
section
variable {X : Cx}
end
open PySem.W (Dat kqdP kqdPs kqdOk kqd_lay kqd_eqv)
mutual
inductive HasD (H : Hp) : V -> Dat -> Prop
 | int (i : Int) : HasD H (.int i) (.int i)
 | tup {a : Addr} {xs : List V} {ds : List Dat} : H a = some (.tup xs) -> HasDs H xs ds -> HasD H (.ref a) (.tuple ds)
 | lst {a : Addr} {xs : List V} {ds : List Dat} : H a = some (.lst xs) -> HasDs H xs ds -> HasD H (.ref a) (.list ds)
inductive HasDs (H : Hp) : List V -> List Dat -> Prop
 | nil : HasDs H [] []
 | cons {x : V} {xs : List V} {d : Dat} {ds : List Dat} : HasD H x d -> HasDs H xs ds -> HasDs H (x :: xs) (d :: ds)
end
mutual
theorem HasD.keep {H H' : Hp} (k : ∀ a o, H a = some o -> H' a = some o) : ∀ {v : V} {d : Dat}, HasD H v d -> HasD H' v d
 | _, _, .int i => .int i
 | _, _, .tup h r => .tup (k _ _ h) (HasDs.keep k r)
 | _, _, .lst h r => .lst (k _ _ h) (HasDs.keep k r)
theorem HasDs.keep {H H' : Hp} (k : ∀ a o, H a = some o -> H' a = some o) : ∀ {v : List V} {d : List Dat}, HasDs H v d -> HasDs H' v d
 | _, _, .nil => .nil
 | _, _, .cons h r => .cons (HasD.keep k h) (HasDs.keep k r)
end
mutual
theorem HasD.reads {P : Program} {w : World} {H : Hp} {h : Heap} (ok : HOk P w H h) : ∀ {v : V} {d : Dat}, HasD H v d -> ∀ {u : Value}, RelV v u -> ∃ as, Reads h u (kqdP d) as
 | _, _, .int i, _, ⟨t, e⟩ => by subst e; exact ⟨_, Reads.int i t⟩
 | _, _, .tup hh r, _, e => by
  have e : _ = Value.ref _ := e
  subst e
  obtain ⟨_, its, rv, o, ho, hc, n, hd⟩ := (show ObjOk P w H h _ _ from ok _ _ hh)
  obtain ⟨as, q⟩ := HasDs.reads ok r rv
  rw [kqdP]
  exact ⟨as, reads_tuple_at ho hc hd (by simpa using q)⟩
 | _, _, .lst hh r, _, e => by
  have e : _ = Value.ref _ := e
  subst e
  obtain ⟨_, its, n, rv, ho⟩ := (show ObjOk P w H h _ _ from ok _ _ hh)
  obtain ⟨as, q⟩ := HasDs.reads ok r rv
  rw [kqdP]
  exact ⟨_, reads_list_at ho rfl rfl (by simpa using q)⟩
theorem HasDs.reads {P : Program} {w : World} {H : Hp} {h : Heap} (ok : HOk P w H h) : ∀ {vs : List V} {ds : List Dat}, HasDs H vs ds -> ∀ {us : List Value}, Vals vs us -> ∃ as, ReadsAll h us (kqdPs ds) as
 | _, _, .nil, _, .nil => ⟨_, ReadsAll.nil⟩
 | _, _, .cons hd r, _, .cons rv rt => by
  obtain ⟨as, q⟩ := HasD.reads ok hd rv
  obtain ⟨bs, p⟩ := HasDs.reads ok r rt
  rw [kqdPs]
  exact ⟨_, ReadsAll.cons q p⟩
end
section
variable {X : Cx}
end
def RawD (h : Heap) (d : Addr) (es : Array DictEntry) (ep : Nat) : Prop := ∃ o, h.get? d = some o /\ o.ExactDict /\ o.data = .dict es ep
theorem RawD.at {h h' : Heap} {d : Addr} {es : Array DictEntry} {ep : Nat} (x : RawD h d es ep) (k : ∀ o, h.get? d = some o -> h'.get? d = some o) : RawD h' d es ep := let ⟨o, ho, r⟩ := x; ⟨o, k o ho, r⟩
theorem RawD.lt {h : Heap} {d : Addr} {es : Array DictEntry} {ep : Nat} (x : RawD h d es ep) : d < h.objs.size := let ⟨_, ho, _⟩ := x; Heap.lt_size ho
theorem RawD.ty {s : Shared} {d : Addr} {es : Array DictEntry} {ep : Nat} (x : RawD s.heap d es ep) : s.TypeIs (.ref d) "dict" := let ⟨o, ho, hc, _⟩ := x; ⟨o, ho, hc.1⟩
section
variable {prog : Program} {w : World} {A : Around} {E : Value -> Shared -> Prop} {s : Shared} {d it : Addr} {es : Array DictEntry} {ep i : Nat}
theorem aDm {Q : Value -> Shared -> Prop} (hd : (d == sysModules) = false) (hm : RawD s.heap d es ep)
  (q : Q (.ref s.heap.objs.size) { s with heap := s.heap.push { cls := .type "dict_keyiterator", data := .fields #[.ref d, .int 0 0, .int es.size 0, .int ep 0] } }) : wpAny (model prog w) A (pyIter (.ref d)) Q E s := by
 have ty := hm.ty
 obtain ⟨o, ho, hc, hdat⟩ := hm
 refine wpAny_pyIter_slot ty F.slot_dict_iter (wpAny_call_entry F.slot_dict_iter ty F.entry_dict_iter ?_ (F.args_dict_iter_1 _))
 unfold Builtin.«dict.__iter__» Builtin.Dict.dictSlotNone
 refine wpAny_bind (wpAny_bind (wpAny_notOrdered_dict ty (wpAny_pure ?_)))
 unfold Builtin.Dict.showsAll
 refine wpAny_bind (m := Builtin.Dict.addrOf (Value.ref d)) (wpAny_pure ?_)
 rw [if_neg (by rw [hd]; exact Bool.false_ne_true)]
 refine wpAny_bind (wpAny_pure (wpAny_bind (wpAny_dictEntries ho hdat (wpAny_bind (wpAny_dictEpoch ho hdat ?_)))))
 exact wpAny_bind (wpAny_newObj_type (wpAny_pure ⟨_, rfl, _, _, ⟨_, Heap.get?_push_size _ rfl, rfl⟩, F.slot_dict_keyiterator_next.lookup, q⟩))
theorem aEv {Q : Option Value -> Shared -> Prop} (hit : s.heap.IsKeyIter it d i es.size ep) (hm : RawD s.heap d es ep) (lt : i < es.size)
  (q : ∀ h', h'.IsKeyIter it d (i + 1) es.size ep -> Heap.SameBut it s.heap h' -> Q (some es[i].key) { s with heap := h' }) : wpAny (model prog w) A (pyNext (.ref it)) Q E s := by
 have ty := hit.typeIs
 obtain ⟨o, ho, hc, hd⟩ := hit
 obtain ⟨od, hod, _, hdd⟩ := hm
 have own : Builtin.Dict_items.ownsTuple "dict_keyiterator" = false := by decide
 have nn : ¬ ((i : Int) < 0) := Int.not_lt.mpr (Int.natCast_nonneg i)
 unfold pyNext
 refine wpAny_bind (wpAny_attempt (wpAny_callSpecial?_slot (name := Str.ofString "__next__") ty F.slot_dict_keyiterator_next (wpAny_call_entry F.slot_dict_keyiterator_next ty F.entry_dict_keyiterator_next ?_ (F.args_dict_keyiterator_next_1 _))))
 refine wpAny_bind (wpAny_pure (wpAny_bind (wpAny_bind ?_)))
 first | refine wpAny_bind (wpAny_typeNameOfWhole_keyiter ty (wpAny_pure ?_)) | refine wpAny_bind (wpAny_typeNameOf_keyiter ty (wpAny_pure ?_))
 refine wpAny_bind (wpAny_fieldsOf ho hd ?_)
 simp only [own, Bool.false_eq_true, if_false]
 show wpAny _ _ (if (Value.ref d == Value.none) = true then _ else _) _ _ s
 rw [if_neg (by intro z; cases z)]
 refine wpAny_bind (wpAny_pure (wpAny_bind (wpAny_dictEntries hod hdd ?_)))
 rw [if_neg (by simp)]
 refine wpAny_bind (wpAny_pure (wpAny_bind (wpAny_dictEpoch hod hdd ?_)))
 rw [if_neg (by simp)]
 refine wpAny_pure ?_
 simp only [nn, if_false, Int.toNat_natCast, Array.getElem?_eq_getElem lt]
 refine wpAny_bind ?_
 first | refine wpAny_bind (wpAny_typeNameOfWhole_keyiter ty (wpAny_pure ?_)) | refine wpAny_bind (wpAny_typeNameOf_keyiter ty (wpAny_pure ?_))
 refine wpAny_bind (wpAny_isOneOf_keyiter ty ?_)
 refine wpAny_bind (m := setField (.ref it) 1 (rawInt ((i : Int) + 1))) (wpAny_setField ho hd (by simp) ?_)
 have hit' : (s.heap.update it (Obj.mapFields (·.setIfInBounds 1 (rawInt ((i : Int) + 1))))).IsKeyIter it d (i + 1) es.size ep :=
  ⟨_, Heap.get?_update_self _ ho (Obj.isFreed_of_fields (Obj.data_mapFields hd _)), (Obj.cls_mapFields ..).trans hc, (Obj.data_mapFields hd _).trans (by simp [rawInt])⟩
 refine wpAny_bind (wpAny_holding (wpAny_bind (wpAny_isOneOf_keyiter (s := { s with heap := s.heap.update it (Obj.mapFields (·.setIfInBounds 1 (rawInt ((i : Int) + 1)))) }) hit'.typeIs ?_)))
 exact wpAny_pure (wpAny_pure ⟨_, rfl, wpAny_pure (q _ hit' (Heap.SameBut.update ..))⟩)
theorem aJl {Q : Option Value -> Shared -> Prop} (hh : A.handled = none) (hit : s.heap.IsKeyIter it d es.size es.size ep) (hm : RawD s.heap d es ep) (q : ∀ h', Heap.ExtBut it s.heap h' -> Q none { s with heap := h' }) : wpAny (model prog w) A (pyNext (.ref it)) Q E s := by
 have ty := hit.typeIs
 obtain ⟨o, ho, hc, hd⟩ := hit
 obtain ⟨od, hod, _, hdd⟩ := hm
 have own : Builtin.Dict_items.ownsTuple "dict_keyiterator" = false := by decide
 have nn : ¬ ((es.size : Int) < 0) := Int.not_lt.mpr (Int.natCast_nonneg _)
 unfold pyNext
 refine wpAny_bind (wpAny_attempt (wpAny_callSpecial?_slot (name := Str.ofString "__next__") ty F.slot_dict_keyiterator_next (wpAny_call_entry F.slot_dict_keyiterator_next ty F.entry_dict_keyiterator_next ?_ (F.args_dict_keyiterator_next_1 _))))
 refine wpAny_bind (wpAny_pure (wpAny_bind (wpAny_bind ?_)))
 first | refine wpAny_bind (wpAny_typeNameOfWhole_keyiter ty (wpAny_pure ?_)) | refine wpAny_bind (wpAny_typeNameOf_keyiter ty (wpAny_pure ?_))
 refine wpAny_bind (wpAny_fieldsOf ho hd ?_)
 simp only [own, Bool.false_eq_true, if_false]
 show wpAny _ _ (if (Value.ref d == Value.none) = true then _ else _) _ _ s
 rw [if_neg (by intro z; cases z)]
 refine wpAny_bind (wpAny_pure (wpAny_bind (wpAny_dictEntries hod hdd ?_)))
 rw [if_neg (by simp)]
 refine wpAny_bind (wpAny_pure (wpAny_bind (wpAny_dictEpoch hod hdd ?_)))
 rw [if_neg (by simp)]
 refine wpAny_pure ?_
 simp only [nn, if_false, Int.toNat_natCast, Array.getElem?_eq_none (Nat.le_refl es.size)]
 refine wpAny_bind ?_
 first | refine wpAny_bind (wpAny_typeNameOfWhole_keyiter ty (wpAny_pure ?_)) | refine wpAny_bind (wpAny_typeNameOf_keyiter ty (wpAny_pure ?_))
 refine wpAny_bind (m := setField (.ref it) 0 .none) (wpAny_setField ho hd (by simp) ?_)
 refine wpAny_bind (m := newExc (.type "StopIteration") []) ?_
 simp only [newExc, newTuple]
 refine wpAny_bind (wpAny_newObj_type (wpAny_bind (m := firstArgMember _ _) (wpAny_of_eq (a := Value.none) (by first | rfl | (simp only [firstArgMember]; rfl)) ?_)) (by size_fits))
 refine wpAny_newObj_type ?_ (by size_fits)
 simp only [raiseNew]
 refine wpAny_bind (wpAny_handled ?_)
 rw [show A.in1.handled = none from hh]
 refine wpAny_bind (wpAny_pure (wpAny_throw ?_))
 refine wpAny_bind (wpAny_isInstance (T := "StopIteration") (b := true) ⟨_, Heap.get?_push_size _ rfl, rfl⟩ isSubtype_stop ?_)
 exact wpAny_pure (q _ (((Heap.SameBut.update ..).extBut.push _).push _))
theorem aC2 (hh : A.handled = none) (I d : Addr) (hne : d ≠ I) (es : Array DictEntry) (ep : Nat) :
  Walks prog w A I [I, d] [I] es.size (fun i v => ∃ e, es[i]? = some e /\ v = e.key) (fun i h => h.IsKeyIter I d i es.size ep /\ RawD h d es ep) where
 sub := fun b hb => List.mem_cons.mpr (.inl (List.mem_singleton.mp hb))
 frame := fun _ _ _ st hk => ⟨st.1.at fun o e => hk I (by simp) o e, st.2.at fun o e => hk d (by simp) o e⟩
 item := fun i s Q E hi st hQ => aEv st.1 st.2 hi fun h' hit' sb => hQ _ h' s.toks ⟨es[i], by simp [hi], rfl⟩ ⟨hit', st.2.at fun o e => (sb.2 d hne).trans e⟩ fun b o hb e => (sb.2 b fun z => hb (by simp [z])).trans e
 done := fun s Q E st hQ => aJl hh st.1 st.2 fun h' he' => hQ h' s.toks fun b o hb e => he' b o (fun z => hb (by simp [z])) e
 self := fun _ _ _ _ st hQ => wpAny_pyIter_keyiter st.1 hQ
theorem aJh (lo : (d == sysModules) = false) : PySem.W.KdlSrc prog w "dict" d d es.size (fun i v => ∃ e, es[i]? = some e /\ v = e.key) (fun h => RawD h d es ep) where
 type := fun _ hm => hm.ty
 there := fun _ hm => ⟨hm.lt, hm.lt⟩
 keep := fun _ _ hm hk => hm.at fun o e => hk d (.inl rfl) o e
 notList := by decide
 notTuple := by decide
 hint := fun _ _ _ _ hm hq => PySem.W.kdl_hint_dict hm.ty hq
 iter := fun _ _ hh hm => ⟨_, _, (fun _ _ hq => aDm lo hm hq), aC2 hh _ d (Nat.ne_of_lt hm.lt) es ep, ⟨⟨_, Heap.get?_push_size _ rfl, rfl, rfl⟩, hm.at fun o e => Heap.get?_push_of_some _ e⟩⟩
end
section
variable {prog : Program} {w : World} {A : Around} {R : Result -> Shared -> Prop} {s : Shared}
abbrev aBk (ifs : List Expr) (env : Env) : Sem Bool := forIn ifs true fun c r => if r = true then do let ok <- isTrue c env (eval c env); pure (ForInStep.yield ok) else pure (ForInStep.yield r)
theorem aAg {elt target iter : Expr} {ifs : List Expr} {scope : Scope} {pos : Pos} {it acc : Value} {env : Env} (I : Nat -> Shared -> Prop)
  (turn : ∀ n s, I n s -> wpAny (model prog w) A (pyNext it) (fun r s₁ => match r with
   | none => R (.ok .next) s₁
   | some v => wpAny (model prog w) A (letOwnedTupleGo target it v) (fun _ s₀ => wpAny (model prog w) A (assign target env v) (fun _ s₂ =>
     wpAny (model prog w) A (aBk ifs env) (fun ok s₃ =>
      if ok = true then wpAny (model prog w) A (eval elt env) (fun x s₄ =>
       wpAny (model prog w) A (call (.builtin "list.append") [acc, x]) (fun _ s₅ => ∃ m, m < n /\ I m s₅) (fun _ _ => False) s₄) (fun _ _ => False) s₃
      else ∃ m, m < n /\ I m s₃) (fun _ _ => False) s₂) (fun _ _ => False) s₀) (fun _ _ => False) s₁) (fun _ _ => False) s)
  (n : Nat) (h : I n s) : codeAny (model prog w) A (.compLoop (.ListComp elt [⟨target, iter, ifs, 0⟩] scope pos) 0 it acc env) R s := by
 refine codeAny_loop rfl I (fun n s hI => ?_) n h
 show wpAny _ A ((compTurn (.ListComp elt [⟨target, iter, ifs, 0⟩] scope pos) 0 it acc env).onRaise (fun x => do noteFrame x env; theTreesLotGoes x)) _ _ s
 refine wpAny_noted ?_
 rw [compTurn_list]
 refine wpAny_bind (wpAny_standAt (wpAny_bind (wpAny_mono (turn n s hI) (fun r s₁ h₁ => ?_) fun _ _ z => z.elim)))
 cases r with
 | none => exact wpAny_pure h₁
 | some v =>
  refine wpAny_bind (wpAny_mono h₁ (fun _ s₀ h₀ => ?_) fun _ _ z => z.elim)
  refine wpAny_bind (wpAny_mono h₀ (fun _ s₂ h₂ => wpAny_bind (wpAny_mono h₂ (fun ok s₃ h₃ => ?_) fun _ _ z => z.elim)) fun _ _ z => z.elim)
  cases ok with
  | false => exact wpAny_pure ⟨rfl, h₃⟩
  | true =>
   exact wpAny_bind (wpAny_bind (wpAny_mono h₃ (fun x s₄ h₄ => wpAny_bind (wpAny_mono h₄ (fun _ s₅ h₅ => wpAny_pure (wpAny_pure ⟨rfl, h₅⟩)) fun _ _ z => z.elim)) fun _ _ z => z.elim))
end
def PTs (X : Cx) (ifs : List Expr) (t : TT) : Prop :=
 ∀ (pins : List (Addr × Obj)) (s : Shared) (σ : St) (H : Hp) (Q : Bool -> Hp -> Prop), Inv X pins σ H s -> t σ H Q -> wpAny (model X.prog X.w) X.A (aBk ifs X.env) (TP X pins σ Q) X.xe s
def aQs : TT := fun _ H Q => Q true H
theorem aHv {X : Cx} : PTs X [] aQs := fun _ _ _ H _ I h => wpAny_tests_nil ⟨H, I, h⟩
theorem aJ5 {X : Cx} {c : Expr} {t : TT} (h : PT X c t) : PTs X [c] t := fun pins s σ H Q I hw => wpAny_tests_one (h pins s σ H Q I hw)
def xY (wi : TI) (g : TG) (tt : TT) (te : TE) (n : Nat) (js : List Nat) : TE := fun σ H Q => wi σ H fun J H1 => ∀ D, H1 D = none -> ∃ (N : Nat) (W : Nat -> List V -> Hp -> Prop), W 0 [] (upd H1 D (.lst [])) /\ ∀ i ys H2, W i ys H2 ->
 (J.stop i H2 /\ Q (.ref D) H2) \/ (i < N /\ J.go i H2 /\ ∀ v H3, J.yld i H2 v H3 -> g v (List.replicate n none ++ lL js σ) H3 fun σ2 H4 => (σ2.length = n + js.length /\ σ2.drop n = lL js σ) /\ tt σ2 H4 fun b H5 =>
  if b = true then te σ2 H5 fun y H6 => H6 D = some (.lst ys) /\ ys.length < sizeLine /\ W (i + 1) (ys ++ [y]) (upd H6 D (.lst (ys ++ [y]))) else W (i + 1) ys H5)
section
variable {X : Cx}
theorem Inv.but {pins : List (Addr × Obj)} {σ : St} {H : Hp} {s : Shared} {C : Addr} {h' : Heap} (I : Inv X pins σ H s) (f : qD X pins H C) (hs : Heap.SameBut C s.heap h') : Inv X pins σ H { s with heap := h' } := by
 have ne : ∀ b, b ∉ [C] -> b ≠ C := fun b hb z => hb (by rw [z]; exact .head _)
 refine I.call' (s' := { s with heap := h' }) (ch := [C]) rfl ⟨fun b o e n hb hx => (hs.2 b (ne b hx)).trans e, fun b o e n hb hx => ⟨o.slots, (hs.2 b (ne b hx)).trans e⟩, fun b o e n hx => n, fun b o e hx => ⟨o, (hs.2 b (ne b hx)).trans e⟩, fun b xs e => e, fun b o u e => e, fun b ps e => ⟨#[], by rw [Array.append_empty]; exact e⟩⟩ (rP I.hok fun b o nn e => (hs.2 b (fun z => nn (by rw [z]; exact f.1))).trans e) I.bare fun b hb => ?_
 rw [List.mem_singleton.mp hb]
 exact ⟨f.2.2.2.1, f.2.1, f.2.2.2.2.1, f.2.2.2.2.2⟩
set_option maxHeartbeats 8000000 in
theorem sQ {elt iter tg : Expr} {pos : Pos} {scope : Scope} {ifs : List Expr} {wi : TI} {g : TG} {tt : TT} {te : TE} {xs ys : List Str} {js : List Nat} {cl : List (Str × Addr)} (hc : X.calm = true) (hi : PI X tg iter wi)
  (hcl : aIe X scope cl) (hcap : o7 X scope cl ys js) (hcell : ∀ y ∈ scope.names, y.2 ≠ .cell) (hkind : scope.kind = .function) (hnames : ∀ y ∈ scope.names, y.2 = .local -> scope.names.lookup y.1 = some .local)
  (hg : ∀ C s₀ H₀ ex pn, PG (bT X scope cl C (xs ++ ys) s₀ H₀ ex pn) tg g) (ht : ∀ C s₀ H₀ ex pn, PTs (bT X scope cl C (xs ++ ys) s₀ H₀ ex pn) ifs tt) (hb : ∀ C s₀ H₀ ex pn, PE (bT X scope cl C (xs ++ ys) s₀ H₀ ex pn) elt te)
  (hs : ∀ x, foldedSetIterable iter X.env x = pure x) {use : Option (Value -> Sem Unit)} {QQ : Value -> Shared -> Prop} {Q : VK} {pins : List (Addr × Obj)} {s : Shared} {σ : St} {H : Hp} {cp : Pos} (I : Inv X pins σ H s)
  (aPl : ∀ (C D : Addr) (s' : Shared) (H' : Hp), Inv X pins σ H' s' -> qD X pins H' C -> (∃ m, s'.heap.Ns C m) -> Q (.ref D) H' -> compPost (model X.prog X.w) X.A X.xe use QQ (.ref D) C (.ok .next) s')
  (h : xY wi g tt te xs.length js σ H Q) :
  wpAny (model X.prog X.w) X.A (comprehension (.ListComp elt [⟨tg, iter, ifs, 0⟩] scope pos) scope X.env cp (newList []) false (eval iter X.env) use) QQ X.xe s := by
 refine wpAny_comprehension_free rfl hs hcl.clos hkind hnames (thn (hi pins s σ H _ I h) fun v s1 h1 => thn h1 fun itv s2 h2 => ?_)
 obtain ⟨it, fp, tn, J, H2, e, I2, T, st2, f2, q2⟩ := h2
 subst e
 obtain ⟨n, W, w0, turn⟩ := q2 s2.heap.objs.size I2.fresh
 refine wpAny_newObj_type (wpAny_newFunctionEnv hcell (by intro y hy; simp at hy) (fun h₁ hns₁ hsb₁ => ?_) hkind)
 dsimp only at hns₁ hsb₁ ⊢
 have I3 := I2.lnew (ys := []) (its := []) (t' := s2.toks) .nil (Nat.zero_le _)
 generalize hg3 : s2.heap.push { cls := .type "list", dict := none, data := .seq ([] : List Value).toArray } = g3 at hns₁ hsb₁ I3 ⊢
 have sz3 : g3.objs.size = s2.heap.objs.size + 1 := by rw [<- hg3, Heap.size_push]
 generalize hC : g3.objs.size = C at hns₁ hsb₁ ⊢
 have old3 : ∀ b o, g3.get? b = some o -> h₁.get? b = some o := fun b o q => hsb₁.extBut b o (by rw [<- hC]; exact Nat.ne_of_lt (Heap.lt_size q)) (Heap.get?_push_of_some _ q)
 have old2 : ∀ b o, s2.heap.get? b = some o -> g3.get? b = some o := fun b o q => by rw [<- hg3]; exact Heap.get?_push_of_some _ q
 have fpl : ∀ b ∈ fp, ∃ o, s2.heap.get? b = some o /\ ∀ v, o.data ≠ .cell v := T.obj _ _ st2
 have fplt : ∀ b ∈ fp, b < s2.heap.objs.size := fun b hb => let ⟨o, q, _⟩ := fpl b hb; Heap.lt_size q
 have H3n : ∀ b, b ≠ s2.heap.objs.size -> upd H2 s2.heap.objs.size (.lst []) b = H2 b := fun b hb => aS hb
 have fp3 : ∀ b ∈ fp, upd H2 s2.heap.objs.size (.lst []) b = none := fun b hb => by rw [H3n b (Nat.ne_of_lt (fplt b hb))]; exact (f2 b hb).1
 have okX := I3.ok
 have inj : ∀ y z c, cl.lookup y = some c -> cl.lookup z = some c -> y = z := fun y z c h1 h2 => okX.inj y z c (hcl.sub y c h1) (hcl.sub z c h2)
 have cellE : ∀ y c, cl.lookup y = some c -> ∃ v, g3.IsCell c v := fun y c q => I3.cell y c (hcl.sub y c q)
 have st3 : g3.FunFrames X.base X.stack := I3.stack
 have exlt : ∀ b ∈ fp, b ≠ C := fun b hb => by rw [<- hC, sz3]; exact Nat.ne_of_lt (Nat.lt_succ_of_lt (fplt b hb))
 have frlt : ∀ b ∈ frs X.stack, b < g3.objs.size := fun b hb => let ⟨_, o, q, _⟩ := st3.mem hb; Heap.lt_size q
 have okB : (bT X scope cl C (xs ++ ys) { s2 with heap := g3 } (upd H2 s2.heap.objs.size (.lst [])) fp (X.pn ++ pins)).Ok := by
  refine ⟨okX.mod, hkind, okX.glob, okX.blt, Nat.le_of_eq hC, inj, fun y hy => hcl.has y hy, (fun y c hf _ => nomatch hf), okX.hd, okX.frames, .inl rfl, fun b hb => ⟨exlt b hb, fun y c q z => ?_⟩, I3.bs, Nat.le_trans okX.bsz I3.sz, fun b o q hb => ?_, fun b hb => ?_, st3, I3.stkFree, I3.tab⟩
  ·subst z
   exact (f2 c hb).2.2.2.2.1 y c (hcl.sub y c q) rfl
  ·rcases (f2 b hb).2.2.2.1 with z | z
   ·exact okX.noex b o q z
   ·have := Heap.lt_size (okX.bs b o q).1
    exact absurd (Nat.lt_of_lt_of_le this z) (Nat.lt_irrefl _)
  ·intro hz
   rcases List.mem_cons.mp (I3.stkSub b hz) with z | z
   ·exact (f2 b hb).2.1 z
   ·exact (f2 b hb).2.2.1 z
 have tot : ∀ tk : Nat, Inv (bT X scope cl C (xs ++ ys) { s2 with heap := g3 } (upd H2 s2.heap.objs.size (.lst [])) fp (X.pn ++ pins)) [] (List.replicate xs.length none ++ lL js σ) (upd H2 s2.heap.objs.size (.lst [])) { s2 with heap := h₁, toks := tk } := fun tk => by
  refine ⟨okB, rfl, I3.bare, Un.kept old3, ⟨_, hns₁, fun i y v' e1 e2 e3 => ?_⟩, fun y c q => ?_, I3.hok.fresh (Nat.le_of_eq hC), fun y c q => ?_, fun p hp => ?_, I3.hok.kept old3, ?_⟩
  ·by_cases hix : i < xs.length
   ·rw [List.getElem?_append_left (by rw [List.length_replicate]; exact hix), List.getElem?_replicate] at e2
    split at e2 <;> cases e2
   ·have hix' : xs.length <= i := by omega
    obtain ⟨k, rfl⟩ : ∃ k, i = xs.length + k := ⟨i - xs.length, by omega⟩
    have e1' : ys[k]? = some y := by
     rw [List.getElem?_append_right (by omega)] at e1
     simpa using e1
    have e2' : (lL js σ)[k]? = some (some v') := by
     rw [List.getElem?_append_right (by rw [List.length_replicate]; omega), List.length_replicate] at e2
     simpa using e2
    unfold lL at e2'
    rw [List.getElem?_map] at e2'
    cases ej : js[k]? with
    | none => rw [ej] at e2'; cases e2'
    | some j =>
     rw [ej] at e2'
     have e2'' : (σ[j]?).getD none = some v' := Option.some.inj e2'
     have eσ : σ[j]? = some (some v') := by
      cases es : σ[j]? with
      | none => rw [es] at e2''; cases e2''
      | some z => rw [es] at e2''; have : z = some v' := e2''; rw [this]
     obtain ⟨c1, c2, c3, c4, c5⟩ := hcap.at_ k y j e1' ej
     obtain ⟨m0, hn0, hl0⟩ := I3.loc
     obtain ⟨u, r, l⟩ := hl0 j y v' c1 eσ (c2.elim (fun z => .inr (.inl z)) fun z => .inr (.inr z))
     refine ⟨u, r, .inr ⟨c3, ?_⟩⟩
     rcases l with ⟨l, _⟩ | ⟨_, c, hcc, z⟩
     ·rcases c2 with c2 | c2
      ·rw [c2] at l; cases l
      ·rw [c2] at l; cases l
     ·obtain ⟨o, ho, hd⟩ := z
      exact ⟨c, c5.trans hcc, o, old3 c o ho, hd⟩
  ·obtain ⟨v0, o, ho, hd⟩ := cellE y c q
   exact ⟨v0, o, old3 c o ho, hd⟩
  ·exact I3.freeC y c (hcl.sub y c q)
  ·have hp' : p ∈ X.pn ++ pins := by simpa using hp
   obtain ⟨p1, p2, p3, p4, p5⟩ := I3.pin p hp'
   refine ⟨old3 _ _ p1, p2, ?_, fun hz => ?_, p5⟩
   ·show p.1 ≠ C
    rw [<- hC]
    exact Nat.ne_of_lt (Heap.lt_size p1)
   ·rcases List.mem_cons.mp (I3.stkSub p.1 hz) with z | z
    ·exact p3 z
    ·exact p4 z
  ·show (List.replicate xs.length none ++ lL js σ).length = (xs ++ ys).length
   unfold lL
   simp [hcap.len]
 have fpB : ∀ {H' : Hp}, (∀ b ∈ fp, H' b = none) -> ∀ b ∈ fp, qD (bT X scope cl C (xs ++ ys) { s2 with heap := g3 } (upd H2 s2.heap.objs.size (.lst [])) fp (X.pn ++ pins)) [] H' b := fun hn b hb =>
  ⟨hn b hb, exlt b hb, okB.exfs b hb, .inl hb, (okB.exf b hb).2, fun p hp => (f2 b hb).2.2.2.2.2 p (by simpa using hp)⟩
 have fin : ∀ s' : Shared, (∃ i zs σ' H', Inv (bT X scope cl C (xs ++ ys) { s2 with heap := g3 } (upd H2 s2.heap.objs.size (.lst [])) fp (X.pn ++ pins)) [] σ' H' s' /\ W i zs H' /\ J.stop i H' /\ Q (.ref s2.heap.objs.size) H') ->
   compPost (model X.prog X.w) X.A X.xe use QQ (.ref s2.heap.objs.size) C (.ok .next) s' := by
  rintro s' ⟨i, zs, σ', H', Ib, w, stop, q⟩
  obtain ⟨m', hn', _⟩ := Ib.loc
  have ub := Ib.base
  have un : Un (frs X.stack) fp (upd H2 s2.heap.objs.size (.lst [])) H' g3 s'.heap := ub
  have IX : Inv X pins σ H' s' := I3.call' (s' := s') (ch := fp) Ib.os un Ib.hok Ib.bare fun b hb => ⟨(f2 b hb).2.2.2.1, (f2 b hb).2.1, (f2 b hb).2.2.2.2.1, (f2 b hb).2.2.2.2.2⟩
  exact aPl C _ s' H' IX (I3.fpOk (Nat.le_of_eq hC) Ib.free) ⟨m', hn'⟩ q
 have loop : ∀ s₃ : Shared, (∃ tk, s₃ = { s2 with heap := h₁, toks := tk }) ->
   codeAny (model X.prog X.w) X.A (.compLoop (.ListComp elt [⟨tg, iter, ifs, 0⟩] scope pos) 0 (.ref it) (.ref s2.heap.objs.size) (compEnvC scope cl C X.env)) (compPost (model X.prog X.w) X.A X.xe use QQ (.ref s2.heap.objs.size) C) s₃ := by
  rintro s₃ ⟨tk, rfl⟩
  refine aAg (fun k s' => ∃ i zs H', k = n + 1 - i /\ i <= n /\ Inv (bT X scope cl C (xs ++ ys) { s2 with heap := g3 } (upd H2 s2.heap.objs.size (.lst [])) fp (X.pn ++ pins)) [] (List.replicate xs.length none ++ lL js σ) H' s' /\ tn i s'.heap /\ (∀ b ∈ fp, H' b = none) /\ W i zs H')
   ?_ (n + 1) ⟨0, [], _, rfl, Nat.zero_le _, tot tk, T.keep _ _ _ st2 fun b hb o q => old3 b o (old2 b o q), fp3, w0⟩
  rintro k s' ⟨i, zs, H', rfl, hin, Ib, st, fr, w⟩
  rcases turn i zs H' w with ⟨stop, qq⟩ | ⟨hlt, go, step⟩
  ·refine wpAny_mono (T.done (bT X scope cl C (xs ++ ys) { s2 with heap := g3 } (upd H2 s2.heap.objs.size (.lst [])) fp (X.pn ++ pins)) rfl rfl rfl hc i [] s' _ H' (fun _ _ => False) Ib (fpB fr) st stop) (fun r s4 ⟨hr, I4⟩ => ?_) fun _ _ z => z.elim
   subst hr
   exact fin s4 ⟨i, zs, _, H', I4, w, stop, qq⟩
  ·refine wpAny_mono (T.item (bT X scope cl C (xs ++ ys) { s2 with heap := g3 } (upd H2 s2.heap.objs.size (.lst [])) fp (X.pn ++ pins)) rfl rfl rfl hc i [] s' _ H' (fun _ _ => False) Ib (fpB fr) st go) (fun r s4 ⟨u, hr, h4⟩ => ?_) fun _ _ z => z.elim
   subst hr
   refine wpAny_mono h4 (fun _ s5 ⟨v5, H5, I5, r5, y5, st5, fr5⟩ => ?_) fun _ _ z => z.elim
   have I5' := I5.pinned (fpB fr5) (T.obj _ _ st5)
   have hw5 := step v5 H5 y5
   refine wpAny_mono (hg C _ _ fp (X.pn ++ pins) _ s5 _ H5 v5 u _ I5' r5 hw5) (fun _ s6 ⟨σ6, H6, I6, ⟨hl6, hd6⟩, e6⟩ => ?_) fun _ _ z => z.elim
   have back : ∀ {H' : Hp} {s' : Shared} {pins' : List (Addr × Obj)}, Inv (bT X scope cl C (xs ++ ys) { s2 with heap := g3 } (upd H2 s2.heap.objs.size (.lst [])) fp (X.pn ++ pins)) pins' σ6 H' s' -> Inv (bT X scope cl C (xs ++ ys) { s2 with heap := g3 } (upd H2 s2.heap.objs.size (.lst [])) fp (X.pn ++ pins)) pins' (List.replicate xs.length none ++ lL js σ) H' s' := fun I' => by
    refine I'.weak ?_ fun j v' e => ?_
    ·rw [hl6]; unfold lL; simp
    ·by_cases hj : j < xs.length
     ·rw [List.getElem?_append_left (by rw [List.length_replicate]; exact hj), List.getElem?_replicate] at e
      split at e <;> cases e
     ·rw [List.getElem?_append_right (by rw [List.length_replicate]; omega), List.length_replicate, <- hd6, List.getElem?_drop] at e
      rw [<- e]
      congr 1
      omega
   refine wpAny_mono (ht C _ _ fp (X.pn ++ pins) _ s6 _ _ _ I6 e6) (fun ok s6b ⟨H6b, I6b, e6b⟩ => ?_) fun _ _ z => z.elim
   cases ok with
   | false =>
    rw [if_neg Bool.false_ne_true]
    have e6c : W (i + 1) zs H6b := by simpa using e6b
    have I8 := back I6b
    refine ⟨n + 1 - (i + 1), by omega, i + 1, zs, _, rfl, hlt, I8.unpinned (pins := []), ?_, fun b hb => ?_, e6c⟩
    ·exact T.keep _ _ _ st5 fun b hb o q => (I8.pin (b, o) (List.mem_append_right _ (List.mem_append_right _ (eQ hb q)))).1
    ·obtain ⟨o, q, d⟩ := T.obj _ _ st5 b hb
     exact (I8.pin (b, o) (List.mem_append_right _ (List.mem_append_right _ (eQ hb q)))).2.1
   | true =>
    rw [if_pos rfl]
    have e6c := e6b
    rw [if_pos rfl] at e6c
    refine wpAny_mono (hb C _ _ fp (X.pn ++ pins) _ s6b _ _ _ I6b e6c) (fun y s7 ⟨yv, H7, I7, r7, hD, hz, w7⟩ => ?_) fun _ _ z => z.elim
    obtain ⟨z7, its, n7, rv7, hl7, e7⟩ := I7.lstM hD
    refine append_at (n := n7) (its := its.toArray) e7 (fun h₈ sb8 eD8 => ?_) (by rw [List.size_toArray, <- hl7]; exact Nat.le_of_lt hz)
    have I8 : Inv _ _ _ (upd H7 s2.heap.objs.size (.lst (zs ++ [yv]))) { s7 with heap := h₈, toks := s7.toks } := I7.write (x := s2.heap.objs.size) (e := s2.heap.objs.size) (by rw [hD]; exact trivial) (.inl rfl) (fun b u hb q => (sb8.2 b hb).trans q) ⟨_, eD8⟩
     ⟨by rw [List.length_append]; exact hz, its ++ [y], n7 + 1, rv7.append (.cons r7 .nil), by rw [eD8, List.push_toArray]⟩
    have I9 := back I8
    refine ⟨n + 1 - (i + 1), by omega, i + 1, zs ++ [yv], _, rfl, hlt, I9.unpinned (pins := []), ?_, fun b hb => ?_, w7⟩
    ·exact T.keep _ _ _ st5 fun b hb o q => (I8.pin (b, o) (List.mem_append_right _ (List.mem_append_right _ (eQ hb q)))).1
    ·obtain ⟨o, q, d⟩ := T.obj _ _ st5 b hb
     exact (I8.pin (b, o) (List.mem_append_right _ (List.mem_append_right _ (eQ hb q)))).2.1
 exact codeAny_compStart_list (loop _ ⟨_, rfl⟩) (T.self _ 0 _ _ _ (T.keep _ _ _ st2 fun b hb o q => old3 b o (old2 b o q)) (loop _ ⟨_, rfl⟩))
theorem aEy {elt iter tg : Expr} {pos : Pos} {scope : Scope} {ifs : List Expr} {wi : TI} {g : TG} {tt : TT} {te : TE} {xs ys : List Str} {js : List Nat} {cl : List (Str × Addr)} (hc : X.calm = true) (hi : PI X tg iter wi)
  (hcl : aIe X scope cl) (hcap : o7 X scope cl ys js) (hcell : ∀ y ∈ scope.names, y.2 ≠ .cell) (hkind : scope.kind = .function) (hnames : ∀ y ∈ scope.names, y.2 = .local -> scope.names.lookup y.1 = some .local)
  (hg : ∀ C s₀ H₀ ex pn, PG (bT X scope cl C (xs ++ ys) s₀ H₀ ex pn) tg g) (ht : ∀ C s₀ H₀ ex pn, PTs (bT X scope cl C (xs ++ ys) s₀ H₀ ex pn) ifs tt) (hb : ∀ C s₀ H₀ ex pn, PE (bT X scope cl C (xs ++ ys) s₀ H₀ ex pn) elt te)
  (hs : ∀ x, foldedSetIterable iter X.env x = pure x := by intro _; rfl) :
  PE X (.ListComp elt [⟨tg, iter, ifs, 0⟩] scope pos) (xY wi g tt te xs.length js) := by
 intro pins s σ H Q I h
 rw [eval_ListComp]
 exact sQ hc hi hcl hcap hcell hkind hnames hg ht hb hs (use := none) (QQ := EP X pins σ Q) (Q := Q) I (fun C D s' H' IX f ⟨m, hn⟩ q => ⟨m, hn, fun h' hs' => ⟨.ref D, H', IX.but f hs', rfl, q⟩⟩) h
theorem aFm {elt iter tg : Expr} {pos py spos : Pos} {scope : Scope} {ifs : List Expr} {wi : TI} {g : TG} {tt : TT} {te : TE} {xs ys : List Str} {js : List Nat} {cl : List (Str × Addr)} {i : Nat} {y : Str} (hN : X.N.Nodup) (hiN : X.N[i]? = some y) (hx : Loc X.env.scope y) (hc : X.calm = true) (hi : PI X tg iter wi)
  (hcl : aIe X scope cl) (hcap : o7 X scope cl ys js) (hcell : ∀ y ∈ scope.names, y.2 ≠ .cell) (hkind : scope.kind = .function) (hnames : ∀ y ∈ scope.names, y.2 = .local -> scope.names.lookup y.1 = some .local)
  (hg : ∀ C s₀ H₀ ex pn, PG (bT X scope cl C (xs ++ ys) s₀ H₀ ex pn) tg g) (ht : ∀ C s₀ H₀ ex pn, PTs (bT X scope cl C (xs ++ ys) s₀ H₀ ex pn) ifs tt) (hb : ∀ C s₀ H₀ ex pn, PE (bT X scope cl C (xs ++ ys) s₀ H₀ ex pn) elt te)
  (hsw : swapsWith (.ListComp elt [⟨tg, iter, ifs, 0⟩] scope pos) (some (.Name y py)) spos.line X.env = pure true) (hs : ∀ x, foldedSetIterable iter X.env x = pure x := by intro _; rfl)
  (hf : X.fn y = true \/ X.env.scope.names.lookup y = some .local := by first | exact .inl rfl | exact .inr rfl | assumption) :
  PS X (.Assign [.Name y py] (.ListComp elt [⟨tg, iter, ifs, 0⟩] scope pos) spos) (aP1 (xY wi g tt te xs.length js) (aIq i)) := by
 intro pins s σ H D I h
 rw [exec_Assign_Name_used _ _ _ _ hsw]
 refine wpAny_bind (wpAny_standAt (wpAny_bind ?_))
 show wpAny _ X.A (do let _ <- comprehension (.ListComp elt [⟨tg, iter, ifs, 0⟩] scope pos) scope X.env _ (newList []) false (eval iter X.env) (some (assign (.Name y py) X.env))) _ _ s
 refine wpAny_bind (wpAny_mono (sQ hc hi hcl hcap hcell hkind hnames hg ht hb hs (use := some (assign (.Name y py) X.env)) (QQ := fun _ s' => ∃ σ' H', Inv X pins σ' H' s' /\ D.nx σ' H') I (fun C L s' H' IX f ⟨m, hn⟩ q => ?_) h) (fun _ s' hq => wpAny_pure (wpAny_pure hq)) fun _ _ e => e)
 obtain ⟨o, es, ep, ho, hd, hr⟩ := id hn
 have IP := IX.pinned (fp := [C]) (fun b hb => by rw [List.mem_singleton.mp hb]; exact f) (fun b hb => by rw [List.mem_singleton.mp hb]; exact ⟨o, ho, fun v z => by rw [hd] at z; cases z⟩)
 refine wpAny_mono (uY (pos := py) hN hiN hx hf _ s' σ H' (.ref L) (.ref L) _ IP rfl q) (fun _ s2 ⟨σ2, H2, I2, q2⟩ => ?_) fun _ _ e => e
 have pc := I2.pin (C, o) (List.mem_append_right _ (List.mem_append_right _ (eQ (.head _) ho)))
 exact ⟨m, ⟨o, es, ep, pc.1, hd, hr⟩, fun h' hs' => ⟨σ2, H2, (I2.unpinned (pins := pins)).but ⟨pc.2.1, f.2⟩ hs', q2⟩⟩
end
end L2
namespace M
open PySem PySem.Spec PyProof.Rows L2
abbrev D := PyData
inductive Res (α : Type) where
 | ok (a : α)
 | exc (C : Addr)
 | bad
def Res.bind {α β : Type} (r : Res α) (f : α -> Res β) : Res β := match r with
 | .ok a => f a
 | .exc C => .exc C
 | .bad => .bad
def wpR {α : Type} (r : Res α) (Q : α -> Prop) (E : Addr -> Prop) : Prop := match r with
 | .ok a => Q a
 | .exc C => E C
 | .bad => False
theorem bU {α β : Type} {r : Res α} {f : α -> Res β} {Q : β -> Prop} {E : Addr -> Prop} : wpR (r.bind f) Q E = wpR r (fun a => wpR (f a) Q E) E := by cases r <;> rfl
theorem bD {α : Type} {r : Res α} {Q Q' : α -> Prop} {E E' : Addr -> Prop} (h : wpR r Q E) (hQ : ∀ a, Q a -> Q' a) (hE : ∀ C, E C -> E' C) : wpR r Q' E' := by
 cases r with
 | ok a => exact hQ a h
 | exc C => exact hE C h
 | bad => exact h
inductive L where
 | p (d : D)
 | o (d : D)
 | x (C : Addr)
 | h (a : Addr)
inductive Ev where
 | p (d : D)
 | f (d : D)
 | b (d : D)
 | x (C : Addr)
def Ev.c : Ev -> Ev
 | .f d => .p d
 | r => r
abbrev En := List (Option L)
def kD : Key -> D
 | .inl i => .int i
 | .inr x => .str x
def tkD (ks : List Key) : D := .tuple (ks.map kD)
mutual
inductive Rep (K : PySem.W.Frag) (G : Hp) : V -> D -> Prop
 | non : Rep K G .non .none
 | bl (b : Bool) : Rep K G (.bl b) (.bool b)
 | int (i : Int) : Rep K G (.int i) (.int i)
 | str (x : Str) : Rep K G (.str x) (.str x)
 | tup {a : Addr} {xs : List V} {ds : List D} : G a = some (.tup xs) -> Reps K G xs ds -> Rep K G (.ref a) (.tuple ds)
 | lst {a : Addr} {xs : List V} {ds : List D} : Rd G a (.lst xs) -> Reps K G xs ds -> Rep K G (.ref a) (.list ds)
 | dT {a : Addr} {kv : List (List Key × V)} {kvs : List (D × D)} : G a = some (.dT kv) -> RepT K G kv kvs -> Rep K G (.ref a) (.dict kvs)
 | dK {a : Addr} {kv : List (Key × V)} {kvs : List (D × D)} : G a = some (.dK kv) -> RepK K G kv kvs -> Rep K G (.ref a) (.dict ((.none, .none) :: kvs))
inductive Reps (K : PySem.W.Frag) (G : Hp) : List V -> List D -> Prop
 | nil : Reps K G [] []
 | cons {x : V} {xs : List V} {d : D} {ds : List D} : Rep K G x d -> Reps K G xs ds -> Reps K G (x :: xs) (d :: ds)
inductive RepT (K : PySem.W.Frag) (G : Hp) : List (List Key × V) -> List (D × D) -> Prop
 | nil : RepT K G [] []
 | cons {k : List Key} {x : V} {d : D} {kv : List (List Key × V)} {kvs : List (D × D)} : Rep K G x d -> RepT K G kv kvs -> RepT K G ((k, x) :: kv) ((tkD k, d) :: kvs)
inductive RepK (K : PySem.W.Frag) (G : Hp) : List (Key × V) -> List (D × D) -> Prop
 | nil : RepK K G [] []
 | cons {k : Key} {x : V} {d : D} {kv : List (Key × V)} {kvs : List (D × D)} : Rep K G x d -> RepK K G kv kvs -> RepK K G ((k, x) :: kv) ((kD k, d) :: kvs)
end
inductive Cont (K : PySem.W.Frag) (G : Hp) : HO -> D -> Prop
 | lst {xs : List V} {ds : List D} : Reps K G xs ds -> Cont K G (.lst xs) (.list ds)
 | dT {kv : List (List Key × V)} {kvs : List (D × D)} : RepT K G kv kvs -> Cont K G (.dT kv) (.dict kvs)
 | dK {kv : List (Key × V)} {kvs : List (D × D)} : RepK K G kv kvs -> Cont K G (.dK kv) (.dict ((.none, .none) :: kvs))
section
variable {K : PySem.W.Frag} {G G' H H' : Hp}
theorem gN {a : Addr} {u : HO} (s : Same G G') (h : Rd G a u) : Rd G' a u := by
 rcases h with h | ⟨o, h⟩
 ·exact .inl (s _ _ h)
 ·exact .inr ⟨o, s _ _ h⟩
mutual
theorem Rep.mono (s : Same G G') : ∀ {v : V} {d : D}, Rep K G v d -> Rep K G' v d
 | _, _, .non => .non
 | _, _, .bl b => .bl b
 | _, _, .int i => .int i
 | _, _, .str x => .str x
 | _, _, .tup h r => .tup (s _ _ h) (Reps.mono s r)
 | _, _, .lst h r => .lst (gN s h) (Reps.mono s r)
 | _, _, .dT h r => .dT (s _ _ h) (RepT.mono s r)
 | _, _, .dK h r => .dK (s _ _ h) (RepK.mono s r)
theorem Reps.mono (s : Same G G') : ∀ {v : List V} {d : List D}, Reps K G v d -> Reps K G' v d
 | _, _, .nil => .nil
 | _, _, .cons h r => .cons (Rep.mono s h) (Reps.mono s r)
theorem RepT.mono (s : Same G G') : ∀ {v : List (List Key × V)} {d : List (D × D)}, RepT K G v d -> RepT K G' v d
 | _, _, .nil => .nil
 | _, _, .cons h r => .cons (Rep.mono s h) (RepT.mono s r)
theorem RepK.mono (s : Same G G') : ∀ {v : List (Key × V)} {d : List (D × D)}, RepK K G v d -> RepK K G' v d
 | _, _, .nil => .nil
 | _, _, .cons h r => .cons (Rep.mono s h) (RepK.mono s r)
end
theorem Cont.mono (s : Same G G') {o : HO} {d : D} (h : Cont K G o d) : Cont K G' o d := by
 cases h with
 | lst r => exact .lst (r.mono s)
 | dT r => exact .dT (r.mono s)
 | dK r => exact .dK (r.mono s)
theorem Cont.rep {a : Addr} {o : HO} {d : D} (h : Cont K G o d) (e : G a = some o) : Rep K G (.ref a) d := by
 cases h with
 | lst r => exact .lst (.inl e) r
 | dT r => exact .dT e r
 | dK r => exact .dK e r
theorem Reps.length : ∀ {xs : List V} {ds : List D}, Reps K G xs ds -> xs.length = ds.length
 | _, _, .nil => rfl
 | _, _, .cons _ r => by rw [List.length_cons, List.length_cons, Reps.length r]
theorem Reps.get : ∀ {xs : List V} {ds : List D} {i : Nat} {x : V}, Reps K G xs ds -> xs[i]? = some x -> ∃ d, ds[i]? = some d /\ Rep K G x d
 | _, _, _, _, .nil, e => by simp at e
 | _, _, 0, _, .cons h _, e => by simp at e; subst e; exact ⟨_, rfl, h⟩
 | _, _, i + 1, _, .cons _ r, e => by
  have := Reps.get (i := i) r (by simpa using e)
  simpa using this
theorem Reps.get' : ∀ {xs : List V} {ds : List D} {i : Nat} {d : D}, Reps K G xs ds -> ds[i]? = some d -> ∃ x, xs[i]? = some x /\ Rep K G x d
 | _, _, _, _, .nil, e => by simp at e
 | _, _, 0, _, .cons h _, e => by simp at e; subst e; exact ⟨_, rfl, h⟩
 | _, _, i + 1, _, .cons _ r, e => by
  have := Reps.get' (i := i) r (by simpa using e)
  simpa using this
theorem Reps.append : ∀ {xs ys : List V} {ds es : List D}, Reps K G xs ds -> Reps K G ys es -> Reps K G (xs ++ ys) (ds ++ es)
 | _, _, _, _, .nil, r => r
 | _, _, _, _, .cons h t, r => .cons h (Reps.append t r)
theorem Reps.take : ∀ {xs : List V} {ds : List D} (n : Nat), Reps K G xs ds -> Reps K G (xs.take n) (ds.take n)
 | _, _, 0, _ => .nil
 | _, _, _ + 1, .nil => .nil
 | _, _, n + 1, .cons h t => .cons h (Reps.take n t)
theorem Reps.drop : ∀ {xs : List V} {ds : List D} (n : Nat), Reps K G xs ds -> Reps K G (xs.drop n) (ds.drop n)
 | _, _, 0, r => r
 | _, _, _ + 1, .nil => .nil
 | _, _, n + 1, .cons _ t => Reps.drop n t
end
structure Step (G H G' H' : Hp) : Prop where
 g : Same G G'
 h : Same H H'
 gh : Same G' H'
 new : ∀ b, H b ≠ none -> G b = none -> G' b = none \/ ∃ xs, H b = some (.tup xs)
theorem Step.off {G H G' H' : Hp} (s : Step G H G' H') {b : Addr} {o : HO} (h : H b = some o) (n : ∀ xs, o ≠ .tup xs) (g : G b = none) : G' b = none := by
 rcases s.new b (by rw [h]; exact fun z => nomatch z) g with z | ⟨xs, z⟩
 ·exact z
 ·rw [h] at z; exact absurd (Option.some.inj z) (n xs)
theorem aC3 {H H' : Hp} (s : Same H H') {b : Addr} (h : H b ≠ none) : H' b ≠ none := by
 cases e : H b with
 | none => exact absurd e h
 | some o => rw [s b o e]; exact fun z => nomatch z
theorem Step.refl {G H : Hp} (s : Same G H) : Step G H G H := ⟨Same.refl _, Same.refl _, s, fun _ _ h => .inl h⟩
theorem Step.trans {G H G1 H1 G2 H2 : Hp} (a : Step G H G1 H1) (b : Step G1 H1 G2 H2) : Step G H G2 H2 :=
 ⟨a.g.trans b.g, a.h.trans b.h, b.gh, fun c hc hg => by
  rcases a.new c hc hg with z | z
  ·rcases b.new c (aC3 a.h hc) z with y | ⟨xs, y⟩
   ·exact .inl y
   ·cases e : H c with
    | none => exact absurd e hc
    | some o =>
     rw [a.h _ _ e] at y
     exact .inr ⟨xs, y⟩
  ·exact .inr z⟩
theorem Step.put {G H : Hp} {a : Addr} {o : HO} (s : Same G H) (e : H a = none) : Step G H (upd G a o) (upd H a o) :=
 ⟨Same.upd (Same.refl _) (s.free e) o, Same.upd (Same.refl _) e o, fun b u q => by
  by_cases z : b = a
  ·subst z; rw [a6] at q ⊢; exact q
  ·rw [aS z] at q ⊢; exact s b u q, fun b hb hg => by
  have z : b ≠ a := fun z => hb (z ▸ e)
  rw [aS z]; exact .inl hg⟩
theorem Step.lay {G H : Hp} {a : Addr} {o : HO} (s : Same G H) (e : H a = none) : Step G H G (upd H a o) :=
 ⟨Same.refl _, Same.upd (Same.refl _) e o, Same.upd s e o, fun _ _ h => .inl h⟩
def EOk (K : PySem.W.Frag) (W : Addr -> Option Nat) (Hs G H : Hp) (v : V) : Ev -> Prop
 | .p d => Rep K G v d
 | .f d => ∃ a o, v = .ref a /\ Hs a = none /\ G a = none /\ H a = some o /\ Cont K G o d
 | .b d => ∃ a i o, v = .ref a /\ W a = some i /\ H a = some o /\ Cont K G o d
 | .x C => ∃ e, v = .ref e /\ G e = some (aKs e (.ref C))
theorem EOk.step {K : PySem.W.Frag} {W : Addr -> Option Nat} {Hs Hs' G H G' H' : Hp} {v : V} {r : Ev} (h : EOk K W Hs G H v r.c) (s : Step G H G' H') : EOk K W Hs' G' H' v r.c := by
 cases r with
 | p d => exact Rep.mono s.g h
 | f d => exact Rep.mono s.g h
 | b d =>
  obtain ⟨a, i, o, h1, h2, h3, h4⟩ := h
  exact ⟨a, i, o, h1, h2, s.h _ _ h3, h4.mono s.g⟩
 | x C =>
  obtain ⟨e, h1, h2⟩ := h
  exact ⟨e, h1, s.g _ _ h2⟩
theorem EOk.c {K : PySem.W.Frag} {W : Addr -> Option Nat} {G H G1 H1 : Hp} {v : V} {r : Ev} (s : Step G H G1 H1) (h : EOk K W H G1 H1 v r) : ∃ G2, Step G H G2 H1 /\ EOk K W H G2 H1 v r.c := by
 cases r with
 | p d => exact ⟨G1, s, h⟩
 | b d => exact ⟨G1, s, h⟩
 | x d => exact ⟨G1, s, h⟩
 | f d =>
  obtain ⟨a, o, rfl, h1, h2, h3, h4⟩ := h
  refine ⟨upd G1 a o, ⟨s.g.trans (Same.upd (Same.refl _) h2 o), s.h, fun b u q => ?_, fun b hb hg => ?_⟩, (h4.mono (Same.upd (Same.refl _) h2 o)).rep a6⟩
  ·by_cases z : b = a
   ·subst z; rw [a6] at q; rw [h3]; exact q
   ·rw [aS z] at q; exact s.gh b u q
  ·have z : b ≠ a := fun z => hb (z ▸ h1)
   rw [aS z]; exact s.new b hb hg
structure SimH (B G0 G : Hp) (W : Addr -> Option Nat) (H : Hp) : Prop where
 gh : Same G H
 bh : Same B H
 g0 : Same G0 G
 gb : ∀ b, G b ≠ none -> G0 b ≠ none \/ B b = none \/ ∃ xs, B b = some (.tup xs)
 wf : ∀ a i, W a = some i -> G a = none /\ B a = none /\ ∃ o, H a = some o /\ ∀ xs, o ≠ .tup xs
theorem SimH.step {B G0 G H G' H' : Hp} {W : Addr -> Option Nat} (s : SimH B G0 G W H) (t : Step G H G' H') : SimH B G0 G' W H' := by
 refine ⟨t.gh, s.bh.trans t.h, s.g0.trans t.g, fun b hb => ?_, fun a i e => ?_⟩
 ·by_cases z : G b = none
  ·refine .inr ?_
   by_cases y : H b = none
   ·exact .inl (s.bh.free y)
   ·rcases t.new b y z with q | ⟨xs, q⟩
    ·exact absurd q hb
    ·cases e : B b with
     | none => exact .inl rfl
     | some o => rw [s.bh _ _ e] at q; exact .inr ⟨xs, q⟩
  ·exact s.gb b z
 ·obtain ⟨h1, h2, o, h3, h4⟩ := s.wf a i e
  exact ⟨t.off h3 h4 h1, h2, o, t.h _ _ h3, h4⟩
theorem Cont.mut {K : PySem.W.Frag} {G : Hp} {o : HO} {d : D} (h : Cont K G o d) : ∀ xs, o ≠ .tup xs := by
 intro xs z
 subst z
 cases h
def Slot (K : PySem.W.Frag) (W : Addr -> Option Nat) (G H : Hp) (i : Nat) (v : V) : L -> Prop
 | .p d => Rep K G v d
 | .o d => ∃ a o, v = .ref a /\ W a = some i /\ H a = some o /\ Cont K G o d
 | .x C => ∃ e, v = .ref e /\ G e = some (aKs e (.ref C))
 | .h a => v = .ref a
def SimS (K : PySem.W.Frag) (W : Addr -> Option Nat) (G H : Hp) (σ : L2.St) (en : En) : Prop := σ.length = en.length /\ ∀ i l, en[i]? = some (some l) -> ∃ v, σ[i]? = some (some v) /\ Slot K W G H i v l
theorem Slot.step {K : PySem.W.Frag} {W : Addr -> Option Nat} {G H G' H' : Hp} {i : Nat} {v : V} {l : L} (h : Slot K W G H i v l) (s : Step G H G' H') : Slot K W G' H' i v l := by
 cases l with
 | p d => exact Rep.mono s.g h
 | o d =>
  obtain ⟨a, o, h1, h2, h3, h4⟩ := h
  exact ⟨a, o, h1, h2, s.h _ _ h3, h4.mono s.g⟩
 | x C =>
  obtain ⟨e, h1, h2⟩ := h
  exact ⟨e, h1, s.g _ _ h2⟩
 | h a => exact h
theorem SimS.step {K : PySem.W.Frag} {W : Addr -> Option Nat} {G H G' H' : Hp} {σ : L2.St} {en : En} (h : SimS K W G H σ en) (s : Step G H G' H') : SimS K W G' H' σ en :=
 ⟨h.1, fun i l e => let ⟨v, e1, e2⟩ := h.2 i l e; ⟨v, e1, e2.step s⟩⟩
def PostE (K : PySem.W.Frag) (W : Addr -> Option Nat) (G H : Hp) (Q : VK) (r : Ev) : Prop := ∀ G' H' v, Step G H G' H' -> EOk K W H G' H' v r -> Q v H'
def PostB (G H : Hp) (Q : Bool -> Hp -> Prop) (b : Bool) : Prop := ∀ G' H', Step G H G' H' -> Q b H'
def EOks (K : PySem.W.Frag) (W : Addr -> Option Nat) (Hs G H : Hp) : List V -> List Ev -> Prop
 | [], [] => True
 | v :: vs, r :: rs => EOk K W Hs G H v r /\ EOks K W Hs G H vs rs
 | _, _ => False
def aDt (K : PySem.W.Frag) (W : Addr -> Option Nat) (G H : Hp) (Q : List V -> Hp -> Prop) (rs : List Ev) : Prop := ∀ G' H' vs, Step G H G' H' -> EOks K W H G' H' vs rs -> Q vs H'
def PostX (E : XK) (G H : Hp) (C : Addr) : Prop := ∀ G' H', Step G H G' H' -> E (.ref C) none H'
theorem PostE.step {K : PySem.W.Frag} {W : Addr -> Option Nat} {G H G' H' : Hp} {Q : VK} {r : Ev} (h : PostE K W G H Q r) (s : Step G H G' H') : PostE K W G' H' Q r := fun G2 H2 v s2 e => h G2 H2 v (s.trans s2) (by
 cases r with
 | p d => exact e
 | b d => exact e
 | x d => exact e
 | f d =>
  obtain ⟨a, o, h1, h2, h3, h4, h5⟩ := e
  exact ⟨a, o, h1, s.h.free h2, h3, h4, h5⟩)
theorem PostX.step {E : XK} {G H G' H' : Hp} {C : Addr} (h : PostX E G H C) (s : Step G H G' H') : PostX E G' H' C := fun G2 H2 s2 => h G2 H2 (s.trans s2)
theorem PostB.step {G H G' H' : Hp} {Q : Bool -> Hp -> Prop} {b : Bool} (h : PostB G H Q b) (s : Step G H G' H') : PostB G' H' Q b := fun G2 H2 s2 => h G2 H2 (s.trans s2)
def tE (K : PySem.W.Frag) (E : L2.St -> XK) (f : En -> Res Ev) : TE := fun σ H Q => ∃ B G0 G W en, SimH B G0 G W H /\ SimS K W G H σ en /\ wpR (f en) (PostE K W G H Q) (PostX (E σ) G H)
def DE (X : Cx) (E : L2.St -> XK) (e : Expr) (f : En -> Res Ev) : Prop := PE X e (tE X.K E f)
theorem DE.out {X : Cx} {E : L2.St -> XK} {e : Expr} {f : En -> Res Ev} (h : DE X E e f) : ∃ t, PE X e t /\ ∀ B G0 G W H σ en Q, SimH B G0 G W H -> SimS X.K W G H σ en -> wpR (f en) (PostE X.K W G H Q) (PostX (E σ) G H) -> t σ H Q :=
 ⟨_, h, fun B G0 G W H σ en Q h1 h2 h3 => ⟨B, G0, G, W, en, h1, h2, h3⟩⟩
theorem DE.in {X : Cx} {E : L2.St -> XK} {e : Expr} {f : En -> Res Ev} (h : ∃ t, PE X e t /\ ∀ B G0 G W H σ en Q, SimH B G0 G W H -> SimS X.K W G H σ en -> wpR (f en) (PostE X.K W G H Q) (PostX (E σ) G H) -> t σ H Q) : DE X E e f :=
 fun pins s σ H Q I ⟨B, G0, G, W, en, h1, h2, h3⟩ => let ⟨_, p, m⟩ := h; p pins s σ H Q I (m B G0 G W H σ en Q h1 h2 h3)
def tT (K : PySem.W.Frag) (E : L2.St -> XK) (f : En -> Res Bool) : TT := fun σ H Q => ∃ B G0 G W en, SimH B G0 G W H /\ SimS K W G H σ en /\ wpR (f en) (PostB G H Q) (PostX (E σ) G H)
def tA (K : PySem.W.Frag) (E : L2.St -> XK) (f : En -> Res (List Ev)) : TA := fun σ H Q => ∃ B G0 G W en, SimH B G0 G W H /\ SimS K W G H σ en /\ wpR (f en) (aDt K W G H Q) (PostX (E σ) G H)
def DT (X : Cx) (E : L2.St -> XK) (e : Expr) (f : En -> Res Bool) : Prop := PT X e (tT X.K E f)
def DW (X : Cx) (E : L2.St -> XK) (e : Expr) (f : En -> Res Bool) : Prop := PW X e (tT X.K E f)
def DA (X : Cx) (E : L2.St -> XK) (es : List Expr) (f : En -> Res (List Ev)) : Prop := PA X es (tA X.K E f)
section
variable {X : Cx} {E : L2.St -> XK} {e : Expr} {es : List Expr} {f : En -> Res Bool} {fr : En -> Res (List Ev)}
theorem DT.out (h : DT X E e f) : ∃ t, PT X e t /\ ∀ B G0 G W H σ en Q, SimH B G0 G W H -> SimS X.K W G H σ en -> wpR (f en) (PostB G H Q) (PostX (E σ) G H) -> t σ H Q :=
 ⟨_, h, fun B G0 G W H σ en Q h1 h2 h3 => ⟨B, G0, G, W, en, h1, h2, h3⟩⟩
theorem DT.in (h : ∃ t, PT X e t /\ ∀ B G0 G W H σ en Q, SimH B G0 G W H -> SimS X.K W G H σ en -> wpR (f en) (PostB G H Q) (PostX (E σ) G H) -> t σ H Q) : DT X E e f :=
 fun pins s σ H Q I ⟨B, G0, G, W, en, h1, h2, h3⟩ => let ⟨_, p, m⟩ := h; p pins s σ H Q I (m B G0 G W H σ en Q h1 h2 h3)
theorem DW.out (h : DW X E e f) : ∃ t, PW X e t /\ ∀ B G0 G W H σ en Q, SimH B G0 G W H -> SimS X.K W G H σ en -> wpR (f en) (PostB G H Q) (PostX (E σ) G H) -> t σ H Q :=
 ⟨_, h, fun B G0 G W H σ en Q h1 h2 h3 => ⟨B, G0, G, W, en, h1, h2, h3⟩⟩
theorem DW.in (h : ∃ t, PW X e t /\ ∀ B G0 G W H σ en Q, SimH B G0 G W H -> SimS X.K W G H σ en -> wpR (f en) (PostB G H Q) (PostX (E σ) G H) -> t σ H Q) : DW X E e f :=
 fun wh pins s σ H Q I ⟨B, G0, G, W, en, h1, h2, h3⟩ => let ⟨_, p, m⟩ := h; p wh pins s σ H Q I (m B G0 G W H σ en Q h1 h2 h3)
theorem DA.out (h : DA X E es fr) : ∃ t, PA X es t /\ ∀ B G0 G W H σ en Q, SimH B G0 G W H -> SimS X.K W G H σ en -> wpR (fr en) (aDt X.K W G H Q) (PostX (E σ) G H) -> t σ H Q :=
 ⟨_, h, fun B G0 G W H σ en Q h1 h2 h3 => ⟨B, G0, G, W, en, h1, h2, h3⟩⟩
theorem DA.in (h : ∃ t, PA X es t /\ ∀ B G0 G W H σ en Q, SimH B G0 G W H -> SimS X.K W G H σ en -> wpR (fr en) (aDt X.K W G H Q) (PostX (E σ) G H) -> t σ H Q) : DA X E es fr :=
 fun pos pins s σ H Q I ⟨B, G0, G, W, en, h1, h2, h3⟩ => let ⟨_, p, m⟩ := h; p pos pins s σ H Q I (m B G0 G W H σ en Q h1 h2 h3)
end
theorem DW.t {X : Cx} {E : L2.St -> XK} {e : Expr} {f : En -> Res Bool} (h : DW X E e f) : DT X E e f := h _
section
variable {X : Cx} {E : L2.St -> XK} {a b c e : Expr} {es : List Expr} {fa fb : En -> Res Ev} {fr : En -> Res (List Ev)} {pos : Pos}
theorem DE.go {K : PySem.W.Frag} {W : Addr -> Option Nat} {G H : Hp} {EE : XK} {Q : VK} {r : Res Ev} {k : Ev -> Res Ev} {Q' : VK} (hw : wpR (r.bind k) (PostE K W G H Q) (PostX EE G H))
  (h : ∀ (x : Ev) G1 H1 v, Step G H G1 H1 -> EOk K W H G1 H1 v x.c -> wpR (k x) (PostE K W G1 H1 Q) (PostX EE G1 H1) -> Q' v H1) : wpR r (PostE K W G H Q') (PostX EE G H) := by
 rw [bU] at hw
 refine bD hw (fun x hx G1 H1 v s e => ?_) fun C h => h
 obtain ⟨G2, s2, e2⟩ := e.c s
 exact h x G2 H1 v s2 e2 (bD hx (fun r h => h.step s2) fun C h => h.step s2)
theorem DE.goB {K : PySem.W.Frag} {W : Addr -> Option Nat} {G H : Hp} {EE : XK} {Q : Bool -> Hp -> Prop} {r : Res Ev} {k : Ev -> Res Bool} {Q' : VK} (hw : wpR (r.bind k) (PostB G H Q) (PostX EE G H))
  (h : ∀ (x : Ev) G1 H1 v, Step G H G1 H1 -> EOk K W H G1 H1 v x.c -> wpR (k x) (PostB G1 H1 Q) (PostX EE G1 H1) -> Q' v H1) : wpR r (PostE K W G H Q') (PostX EE G H) := by
 rw [bU] at hw
 refine bD hw (fun x hx G1 H1 v s e => ?_) fun C h => h
 obtain ⟨G2, s2, e2⟩ := e.c s
 exact h x G2 H1 v s2 e2 (bD hx (fun r h => h.step s2) fun C h => h.step s2)
def OpM (K : PySem.W.Frag) (r : R2) (op : Ev -> Ev -> Res Ev) : Prop := ∀ (W : Addr -> Option Nat) (G H : Hp) (v u : V) (x y : Ev) (Q : VK), Same G H -> EOk K W H G H v x.c -> EOk K W H G H u y.c -> wpR (op x.c y.c) (PostE K W G H Q) (fun _ => False) -> r v u H Q
def aH (op : Ev -> Ev -> Res Ev) (fa fb : En -> Res Ev) : En -> Res Ev := fun en => (fa en).bind fun x => (fb en).bind fun y => op x.c y.c
def NoX (op : Ev -> Ev -> Res Ev) : Prop := ∀ x y C, op x y ≠ .exc C
theorem noX {α : Type} {r : Res α} {Q : α -> Prop} {E E' : Addr -> Prop} (h : wpR r Q E) (n : ∀ C, r ≠ .exc C) : wpR r Q E' := by
 cases r with
 | ok a => exact h
 | exc C => exact absurd rfl (n C)
 | bad => exact h
theorem qU {ta tb : TE} {r : R2} {op : Ev -> Ev -> Res Ev} (ma : ∀ B G0 G W H σ en Q, SimH B G0 G W H -> SimS X.K W G H σ en -> wpR (fa en) (PostE X.K W G H Q) (PostX (E σ) G H) -> ta σ H Q)
  (mb : ∀ B G0 G W H σ en Q, SimH B G0 G W H -> SimS X.K W G H σ en -> wpR (fb en) (PostE X.K W G H Q) (PostX (E σ) G H) -> tb σ H Q) (hm : OpM X.K r op) (hn : NoX op) :
  ∀ B G0 G W H σ en Q, SimH B G0 G W H -> SimS X.K W G H σ en -> wpR (aH op fa fb en) (PostE X.K W G H Q) (PostX (E σ) G H) -> tOp r ta tb σ H Q := by
 intro B G0 G W H σ en Q hh hs hw
 refine ma B G0 G W H σ en _ hh hs (DE.go hw fun x G1 H1 v s1 e1 h1 => ?_)
 refine mb B G0 G1 W H1 σ en _ (hh.step s1) (hs.step s1) (DE.go h1 fun y G2 H2 u s2 e2 h2 => ?_)
 exact hm W G2 H2 v u x y Q s2.gh (e1.step s2) (by cases y <;> exact e2) (noX h2 (hn _ _))
theorem aU {op : Operator} {r : R2} {f : Ev -> Ev -> Res Ev} (ho : OpR X (binaryOp op) r) (hm : OpM X.K r f) (hn : NoX f) (ha : DE X E a fa) (hb : DE X E b fb) : DE X E (.BinOp a op b pos) (aH f fa fb) := by
 obtain ⟨ta, pa, ma⟩ := ha.out
 obtain ⟨tb, pb, mb⟩ := hb.out
 refine DE.in ?_
 exact ⟨_, aOw ho pa pb, qU ma mb hm hn⟩
theorem aCv {op : CmpOp} {r : R2} {f : Ev -> Ev -> Res Ev} (ho : OpR X (compareOp op) r) (hm : OpM X.K r f) (hn : NoX f) (ha : DE X E a fa) (hb : DE X E b fb) (hk : behindInMarks op b = false) : DE X E (.Compare a [op] [b] pos) (aH f fa fb) := by
 obtain ⟨ta, pa, ma⟩ := ha.out
 obtain ⟨tb, pb, mb⟩ := hb.out
 refine DE.in ?_
 exact ⟨_, aKa ho pa pb hk, qU ma mb hm hn⟩
def cR (r : Ev) : Res Bool := match r with
 | .p (.bool b) => .ok b
 | _ => .bad
def bY (f : En -> Res Ev) : En -> Res Bool := fun en => (f en).bind cR
theorem q8 {t : TE} (m : ∀ B G0 G W H σ en Q, SimH B G0 G W H -> SimS X.K W G H σ en -> wpR (fa en) (PostE X.K W G H Q) (PostX (E σ) G H) -> t σ H Q) :
  ∀ B G0 G W H σ en Q, SimH B G0 G W H -> SimS X.K W G H σ en -> wpR (bY fa en) (PostB G H Q) (PostX (E σ) G H) -> t σ H fun x H1 => ∃ k, x = .bl k /\ Q k H1 := by
 intro B G0 G W H σ en Q hh hs hw
 refine m B G0 G W H σ en _ hh hs (DE.goB hw fun x G1 H1 v s1 e1 h1 => ?_)
 cases x with
 | p d =>
  cases d with
  | bool k => cases e1; exact ⟨k, rfl, h1 G1 H1 (Step.refl s1.gh)⟩
  | _ => exact False.elim h1
 | _ => exact False.elim h1
theorem dY {op : CmpOp} {r : R2} {f : Ev -> Ev -> Res Ev} (ho : OpR X (compareOp op) r) (hm : OpM X.K r f) (hn : NoX f) (ha : DE X E a fa) (hb : DE X E b fb) (hk : behindInMarks op b = false) : DT X E (.Compare a [op] [b] pos) (bY (aH f fa fb)) := by
 obtain ⟨ta, pa, ma⟩ := ha.out
 obtain ⟨tb, pb, mb⟩ := hb.out
 refine DT.in ?_
 exact ⟨_, aIu ho pa pb hk, q8 (qU ma mb hm hn)⟩
theorem d4 (h : DE X E e fa) (he : ∀ whole, isTrue e X.env whole = (do let v <- whole; standAt e.pos; holding [v] (truthy v)) := by intro _; rfl) : DT X E e (bY fa) := by
 obtain ⟨t, p, m⟩ := h.out
 refine DT.in ?_
 exact ⟨_, aNs p he, q8 m⟩
def aD (i : Nat) : En -> Res Ev := fun en => match en[i]? with
 | some (some (.p d)) => .ok (.p d)
 | some (some (.o d)) => .ok (.b d)
 | some (some (.x C)) => .ok (.x C)
 | _ => .bad
theorem aLn {i : Nat} {x : Str} (hN : X.N[i]? = some x) (hv : Vis X.env.scope x) (hd : (x == ("__debug__" : Str)) = false := by decide) (hcd : (x == ("__classdict__" : Str)) = false := by decide) : DE X E (.Name x pos) (aD i) := by
 refine DE.in ?_
 refine ⟨_, aGj hN hv hd hcd, fun B G0 G W H σ en Q hh hs hw => ?_⟩
 unfold aD at hw
 split at hw
 ·rename_i d e
  obtain ⟨v, e1, e2⟩ := hs.2 i _ e
  exact ⟨v, e1, hw G H v (Step.refl hh.gh) e2⟩
 ·rename_i d e
  obtain ⟨v, e1, a, o, e2, e3, e4, e5⟩ := hs.2 i _ e
  exact ⟨v, e1, hw G H v (Step.refl hh.gh) ⟨a, i, o, e2, e3, e4, e5⟩⟩
 ·rename_i C e
  obtain ⟨v, e1, e2⟩ := hs.2 i _ e
  exact ⟨v, e1, hw G H v (Step.refl hh.gh) e2⟩
 ·exact hw.elim
def mC (d : D) : En -> Res Ev := fun _ => .ok (.p d)
theorem lA {v : V} {d : D} (h : ∀ G, Rep X.K G v d) : ∀ B G0 G W H σ en Q, SimH B G0 G W H -> SimS X.K W G H σ en -> wpR (mC d en) (PostE X.K W G H Q) (PostX (E σ) G H) -> tC v σ H Q :=
 fun B G0 G W H σ en Q hh hs hw => hw G H v (Step.refl hh.gh) (h G)
theorem aC {i j} : DE X E (.Constant (.int i) j pos) (mC (.int i)) := DE.in ⟨_, aHm, lA fun _ => .int i⟩
theorem nK {b j} : DE X E (.Constant (.bool b) j pos) (mC (.bool b)) := DE.in ⟨_, aOh, lA fun _ => .bl b⟩
theorem aM3 {x j} : DE X E (.Constant (.str x) j pos) (mC (.str x)) := DE.in ⟨_, aMq, lA fun _ => .str x⟩
variable {ga gb : En -> Res Bool} {rest : List Expr}
def wU (f g : En -> Res Bool) : En -> Res Bool := fun en => (f en).bind fun c => if c = true then g en else .ok false
def mOr (f g : En -> Res Bool) : En -> Res Bool := fun en => (f en).bind fun c => if c = true then .ok true else g en
def gY (f : En -> Res Bool) : En -> Res Bool := fun en => (f en).bind fun c => .ok (!c)
theorem aBa (ha : DT X E a ga) : DW X E (.BoolOp .And [a] pos) ga := let ⟨t, p, m⟩ := ha.out; DW.in ⟨t, aKb p, m⟩
theorem kW (ha : DT X E a ga) : DW X E (.BoolOp .Or [a] pos) ga := let ⟨t, p, m⟩ := ha.out; DW.in ⟨t, aMc p, m⟩
theorem aGo (ha : DT X E a ga) (hb : DW X E (.BoolOp .And (b :: rest) pos) gb) : DW X E (.BoolOp .And (a :: b :: rest) pos) (wU ga gb) := by
 obtain ⟨ta, pa, ma⟩ := ha.out
 obtain ⟨tb, pb, mb⟩ := hb.out
 refine DW.in ?_
 refine ⟨_, aK3 pa pb, fun B G0 G W H σ en Q hh hs hw => ma B G0 G W H σ en _ hh hs ?_⟩
 have hw : wpR ((ga en).bind _) _ _ := hw
 rw [bU] at hw
 refine bD hw (fun c hc G1 H1 s => ?_) fun C h => h
 cases c with
 | true => exact mb B G0 G1 W H1 σ en Q (hh.step s) (hs.step s) (bD hc (fun _ h => h.step s) fun _ h => h.step s)
 | false => exact hc G1 H1 s
theorem j5 (ha : DT X E a ga) (hb : DW X E (.BoolOp .Or (b :: rest) pos) gb) : DW X E (.BoolOp .Or (a :: b :: rest) pos) (mOr ga gb) := by
 obtain ⟨ta, pa, ma⟩ := ha.out
 obtain ⟨tb, pb, mb⟩ := hb.out
 refine DW.in ?_
 refine ⟨_, aOb pa pb, fun B G0 G W H σ en Q hh hs hw => ma B G0 G W H σ en _ hh hs ?_⟩
 have hw : wpR ((ga en).bind _) _ _ := hw
 rw [bU] at hw
 refine bD hw (fun c hc G1 H1 s => ?_) fun C h => h
 cases c with
 | false => exact mb B G0 G1 W H1 σ en Q (hh.step s) (hs.step s) (bD hc (fun _ h => h.step s) fun _ h => h.step s)
 | true => exact hc G1 H1 s
theorem fB (ha : DT X E a ga) : DT X E (.UnaryOp .Not a pos) (gY ga) := by
 obtain ⟨ta, pa, ma⟩ := ha.out
 refine DT.in ?_
 refine ⟨_, aMb pa, fun B G0 G W H σ en Q hh hs hw => ma B G0 G W H σ en _ hh hs ?_⟩
 have hw : wpR ((ga en).bind _) _ _ := hw
 rw [bU] at hw
 exact bD hw (fun c hc => hc) fun C h => h
def oU (f g : En -> Res Ev) : En -> Res Ev := fun en => (f en).bind fun c => match c with
 | .p (.bool true) => g en
 | .p (.bool false) => .ok (.p (.bool false))
 | _ => .bad
def aI8 (f g : En -> Res Ev) : En -> Res Ev := fun en => (f en).bind fun c => match c with
 | .p (.bool false) => g en
 | .p (.bool true) => .ok (.p (.bool true))
 | _ => .bad
def qM (f : En -> Res Ev) : En -> Res Ev := fun en => (f en).bind fun c => match c with
 | .p (.bool k) => .ok (.p (.bool (!k)))
 | _ => .bad
theorem aG1 {op} (h : DE X E a fa) : DE X E (.BoolOp op [a] pos) fa := let ⟨t, p, m⟩ := h.out; DE.in ⟨t, aM5 p, m⟩
theorem aGw (ha : DE X E a fa) (hb : DE X E (.BoolOp .And (b :: rest) pos) fb) : DE X E (.BoolOp .And (a :: b :: rest) pos) (oU fa fb) := by
 obtain ⟨ta, pa, ma⟩ := ha.out
 obtain ⟨tb, pb, mb⟩ := hb.out
 refine DE.in ?_
 refine ⟨_, aNo pa pb, fun B G0 G W H σ en Q hh hs hw => ma B G0 G W H σ en _ hh hs (DE.go hw fun x G1 H1 v s1 e1 h1 => ?_)⟩
 cases x with
 | p d =>
  cases d with
  | bool k =>
   cases e1
   cases k with
   | true => exact ⟨true, rfl, mb B G0 G1 W H1 σ en Q (hh.step s1) (hs.step s1) h1⟩
   | false => exact ⟨false, rfl, h1 G1 H1 _ (Step.refl s1.gh) (.bl false)⟩
  | _ => exact False.elim h1
 | _ => exact False.elim h1
theorem aLx (ha : DE X E a fa) : DE X E (.UnaryOp .Not a pos) (qM fa) := by
 obtain ⟨ta, pa, ma⟩ := ha.out
 refine DE.in ?_
 refine ⟨_, aNb pa, fun B G0 G W H σ en Q hh hs hw => ma B G0 G W H σ en _ hh hs (DE.go hw fun x G1 H1 v s1 e1 h1 => ?_)⟩
 cases x with
 | p d =>
  cases d with
  | bool k =>
   cases e1
   exact ⟨k, rfl, h1 G1 H1 _ (Step.refl s1.gh) (.bl _)⟩
  | _ => exact False.elim h1
 | _ => exact False.elim h1
def aT : En -> Res (List Ev) := fun _ => .ok []
def aB (f : En -> Res Ev) (g : En -> Res (List Ev)) : En -> Res (List Ev) := fun en => (f en).bind fun x => (g en).bind fun xs => .ok (x.c :: xs)
theorem aF : DA X E [] aT := DA.in ⟨_, lO, fun B G0 G W H σ en Q hh hs hw => hw G H [] (Step.refl hh.gh) trivial⟩
theorem aA (ha : DE X E e fa) (hr : DA X E es fr) (hst : starEach (e :: es) X.env = (false, eval e X.env) :: starEach es X.env := by rfl) : DA X E (e :: es) (aB fa fr) := by
 obtain ⟨ta, pa, ma⟩ := ha.out
 obtain ⟨tr, pr, mr⟩ := hr.out
 refine DA.in ?_
 refine ⟨_, iB pa pr hst, fun B G0 G W H σ en Q hh hs hw => ma B G0 G W H σ en _ hh hs ?_⟩
 have hw : wpR ((fa en).bind _) _ _ := hw
 rw [bU] at hw
 refine bD hw (fun x hx G1 H1 v s e1 => ?_) fun C h => h
 obtain ⟨G2, s2, e2⟩ := e1.c s
 refine mr B G0 G2 W H1 σ en _ (hh.step s2) (hs.step s2) ?_
 rw [bU] at hx
 refine bD hx (fun xs hxs G3 H3 vs s3 e3 => ?_) fun C h => h.step s2
 refine hxs G3 H3 (v :: vs) (s2.trans s3) ⟨e2.step s3, ?_⟩
 clear hxs hx hw
 induction xs generalizing vs with
 | nil => cases vs <;> exact e3
 | cons y ys ih =>
  cases vs with
  | nil => exact e3
  | cons u us =>
   refine ⟨?_, ih us e3.2⟩
   have z := e3.1
   cases y with
   | p d => exact z
   | b d => exact z
   | x d => exact z
   | f d =>
    obtain ⟨a, o, h1, h2, h3⟩ := z
    exact ⟨a, o, h1, s2.h.free h2, h3⟩
end
inductive Out where
 | nx (en : En)
 | rt (l : L)
 | bk (en : En)
 | ct (en : En)
 | ex (C : Addr) (en : En)
abbrev MS := En -> Option Out
def aJu (K : PySem.W.Frag) (B G H : Hp) (v : V) : L -> Prop
 | .p d => Rep K G v d
 | .o d => ∃ a o, v = .ref a /\ G a = none /\ B a = none /\ H a = some o /\ Cont K G o d
 | .x C => ∃ e, v = .ref e /\ G e = some (aKs e (.ref C))
 | .h _ => False
def PostS (K : PySem.W.Frag) (B G0 : Hp) (E : L2.St -> XK) (Dn : Ends) : Out -> Prop
 | .nx en => ∀ G W H σ, SimH B G0 G W H -> SimS K W G H σ en -> Dn.nx σ H
 | .bk en => ∀ G W H σ, SimH B G0 G W H -> SimS K W G H σ en -> Dn.bk σ H
 | .ct en => ∀ G W H σ, SimH B G0 G W H -> SimS K W G H σ en -> Dn.ct σ H
 | .rt l => ∀ G W H v, SimH B G0 G W H -> aJu K B G H v l -> Dn.rt v H
 | .ex C en => ∀ G W H σ, SimH B G0 G W H -> SimS K W G H σ en -> E σ (.ref C) none H
def wpO (o : Option Out) (P : Out -> Prop) : Prop := match o with
 | some r => P r
 | none => False
def tS (K : PySem.W.Frag) (E : L2.St -> XK) (f : MS) : TS := fun Dn σ H => ∃ B G0 G W en, SimH B G0 G W H /\ SimS K W G H σ en /\ wpO (f en) (PostS K B G0 E Dn)
def DS (X : Cx) (E : L2.St -> XK) (st : Stmt) (f : MS) : Prop := PS X st (tS X.K E f)
def DSs (X : Cx) (E : L2.St -> XK) (st : List Stmt) (f : MS) : Prop := PSs X st (tS X.K E f)
section
variable {X : Cx} {E : L2.St -> XK} {st : Stmt} {sts : List Stmt} {f g : MS} {fe : En -> Res Ev} {fc : En -> Res Bool} {e c : Expr} {pos : Pos}
theorem DS.in (h : ∃ t, PS X st t /\ ∀ B G0 G W H σ en Dn, SimH B G0 G W H -> SimS X.K W G H σ en -> wpO (f en) (PostS X.K B G0 E Dn) -> t Dn σ H) : DS X E st f :=
 fun pins s σ H Dn I ⟨B, G0, G, W, en, h1, h2, h3⟩ => let ⟨_, p, m⟩ := h; p pins s σ H Dn I (m B G0 G W H σ en Dn h1 h2 h3)
theorem DSs.in (h : ∃ t, PSs X sts t /\ ∀ B G0 G W H σ en Dn, SimH B G0 G W H -> SimS X.K W G H σ en -> wpO (f en) (PostS X.K B G0 E Dn) -> t Dn σ H) : DSs X E sts f :=
 fun pins s σ H Dn I ⟨B, G0, G, W, en, h1, h2, h3⟩ => let ⟨_, p, m⟩ := h; p pins s σ H Dn I (m B G0 G W H σ en Dn h1 h2 h3)
theorem DS.out (h : DS X E st f) : ∃ t, PS X st t /\ ∀ B G0 G W H σ en Dn, SimH B G0 G W H -> SimS X.K W G H σ en -> wpO (f en) (PostS X.K B G0 E Dn) -> t Dn σ H :=
 ⟨_, h, fun B G0 G W H σ en Dn h1 h2 h3 => ⟨B, G0, G, W, en, h1, h2, h3⟩⟩
theorem DSs.out (h : DSs X E sts f) : ∃ t, PSs X sts t /\ ∀ B G0 G W H σ en Dn, SimH B G0 G W H -> SimS X.K W G H σ en -> wpO (f en) (PostS X.K B G0 E Dn) -> t Dn σ H :=
 ⟨_, h, fun B G0 G W H σ en Dn h1 h2 h3 => ⟨B, G0, G, W, en, h1, h2, h3⟩⟩
def fE : MS := fun en => some (.nx en)
def cI (f g : MS) : MS := fun en => match f en with
 | some (.nx e) => g e
 | r => r
theorem dJ : DSs X E [] fE := DSs.in ⟨_, vT, fun B G0 G W H σ en Dn hh hs hw => hw G W H σ hh hs⟩
theorem aK (h : DS X E st f) : DSs X E [st] f := let ⟨t, p, m⟩ := h.out; DSs.in ⟨t, zQ p, m⟩
theorem aG (h1 : DS X E st f) (h2 : DSs X E sts g) : DSs X E (st :: sts) (cI f g) := by
 obtain ⟨t, p, m⟩ := h1.out
 obtain ⟨u, q, n⟩ := h2.out
 refine DSs.in ⟨_, jH p q, fun B G0 G W H σ en Dn hh hs hw => m B G0 G W H σ en _ hh hs ?_⟩
 unfold cI at hw
 cases ef : f en with
 | none => rw [ef] at hw; exact hw
 | some r =>
  rw [ef] at hw
  cases r with
  | nx e => exact fun G1 W1 H1 σ1 hh1 hs1 => n B G0 G1 W1 H1 σ1 e Dn hh1 hs1 hw
  | rt l => exact hw
  | bk e => exact hw
  | ct e => exact hw
  | ex C e => exact hw
theorem SimS.set {K : PySem.W.Frag} {W : Addr -> Option Nat} {G H : Hp} {σ : L2.St} {en : En} {i : Nat} {v : V} {l : L} (h : SimS K W G H σ en) (hl : Slot K W G H i v l) : SimS K W G H (σ.set i (some v)) (en.set i (some l)) := by
 refine ⟨by rw [List.length_set, List.length_set]; exact h.1, fun j m e => ?_⟩
 rw [List.getElem?_set] at e
 rw [List.getElem?_set]
 by_cases hj : i = j
 ·subst hj
  rw [if_pos rfl] at e
  split at e
  ·rename_i hlt
   cases e
   rw [if_pos rfl, if_pos (by rw [h.1]; exact hlt)]
   exact ⟨v, rfl, hl⟩
  ·cases e
 ·rw [if_neg hj] at e ⊢
  exact h.2 j m e
def owner (W : Addr -> Option Nat) (a : Addr) (i : Nat) : Addr -> Option Nat := fun b => if b = a then some i else W b
theorem aE8 {K : PySem.W.Frag} {B G0 G H : Hp} {W : Addr -> Option Nat} {σ : L2.St} {en : En} {i : Nat} {a : Addr} {o : HO} {d : D} (hh : SimH B G0 G W H) (hs : SimS K W G H σ en) (hW : W a = none) (hG : G a = none) (hB : B a = none) (hH : H a = some o) (hc : Cont K G o d) :
  SimH B G0 G (owner W a i) H /\ SimS K (owner W a i) G H (σ.set i (some (.ref a))) (en.set i (some (.o d))) := by
 refine ⟨⟨hh.gh, hh.bh, hh.g0, hh.gb, fun b j e => ?_⟩, SimS.set ⟨hs.1, fun j l e => ?_⟩ ⟨a, o, rfl, if_pos rfl, hH, hc⟩⟩
 ·unfold owner at e
  split at e
  ·rename_i z
   subst z
   exact ⟨hG, hB, o, hH, hc.mut⟩
  ·exact hh.wf b j e
 ·obtain ⟨v, e1, e2⟩ := hs.2 j l e
  refine ⟨v, e1, ?_⟩
  cases l with
  | p d => exact e2
  | x C => exact e2
  | h a => exact e2
  | o d =>
   obtain ⟨b, ob, h1, h2, h3, h4⟩ := e2
   refine ⟨b, ob, h1, ?_, h3, h4⟩
   unfold owner
   rw [if_neg (fun z => by rw [z, hW] at h2; cases h2)]
   exact h2
def dO (i : Nat) (fe : En -> Res Ev) : MS := fun en => match fe en with
 | .ok (.p d) => some (.nx (en.set i (some (.p d))))
 | .ok (.f d) => some (.nx (en.set i (some (.o d))))
 | .ok (.x C) => some (.nx (en.set i (some (.x C))))
 | .ok (.b _) => none
 | .exc C => some (.ex C en)
 | .bad => none
theorem SimH.lone {B G0 G H : Hp} {W : Addr -> Option Nat} (hh : SimH B G0 G W H) {a : Addr} (h : H a = none) : W a = none := by
 cases e : W a with
 | none => rfl
 | some i =>
  obtain ⟨_, _, o, q, _⟩ := hh.wf a i e
  rw [h] at q; cases q
theorem xX {te : TE} {i : Nat} (m : ∀ B G0 G W H σ en Q, SimH B G0 G W H -> SimS X.K W G H σ en -> wpR (fe en) (PostE X.K W G H Q) (PostX (E σ) G H) -> te σ H Q) :
  ∀ B G0 G W H σ en Dn, SimH B G0 G W H -> SimS X.K W G H σ en -> wpO (dO i fe en) (PostS X.K B G0 E Dn) -> te σ H fun x H1 => Dn.nx (σ.set i (some x)) H1 := by
 intro B G0 G W H σ en Dn hh hs hw
 refine m B G0 G W H σ en _ hh hs ?_
 unfold dO at hw
 cases ef : fe en with
 | bad => rw [ef] at hw; exact hw
 | exc C => rw [ef] at hw; exact fun G1 H1 s => hw G1 W H1 σ (hh.step s) (hs.step s)
 | ok r =>
  rw [ef] at hw
  cases r with
  | b d => exact hw.elim
  | p d => exact fun G1 H1 v s e => hw G1 W H1 _ (hh.step s) ((hs.step s).set e)
  | x C => exact fun G1 H1 v s e => hw G1 W H1 _ (hh.step s) ((hs.step s).set e)
  | f d =>
   rintro G1 H1 v s ⟨a, o, rfl, h1, h2, h3, h4⟩
   obtain ⟨q1, q2⟩ := aE8 (i := i) (hh.step s) (hs.step s) (hh.lone h1) h2 (hh.bh.free h1) h3 h4
   exact hw G1 _ H1 _ q1 q2
theorem a9 {i : Nat} {x : Str} {pos' : Pos} (hN : X.N.Nodup) (hi : X.N[i]? = some x) (hx : Loc X.env.scope x) (he : DE X E e fe) (hs : swapsWith e (some (.Name x pos')) pos.line X.env = pure false := by rfl) (hf : X.fn x = true \/ X.env.scope.names.lookup x = some .local := by first | exact .inl rfl | exact .inr rfl | assumption) :
  DS X E (.Assign [.Name x pos'] e pos) (dO i fe) := by
 obtain ⟨t, p, m⟩ := he.out
 exact DS.in ⟨_, aAq hN hi hx p hs hf, xX m⟩
def aFq : Ev -> L
 | .p d => .p d
 | .f d => .o d
 | .b d => .o d
 | .x C => .x C
def eP (fe : En -> Res Ev) : MS := fun en => match fe en with
 | .ok r => some (.rt (aFq r))
 | .exc C => some (.ex C en)
 | .bad => none
theorem bA (he : DE X E e fe) : DS X E (.Return (some e) pos) (eP fe) := by
 obtain ⟨t, p, m⟩ := he.out
 refine DS.in ⟨_, aLu p, fun B G0 G W H σ en Dn hh hs hw => m B G0 G W H σ en _ hh hs ?_⟩
 unfold eP at hw
 cases ef : fe en with
 | bad => rw [ef] at hw; exact hw
 | exc C => rw [ef] at hw; exact fun G1 H1 s => hw G1 W H1 σ (hh.step s) (hs.step s)
 | ok r =>
  rw [ef] at hw
  intro G1 H1 v s e
  refine hw G1 W H1 v (hh.step s) ?_
  cases r with
  | p d => exact e
  | x C => exact e
  | f d =>
   obtain ⟨a, o, h0, h1, h2, h3, h4⟩ := e
   exact ⟨a, o, h0, h2, hh.bh.free h1, h3, h4⟩
  | b d =>
   obtain ⟨a, i, o, h0, h1, h3, h4⟩ := e
   have z := (hh.step s).wf a i h1
   exact ⟨a, o, h0, z.1, z.2.1, h3, h4⟩
def kF (c : En -> Res Bool) (f g : MS) : MS := fun en => match c en with
 | .ok k => if k = true then f en else g en
 | .exc C => some (.ex C en)
 | .bad => none
theorem jQ {A B : List Stmt} (hc : DT X E c fc) (ha : DSs X E A f) (hb : DSs X E B g) : DS X E (.If c A B pos) (kF fc f g) := by
 obtain ⟨tc, pc, mc⟩ := hc.out
 obtain ⟨t, p, m⟩ := ha.out
 obtain ⟨u, q, n⟩ := hb.out
 refine DS.in ⟨_, aIo pc p q, fun B G0 G W H σ en Dn hh hs hw => mc B G0 G W H σ en _ hh hs ?_⟩
 unfold kF at hw
 cases ef : fc en with
 | bad => rw [ef] at hw; exact hw
 | exc C => rw [ef] at hw; exact fun G1 H1 s => hw G1 W H1 σ (hh.step s) (hs.step s)
 | ok k =>
  rw [ef] at hw
  intro G1 H1 s
  cases k with
  | true => exact m B G0 G1 W H1 σ en Dn (hh.step s) (hs.step s) hw
  | false => exact n B G0 G1 W H1 σ en Dn (hh.step s) (hs.step s) hw
def frz (i : Nat) (en : En) : En := match en[i]? with
 | some (some (.o d)) => en.set i (some (.p d))
 | _ => en
theorem aK1 {K : PySem.W.Frag} {B G0 G H : Hp} {W : Addr -> Option Nat} {σ : L2.St} {en : En} (i : Nat) (hh : SimH B G0 G W H) (hs : SimS K W G H σ en) : ∃ G' W', SimH B G0 G' W' H /\ SimS K W' G' H σ (frz i en) := by
 unfold frz
 split
 ·rename_i d e
  obtain ⟨v, e1, a, o, rfl, e2, e3, e4⟩ := hs.2 i _ e
  obtain ⟨w1, w2, w3⟩ := hh.wf a i e2
  have sg : Same G (upd G a o) := Same.upd (Same.refl _) w1 o
  refine ⟨upd G a o, fun b => if b = a then none else W b, ⟨fun b u q => ?_, hh.bh, hh.g0.trans sg, fun b hb => ?_, fun b j e => ?_⟩, by rw [List.length_set]; exact hs.1, fun j l e5 => ?_⟩
  ·by_cases z : b = a
   ·subst z; rw [a6] at q; rw [e3]; exact q
   ·rw [aS z] at q; exact hh.gh b u q
  ·by_cases z : b = a
   ·subst z; exact .inr (.inl w2)
   ·rw [aS z] at hb; exact hh.gb b hb
  ·split at e
   ·cases e
   ·rename_i z
    rw [aS z]; exact hh.wf b j e
  ·rw [List.getElem?_set] at e5
   by_cases hj : i = j
   ·subst hj
    rw [if_pos rfl] at e5
    split at e5
    ·cases e5
     exact ⟨_, e1, (e4.mono sg).rep a6⟩
    ·cases e5
   ·rw [if_neg hj] at e5
    obtain ⟨v, f1, f2⟩ := hs.2 j l e5
    refine ⟨v, f1, ?_⟩
    cases l with
    | p d => exact f2.mono sg
    | x C => obtain ⟨ea, g1, g2⟩ := f2; exact ⟨ea, g1, sg _ _ g2⟩
    | h a => exact f2
    | o d =>
     obtain ⟨b, ob, g1, g2, g3, g4⟩ := f2
     refine ⟨b, ob, g1, ?_, g3, g4.mono sg⟩
     show (if b = a then none else W b) = some j
     rw [if_neg (fun z => by rw [z, e2] at g2; exact hj (Option.some.inj g2))]
     exact g2
 ·exact ⟨G, W, hh, hs⟩
theorem iU (i : Nat) (h : DSs X E sts f) : DSs X E sts (fun en => f (frz i en)) := by
 obtain ⟨t, p, m⟩ := h.out
 refine DSs.in ⟨t, p, fun B G0 G W H σ en Dn hh hs hw => ?_⟩
 obtain ⟨G', W', h1, h2⟩ := aK1 i hh hs
 exact m B G0 G' W' H σ _ Dn h1 h2 hw
end
def mWh (c : En -> Res Bool) (f : MS) : Nat -> MS
 | 0, _ => none
 | n + 1, en => match c en with
  | .bad => none
  | .exc C => some (.ex C en)
  | .ok false => some (.nx en)
  | .ok true => match f en with
   | some (.nx e) => mWh c f n e
   | some (.ct e) => mWh c f n e
   | some (.bk e) => some (.nx e)
   | r => r
theorem pZ {c : En -> Res Bool} {f : MS} : ∀ {n : Nat} {en : En} {r : Out}, mWh c f n en = some r -> mWh c f (n + 1) en = some r
 | 0, _, _, h => by cases h
 | n + 1, en, r, h => by
  unfold mWh at h ⊢
  cases ec : c en with
  | bad => rw [ec] at h; exact h
  | exc C => rw [ec] at h; exact h
  | ok k =>
   rw [ec] at h
   cases k with
   | false => exact h
   | true =>
    dsimp only at h ⊢
    cases ef : f en with
    | none => rw [ef] at h; exact h
    | some o =>
     rw [ef] at h
     cases o with
     | nx e => exact pZ (n := n) h
     | ct e => exact pZ (n := n) h
     | bk e => exact h
     | rt l => exact h
     | ex C e => exact h
theorem aG0 {c : En -> Res Bool} {f : MS} {n m : Nat} {en : En} {r : Out} (h : mWh c f n en = some r) (l : n <= m) : mWh c f m en = some r := by
 induction l with
 | refl => exact h
 | step _ ih => exact pZ ih
open Classical in
noncomputable def jX (c : En -> Res Bool) (f : MS) : MS := fun en => if h : ∃ n r, mWh c f n en = some r then mWh c f h.choose en else none
theorem kM {c : En -> Res Bool} {f : MS} {n : Nat} {en : En} {r : Out} (h : mWh c f n en = some r) : jX c f en = some r := by
 unfold jX
 have hx : ∃ n r, mWh c f n en = some r := ⟨n, r, h⟩
 rw [dif_pos hx]
 obtain ⟨r', h'⟩ := hx.choose_spec
 rcases Nat.le_total n hx.choose with l | l
 ·exact aG0 h l
 ·have := aG0 h' l
  rw [h] at this
  rw [h']; exact this.symm
theorem vE {c : En -> Res Bool} {f : MS} {en : En} {P : Out -> Prop} (h : wpO (jX c f en) P) : ∃ n, wpO (mWh c f n en) P := by
 unfold jX at h
 split at h
 ·exact ⟨_, h⟩
 ·exact h.elim
section
variable {X : Cx} {E : L2.St -> XK} {st : Stmt} {sts : List Stmt} {f g : MS} {fe : En -> Res Ev} {fc : En -> Res Bool} {e c : Expr} {pos : Pos}
theorem mH (hp : PassesOwn (model X.prog X.w) X.A X.env X.xe) (hc : DT X E c fc) (hb : DSs X E sts f) : DS X E (.While c sts [] pos) (jX fc f) := by
 obtain ⟨tc, pc, mc⟩ := hc.out
 obtain ⟨t, p, m⟩ := hb.out
 refine DS.in ⟨_, aE1 hp pc p, fun B G0 G W H σ en Dn hh hs hw => ?_⟩
 obtain ⟨n0, hw⟩ := vE hw
 refine ⟨fun n σ H => ∃ G W en, SimH B G0 G W H /\ SimS X.K W G H σ en /\ wpO (mWh fc f n en) (PostS X.K B G0 E Dn), ⟨n0, G, W, en, hh, hs, hw⟩, ?_⟩
 rintro n σ H ⟨G, W, en, hh, hs, hw⟩
 cases n with
 | zero => exact hw.elim
 | succ n =>
  refine mc B G0 G W H σ en _ hh hs ?_
  unfold mWh at hw
  cases ec : fc en with
  | bad => rw [ec] at hw; exact hw
  | exc C => rw [ec] at hw; exact fun G1 H1 s => hw G1 W H1 σ (hh.step s) (hs.step s)
  | ok k =>
   rw [ec] at hw
   intro G1 H1 s
   cases k with
   | false => exact hw G1 W H1 σ (hh.step s) (hs.step s)
   | true =>
    refine ⟨fun σ' H' => ∃ G W en, SimH B G0 G W H' /\ SimS X.K W G H' σ' en /\ wpO (mWh fc f n en) (PostS X.K B G0 E Dn), fun σ' H' q => ⟨n, Nat.lt_succ_self n, q⟩, ?_⟩
    refine m B G0 G1 W H1 σ en _ (hh.step s) (hs.step s) ?_
    dsimp only at hw
    cases ef : f en with
    | none => rw [ef] at hw; exact hw
    | some o =>
     rw [ef] at hw
     cases o with
     | nx e => exact fun G2 W2 H2 σ2 h2 s2 => ⟨G2, W2, e, h2, s2, hw⟩
     | ct e => exact fun G2 W2 H2 σ2 h2 s2 => ⟨G2, W2, e, h2, s2, hw⟩
     | bk e => exact hw
     | rt l => exact hw
     | ex C e => exact hw
end
def aA9 (K : PySem.W.Frag) (ds : List D) (G1 : Hp) (J : It) : Prop := ∀ G H, Same G1 G -> Same G H ->
 (∀ i d, ds[i]? = some d -> J.go i H /\ ∀ v H', J.yld i H v H' -> ∃ G', Step G H G' H' /\ Rep K G' v d) /\ J.stop ds.length H
def tI (K : PySem.W.Frag) (E : L2.St -> XK) (f : En -> Res (List D)) : TI := fun σ H R => ∃ B G0 G W en, SimH B G0 G W H /\ SimS K W G H σ en /\ wpR (f en) (fun ds => ∀ G' H' J, Step G H G' H' -> aA9 K ds G' J -> R J H') (PostX (E σ) G H)
def DI (X : Cx) (E : L2.St -> XK) (tg e : Expr) (f : En -> Res (List D)) : Prop := PI X tg e (tI X.K E f)
def Kept (ks : List Nat) (σ σ' : L2.St) : Prop := σ'.length = σ.length /\ ∀ j, j ∉ ks -> σ'[j]? = σ[j]?
def tG (K : PySem.W.Frag) (ks : List Nat) (f : D -> En -> Option En) : TG := fun v σ H Q => ∃ G W en d en', Same G H /\ SimS K W G H σ en /\ Rep K G v d /\ f d en = some en' /\ ∀ σ', SimS K W G H σ' en' -> Kept ks σ σ' -> Q σ' H
def tGs (K : PySem.W.Frag) (ks : List Nat) (f : List D -> En -> Option En) : TGs := fun vs σ H Q => ∃ G W en ds en', Same G H /\ SimS K W G H σ en /\ Reps K G vs ds /\ f ds en = some en' /\ ∀ σ', SimS K W G H σ' en' -> Kept ks σ σ' -> Q σ' H
def DG (X : Cx) (tg : Expr) (ks : List Nat) (f : D -> En -> Option En) : Prop := PG X tg (tG X.K ks f)
def DGs (X : Cx) (tg : List Expr) (ks : List Nat) (f : List D -> En -> Option En) : Prop := PGs X tg (tGs X.K ks f)
theorem Kept.trans {ks ls : List Nat} {σ σ1 σ2 : L2.St} (a : Kept ks σ σ1) (b : Kept ls σ1 σ2) : Kept (ks ++ ls) σ σ2 :=
 ⟨b.1.trans a.1, fun j hj => (b.2 j fun z => hj (List.mem_append_right _ z)).trans (a.2 j fun z => hj (List.mem_append_left _ z))⟩
def aM (i : Nat) : D -> En -> Option En := fun d en => some (en.set i (some (.p d)))
def eA : List D -> En -> Option En := fun ds en => match ds with
 | [] => some en
 | _ => none
def aX (f : D -> En -> Option En) (g : List D -> En -> Option En) : List D -> En -> Option En := fun ds en => match ds with
 | [] => none
 | d :: r => match f d en with
  | none => none
  | some e => g r e
def d8 (n : Nat) (f : List D -> En -> Option En) : D -> En -> Option En := fun d en => match d with
 | .tuple ds => if ds.length = n then f ds en else none
 | _ => none
section
variable {X : Cx} {E : L2.St -> XK} {pos : Pos}
theorem DI.in {tg e : Expr} {f : En -> Res (List D)} (h : ∃ t, PI X tg e t /\ ∀ B G0 G W H σ en R, SimH B G0 G W H -> SimS X.K W G H σ en -> wpR (f en) (fun ds => ∀ G' H' J, Step G H G' H' -> aA9 X.K ds G' J -> R J H') (PostX (E σ) G H) -> t σ H R) : DI X E tg e f :=
 fun pins s σ H R I ⟨B, G0, G, W, en, h1, h2, h3⟩ => let ⟨_, p, m⟩ := h; p pins s σ H R I (m B G0 G W H σ en R h1 h2 h3)
theorem bQ {i : Nat} {x : Str} (hN : X.N.Nodup) (hi : X.N[i]? = some x) (hx : Loc X.env.scope x) (hf : X.fn x = true \/ X.env.scope.names.lookup x = some .local := by first | exact .inl rfl | exact .inr rfl | assumption) : DG X (.Name x pos) [i] (aM i) := by
 intro pins s σ H v u Q I r ⟨G, W, en, d, en', h1, h2, h3, h4, h5⟩
 refine uY hN hi hx hf pins s σ H v u Q I r ?_
 cases h4
 exact h5 _ (h2.set h3) ⟨List.length_set .., fun j hj => List.getElem?_set_ne (fun z => hj (by rw [z]; exact .head _))⟩
theorem jE : DGs X [] [] eA := by
 intro pins s σ H vs us Q I r ⟨G, W, en, ds, en', h1, h2, h3, h4, h5⟩
 refine aJ7 pins s σ H vs us Q I r ?_
 unfold eA at h4
 split at h4
 ·cases h4; cases h3; exact ⟨rfl, h5 _ h2 ⟨rfl, fun _ _ => rfl⟩⟩
 ·cases h4
theorem cH {e : Expr} {es : List Expr} {ks ls : List Nat} {f : D -> En -> Option En} {g : List D -> En -> Option En} (h1 : DG X e ks f) (h2 : DGs X es ls g)
  (hs : (assignEach (e :: es) X.env).map (·.2) = assign e X.env :: (assignEach es X.env).map (·.2) := by rfl) : DGs X (e :: es) (ks ++ ls) (aX f g) := by
 intro pins s σ H vs us Q I r ⟨G, W, en, ds, en', k1, k2, k3, k4, k5⟩
 refine aEw h1 h2 hs pins s σ H vs us Q I r ?_
 unfold aX at k4
 cases k3 with
 | nil => cases k4
 | @cons x xs d ds hx hr =>
  dsimp only at k4
  split at k4
  ·cases k4
  ·rename_i e1 q1
   exact ⟨x, xs, rfl, G, W, en, d, e1, k1, k2, hx, q1, fun σ' hσ hk => ⟨G, W, e1, ds, en', k1, hσ, hr, k4, fun σ2 q1 q2 => k5 σ2 q1 (hk.trans q2)⟩⟩
theorem lY {es : List Expr} {k : Nat} {ks : List Nat} {f : List D -> En -> Option En} {n : Nat} (hc : X.calm = true) (h : DGs X es ks f) (hn : (assignEach es X.env).length = n := by rfl) (hst : (assignEach es X.env).findIdx? (·.1) = none := by rfl) : DG X (.Tuple es k pos) ks (d8 n f) := by
 intro pins s σ H v u Q I r ⟨G, W, en, d, en', k1, k2, k3, k4, k5⟩
 refine aMg hc h hn hst pins s σ H v u Q I r ?_
 unfold d8 at k4
 split at k4
 ·rename_i ds
  split at k4
  ·rename_i hl
   cases k3 with
   | @tup a xs _ ha hr => exact ⟨a, xs, rfl, SqT.of (k1 _ _ ha), by rw [hr.length]; exact hl, G, W, en, ds, en', k1, k2, hr, k4, k5⟩
  ·cases k4
 ·cases k4
def dP (tg : D -> En -> Option En) (f : MS) : List D -> MS
 | [], en => some (.nx en)
 | d :: ds, en => match tg d en with
  | none => none
  | some e1 => match f e1 with
   | some (.nx e2) => dP tg f ds e2
   | some (.ct e2) => dP tg f ds e2
   | some (.bk e2) => some (.nx e2)
   | r => r
def uG (fi : En -> Res (List D)) (tg : D -> En -> Option En) (f : MS) : MS := fun en => match fi en with
 | .ok ds => dP tg f ds en
 | .exc C => some (.ex C en)
 | .bad => none
theorem SimH.lower {B G0 G1 G H H1 : Hp} {W W1 : Addr -> Option Nat} (h : SimH B G1 G W H) (h1 : SimH B G0 G1 W1 H1) : SimH B G0 G W H :=
 ⟨h.gh, h.bh, h1.g0.trans h.g0, fun b hb => (h.gb b hb).elim (fun z => h1.gb b z) .inr, h.wf⟩
theorem SimH.raise {B G0 G H : Hp} {W : Addr -> Option Nat} (h : SimH B G0 G W H) : SimH B G G W H := ⟨h.gh, h.bh, Same.refl _, fun _ hb => .inl hb, h.wf⟩
theorem PostS.lower {K : PySem.W.Frag} {B G0 G1 H1 : Hp} {W1 : Addr -> Option Nat} {Dn : Ends} {r : Out} (h : PostS K B G0 E Dn r) (h1 : SimH B G0 G1 W1 H1) : PostS K B G1 E Dn r := by
 cases r with
 | nx en => exact fun G W H σ a b => h G W H σ (a.lower h1) b
 | bk en => exact fun G W H σ a b => h G W H σ (a.lower h1) b
 | ct en => exact fun G W H σ a b => h G W H σ (a.lower h1) b
 | rt l => exact fun G W H σ a b => h G W H σ (a.lower h1) b
 | ex C en => exact fun G W H σ a b => h G W H σ (a.lower h1) b
theorem iJ {tg iter : Expr} {body : List Stmt} {fi : En -> Res (List D)} {ks : List Nat} {g : D -> En -> Option En} {f : MS} (hp : PassesOwn (model X.prog X.w) X.A X.env X.xe) (hc : X.calm = true) (hi : DI X E tg iter fi) (hg : DG X tg ks g) (hb : DSs X E body f)
  (hs : ∀ x, foldedSetIterable iter X.env x = pure x := by intro _; rfl) : DS X E (.For tg iter body [] pos) (uG fi g f) := by
 obtain ⟨t, p, m⟩ := hb.out
 refine DS.in ⟨_, aGl hp hc hi hg p hs, fun B G0 G W H σ en Dn hh hs hw => ⟨B, G0, G, W, en, hh, hs, ?_⟩⟩
 unfold uG at hw
 cases ef : fi en with
 | bad => rw [ef] at hw; exact hw
 | exc C => rw [ef] at hw; exact fun G1 H1 s => hw G1 W H1 σ (hh.step s) (hs.step s)
 | ok ds =>
  rw [ef] at hw
  intro G1 H1 J s1 hJ
  have hh1 := hh.step s1
  refine ⟨fun i n σ H => n = ds.length - i /\ i <= ds.length /\ ∃ G W en, SimH B G1 G W H /\ SimS X.K W G H σ en /\ wpO (dP g f (ds.drop i) en) (PostS X.K B G0 E Dn),
   ⟨ds.length, rfl, Nat.zero_le _, G1, W, en, hh1.raise, hs.step s1, hw⟩, ?_⟩
  rintro i n σ H ⟨rfl, hi, G, W, en, hh, hs, hw⟩
  obtain ⟨j1, j2⟩ := hJ G H hh.g0 hh.gh
  by_cases hlt : i < ds.length
  ·refine .inr ?_
   obtain ⟨jg, jy⟩ := j1 i ds[i] (List.getElem?_eq_getElem hlt)
   rw [List.drop_eq_getElem_cons hlt] at hw
   unfold dP at hw
   refine ⟨jg, fun σ' H' => ∃ G W en, SimH B G1 G W H' /\ SimS X.K W G H' σ' en /\ wpO (dP g f (ds.drop (i + 1)) en) (PostS X.K B G0 E Dn), fun σ' H' q => ⟨ds.length - (i + 1), by omega, rfl, hlt, q⟩, fun v H' hy => ?_⟩
   obtain ⟨G2, s2, rv⟩ := jy v H' hy
   cases eg : g ds[i] en with
   | none => rw [eg] at hw; exact hw.elim
   | some e1 =>
    rw [eg] at hw
    dsimp only at hw
    refine ⟨G2, W, en, ds[i], e1, s2.gh, hs.step s2, rv, eg, fun σ' hσ _ => ?_⟩
    refine m B G1 G2 W H' σ' e1 _ (hh.step s2) hσ ?_
    cases ef2 : f e1 with
    | none => rw [ef2] at hw; exact hw
    | some o =>
     rw [ef2] at hw
     cases o with
     | nx e => exact fun G2 W2 H2 σ2 h2 s2 => ⟨G2, W2, e, h2, s2, hw⟩
     | ct e => exact fun G2 W2 H2 σ2 h2 s2 => ⟨G2, W2, e, h2, s2, hw⟩
     | bk e => exact PostS.lower (E := E) (Dn := Dn) (r := .nx e) hw hh1
     | rt l => exact PostS.lower (E := E) (Dn := Dn) (r := .rt l) hw hh1
     | ex C e => exact PostS.lower (E := E) (Dn := Dn) (r := .ex C e) hw hh1
  ·have e : i = ds.length := by omega
   subst e
   rw [List.drop_length] at hw
   exact .inl ⟨j2, hw G W H σ (hh.lower hh1) hs⟩
def aFe (r : Ev) : Res (List D) := match r with
 | .p (.list ds) => .ok ds
 | _ => .bad
def iV (fe : En -> Res Ev) : En -> Res (List D) := fun en => (fe en).bind fun r => aFe r.c
theorem dB {tg e : Expr} {fe : En -> Res Ev} (he : DE X E e fe) : DI X E tg e (iV fe) := by
 obtain ⟨t, p, m⟩ := he.out
 refine DI.in ⟨_, aH9 p, fun B G0 G W H σ en R hh hs hw => m B G0 G W H σ en _ hh hs ?_⟩
 have hw : wpR ((fe en).bind _) _ _ := hw
 rw [bU] at hw
 refine bD hw (fun r hr G1 H1 v s e => ?_) fun C h => h
 obtain ⟨G2, s2, e2⟩ := e.c s
 cases er : r.c with
 | p d =>
  rw [er] at hr e2
  cases d with
  | list ds =>
   cases e2 with
   | @lst a xs _ ha hrs =>
    refine ⟨a, rfl, ⟨xs, s2.gh.seq (.inl ha)⟩, hr G2 H1 _ s2 fun G3 H3 k1 k2 => ⟨fun i d ed => ?_, xs, (k1.trans k2).seq (.inl ha), Nat.le_of_eq hrs.length⟩⟩
    obtain ⟨x, ex, rx⟩ := hrs.get' ed
    refine ⟨⟨xs, x, (k1.trans k2).seq (.inl ha), ex⟩, fun v H' hy => ?_⟩
    obtain ⟨rfl, hy⟩ := hy
    have := hy xs ((k1.trans k2).seq (.inl ha))
    rw [ex] at this
    cases this
    exact ⟨G3, Step.refl k2, rx.mono k1⟩
  | _ => exact False.elim hr
 | f d => rw [er] at hr; exact False.elim hr
 | b d => rw [er] at hr; exact False.elim hr
 | x C => rw [er] at hr; exact False.elim hr
def yZ (lo : Int) (n : Nat) : List D := (List.range n).map fun (k : Nat) => PyData.int (lo + (k : Int))
def vR (rs : List Ev) : Res (List D) := match rs with
 | [.p (.int i), .p (.int j)] => if -(2 ^ 62) <= i /\ i < 2 ^ 62 /\ -(2 ^ 62) <= j /\ j < 2 ^ 62 then .ok (yZ i (j - i).toNat) else .bad
 | _ => .bad
theorem yD (K : PySem.W.Frag) (lo : Int) (n : Nat) (G1 : Hp) : aA9 K (yZ lo n) G1 (Itr lo n) := fun G H _ k2 => by
 refine ⟨fun i d ed => ?_, by show n <= _; unfold yZ; rw [List.length_map, List.length_range]; exact Nat.le_refl _⟩
 unfold yZ at ed
 rw [List.getElem?_map] at ed
 by_cases hi : i < n
 ·rw [List.getElem?_range hi] at ed
  cases ed
  refine ⟨hi, fun v H' hy => ?_⟩
  obtain ⟨rfl, rfl⟩ := hy
  exact ⟨G, Step.refl k2, .int _⟩
 ·rw [List.getElem?_eq_none (by rw [List.length_range]; omega)] at ed
  cases ed
def aEn (r : List Ev -> Res (List D)) (fr : En -> Res (List Ev)) : En -> Res (List D) := fun en => (fr en).bind r
theorem rV {tg a b : Expr} {fr : En -> Res (List Ev)} {p : Pos} (hg : Gl X "range") (hm : X.mg "range" = none) (ha : DA X E [a, b] fr) (hs : starEach [a, b] X.env = [(false, eval a X.env), (false, eval b X.env)] := by rfl) (hs2 : starEach [b] X.env = [(false, eval b X.env)] := by rfl) :
  DI X E tg (.Call (.Name "range" p) [a, b] [] pos) (aEn vR fr) := by
 obtain ⟨t, q, m⟩ := ha.out
 refine DI.in ⟨_, aDc hg hm q hs hs2, fun B G0 G W H σ en R hh hs hw => m B G0 G W H σ en _ hh hs ?_⟩
 have hw : wpR ((fr en).bind _) _ _ := hw
 rw [bU] at hw
 refine bD hw (fun rs hr G1 H1 vs s e => ?_) fun C h => h
 unfold vR at hr
 split at hr
 ·rename_i i j
  split at hr
  ·rename_i hj
   match vs, e with
   | [v, u], ⟨e1, e2, _⟩ =>
    cases e1
    cases e2
    exact ⟨i, j, rfl, hj, hr G1 H1 _ s (yD _ _ _ _)⟩
  ·exact False.elim hr
 ·exact False.elim hr
end
def mV : Ev -> Option L
 | .p d => some (.p d)
 | .x C => some (.x C)
 | .b _ => none
 | .f _ => none
def aBf : Ev -> Option L
 | .p d => some (.p d)
 | .b d => some (.p d)
 | .x _ => none
 | .f _ => none
def dX (g : Ev -> Option L) : List Ev -> Option (List L)
 | [] => some []
 | r :: rs => match g r with
  | none => none
  | some l => match dX g rs with
   | none => none
   | some ls => some (l :: ls)
def nE : L -> Ev
 | .p d => .p d
 | .o d => .f d
 | .x C => .x C
 | .h a => .x a
mutual
def lfD : D -> Bool
 | .list _ => false
 | .dict _ => false
 | .tuple ds => lfA ds
 | _ => true
def lfA : List D -> Bool
 | [] => true
 | d :: ds => lfD d && lfA ds
end
def lfP : List (D × D) -> Bool
 | [] => true
 | p :: r => lfD p.2 && lfP r
def aI0 : L -> Bool
 | .p d => lfD d
 | .o (.list ds) => lfA ds
 | .o (.dict kvs) => lfP kvs
 | _ => false
def fK (n : Nat) (m : List L -> Res L) (rs : List Ev) : Res Ev := match dX mV rs with
 | some ls => if ls.length = n then (m ls).bind fun l => .ok (nE l) else .bad
 | none => match dX aBf rs with
  | some ls => if ls.length = n then (m ls).bind fun l => if aI0 l = true then .ok (nE l) else .bad else .bad
  | none => .bad
def aL (n : Nat) (m : List L -> Res L) (fr : En -> Res (List Ev)) : En -> Res Ev := fun en => (fr en).bind (fK n m)
def aO1 (K : PySem.W.Frag) (G : Hp) (v : V) : L -> Prop
 | .p d => Rep K G v d
 | .o _ => False
 | .x C => ∃ e, v = .ref e /\ G e = some (aKs e (.ref C))
 | .h _ => False
def ArgsOk (K : PySem.W.Frag) (G : Hp) : List V -> List L -> Prop
 | [], [] => True
 | v :: vs, l :: ls => aO1 K G v l /\ ArgsOk K G vs ls
 | _, _ => False
theorem ArgsOk.length {K : PySem.W.Frag} {G : Hp} : ∀ {vs : List V} {ls : List L}, ArgsOk K G vs ls -> vs.length = ls.length
 | [], [], _ => rfl
 | _ :: _, _ :: _, h => by rw [List.length_cons, List.length_cons, ArgsOk.length h.2]
def spM (K : PySem.W.Frag) (n : Nat) (m : List L -> Res L) : Sp := fun vs H Q E => vs.length = n /\ ∃ G ls, Same G H /\ ArgsOk K G vs ls /\
 wpR (m ls) (fun l => ∀ G' H' v, Step G H G' H' -> aJu K H G' H' v l -> Q v H') (fun C => ∀ G' H', Step G H G' H' -> E (.ref C) none H')
theorem y8 {K : PySem.W.Frag} {W : Addr -> Option Nat} {Hs G H : Hp} : ∀ {rs : List Ev} {ls : List L} {vs : List V}, dX mV rs = some ls -> EOks K W Hs G H vs rs -> ArgsOk K G vs ls
 | [], _, [], h, _ => by cases h; exact trivial
 | [], _, _ :: _, _, e => e.elim
 | _ :: _, _, [], _, e => e.elim
 | r :: rs, ls, v :: vs, h, e => by
  unfold dX at h
  cases r with
  | p d =>
   cases er : dX mV rs with
   | none => rw [er] at h; cases h
   | some ls' => rw [er] at h; cases h; exact ⟨e.1, y8 er e.2⟩
  | x C =>
   cases er : dX mV rs with
   | none => rw [er] at h; cases h
   | some ls' => rw [er] at h; cases h; exact ⟨e.1, y8 er e.2⟩
  | b d => cases h
  | f d => cases h
def both (W : Addr -> Option Nat) (G H : Hp) : Hp := fun b => match W b with
 | some _ => H b
 | none => G b
theorem nZ {W : Addr -> Option Nat} {B G0 G H : Hp} (hh : SimH B G0 G W H) : Same G (both W G H) /\ Same (both W G H) H := by
 refine ⟨fun b o e => ?_, fun b o e => ?_⟩
 ·unfold both
  cases ew : W b with
  | none => exact e
  | some i => rw [(hh.wf b i ew).1] at e; cases e
 ·unfold both at e
  cases ew : W b with
  | none => rw [ew] at e; exact hh.gh b o e
  | some i => rw [ew] at e; exact e
theorem aCd {K : PySem.W.Frag} {W : Addr -> Option Nat} {Hs B G0 G H : Hp} (hh : SimH B G0 G W H) : ∀ {rs : List Ev} {ls : List L} {vs : List V}, dX aBf rs = some ls -> EOks K W Hs G H vs rs -> ArgsOk K (both W G H) vs ls
 | [], _, [], h, _ => by cases h; exact trivial
 | [], _, _ :: _, _, e => e.elim
 | _ :: _, _, [], _, e => e.elim
 | r :: rs, ls, v :: vs, h, e => by
  unfold dX at h
  cases r with
  | p d =>
   cases er : dX aBf rs with
   | none => rw [er] at h; cases h
   | some ls' => rw [er] at h; cases h; exact ⟨Rep.mono (nZ hh).1 e.1, aCd hh er e.2⟩
  | b d =>
   cases er : dX aBf rs with
   | none => rw [er] at h; cases h
   | some ls' =>
    rw [er] at h; cases h
    refine ⟨?_, aCd hh er e.2⟩
    obtain ⟨a, i, o, rfl, h1, h2, h3⟩ := e.1
    exact (h3.mono (nZ hh).1).rep (by unfold both; rw [h1]; exact h2)
  | x d => cases h
  | f d => cases h
mutual
theorem xQ {K : PySem.W.Frag} {G G' : Hp} (k : ∀ b xs, G b = some (.tup xs) -> G' b = some (.tup xs)) : ∀ {v : V} {d : D}, lfD d = true -> Rep K G v d -> Rep K G' v d
 | _, _, _, .non => .non
 | _, _, _, .bl b => .bl b
 | _, _, _, .int i => .int i
 | _, _, _, .str x => .str x
 | _, _, hf, .tup h r => .tup (k _ _ h) (qW k (by unfold lfD at hf; exact hf) r)
 | _, _, hf, .lst _ _ => by unfold lfD at hf; cases hf
 | _, _, hf, .dT _ _ => by unfold lfD at hf; cases hf
 | _, _, hf, .dK _ _ => by unfold lfD at hf; cases hf
theorem qW {K : PySem.W.Frag} {G G' : Hp} (k : ∀ b xs, G b = some (.tup xs) -> G' b = some (.tup xs)) : ∀ {vs : List V} {ds : List D}, lfA ds = true -> Reps K G vs ds -> Reps K G' vs ds
 | _, _, _, .nil => .nil
 | _, _, hf, .cons h r => by
  unfold lfA at hf
  have hf := Bool.and_eq_true_iff.mp hf
  exact .cons (xQ k hf.1 h) (qW k hf.2 r)
end
theorem aBc {K : PySem.W.Frag} {G G' : Hp} (k : ∀ b xs, G b = some (.tup xs) -> G' b = some (.tup xs)) : ∀ {kv : List (List Key × V)} {kvs : List (D × D)}, lfP kvs = true -> RepT K G kv kvs -> RepT K G' kv kvs
 | _, _, _, .nil => .nil
 | _, _, hf, .cons h r => by
  unfold lfP at hf
  have hf := Bool.and_eq_true_iff.mp hf
  exact .cons (xQ k hf.1 h) (aBc k hf.2 r)
theorem aB9 {K : PySem.W.Frag} {G G' : Hp} (k : ∀ b xs, G b = some (.tup xs) -> G' b = some (.tup xs)) : ∀ {kv : List (Key × V)} {kvs : List (D × D)}, lfP kvs = true -> RepK K G kv kvs -> RepK K G' kv kvs
 | _, _, _, .nil => .nil
 | _, _, hf, .cons h r => by
  unfold lfP at hf
  have hf := Bool.and_eq_true_iff.mp hf
  exact .cons (xQ k hf.1 h) (aB9 k hf.2 r)
def pB (W : Addr -> Option Nat) (G : Hp) : Hp := fun b => match W b with
 | some _ => none
 | none => G b
theorem aEk {K : PySem.W.Frag} {W : Addr -> Option Nat} {H1 G H Hs : Hp} {v : V} {l : L} (hf : aI0 l = true) (hH : Hs = Hs) (hs : ∀ b, H1 b = none -> Hs b = none) (k : ∀ b xs, G b = some (.tup xs) -> pB W G b = some (.tup xs)) (h : aJu K H1 G H v l) : EOk K W Hs (pB W G) H v (nE l) := by
 have n0 : ∀ b, G b = none -> pB W G b = none := fun b e => by
  unfold pB
  cases W b with
  | none => exact e
  | some _ => rfl
 cases l with
 | x C => cases hf
 | h a => cases hf
 | p d => exact xQ k hf h
 | o d =>
  obtain ⟨a, o, rfl, h1, h2, h3, h4⟩ := h
  refine ⟨a, o, rfl, hs _ h2, n0 _ h1, h3, ?_⟩
  cases h4 with
  | lst r => exact .lst (qW k hf r)
  | dT r => exact .dT (aBc k hf r)
  | dK r => exact .dK (aB9 k (by unfold aI0 at hf; unfold lfP at hf; exact (Bool.and_eq_true_iff.mp hf).2) r)
theorem aDb {K : PySem.W.Frag} {W : Addr -> Option Nat} {B G0 G H G1 H1 : Hp} {n : Nat} {m : List L -> Res L} {rs : List Ev} {vs : List V} {Q : VK} {EE : XK} (hh : SimH B G0 G W H) (s : Step G H G1 H1) (e : EOks K W H G1 H1 vs rs)
  (hr : wpR (fK n m rs) (PostE K W G H Q) (PostX EE G H)) : spM K n m vs H1 Q EE := by
 unfold fK at hr
 split at hr
 ·rename_i ls el
  split at hr
  ·rename_i hn
   have ha := y8 el e
   refine ⟨by rw [ha.length]; exact hn, G1, ls, s.gh, ha, ?_⟩
   rw [bU] at hr
   refine bD hr (fun l hl G2 H2 v s2 rv => hl G2 H2 v (s.trans s2) ?_) fun C h G2 H2 s2 => h G2 H2 (s.trans s2)
   cases l with
   | p d => exact rv
   | x C => exact rv
   | h a => exact rv.elim
   | o d =>
    obtain ⟨a, o, h1, h2, h3, h4, h5⟩ := rv
    exact ⟨a, o, h1, s.h.free h3, h2, h4, h5⟩
  ·exact hr.elim
 ·split at hr
  ·rename_i ls el
   split at hr
   ·rename_i hn
    have hh1 := hh.step s
    have ha := aCd hh1 el e
    obtain ⟨k1, k2⟩ := nZ hh1
    refine ⟨by rw [ha.length]; exact hn, both W G1 H1, ls, k2, ha, ?_⟩
    rw [bU] at hr
    refine bD hr (fun l hl G2 H2 v s2 rv => ?_) fun C h G2 H2 s2 => h G1 H2 (s.trans ⟨Same.refl _, s2.h, s.gh.trans s2.h, fun _ _ q => .inl q⟩)
    split at hl
    ·rename_i hf
     have kt : ∀ b xs, G2 b = some (.tup xs) -> pB W G2 b = some (.tup xs) := fun b xs eb => by
      unfold pB
      cases ew : W b with
      | none => exact eb
      | some i =>
       obtain ⟨_, _, o, e1, e2⟩ := hh1.wf b i ew
       have e3 := s2.gh _ _ eb
       rw [s2.h _ _ e1] at e3
       exact absurd (Option.some.inj e3) (e2 xs)
     refine hl (pB W G2) H2 v ⟨fun b o eb => ?_, s.h.trans s2.h, fun b o eb => ?_, fun b hb hg => ?_⟩ (aEk hf rfl (fun b e => s.h.free e) kt rv)
     ·have e1 := s.g _ _ eb
      unfold pB
      cases ew : W b with
      | none => exact s2.g _ _ (k1 _ _ e1)
      | some i => rw [(hh1.wf b i ew).1] at e1; cases e1
     ·unfold pB at eb
      cases ew : W b with
      | none => rw [ew] at eb; exact s2.gh _ _ eb
      | some i => rw [ew] at eb; cases eb
     ·unfold pB
      cases ew : W b with
      | some i => exact .inl rfl
      | none =>
       rcases s.new b hb hg with z | z
       ·have z2 : both W G1 H1 b = none := by unfold both; rw [ew]; exact z
        rcases s2.new b (aC3 s.h hb) z2 with y | ⟨xs, y⟩
        ·exact .inl y
        ·cases e : H b with
         | none => exact absurd e hb
         | some o => rw [s.h _ _ e] at y; exact .inr ⟨xs, y⟩
       ·exact .inr z
    ·exact hl.elim
   ·exact hr.elim
  ·exact hr.elim
section
variable {X : Cx} {E : L2.St -> XK} {k : Nat} {f : Addr} {fd : FuncData} {ps : List Str} {x : Str} {p pos : Pos} {e : Expr} {es : List Expr} {fr : En -> Res (List Ev)} {n : Nat} {m : List L -> Res L}
theorem aKj (F : FnOk X.prog X.w X.K X.mg X.base (CXr X.prog X.w) k f fd ps (spM X.K n m)) (hr : Room k X.A) (hg : Gl X x) (hm : X.mg x = some (.ref f)) (hk : PySem.W.keepIn X.K (.ref f) = true) (hb : Binds X.K fd ps []) (hx : oK (CXr X.prog X.w) X E)
  (ha : DA X E (e :: es) fr) (hdb : (x == ("__debug__" : Str)) = false := by decide) (he : starEach (e :: es) X.env = (false, eval e X.env) :: starEach es X.env := by rfl) (hpl : (backTo pos (starEach es X.env)).any (·.1) = false := by rfl) :
  DE X E (.Call (.Name x p) (e :: es) [] pos) (aL n m fr) := by
 obtain ⟨t, q, mm⟩ := ha.out
 refine DE.in ⟨_, aFb F hr hg hm hk hb hx q hdb he hpl, fun B G0 G W H σ en Q hh hs hw => mm B G0 G W H σ en _ hh hs ?_⟩
 have hw : wpR ((fr en).bind _) _ _ := hw
 rw [bU] at hw
 exact bD hw (fun rs hr G1 H1 vs s e => aDb hh s e hr) fun C h => h
def o9 (K : PySem.W.Frag) (r : List V -> Hp -> VK -> Prop) (f : List Ev -> Res Ev) : Prop := ∀ (W : Addr -> Option Nat) (Hs G H : Hp) (vs : List V) (rs : List Ev) (Q : VK), Same G H -> EOks K W Hs G H vs rs -> wpR (f rs) (PostE K W G H Q) (fun _ => False) -> r vs H Q
def aDj (f : List Ev -> Res Ev) : Prop := ∀ rs C, f rs ≠ .exc C
def aN (f : List Ev -> Res Ev) (fr : En -> Res (List Ev)) : En -> Res Ev := fun en => (fr en).bind f
theorem pM {r : List V -> Hp -> VK -> Prop} {f : List Ev -> Res Ev} {t : TA} (hm : o9 X.K r f) (hn : aDj f) (mm : ∀ B G0 G W H σ en Q, SimH B G0 G W H -> SimS X.K W G H σ en -> wpR (fr en) (aDt X.K W G H Q) (PostX (E σ) G H) -> t σ H Q) :
  ∀ B G0 G W H σ en Q, SimH B G0 G W H -> SimS X.K W G H σ en -> wpR (aN f fr en) (PostE X.K W G H Q) (PostX (E σ) G H) -> tCB r t σ H Q := by
 intro B G0 G W H σ en Q hh hs hw
 refine mm B G0 G W H σ en _ hh hs ?_
 have hw : wpR ((fr en).bind _) _ _ := hw
 rw [bU] at hw
 exact bD hw (fun rs hr G1 H1 vs s e => hm W H G1 H1 vs rs Q s.gh e (noX (bD hr (fun _ h => h.step s) fun _ h => h) (hn rs))) fun C h => h
theorem cW {id : String} {r : List V -> Hp -> VK -> Prop} {f : List Ev -> Res Ev} (hc : l5 X (.builtin id) r) (hM : o9 X.K r f) (hn : aDj f) (hg : Gl X x) (hm : X.mg x = none) (hv : bootBuiltins x = some (.builtin id)) (ha : DA X E (e :: es) fr) (hnn : x ≠ "__name__" := by decide) (hdb : (x == ("__debug__" : Str)) = false := by decide)
  (he : starEach (e :: es) X.env = (false, eval e X.env) :: starEach es X.env := by rfl) (hpl : (backTo pos (starEach es X.env)).any (·.1) = false := by rfl) : DE X E (.Call (.Name x p) (e :: es) [] pos) (aN f fr) := by
 obtain ⟨t, q, mm⟩ := ha.out
 exact DE.in ⟨_, w5 hc hg hm hv q hnn hdb he hpl, pM hM hn mm⟩
theorem oF {T : String} {r : List V -> Hp -> VK -> Prop} {f : List Ev -> Res Ev} (hc : l5 X (.type T) r) (hM : o9 X.K r f) (hn : aDj f) (hg : Gl X x) (hm : X.mg x = none) (hv : bootBuiltins x = some (.type T)) (ha : DA X E (e :: es) fr) (hnn : x ≠ "__name__" := by decide) (hdb : (x == ("__debug__" : Str)) = false := by decide)
  (he : starEach (e :: es) X.env = (false, eval e X.env) :: starEach es X.env := by rfl) (hpl : (backTo pos (starEach es X.env)).any (·.1) = false := by rfl) : DE X E (.Call (.Name x p) (e :: es) [] pos) (aN f fr) := by
 obtain ⟨t, q, mm⟩ := ha.out
 exact DE.in ⟨_, aBe hc hg hm hv q hnn hdb he hpl, pM hM hn mm⟩
end
def bG (n : Nat) (ls : List L) : En := ls.map some ++ List.replicate (n - ls.length) none
def e9 (n : Nat) (f : MS) (ls : List L) : Res L := match f (bG n ls) with
 | some (.nx _) => .ok (.p .none)
 | some (.rt l) => .ok l
 | some (.ex C _) => .exc C
 | _ => .bad
theorem pQ {K : PySem.W.Frag} {W : Addr -> Option Nat} {G H : Hp} : ∀ {vs : List V} {ls : List L} (i : Nat) (l : L), ArgsOk K G vs ls -> ls[i]? = some l -> ∃ v, vs[i]? = some v /\ ∀ j, Slot K W G H j v l
 | [], [], _, _, _, e => by simp at e
 | v :: vs, l :: ls, 0, m, h, e => by
  simp at e; subst e
  refine ⟨v, rfl, fun j => ?_⟩
  have z := h.1
  cases l with
  | p d => exact z
  | x C => exact z
  | h a => exact z.elim
  | o d => exact z.elim
 | v :: vs, l :: ls, i + 1, m, h, e => by
  have := pQ (W := W) (H := H) i m h.2 (by simpa using e)
  simpa using this
theorem zW {K : PySem.W.Frag} {W : Addr -> Option Nat} {G H : Hp} {N : List Str} {vs : List V} {ls : List L} (h : ArgsOk K G vs ls) : SimS K W G H (L2.start N vs) (bG N.length ls) := by
 have hl := h.length
 refine ⟨by unfold L2.start bG; simp [hl], fun i l e => ?_⟩
 unfold bG at e
 by_cases hi : i < ls.length
 ·rw [List.getElem?_append_left (by rw [List.length_map]; exact hi), List.getElem?_map] at e
  cases e2 : ls[i]? with
  | none => rw [e2] at e; cases e
  | some l' =>
   rw [e2] at e
   cases e
   obtain ⟨v, e3, e4⟩ := pQ (W := W) (H := H) i l h e2
   refine ⟨v, ?_, e4 i⟩
   unfold L2.start
   rw [List.getElem?_append_left (by rw [List.length_map, hl]; exact hi), List.getElem?_map, e3]
   rfl
 ·rw [List.getElem?_append_right (by rw [List.length_map]; omega), List.getElem?_replicate] at e
  split at e <;> cases e
theorem uQ {G H G' H' : Hp} {W : Addr -> Option Nat} (h : SimH H G G' W H') : Step G H G' H' := ⟨h.g0, h.bh, h.gh, fun b hb hg => by
 cases e : G' b with
 | none => exact .inl rfl
 | some o =>
  rcases h.gb b (by rw [e]; exact fun z => nomatch z) with z | z | z
  ·exact absurd hg z
  ·exact absurd z hb
  ·exact .inr z⟩
theorem s8 {K : PySem.W.Frag} {N : List Str} {n : Nat} {m : List L -> Res L} {fm : MS} {vs : List V} {H : Hp} {Q : VK} {E : XK} (h : spM K n m vs H Q E) (hm : ∀ ls, m ls = .bad \/ e9 N.length fm ls = m ls) :
  tS K (fun _ => E) fm { nx := fun _ H' => Q .non H', rt := Q } (L2.start N vs) H := by
 obtain ⟨hl, G, ls, gh, ha, hw⟩ := h
 refine ⟨H, G, G, fun _ => none, bG N.length ls, ⟨gh, Same.refl _, Same.refl _, fun _ hb => .inl hb, fun a i e => nomatch e⟩, zW ha, ?_⟩
 rcases hm ls with e | e
 ·rw [e] at hw; exact hw.elim
 ·rw [<- e] at hw
  unfold e9 at hw
  cases ef : fm (bG N.length ls) with
  | none => rw [ef] at hw; exact hw
  | some o =>
   rw [ef] at hw
   cases o with
   | nx en => exact fun G' W' H' σ' h1 _ => hw G' H' .non (uQ h1) .non
   | rt l => exact fun G' W' H' v h1 h2 => hw G' H' v (uQ h1) h2
   | bk en => exact hw.elim
   | ct en => exact hw.elim
   | ex C en => exact fun G' W' H' σ' h1 _ => hw G' H' (uQ h1)
section
variable {P : Program} {w : World} {K : PySem.W.Frag} {mg : Str -> Option Value} {base : Heap}
theorem bC {N : List Str} {qual : Str} {scope : Scope} {f : Addr} {cd : Value} {A : Around} {outer : List Env} {s : Shared} {H : Hp} {E : XK} : oK (CXr P w) (pL (CXr P w) P w K mg base N qual scope f cd A outer s H E) (fun _ => E) :=
 fun pins σ H s e s' I h => aPc pins σ H s e s' I h
theorem aJd {X : Cx} : oK (CXr P w) X (fun _ => E0) := fun _ _ _ _ _ _ _ ⟨_, _, _, _, _, _, _, z⟩ => z.elim
theorem fnM {x qual : Str} {st : Stmt} {f : Addr} {fd : FuncData} {N ps : List Str} {k n : Nat} {m : List L -> Res L} (F : Fun K x qual st f fd) (S : aY N ps (aJ st)) (hn : n = ps.length)
  (hbody : ∀ (cdv : Value) (A : Around) (outer : List Env) (s : Shared) (H : Hp) (E : XK), Room k (A.deeper (envOfC qual (aJ st) s.heap.objs.size f cdv)) ->
   ∃ fm, DSs (pL (CXr P w) P w K mg base N qual (aJ st) f cdv A outer s H E) (fun _ => E) (eJ st) fm /\ ∀ ls, m ls = .bad \/ e9 N.length fm ls = m ls) : FnOk P w K mg base (CXr P w) (k + 1) f fd ps (spM K n m) := by
 refine F.okX S (fun vs H Q E h => ?_) (fun cdv A outer s H vs Q E hr h => ?_)
 ·rw [<- hn]; exact h.1
 ·obtain ⟨fm, hd, hm⟩ := hbody cdv A outer s H E hr
  exact ⟨_, hd, s8 h hm⟩
end
def jW (C : Addr) (fr : En -> Res (List Ev)) : MS := fun en => match fr en with
 | .ok rs => if rs.length <= 1000 then some (.ex C en) else none
 | .exc C => some (.ex C en)
 | .bad => none
theorem EOks.length {K : PySem.W.Frag} {W : Addr -> Option Nat} {Hs G H : Hp} : ∀ {vs : List V} {rs : List Ev}, EOks K W Hs G H vs rs -> vs.length = rs.length
 | [], [], _ => rfl
 | [], _ :: _, h => h.elim
 | _ :: _, [], h => h.elim
 | _ :: _, _ :: _, h => by rw [List.length_cons, List.length_cons, EOks.length h.2]
section
variable {X : Cx}
theorem aEf {E : XK} {x : Str} {e₀ : Expr} {rest : List Expr} {fr : En -> Res (List Ev)} {C : Addr} {bm : List Value} {B newId initId : String} {np cpos pos : Pos} (hx : aBu X E) (hc : X.calm = true) (hg : Gl X x) (O : OwnCls x C bm newId X.mg X.base)
  (FB : ExcBaseFacts B newId initId bm) (ha : DA X (fun _ => E) (e₀ :: rest) fr) (hdb : (x == ("__debug__" : Str)) = false := by decide)
  (he : starEach (e₀ :: rest) X.env = (false, eval e₀ X.env) :: starEach rest X.env := by rfl) (hpl : (backTo cpos (starEach rest X.env)).any (·.1) = false := by rfl) :
  DS X (fun _ => E) (.Raise (some (.Call (.Name x np) (e₀ :: rest) [] cpos)) none pos) (jW C fr) := by
 obtain ⟨t, q, m⟩ := ha.out
 refine DS.in ⟨_, aD6 hx hc hg O FB q hdb he hpl, fun B G0 G W H σ en Dn hh hs hw => m B G0 G W H σ en _ hh hs ?_⟩
 unfold jW at hw
 cases ef : fr en with
 | bad => rw [ef] at hw; exact hw
 | exc C => rw [ef] at hw; exact fun G1 H1 s => hw G1 W H1 σ (hh.step s) (hs.step s)
 | ok rs =>
  rw [ef] at hw
  intro G1 H1 vs s e
  dsimp only at hw
  split at hw
  ·rename_i hl
   exact ⟨by rw [e.length]; exact Nat.le_trans hl (by decide), hw G1 W H1 σ (hh.step s) (hs.step s)⟩
  ·exact hw.elim
end
def k9 : List Ev -> Option (List D)
 | [] => some []
 | r :: rs => match r with
  | .p d => match k9 rs with
   | some ds => some (d :: ds)
   | none => none
  | _ => none
theorem oW {K : PySem.W.Frag} {W : Addr -> Option Nat} {Hs G H : Hp} : ∀ {rs : List Ev} {ds : List D} {vs : List V}, k9 rs = some ds -> EOks K W Hs G H vs rs -> Reps K G vs ds
 | [], _, [], h, _ => by cases h; exact .nil
 | [], _, _ :: _, _, e => e.elim
 | _ :: _, _, [], _, e => e.elim
 | r :: rs, ds, v :: vs, h, e => by
  unfold k9 at h
  cases r with
  | p d =>
   dsimp only at h
   cases er : k9 rs with
   | none => rw [er] at h; cases h
   | some ds' => rw [er] at h; cases h; exact .cons e.1 (oW er e.2)
  | x C => cases h
  | b d => cases h
  | f d => cases h
def dI (rs : List Ev) : Res Ev := match k9 rs with
 | some ds => if ds.length <= 1000 then .ok (.p (.tuple ds)) else .bad
 | none => .bad
def iN (rs : List Ev) : Res Ev := match k9 rs with
 | some ds => if ds.length <= 1000 then .ok (.f (.list ds)) else .bad
 | none => .bad
section
variable {X : Cx} {E : L2.St -> XK} {es : List Expr} {fr : En -> Res (List Ev)} {pos : Pos}
theorem d3 {x1} (h : DA X E es fr) : DE X E (.Tuple es x1 pos) (aN dI fr) := by
 obtain ⟨t, q, m⟩ := h.out
 refine DE.in ⟨_, aLv q, fun B G0 G W H σ en Q hh hs hw => m B G0 G W H σ en _ hh hs ?_⟩
 have hw : wpR ((fr en).bind _) _ _ := hw
 rw [bU] at hw
 refine bD hw (fun rs hr G1 H1 vs s e => ?_) fun C h => h
 unfold dI at hr
 split at hr
 ·rename_i ds el
  have rp := oW el e
  split at hr
  ·rename_i hl
   refine ⟨by rw [rp.length]; exact Nat.le_trans hl (by decide), fun p hp => ?_⟩
   have st := Step.put (o := .tup vs) s.gh hp
   exact hr _ _ _ (s.trans st) (.tup a6 (rp.mono st.g))
  ·exact False.elim hr
 ·exact False.elim hr
theorem nY (h : DA X E es fr) : DE X E (.List es pos) (aN iN fr) := by
 obtain ⟨t, q, m⟩ := h.out
 refine DE.in ⟨_, aNc q, fun B G0 G W H σ en Q hh hs hw => m B G0 G W H σ en _ hh hs ?_⟩
 have hw : wpR ((fr en).bind _) _ _ := hw
 rw [bU] at hw
 refine bD hw (fun rs hr G1 H1 vs s e => ?_) fun C h => h
 unfold iN at hr
 split at hr
 ·rename_i ds el
  have rp := oW el e
  split at hr
  ·rename_i hl
   refine ⟨by rw [rp.length]; exact Nat.le_trans hl (by decide), fun p hp => ?_⟩
   have st := Step.lay (o := .lst vs) s.gh hp
   exact hr _ _ _ (s.trans st) ⟨p, _, rfl, s.h.free hp, s.gh.free hp, a6, .lst rp⟩
  ·exact False.elim hr
 ·exact False.elim hr
end
def sM (g : D -> Option (Option D)) : List D -> Option (List D)
 | [] => some []
 | d :: ds => match g d with
  | none => none
  | some o => match sM g ds with
   | none => none
   | some r => some (match o with
    | some y => y :: r
    | none => r)
def aFc (o : Option (Option L)) : Option L := match o with
 | some (some (.p d)) => some (.p d)
 | some (some (.x C)) => some (.x C)
 | _ => none
def uK (js : List Nat) (en : En) : En := js.map fun j => aFc en[j]?
def mS : En -> Res Bool := fun _ => .ok true
def cA (n : Nat) (js : List Nat) (tg : D -> En -> Option En) (ft : En -> Res Bool) (fe : En -> Res Ev) (en : En) (d : D) : Option (Option D) := match tg d (List.replicate n none ++ uK js en) with
 | none => none
 | some e => match ft e with
  | .ok true => match fe e with
   | .ok r => match r.c with
    | .p y => some (some y)
    | _ => none
   | _ => none
  | .ok false => some none
  | _ => none
def aJv (g : D -> Option (Option D)) (ds : List D) : Res Ev := if ds.length <= 100000 then match sM g ds with
  | some r => .ok (.f (.list r))
  | none => .bad
 else .bad
def jR (n : Nat) (js : List Nat) (fi : En -> Res (List D)) (tg : D -> En -> Option En) (ft : En -> Res Bool) (fe : En -> Res Ev) : En -> Res Ev := fun en => (fi en).bind fun ds => aJv (cA n js tg ft fe en) ds
def DTs (X : Cx) (ifs : List Expr) (f : En -> Res Bool) : Prop := PTs X ifs (tT X.K (fun _ => E0) f)
theorem aOp {G H : Hp} (h : Same G H) : SimH H G G (fun _ => none) H := ⟨h, Same.refl _, Same.refl _, fun _ hb => .inl hb, fun a i e => nomatch e⟩
theorem xP {K : PySem.W.Frag} {W : Addr -> Option Nat} {G H : Hp} {σ : L2.St} {en : En} (n : Nat) (js : List Nat) (h : SimS K W G H σ en) : SimS K (fun _ => none) G H (List.replicate n none ++ lL js σ) (List.replicate n none ++ uK js en) := by
 refine ⟨by unfold lL uK; simp, fun i l e => ?_⟩
 by_cases hi : i < n
 ·rw [List.getElem?_append_left (by rw [List.length_replicate]; exact hi), List.getElem?_replicate] at e
  split at e <;> cases e
 ·rw [List.getElem?_append_right (by rw [List.length_replicate]; omega), List.length_replicate] at e ⊢
  unfold uK at e
  unfold lL
  rw [List.getElem?_map] at e ⊢
  cases ej : js[i - n]? with
  | none => rw [ej] at e; cases e
  | some j =>
   rw [ej] at e
   have e' : aFc en[j]? = some l := Option.some.inj e
   unfold aFc at e'
   split at e'
   ·rename_i d q
    cases e'
    obtain ⟨v, h1, h2⟩ := h.2 j _ q
    exact ⟨v, by show some ((σ[j]?).getD none) = _; rw [h1]; rfl, h2⟩
   ·rename_i d q
    cases e'
    obtain ⟨v, h1, h2⟩ := h.2 j _ q
    exact ⟨v, by show some ((σ[j]?).getD none) = _; rw [h1]; rfl, h2⟩
   ·cases e'
section
variable {X : Cx} {E : L2.St -> XK} {pos : Pos}
theorem lG : DTs X [] mS := fun pins s σ H Q I ⟨B, G0, G, W, en, h1, h2, h3⟩ => aHv pins s σ H Q I (h3 G H (Step.refl h1.gh))
theorem aH3 {c : Expr} {f : En -> Res Bool} (h : DT X (fun _ => E0) c f) : DTs X [c] f := aJ5 h
theorem w8 {elt iter tg : Expr} {scope : Scope} {ifs : List Expr} {n : Nat} {js ks : List Nat} {fi : En -> Res (List D)} {g : D -> En -> Option En} {ft : En -> Res Bool} {fe : En -> Res Ev} {xs ys : List Str} {cl : List (Str × Addr)} (hc : X.calm = true) (hi : DI X E tg iter fi)
  (hcl : aIe X scope cl) (hcap : o7 X scope cl ys js) (hcell : ∀ y ∈ scope.names, y.2 ≠ .cell) (hkind : scope.kind = .function) (hnames : ∀ y ∈ scope.names, y.2 = .local -> scope.names.lookup y.1 = some .local) (hn : xs.length = n) (hks : ∀ j ∈ ks, j < n)
  (hg : ∀ C s₀ H₀ ex pn, DG (bT X scope cl C (xs ++ ys) s₀ H₀ ex pn) tg ks g) (ht : ∀ C s₀ H₀ ex pn, DTs (bT X scope cl C (xs ++ ys) s₀ H₀ ex pn) ifs ft) (hb : ∀ C s₀ H₀ ex pn, DE (bT X scope cl C (xs ++ ys) s₀ H₀ ex pn) (fun _ => E0) elt fe)
  : ∀ B G0 G W H σ en Q, SimH B G0 G W H -> SimS X.K W G H σ en -> wpR (jR n js fi g ft fe en) (PostE X.K W G H Q) (PostX (E σ) G H) -> xY (tI X.K E fi) (tG X.K ks g) (tT X.K (fun _ => E0) ft) (tE X.K (fun _ => E0) fe) xs.length js σ H Q := by
 subst hn
 refine fun B G0 G W H σ en Q hh hs hw => ⟨B, G0, G, W, en, hh, hs, ?_⟩
 have hw : wpR ((fi en).bind _) _ _ := hw
 rw [bU] at hw
 refine bD hw (fun ds hds G1 H1 J s1 hJ D hD => ?_) fun C h => h
 unfold aJv at hds
 split at hds
 case isFalse => exact hds.elim
 rename_i hlen
 split at hds
 case h_2 => exact hds.elim
 rename_i r em
 have gD : G1 D = none := s1.gh.free hD
 have aPg : ∀ {G2 H2 : Hp} {y : List V}, Step G1 H1 G2 H2 -> G2 D = none -> Step G1 H1 G2 (upd H2 D (.lst y)) := fun st hg2 => by
  refine ⟨st.g, fun b o e => ?_, fun b o e => ?_, st.new⟩
  ·rw [aS (bE e hD)]; exact st.h b o e
  ·rw [aS (bE e hg2)]; exact st.gh b o e
 refine ⟨ds.length, fun i ys H2 => i <= ds.length /\ ys.length <= i /\ ∃ G2 rs rest, Step G1 H1 G2 H2 /\ G2 D = none /\ H2 D = some (.lst ys) /\ Reps X.K G2 ys rs /\ sM (cA xs.length js g ft fe en) (ds.drop i) = some rest /\ rs ++ rest = r,
  ⟨Nat.zero_le _, Nat.zero_le _, G1, [], r, Step.lay s1.gh hD, gD, a6, .nil, em, rfl⟩, ?_⟩
 rintro i zs H2 ⟨hi, hzl, G2, rs, rest, st, g2, h2, rp, em2, er⟩
 obtain ⟨j1, j2⟩ := hJ G2 H2 st.g st.gh
 by_cases hlt : i < ds.length
 ·refine .inr ⟨hlt, ?_⟩
  obtain ⟨jg, jy⟩ := j1 i ds[i] (List.getElem?_eq_getElem hlt)
  refine ⟨jg, fun v H3 hy => ?_⟩
  obtain ⟨G3, s3, rv⟩ := jy v H3 hy
  rw [List.drop_eq_getElem_cons hlt] at em2
  unfold sM at em2
  cases ec : cA xs.length js g ft fe en ds[i] with
  | none => rw [ec] at em2; cases em2
  | some o =>
   rw [ec] at em2
   dsimp only at em2
   cases em3 : sM (cA xs.length js g ft fe en) (ds.drop (i + 1)) with
   | none => rw [em3] at em2; cases em2
   | some rest' =>
    rw [em3] at em2
    have em2 := Option.some.inj em2
    unfold cA at ec
    split at ec
    ·cases ec
    ·rename_i e eg
     have in3 := xP xs.length js (hs.step ((s1.trans st).trans s3))
     refine ⟨G3, fun _ => none, _, ds[i], e, s3.gh, in3, rv, eg, fun σ' hσ hk => ⟨⟨?_, ?_⟩, ?_⟩⟩
     ·rw [hk.1]; unfold lL; simp
     ·refine List.ext_getElem? fun j => ?_
      rw [List.getElem?_drop, hk.2 (xs.length + j) fun z => absurd (hks _ z) (by omega), List.getElem?_append_right (by rw [List.length_replicate]; omega), List.length_replicate]
      congr 1
      omega
     ·refine ⟨_, _, G3, fun _ => none, e, aOp s3.gh, hσ, ?_⟩
      cases et : ft e with
      | bad => rw [et] at ec; cases ec
      | exc C => rw [et] at ec; cases ec
      | ok k =>
       rw [et] at ec
       intro G5 H5 s5
       cases k with
       | false =>
        cases ec
        rw [if_neg Bool.false_ne_true]
        have s25 := s3.trans s5
        exact ⟨hlt, Nat.le_succ_of_le hzl, G5, rs, rest', st.trans s25, s25.off h2 (fun xs z => nomatch z) g2, s25.h _ _ h2, rp.mono s25.g, em3, by rw [<- er, <- em2]⟩
       | true =>
        rw [if_pos rfl]
        refine ⟨_, _, G5, fun _ => none, e, aOp s5.gh, hσ.step s5, ?_⟩
        dsimp only at ec
        cases ee : fe e with
        | bad => rw [ee] at ec; cases ec
        | exc C => rw [ee] at ec; cases ec
        | ok q =>
         rw [ee] at ec
         intro G6 H6 y s6 ey
         obtain ⟨G7, s7, e7⟩ := EOk.c s6 ey
         dsimp only at ec
         split at ec
         ·rename_i y' eq
          cases ec
          rw [eq] at e7
          have s27 := (s3.trans s5).trans s7
          have g7 := s27.off h2 (fun xs z => nomatch z) g2
          refine ⟨s27.h _ _ h2, Nat.lt_of_le_of_lt (Nat.le_trans hzl (Nat.le_trans hi hlen)) (by decide), hlt, by rw [List.length_append]; exact Nat.succ_le_succ hzl, G7, rs ++ [y'], rest', aPg (st.trans s27) g7, g7, a6, (rp.mono s27.g).append (.cons e7 .nil), em3, ?_⟩
          rw [<- er, <- em2, List.append_assoc]
          rfl
         ·cases ec
 ·have e : i = ds.length := by omega
  subst e
  rw [List.drop_length] at em2
  cases em2
  rw [List.append_nil] at er
  subst er
  exact .inl ⟨j2, hds G2 H2 _ (s1.trans st) ⟨D, _, rfl, s1.h.free hD, g2, h2, .lst rp⟩⟩
theorem oM {elt iter tg : Expr} {scope : Scope} {ifs : List Expr} {n : Nat} {js ks : List Nat} {fi : En -> Res (List D)} {g : D -> En -> Option En} {ft : En -> Res Bool} {fe : En -> Res Ev} {xs ys : List Str} {cl : List (Str × Addr)} (hc : X.calm = true) (hi : DI X E tg iter fi)
  (hcl : aIe X scope cl) (hcap : o7 X scope cl ys js) (hcell : ∀ y ∈ scope.names, y.2 ≠ .cell) (hkind : scope.kind = .function) (hnames : ∀ y ∈ scope.names, y.2 = .local -> scope.names.lookup y.1 = some .local) (hn : xs.length = n) (hks : ∀ j ∈ ks, j < n)
  (hg : ∀ C s₀ H₀ ex pn, DG (bT X scope cl C (xs ++ ys) s₀ H₀ ex pn) tg ks g) (ht : ∀ C s₀ H₀ ex pn, DTs (bT X scope cl C (xs ++ ys) s₀ H₀ ex pn) ifs ft) (hb : ∀ C s₀ H₀ ex pn, DE (bT X scope cl C (xs ++ ys) s₀ H₀ ex pn) (fun _ => E0) elt fe)
  (hs : ∀ x, foldedSetIterable iter X.env x = pure x := by intro _; rfl) : DE X E (.ListComp elt [⟨tg, iter, ifs, 0⟩] scope pos) (jR n js fi g ft fe) :=
 DE.in ⟨_, aEy (xs := xs) (g := tG X.K ks g) (tt := tT X.K (fun _ => E0) ft) (te := tE X.K (fun _ => E0) fe) hc hi hcl hcap hcell hkind hnames hg ht hb hs, w8 hc hi hcl hcap hcell hkind hnames hn hks hg ht hb⟩
theorem zU {i : Nat} {y : Str} {py spos : Pos} (hN : X.N.Nodup) (hiN : X.N[i]? = some y) (hx : Loc X.env.scope y) {elt iter tg : Expr} {scope : Scope} {ifs : List Expr} {n : Nat} {js ks : List Nat} {fi : En -> Res (List D)} {g : D -> En -> Option En} {ft : En -> Res Bool} {fe : En -> Res Ev} {xs ys : List Str} {cl : List (Str × Addr)} (hc : X.calm = true) (hi : DI X E tg iter fi)
  (hcl : aIe X scope cl) (hcap : o7 X scope cl ys js) (hcell : ∀ y ∈ scope.names, y.2 ≠ .cell) (hkind : scope.kind = .function) (hnames : ∀ y ∈ scope.names, y.2 = .local -> scope.names.lookup y.1 = some .local) (hn : xs.length = n) (hks : ∀ j ∈ ks, j < n)
  (hg : ∀ C s₀ H₀ ex pn, DG (bT X scope cl C (xs ++ ys) s₀ H₀ ex pn) tg ks g) (ht : ∀ C s₀ H₀ ex pn, DTs (bT X scope cl C (xs ++ ys) s₀ H₀ ex pn) ifs ft) (hb : ∀ C s₀ H₀ ex pn, DE (bT X scope cl C (xs ++ ys) s₀ H₀ ex pn) (fun _ => E0) elt fe)
  (hsw : swapsWith (.ListComp elt [⟨tg, iter, ifs, 0⟩] scope pos) (some (.Name y py)) spos.line X.env = pure true := by rfl) (hs : ∀ x, foldedSetIterable iter X.env x = pure x := by intro _; rfl)
  (hf : X.fn y = true \/ X.env.scope.names.lookup y = some .local := by first | exact .inl rfl | exact .inr rfl | assumption) : DS X E (.Assign [.Name y py] (.ListComp elt [⟨tg, iter, ifs, 0⟩] scope pos) spos) (dO i (jR n js fi g ft fe)) :=
 DS.in ⟨_, aFm (xs := xs) (g := tG X.K ks g) (tt := tT X.K (fun _ => E0) ft) (te := tE X.K (fun _ => E0) fe) hN hiN hx hc hi hcl hcap hcell hkind hnames hg ht hb hsw hs hf, xX (w8 hc hi hcl hcap hcell hkind hnames hn hks hg ht hb)⟩
end
section
variable {X : Cx} {K : PySem.W.Frag}
def rOr (r r' : R2) : R2 := fun x y H Q => r x y H Q \/ r' x y H Q
theorem OpR.or' {f : Value -> Value -> Sem Value} {r r' : R2} (h : OpR X f r) (h' : OpR X f r') : OpR X f (rOr r r') := OpR.or h h'
def aLj : R2 := fun x y H Q => ∃ l b xs zs, x = .ref l /\ y = .ref b /\ Rd H l (.lst xs) /\ Rd H b (.lst zs) /\ xs.length + zs.length <= sizeLine /\ ∀ p, H p = none -> Q (.ref p) (upd H p (.lst (xs ++ zs)))
theorem aIv : OpR X (binaryOp .Add) aLj := by
 intro pins s σ H x y v u Q I rx ry h
 obtain ⟨l, b, xs, zs, rfl, rfl, hH, hB, hz, q⟩ := h
 cases rx
 cases ry
 obtain ⟨z, its, n, r, e⟩ := hH.ok I.hok
 obtain ⟨z2, its2, n2, r2, e2⟩ := hB.ok I.hok
 have hl := r.length
 have hl2 := r2.length
 refine PySem.P.add_list e e2 ?_ (by rw [List.size_toArray, List.size_toArray]; omega)
 have ea : its.toArray ++ its2.toArray = (its ++ its2).toArray := by simp
 rw [ea]
 exact ⟨.ref _, _, I.lnew (t' := s.toks) (r.append r2) (by rw [List.length_append]; omega), rfl, q _ I.fresh⟩
def aH5 : R2 := fun x y H Q => ∃ i j, x = .str i /\ y = .str j /\ i.length + j.length <= sizeLine /\ Q (.str (i ++ j)) H
def gH : Ev -> Option (List D)
 | .p (.list ds) => some ds
 | .b (.list ds) => some ds
 | _ => none
theorem pR {W : Addr -> Option Nat} {Hs G H : Hp} {v : V} {r : Ev} {ds : List D} (gh : Same G H) (h : EOk K W Hs G H v r) (e : gH r = some ds) : ∃ a xs, v = .ref a /\ Rd H a (.lst xs) /\ Reps K G xs ds := by
 cases r with
 | p d =>
  cases d with
  | list es =>
   cases e
   cases h with
   | @lst a xs _ h1 h2 => exact ⟨a, xs, rfl, gN gh h1, h2⟩
  | _ => cases e
 | b d =>
  cases d with
  | list es =>
   cases e
   obtain ⟨a, i, o, rfl, h1, h2, h3⟩ := h
   cases h3 with
   | @lst xs _ h4 => exact ⟨a, xs, rfl, .inl h2, h4⟩
  | _ => cases e
 | f d => cases e
 | x C => cases e
def dat : Ev -> Option D
 | .p d => some d
 | .b d => some d
 | _ => none
theorem EOk.read {W : Addr -> Option Nat} {Hs G H : Hp} {v : V} {r : Ev} {d : D} (gh : Same G H) (h : EOk K W Hs G H v r) (e : dat r = some d) : Rep K H v d := by
 cases r with
 | p d => cases e; exact Rep.mono gh h
 | b d =>
  cases e
  obtain ⟨a, i, o, rfl, h1, h2, h3⟩ := h
  exact (h3.mono gh).rep h2
 | f d => cases e
 | x C => cases e
open Classical in
noncomputable def wB (C : Int -> Int -> Prop) (g : Int -> Int -> D) (x y : Ev) : Res Ev := match x, y with
 | .p (.int i), .p (.int j) => if C i j then .ok (.p (g i j)) else .bad
 | _, _ => .bad
def fM (g : Int -> Int -> D) (x y : Ev) : Res Ev := match x, y with
 | .p (.int i), .p (.int j) => .ok (.p (g i j))
 | _, _ => .bad
theorem aI {C : Int -> Int -> Prop} {g : Int -> Int -> D} : NoX (wB C g) := by
 intro x y A h
 unfold wB at h
 split at h
 ·split at h <;> cases h
 ·cases h
theorem aZ {g : Int -> Int -> D} : NoX (fM g) := by
 intro x y A h
 unfold fM at h
 split at h <;> cases h
theorem t7 {C : Int -> Int -> Prop} {g : Int -> Int -> D} {gv : Int -> Int -> V} (hg : ∀ G i j, Rep K G (gv i j) (g i j)) : OpM K (rI C gv) (wB C g) := by
 intro W G H v u x y Q gh hx hy hw
 unfold wB at hw
 split at hw
 ·rename_i i j e1 e2
  rw [e1] at hx; rw [e2] at hy
  cases hx; cases hy
  split at hw
  ·rename_i hc
   exact ⟨i, j, rfl, rfl, hc, hw G H _ (Step.refl gh) (hg G i j)⟩
  ·exact hw.elim
 ·exact hw.elim
theorem aAp {g : Int -> Int -> D} {gv : Int -> Int -> V} (hg : ∀ G i j, Rep K G (gv i j) (g i j)) : OpM K (rI0 gv) (fM g) := by
 intro W G H v u x y Q gh hx hy hw
 unfold fM at hw
 split at hw
 ·rename_i i j e1 e2
  rw [e1] at hx; rw [e2] at hy
  cases hx; cases hy
  exact ⟨i, j, rfl, rfl, hw G H _ (Step.refl gh) (hg G i j)⟩
 ·exact hw.elim
noncomputable abbrev kG : Ev -> Ev -> Res Ev := wB CMulW fun i j => .int (i * j)
noncomputable abbrev rL : Ev -> Ev -> Res Ev := wB mE fun i j => .int (i.fdiv j)
noncomputable abbrev mQ : Ev -> Ev -> Res Ev := wB (fun _ j => j ≠ 0) fun i j => .int (i.fmod j)
noncomputable abbrev aDi : Ev -> Ev -> Res Ev := wB aJp fun i j => .int (i ^ j.toNat)
abbrev mX : Ev -> Ev -> Res Ev := fM fun i j => .int (i - j)
abbrev ltE : Ev -> Ev -> Res Ev := fM fun i j => .bool (decide (i < j))
abbrev leE : Ev -> Ev -> Res Ev := fM fun i j => .bool (decide (i <= j))
abbrev gtE : Ev -> Ev -> Res Ev := fM fun i j => .bool (decide (j < i))
theorem cO : OpM K (rI CMulW fun i j => .int (i * j)) kG := t7 fun _ _ _ => .int _
theorem kZ : OpM K (rI mE fun i j => .int (i.fdiv j)) rL := t7 fun _ _ _ => .int _
theorem fG : OpM K (rI (fun _ j => j ≠ 0) fun i j => .int (i.fmod j)) mQ := t7 fun _ _ _ => .int _
theorem sU : OpM K (rI aJp fun i j => .int (i ^ j.toNat)) aDi := t7 fun _ _ _ => .int _
theorem eN : OpM K (rI0 fun i j => .int (i - j)) mX := aAp fun _ _ _ => .int _
def gR (x y : Ev) : Res Ev := match x, y with
 | .p (.int i), .p (.int j) => .ok (.p (.int (i + j)))
 | .p (.str i), .p (.str j) => if i.length + j.length <= 100000 then .ok (.p (.str (i ++ j))) else .bad
 | x, y => match gH x, gH y with
  | some ds, some es => if ds.length + es.length <= 100000 then .ok (.f (.list (ds ++ es))) else .bad
  | _, _ => .bad
theorem cN : NoX gR := by
 intro x y A h
 unfold gR at h
 split at h
 ·cases h
 ·split at h <;> cases h
 ·split at h
  ·split at h <;> cases h
  ·cases h
abbrev aLp : R2 := rOr (rI0 fun i j => .int (i + j)) (rOr aH5 aLj)
theorem cK : OpR X (binaryOp .Add) aLp := OpR.or' aNp (OpR.or' yH aIv)
theorem dZ : OpM K aLp gR := by
 intro W G H v u x y Q gh hx hy hw
 unfold gR at hw
 split at hw
 ·rename_i i j e1 e2
  rw [e1] at hx; rw [e2] at hy
  cases hx; cases hy
  exact .inl ⟨i, j, rfl, rfl, hw G H _ (Step.refl gh) (.int _)⟩
 ·rename_i i j e1 e2
  rw [e1] at hx; rw [e2] at hy
  cases hx; cases hy
  split at hw
  ·rename_i hl
   exact .inr (.inl ⟨i, j, rfl, rfl, Nat.le_trans hl (by decide), hw G H _ (Step.refl gh) (.str _)⟩)
  ·exact hw.elim
 ·split at hw
  ·rename_i ds es e1 e2
   obtain ⟨a, xs, rfl, h1, h2⟩ := pR gh hx e1
   obtain ⟨b, ys, rfl, h3, h4⟩ := pR gh hy e2
   split at hw
   ·rename_i hl
    refine .inr (.inr ⟨a, b, xs, ys, rfl, rfl, h1, h3, by rw [h2.length, h4.length]; exact Nat.le_trans hl (by decide), fun p hp => ?_⟩)
    exact hw _ _ _ (Step.lay gh hp) ⟨p, _, rfl, hp, gh.free hp, a6, .lst (h2.append h4)⟩
   ·exact hw.elim
  ·exact hw.elim
theorem lT {p : Int -> Int -> Bool} : OpM K (rI0 fun i j => .bl (p i j)) (fM fun i j => .bool (p i j)) := aAp fun _ _ _ => .bl _
mutual
theorem Rep.reads {P : Program} {w : World} {H : Hp} {h : Heap} (ok : HOk P w H h) : ∀ {v : V} {d : D}, Rep K H v d -> d.canLay0 = true -> ∀ {u : Value}, RelV v u -> ∃ as, Reads h u d as
 | _, _, .non, _, _, e => by cases e; exact ⟨_, Reads.none⟩
 | _, _, .bl b, _, _, e => by cases e; exact ⟨_, Reads.bool b⟩
 | _, _, .int i, _, _, ⟨t, e⟩ => by subst e; exact ⟨_, Reads.int i t⟩
 | _, _, .str i, _, _, ⟨t, e⟩ => by subst e; exact ⟨_, Reads.str i t⟩
 | _, _, .tup hh r, hc, _, e => by
  have e : _ = Value.ref _ := e
  subst e
  obtain ⟨_, its, rv, o, ho, hcl, n, hd⟩ := (show ObjOk P w H h _ _ from ok _ _ hh)
  obtain ⟨as, q⟩ := Reps.reads ok r (by simpa [PyData.canLay0] using hc) rv
  exact ⟨as, reads_tuple_at ho hcl hd (by simpa using q)⟩
 | _, _, .lst hh r, hc, _, e => by
  have e : _ = Value.ref _ := e
  subst e
  obtain ⟨_, its, n, rv, ho⟩ := hh.ok ok
  obtain ⟨as, q⟩ := Reps.reads ok r (by simpa [PyData.canLay0] using hc) rv
  exact ⟨_, reads_list_at ho rfl rfl (by simpa using q)⟩
 | _, _, .dT _ _, hc, _, _ => by simp [PyData.canLay0] at hc
 | _, _, .dK _ _, hc, _, _ => by simp [PyData.canLay0] at hc
theorem Reps.reads {P : Program} {w : World} {H : Hp} {h : Heap} (ok : HOk P w H h) : ∀ {vs : List V} {ds : List D}, Reps K H vs ds -> PyData.canLayAll0 ds = true -> ∀ {us : List Value}, Vals vs us -> ∃ as, ReadsAll h us ds as
 | _, _, .nil, _, _, .nil => ⟨_, ReadsAll.nil⟩
 | _, _, .cons hd r, hc, _, .cons rv rt => by
  simp only [PyData.canLayAll0, Bool.and_eq_true] at hc
  obtain ⟨as, q⟩ := Rep.reads ok hd hc.1 rv
  obtain ⟨bs, p⟩ := Reps.reads ok r hc.2 rt
  exact ⟨_, ReadsAll.cons q p⟩
end
def aOz (K : PySem.W.Frag) (ng : Bool) : R2 := fun x y H Q => ∃ d e, Rep K H x d /\ Rep K H y e /\ SeqAt.shaped d = true /\ SeqAt.shaped e = true /\ Q (.bl (if ng then !PyData.eqv d e else PyData.eqv d e)) H
theorem tU {K : PySem.W.Frag} (hu : X.A.units + 64 < cLine) : OpR X (compareOp .Eq) (aOz K false) := by
 intro pins s σ H x y v u Q I rx ry h
 obtain ⟨d, e, h1, h2, o1, o2, q⟩ := h
 obtain ⟨as, r1⟩ := h1.reads I.hok (Bool.and_eq_true_iff.mp o1).1 rx
 obtain ⟨bs, r2⟩ := h2.reads I.hok (Bool.and_eq_true_iff.mp o2).1 ry
 exact eq_dataH r1 r2 o1 o2 hu ⟨.bl _, H, I, rfl, q⟩
theorem kH {K : PySem.W.Frag} (hu : X.A.units + 64 < cLine) : OpR X (compareOp .NotEq) (aOz K true) := by
 intro pins s σ H x y v u Q I rx ry h
 obtain ⟨d, e, h1, h2, o1, o2, q⟩ := h
 obtain ⟨as, r1⟩ := h1.reads I.hok (Bool.and_eq_true_iff.mp o1).1 rx
 obtain ⟨bs, r2⟩ := h2.reads I.hok (Bool.and_eq_true_iff.mp o2).1 ry
 exact ne_dataH r1 r2 o1 o2 hu ⟨.bl _, H, I, rfl, q⟩
def eqE (ng : Bool) (x y : Ev) : Res Ev := match dat x, dat y with
 | some d, some e => if SeqAt.shaped d = true /\ SeqAt.shaped e = true then .ok (.p (.bool (if ng then !PyData.eqv d e else PyData.eqv d e))) else .bad
 | _, _ => .bad
theorem gG {ng : Bool} : NoX (eqE ng) := by
 intro x y A h
 unfold eqE at h
 split at h
 ·split at h <;> cases h
 ·cases h
theorem kT {ng : Bool} : OpM K (aOz K ng) (eqE ng) := by
 intro W G H v u x y Q gh hx hy hw
 unfold eqE at hw
 split at hw
 ·rename_i d e e1 e2
  split at hw
  ·rename_i hs
   exact ⟨d, e, hx.read gh e1, hy.read gh e2, hs.1, hs.2, hw G H _ (Step.refl gh) (.bl _)⟩
  ·exact hw.elim
 ·exact hw.elim
def mUn (op : Ev -> Res Ev) (fa : En -> Res Ev) : En -> Res Ev := fun en => (fa en).bind fun x => op x.c
variable {E : L2.St -> XK} {a b : Expr} {fa fb : En -> Res Ev} {pos : Pos}
def kO (x : Ev) : Res Ev := match x with
 | .p (.int i) => .ok (.p (.int (-i)))
 | _ => .bad
theorem kN (ha : DE X E a fa) : DE X E (.UnaryOp .USub a pos) (mUn kO fa) := by
 obtain ⟨t, p, m⟩ := ha.out
 refine DE.in ⟨_, aPh aNg p, fun B G0 G W H σ en Q hh hs hw => m B G0 G W H σ en _ hh hs (DE.go hw fun x G1 H1 v s1 e1 h1 => ?_)⟩
 unfold kO at h1
 split at h1
 ·rename_i i e
  rw [e] at e1
  cases e1
  exact ⟨i, rfl, h1 G1 H1 _ (Step.refl s1.gh) (.int _)⟩
 ·exact h1.elim
def gP : Ev -> Option (List D)
 | .p (.list ds) => some ds
 | .b (.list ds) => some ds
 | .p (.tuple ds) => some ds
 | _ => none
def ixE (x y : Ev) : Res Ev := match y with
 | .p (.int i) => match gP x with
  | some ds => match atI ds i with
   | some d => .ok (.p d)
   | none => .bad
  | none => .bad
 | _ => .bad
theorem aLw : NoX ixE := by
 intro x y A h
 unfold ixE at h
 split at h
 ·split at h
  ·split at h <;> cases h
  ·cases h
 ·cases h
theorem vO {G : Hp} {xs : List V} {ds : List D} {i : Int} {d : D} (r : Reps K G xs ds) (h : atI ds i = some d) : ∃ x, atI xs i = some x /\ Rep K G x d := by
 unfold atI at h ⊢
 rw [r.length]
 cases e : ixN ds.length i with
 | none => rw [e] at h; cases h
 | some j =>
  rw [e] at h
  exact r.get' h
def aPm (K : PySem.W.Frag) : R2 := fun x y H Q => aP5 K x y H Q \/ aP4 K x y H Q
theorem aPy : IxR X (aPm X.K) := ix_list.or aMr
theorem aOj : OpM K (aPm K) ixE := by
 intro W G H v u x y Q gh hx hy hw
 unfold ixE at hw
 split at hw
 ·rename_i i ey
  rw [ey] at hy
  cases hy
  split at hw
  ·rename_i ds ed
   split at hw
   ·rename_i d ea
    cases ex : x.c with
    | p dd =>
     rw [ex] at ed hx
     cases dd with
     | list es =>
      cases ed
      cases hx with
      | @lst a xs _ h1 h2 =>
       obtain ⟨z, h3, h4⟩ := vO h2 ea
       exact .inl ⟨a, xs, i, z, rfl, rfl, .inl (gN gh h1), h3, hw G H _ (Step.refl gh) h4⟩
     | tuple es =>
      cases ed
      cases hx with
      | @tup a xs _ h1 h2 =>
       obtain ⟨z, h3, h4⟩ := vO h2 ea
       exact .inr ⟨a, xs, i, z, rfl, rfl, SqT.of (gh _ _ h1), h3, hw G H _ (Step.refl gh) h4⟩
     | _ => cases ed
    | b dd =>
     rw [ex] at ed hx
     cases dd with
     | list es =>
      cases ed
      obtain ⟨a, k, o, rfl, h1, h2, h3⟩ := hx
      cases h3 with
      | @lst xs _ h4 =>
       obtain ⟨z, h5, h6⟩ := vO h4 ea
       exact .inl ⟨a, xs, i, z, rfl, rfl, .inl (.inl h2), h5, hw G H _ (Step.refl gh) h6⟩
     | _ => cases ed
    | f dd => rw [ex] at ed; cases ed
    | x C => rw [ex] at ed; cases ed
   ·exact hw.elim
  ·exact hw.elim
 ·exact hw.elim
theorem aO (ha : DE X E a fa) (hb : DE X E b fb) (hs : aB3 b) : DE X E (.Subscript a b pos) (aH ixE fa fb) := by
 obtain ⟨ta, pa, ma⟩ := ha.out
 obtain ⟨tb, pb, mb⟩ := hb.out
 exact DE.in ⟨_, aMs aPy pa pb hs, qU ma mb aOj aLw⟩
def jT (rs : List Ev) : Res Ev := match rs with
 | [x] => match gP x with
  | some ds => .ok (.p (.int ds.length))
  | none => .bad
 | _ => .bad
theorem jC : aDj jT := by
 intro rs C h
 unfold jT at h
 split at h
 ·split at h <;> cases h
 ·cases h
theorem lQ : o9 K (fun xs H Q => ∃ p ys, xs = [.ref p] /\ (SqL K H p ys \/ SqT K H p ys) /\ Q (.int ys.length) H) jT := by
 intro W Hs G H vs rs Q gh he hw
 unfold jT at hw
 split at hw
 ·rename_i x
  match vs, he with
  | [v], ⟨h1, _⟩ =>
   split at hw
   ·rename_i ds ed
    cases x with
    | p dd =>
     cases dd with
     | list es =>
      cases ed
      cases h1 with
      | @lst a xs _ k1 k2 => exact ⟨a, xs, rfl, .inl (.inl (gN gh k1)), by rw [k2.length]; exact hw G H _ (Step.refl gh) (.int _)⟩
     | tuple es =>
      cases ed
      cases h1 with
      | @tup a xs _ k1 k2 => exact ⟨a, xs, rfl, .inr (SqT.of (gh _ _ k1)), by rw [k2.length]; exact hw G H _ (Step.refl gh) (.int _)⟩
     | _ => cases ed
    | b dd =>
     cases dd with
     | list es =>
      cases ed
      obtain ⟨a, k, o, rfl, k1, k2, k3⟩ := h1
      cases k3 with
      | @lst xs _ k4 => exact ⟨a, xs, rfl, .inl (.inl (.inl k2)), by rw [k4.length]; exact hw G H _ (Step.refl gh) (.int _)⟩
     | _ => cases ed
    | f dd => cases ed
    | x C => cases ed
   ·exact hw.elim
 ·exact hw.elim
def aHg (rs : List Ev) : Res Ev := match rs with
 | [.p (.int i)] => .ok (.p (.int (if i < 0 then -i else i)))
 | _ => .bad
theorem qJ : aDj aHg := by
 intro rs C h
 unfold aHg at h
 split at h <;> cases h
theorem x4 : o9 K (fun xs H Q => ∃ i, xs = [.int i] /\ Q (.int (if i < 0 then -i else i)) H) aHg := by
 intro W Hs G H vs rs Q gh he hw
 unfold aHg at hw
 split at hw
 ·rename_i i
  match vs, he with
  | [v], ⟨h1, _⟩ => cases h1; exact ⟨i, rfl, hw G H _ (Step.refl gh) (.int _)⟩
 ·exact hw.elim
def aLy (f : Int -> Int -> Int) (rs : List Ev) : Res Ev := match rs with
 | [.p (.int i), .p (.int j)] => .ok (.p (.int (f i j)))
 | _ => .bad
theorem aHs {f : Int -> Int -> Int} : aDj (aLy f) := by
 intro rs C h
 unfold aLy at h
 split at h <;> cases h
theorem aKz {f : Int -> Int -> Int} : o9 K (fun xs H Q => ∃ i j, xs = [.int i, .int j] /\ Q (.int (f i j)) H) (aLy f) := by
 intro W Hs G H vs rs Q gh he hw
 unfold aLy at hw
 split at hw
 ·rename_i i j
  match vs, he with
  | [v, u], ⟨h1, h2, _⟩ => cases h1; cases h2; exact ⟨i, j, rfl, hw G H _ (Step.refl gh) (.int _)⟩
 ·exact hw.elim
def listE (rs : List Ev) : Res Ev := match rs with
 | [x] => match gP x with
  | some ds => .ok (.f (.list ds))
  | none => .bad
 | _ => .bad
theorem aE7 : aDj listE := by
 intro rs C h
 unfold listE at h
 split at h
 ·split at h <;> cases h
 ·cases h
theorem aJj : o9 K (fun xs H Q => ∃ p ys, xs = [.ref p] /\ (SqL K H p ys \/ SqT K H p ys) /\ ∀ l, H l = none -> Q (.ref l) (upd H l (.lst ys))) listE := by
 intro W Hs G H vs rs Q gh he hw
 unfold listE at hw
 split at hw
 ·rename_i x
  match vs, he with
  | [v], ⟨h1, _⟩ =>
   split at hw
   ·rename_i ds ed
    have fin : ∀ {xs : List V}, Reps K G xs ds -> ∀ l, H l = none -> Q (.ref l) (upd H l (.lst xs)) := fun r l hl =>
     hw _ _ _ (Step.lay gh hl) ⟨l, _, rfl, hl, gh.free hl, a6, .lst r⟩
    cases x with
    | p dd =>
     cases dd with
     | list es =>
      cases ed
      cases h1 with
      | @lst a xs _ k1 k2 => exact ⟨a, xs, rfl, .inl (.inl (gN gh k1)), fin k2⟩
     | tuple es =>
      cases ed
      cases h1 with
      | @tup a xs _ k1 k2 => exact ⟨a, xs, rfl, .inr (SqT.of (gh _ _ k1)), fin k2⟩
     | _ => cases ed
    | b dd =>
     cases dd with
     | list es =>
      cases ed
      obtain ⟨a, k, o, rfl, k1, k2, k3⟩ := h1
      cases k3 with
      | @lst xs _ k4 => exact ⟨a, xs, rfl, .inl (.inl (.inl k2)), fin k4⟩
     | _ => cases ed
    | f dd => cases ed
    | x C => cases ed
   ·exact hw.elim
 ·exact hw.elim
def tyD : D -> String
 | .none => "NoneType"
 | .bool _ => "bool"
 | .int _ => "int"
 | .str _ => "str"
 | .list _ => "list"
 | .tuple _ => "tuple"
 | .dict _ => "dict"
def lN (K : PySem.W.Frag) (c : Value) (x : Ev) : Res Ev := match dat x with
 | some d => match PySem.W.kitOne K (.type (tyD d)) c with
  | some b => .ok (.p (.bool b))
  | none => .bad
 | none => .bad
theorem aMz {H : Hp} {v : V} {d : D} (h : Rep K H v d) : xV K H v (.type (tyD d)) := by
 cases h with
 | non => exact .non
 | bl b => exact .bl b
 | int i => exact .int i
 | str i => exact .str i
 | tup h _ => exact .tup h
 | lst h _ =>
  rcases h with h | ⟨o, h⟩
  ·exact .lst h
  ·exact .frz h
 | dT h _ => exact .dT h
 | dK h _ => exact .dK h
theorem lX {e c : Expr} {v : V} {cv : Value} {p : Pos} (hg : Gl X "isinstance") (hm : X.mg "isinstance" = none) (hv : (∃ n, v = .ty n) \/ ∃ a, v = .ref a) (hr : RelV v cv) (he : DE X E e fa) (hc : PE X c (tC v))
  (h1 : starEach [e, c] X.env = (false, eval e X.env) :: starEach [c] X.env := by rfl) (h2 : (backTo pos (starEach [c] X.env)).any (·.1) = false := by rfl) (h3 : starEach [c] X.env = (false, eval c X.env) :: starEach [] X.env := by rfl) :
  DE X E (.Call (.Name "isinstance" p) [e, c] [] pos) (mUn (lN X.K cv) fa) := by
 obtain ⟨t, q, m⟩ := he.out
 refine DE.in ⟨_, aMw hg hm q hc h1 h2 h3, fun B G0 G W H σ en Q hh hs hw => m B G0 G W H σ en _ hh hs (DE.go hw fun x G1 H1 u s1 e1 k1 => ?_)⟩
 unfold lN at k1
 split at k1
 ·rename_i d ed
  split at k1
  ·rename_i b eb
   exact ⟨u, v, .type (tyD d), cv, b, rfl, hv, .plain (aMz (EOk.read s1.gh e1 ed)), hr, eb, k1 G1 H1 _ (Step.refl s1.gh) (.bl _)⟩
  ·exact k1.elim
 ·exact k1.elim
end
section
variable {P : Program} {w : World} {K : PySem.W.Frag} {mg : Str -> Option Value} {base : Heap}
structure Def (K : PySem.W.Frag) (mg : Str -> Option Value) (x : Str) (ps : List Str) (st : Stmt) : Prop where
 ex : ∃ f fd, Fun K x x st f fd /\ Binds K fd ps [] /\ PySem.W.keepIn K (.ref f) = true /\ mg x = some (.ref f)
structure Cal (P : Program) (w : World) (K : PySem.W.Frag) (mg : Str -> Option Value) (base : Heap) (k : Nat) (x : Str) (n : Nat) (m : List L -> Res L) : Prop where
 ex : ∃ f fd ps, FnOk P w K mg base (CXr P w) k f fd ps (spM K n m) /\ Binds K fd ps [] /\ PySem.W.keepIn K (.ref f) = true /\ mg x = some (.ref f)
theorem jO {x : Str} {st : Stmt} {N ps : List Str} {k n : Nat} {m : List L -> Res L} (Df : Def K mg x ps st) (S : aY N ps (aJ st)) (hn : n = ps.length)
  (hbody : ∀ (f : Addr) (cdv : Value) (A : Around) (outer : List Env) (s : Shared) (H : Hp) (E : XK), Room k (A.deeper (envOfC x (aJ st) s.heap.objs.size f cdv)) ->
   ∃ fm, DSs (pL (CXr P w) P w K mg base N x (aJ st) f cdv A outer s H E) (fun _ => E) (eJ st) fm /\ ∀ ls, m ls = .bad \/ e9 N.length fm ls = m ls) : Cal P w K mg base (k + 1) x n m := by
 obtain ⟨f, fd, F, b, kp, h⟩ := Df.ex
 exact ⟨f, fd, ps, fnM F S hn fun cdv A outer s H E hr => hbody f cdv A outer s H E hr, b, kp, h⟩
end
section
variable {X : Cx} {E : L2.St -> XK} {k j : Nat} {x : Str} {p pos : Pos} {e : Expr} {es : List Expr} {fr : En -> Res (List Ev)} {n : Nat} {m : List L -> Res L}
theorem aE (c : Cal X.prog X.w X.K X.mg X.base j x n m) (hr : Room k X.A) (hx : oK (CXr X.prog X.w) X E) (ha : DA X E (e :: es) fr) (hg : Gl X x := by rfl) (hjk : j <= k := by decide) (hdb : (x == ("__debug__" : Str)) = false := by decide)
  (he : starEach (e :: es) X.env = (false, eval e X.env) :: starEach es X.env := by rfl) (hpl : (backTo pos (starEach es X.env)).any (·.1) = false := by rfl) :
  DE X E (.Call (.Name x p) (e :: es) [] pos) (aL n m fr) := by
 obtain ⟨f, fd, ps, F, b, kp, h⟩ := c.ex
 exact aKj (F.mono hjk) hr hg h kp b hx ha hdb he hpl
theorem dv (i : Nat) (hN : X.N[i]? = some x := by rfl) (hv : Vis X.env.scope x := by first | exact Or.inl rfl | exact Or.inr (Or.inl rfl) | exact Or.inr (Or.inr rfl)) (hd : (x == ("__debug__" : Str)) = false := by decide) (hcd : (x == ("__classdict__" : Str)) = false := by decide) :
  DE X E (.Name x pos) (aD i) := aLn hN hv hd hcd
theorem u64 {A : Around} (hr : Room k A) : A.units + 64 < cLine := by have := hr.un; omega
theorem u1 {A : Around} (hr : Room k A) : A.units + 1 < cLine := by have := hr.un; omega
theorem eG {scope : Scope} {cl : List (Str × Addr)} : o7 X scope cl [] [] := ⟨rfl, fun i y j h _ => by simp at h⟩
theorem fW {scope : Scope} {cl : List (Str × Addr)} {y : Str} {ys : List Str} {j : Nat} {js : List Nat} (h : X.N[j]? = some y /\ (X.env.kindOf y = some .cell \/ X.env.kindOf y = some .free) /\ ((relabel scope X.env).names.lookup y = some .cell \/ (relabel scope X.env).names.lookup y = some .free) /\ (X.env.cells.lookup y).isSome = true /\ cl.lookup y = X.env.cells.lookup y)
  (t : o7 X scope cl ys js) : o7 X scope cl (y :: ys) (j :: js) :=
 ⟨by rw [List.length_cons, List.length_cons, t.len], fun i z q e1 e2 => by
  cases i with
  | zero => simp at e1 e2; subst e1 e2; exact h
  | succ i => exact t.at_ i z q (by simpa using e1) (by simpa using e2)⟩
theorem vN {scope : Scope} {cl : List (Str × Addr)} {ys : List Str} {js : List Nat} (clos : closureFor scope X.env = pure cl) (sub : ∀ q ∈ cl, X.env.cells.lookup q.1 = some q.2) (cap : o7 X scope cl ys js) (hcell : ∀ y ∈ scope.names, y.2 ≠ .cell) (hfree : ∀ q ∈ scope.names, q.2 = .free -> q.1 ∈ ys) : aIe X scope cl := by
 refine ⟨clos, fun y c h => sub _ (PySem.mem_of_lookup h), fun y hy => ?_⟩
 have hm : y ∈ ys := by
  rcases hy with hy | hy
  ·have m := PySem.mem_of_lookup hy
   obtain ⟨⟨n0, k0⟩, m0, e0⟩ := List.mem_map.mp m
   dsimp only at e0
   split at e0
   ·rename_i z
    injection e0 with e1 e2
    subst e1
    have : k0 = .free := by
     cases k0 <;> simp at z ⊢
    exact hfree _ m0 this
   ·injection e0 with e1 e2
    exact absurd e2 (hcell _ m0)
  ·have m := PySem.mem_of_lookup hy
   obtain ⟨⟨n0, k0⟩, m0, e0⟩ := List.mem_map.mp m
   dsimp only at e0
   split at e0
   ·injection e0 with e1 e2
    cases e2
   ·injection e0 with e1 e2
    subst e1
    exact hfree _ m0 e2
 obtain ⟨i, hi, e⟩ := List.mem_iff_getElem.mp hm
 have hj : i < js.length := by rw [<- cap.len]; exact hi
 obtain ⟨_, _, _, h4, h5⟩ := cap.at_ i y js[i] (by rw [List.getElem?_eq_getElem hi, e]) (List.getElem?_eq_getElem hj)
 rw [h5]
 exact Option.isSome_iff_exists.mp h4
theorem mU {K : PySem.W.Frag} {B G0 G H : Hp} {W : Addr -> Option Nat} {σ : L2.St} {en : En} {i : Nat} {a : Addr} {o' : HO} {d' : D} (hh : SimH B G0 G W H) (hs : SimS K W G H σ en) (hW : W a = some i) (hv : σ[i]? = some (some (.ref a))) (hc : Cont K G o' d') :
  SimH B G0 G W (upd H a o') /\ SimS K W G (upd H a o') σ (en.set i (some (.o d'))) := by
 obtain ⟨g1, g2, g3⟩ := hh.wf a i hW
 refine ⟨⟨fun b o e => ?_, fun b o e => ?_, hh.g0, hh.gb, fun b j e => ?_⟩, by rw [List.length_set]; exact hs.1, fun j l e => ?_⟩
 ·rw [aS (bE e g1)]; exact hh.gh b o e
 ·rw [aS (bE e g2)]; exact hh.bh b o e
 ·obtain ⟨k1, k2, o, k3, k4⟩ := hh.wf b j e
  refine ⟨k1, k2, ?_⟩
  by_cases z : b = a
  ·rw [z, a6]; exact ⟨_, rfl, hc.mut⟩
  ·rw [aS z]; exact ⟨o, k3, k4⟩
 ·rw [List.getElem?_set] at e
  by_cases hj : i = j
  ·subst hj
   rw [if_pos rfl] at e
   split at e
   ·cases e
    exact ⟨_, hv, a, o', rfl, hW, a6, hc⟩
   ·cases e
  ·rw [if_neg hj] at e
   obtain ⟨v, e1, e2⟩ := hs.2 j l e
   refine ⟨v, e1, ?_⟩
   cases l with
   | p d => exact e2
   | x C => exact e2
   | h a => exact e2
   | o d =>
    obtain ⟨b, ob, h1, h2, h3, h4⟩ := e2
    refine ⟨b, ob, h1, h2, ?_, h4⟩
    rw [aS (fun z => by rw [z, hW] at h2; exact hj (Option.some.inj h2))]
    exact h3
def fF (i : Nat) (fe : En -> Res Ev) : MS := fun en => match en[i]? with
 | some (some (.o (.list ds))) => match fe en with
  | .ok r => match r.c with
   | .p d => if ds.length <= 100000 then some (.nx (en.set i (some (.o (.list (ds ++ [d])))))) else none
   | _ => none
  | .exc C => some (.ex C en)
  | .bad => none
 | _ => none
theorem jB {i : Nat} {fe : En -> Res Ev} {st : Stmt} (he : DE X E e fe) (hp : ∀ t, PE X e t -> PS X st (aCy (tBM X.K "list" aCo (aJi i) (aM2 t aP2)))) : DS X E st (fF i fe) := by
 obtain ⟨t, q, mm⟩ := he.out
 refine DS.in ⟨_, hp t q, fun B G0 G W H σ en Dn hh hs hw => ?_⟩
 unfold fF at hw
 split at hw
 ·rename_i ds ei
  obtain ⟨v, e1, a, o, rfl, e2, e3, e4⟩ := hs.2 i _ ei
  cases e4 with
  | @lst xs _ rp =>
  refine ⟨_, e1, .inl ⟨rfl, _, SqL.of e3⟩, mm B G0 G W H σ en _ hh hs ?_⟩
  cases ef : fe en with
  | bad => rw [ef] at hw; exact hw
  | exc C => rw [ef] at hw; exact fun G1 H1 s => hw G1 W H1 σ (hh.step s) (hs.step s)
  | ok r =>
   rw [ef] at hw
   intro G1 H1 y s ey
   obtain ⟨G2, s2, ey2⟩ := ey.c s
   dsimp only at hw
   cases er : r.c with
   | p d =>
    rw [er] at hw ey2
    dsimp only at hw
    split at hw
    ·rename_i hl
     have hx := s2.h _ _ e3
     refine ⟨a, xs, y, rfl, rfl, hx, Nat.lt_of_le_of_lt (by rw [rp.length]; exact hl) (by decide), ?_⟩
     obtain ⟨w1, w2⟩ := mU (o' := .lst (xs ++ [y])) (d' := .list (ds ++ [d])) (hh.step s2) (hs.step s2) e2 e1 (.lst ((rp.mono s2.g).append (.cons ey2 .nil)))
     exact hw _ _ _ _ w1 w2
    ·exact hw.elim
   | f d => rw [er] at hw; exact hw.elim
   | b d => rw [er] at hw; exact hw.elim
   | x C => rw [er] at hw; exact hw.elim
 ·exact hw.elim
end
section
variable {X : Cx} {K : PySem.W.Frag} {E : L2.St -> XK} {a b : Expr} {fa fb : En -> Res Ev} {pos : Pos}
def vV : D -> Option Key
 | .int i => some (.inl i)
 | .str x => some (.inr x)
 | _ => none
def vK : List D -> Option (List Key)
 | [] => some []
 | d :: ds => match vV d with
  | none => none
  | some k => match vK ds with
   | none => none
   | some ks => some (k :: ks)
def aKr : D -> Option (List Key)
 | .tuple ds => vK ds
 | _ => none
theorem qK {d : D} {k : Key} (h : vV d = some k) : d = kD k := by
 cases d <;> first | (cases h; rfl) | cases h
theorem vD (k : Key) : vV (kD k) = some k := by cases k <;> rfl
theorem xE : ∀ {ds : List D} {ks : List Key}, vK ds = some ks -> ds = ks.map kD
 | [], _, h => by cases h; rfl
 | d :: ds, ks, h => by
  unfold vK at h
  cases e : vV d with
  | none => rw [e] at h; cases h
  | some k =>
   rw [e] at h
   cases e2 : vK ds with
   | none => rw [e2] at h; cases h
   | some ks' =>
    rw [e2] at h
    cases h
    rw [qK e, xE e2]
    rfl
theorem wX : ∀ ks : List Key, vK (ks.map kD) = some ks
 | [] => rfl
 | k :: ks => by
  show (match vV (kD k) with | none => none | some k => match vK (ks.map kD) with | none => none | some ks => some (k :: ks)) = _
  rw [vD, wX ks]
theorem vJ {d : D} {ks : List Key} (h : aKr d = some ks) : d = tkD ks := by
 cases d with
 | tuple ds => unfold tkD; rw [<- xE h]
 | _ => cases h
theorem xJ (ks : List Key) : aKr (tkD ks) = some ks := wX ks
theorem aCk {k k' : List Key} (h : tkD k = tkD k') : k = k' := by
 have := xJ k
 rw [h, xJ] at this
 exact (Option.some.inj this).symm
theorem aGh {k k' : Key} (h : kD k = kD k') : k = k' := by
 have := vD k
 rw [h, vD] at this
 exact (Option.some.inj this).symm
theorem aBj {G : Hp} : ∀ {ks : List Key} {xs : List V}, Reps K G xs (ks.map kD) -> xs = ks.map kV
 | [], _, .nil => rfl
 | k :: ks, _, .cons r t => by
  rw [aBj t]
  cases k with
  | inl i => cases r; rfl
  | inr x => cases r; rfl
theorem aGm {G : Hp} {v : V} {d : D} {ks : List Key} (h : Rep K G v d) (e : aKr d = some ks) : ∃ b, v = .ref b /\ G b = some (.tup (ks.map kV)) := by
 have := vJ e
 subst this
 cases h with
 | @tup b xs _ h1 h2 =>
  rw [aBj h2] at h1
  exact ⟨b, rfl, h1⟩
theorem aBo {G : Hp} {v : V} {d : D} {k : Key} (h : Rep K G v d) (e : vV d = some k) : v = kV k := by
 have := qK e
 subst this
 cases k with
 | inl i => cases h; rfl
 | inr x => cases h; rfl
open Classical in
noncomputable def u4 : List (D × D) -> D -> Option D
 | [], _ => none
 | p :: r, k => if p.1 = k then some p.2 else u4 r k
open Classical in
noncomputable def aHk (k v : D) : List (D × D) -> List (D × D)
 | [] => []
 | p :: r => (if p.1 = k then (p.1, v) else p) :: aHk k v r
open Classical in
noncomputable def aDg (kvs : List (D × D)) (k v : D) : List (D × D) := if (u4 kvs k).isSome = true then aHk k v kvs else kvs ++ [(k, v)]
theorem aOy {G : Hp} (ks : List Key) : ∀ {kv : List (List Key × V)} {kvs : List (D × D)}, RepT K G kv kvs -> (u4 kvs (tkD ks) = none /\ rR kv ks = none) \/ ∃ d v, u4 kvs (tkD ks) = some d /\ rR kv ks = some v /\ Rep K G v d
 | _, _, .nil => .inl ⟨rfl, rfl⟩
 | _, _, .cons (k := k) (x := x) (d := d) r t => by
  by_cases e : k = ks
  ·subst e
   refine .inr ⟨d, x, ?_, kP (p := (k, x)) rfl, r⟩
   unfold u4
   rw [if_pos rfl]
  ·have e2 : tkD k ≠ tkD ks := fun z => e (aCk z)
   unfold u4
   rw [if_neg e2, kK (p := (k, x)) e]
   exact aOy ks t
theorem aOf {G : Hp} (ks : Key) : ∀ {kv : List (Key × V)} {kvs : List (D × D)}, RepK K G kv kvs -> (u4 kvs (kD ks) = none /\ rR kv ks = none) \/ ∃ d v, u4 kvs (kD ks) = some d /\ rR kv ks = some v /\ Rep K G v d
 | _, _, .nil => .inl ⟨rfl, rfl⟩
 | _, _, .cons (k := k) (x := x) (d := d) r t => by
  by_cases e : k = ks
  ·subst e
   refine .inr ⟨d, x, ?_, kP (p := (k, x)) rfl, r⟩
   unfold u4
   rw [if_pos rfl]
  ·have e2 : kD k ≠ kD ks := fun z => e (aGh z)
   unfold u4
   rw [if_neg e2, kK (p := (k, x)) e]
   exact aOf ks t
theorem aPn {G : Hp} {ks : List Key} {v : V} {d : D} (h : Rep K G v d) : ∀ {kv : List (List Key × V)} {kvs : List (D × D)}, RepT K G kv kvs -> RepT K G (kv.map fun p => if p.1 = ks then (p.1, v) else p) (aHk (tkD ks) d kvs)
 | _, _, .nil => .nil
 | _, _, .cons (k := k) (x := x) (d := d0) r t => by
  unfold aHk
  rw [List.map_cons]
  by_cases e : k = ks
  ·subst e
   rw [if_pos rfl, if_pos rfl]
   exact .cons h (aPn h t)
  ·have e2 : tkD k ≠ tkD ks := fun z => e (aCk z)
   rw [if_neg e, if_neg e2]
   exact .cons r (aPn h t)
theorem aOk {G : Hp} {ks : Key} {v : V} {d : D} (h : Rep K G v d) : ∀ {kv : List (Key × V)} {kvs : List (D × D)}, RepK K G kv kvs -> RepK K G (kv.map fun p => if p.1 = ks then (p.1, v) else p) (aHk (kD ks) d kvs)
 | _, _, .nil => .nil
 | _, _, .cons (k := k) (x := x) (d := d0) r t => by
  unfold aHk
  rw [List.map_cons]
  by_cases e : k = ks
  ·subst e
   rw [if_pos rfl, if_pos rfl]
   exact .cons h (aOk h t)
  ·have e2 : kD k ≠ kD ks := fun z => e (aGh z)
   rw [if_neg e, if_neg e2]
   exact .cons r (aOk h t)
theorem RepT.app {G : Hp} : ∀ {kv kv' : List (List Key × V)} {kvs kvs' : List (D × D)}, RepT K G kv kvs -> RepT K G kv' kvs' -> RepT K G (kv ++ kv') (kvs ++ kvs')
 | _, _, _, _, .nil, r => r
 | _, _, _, _, .cons h t, r => .cons h (RepT.app t r)
theorem RepK.app {G : Hp} : ∀ {kv kv' : List (Key × V)} {kvs kvs' : List (D × D)}, RepK K G kv kvs -> RepK K G kv' kvs' -> RepK K G (kv ++ kv') (kvs ++ kvs')
 | _, _, _, _, .nil, r => r
 | _, _, _, _, .cons h t, r => .cons h (RepK.app t r)
theorem RepT.len {G : Hp} : ∀ {kv : List (List Key × V)} {kvs : List (D × D)}, RepT K G kv kvs -> kv.length = kvs.length
 | _, _, .nil => rfl
 | _, _, .cons _ r => by rw [List.length_cons, List.length_cons, RepT.len r]
theorem RepK.len {G : Hp} : ∀ {kv : List (Key × V)} {kvs : List (D × D)}, RepK K G kv kvs -> kv.length = kvs.length
 | _, _, .nil => rfl
 | _, _, .cons _ r => by rw [List.length_cons, List.length_cons, RepK.len r]
theorem aQb {G : Hp} {ks : List Key} {v : V} {d : D} (h : Rep K G v d) {kv : List (List Key × V)} {kvs : List (D × D)} (r : RepT K G kv kvs) : RepT K G (putK kv ks v) (aDg kvs (tkD ks) d) := by
 unfold putK aDg
 rw [mT]
 rcases aOy ks r with ⟨e1, e2⟩ | ⟨d0, v0, e1, e2, _⟩
 ·rw [e1, e2, if_neg (by simp), if_neg (by simp)]
  exact r.app (.cons h .nil)
 ·rw [e1, e2, if_pos (show (some v0).isSome = true from rfl), if_pos (show (some d0).isSome = true from rfl)]
  exact aPn h r
theorem aO8 {G : Hp} {ks : Key} {v : V} {d : D} (h : Rep K G v d) {kv : List (Key × V)} {kvs : List (D × D)} (r : RepK K G kv kvs) : RepK K G (putK kv ks v) (aDg kvs (kD ks) d) := by
 unfold putK aDg
 rw [mT]
 rcases aOf ks r with ⟨e1, e2⟩ | ⟨d0, v0, e1, e2, _⟩
 ·rw [e1, e2, if_neg (by simp), if_neg (by simp)]
  exact r.app (.cons h .nil)
 ·rw [e1, e2, if_pos (show (some v0).isSome = true from rfl), if_pos (show (some d0).isSome = true from rfl)]
  exact aOk h r
def dsp (kvs : List (D × D)) : Bool × List (D × D) := match kvs with
 | (.none, .none) :: r => (true, r)
 | r => (false, r)
theorem aMh {G : Hp} {kv : List (List Key × V)} {kvs : List (D × D)} (r : RepT K G kv kvs) : dsp kvs = (false, kvs) := by
 cases r with
 | nil => rfl
 | cons _ _ => rfl
def kB : Ev -> Option (List (D × D))
 | .p (.dict kvs) => some kvs
 | .b (.dict kvs) => some kvs
 | _ => none
noncomputable def nV (kvs : List (D × D)) (k : D) : Option (Option D) := match dsp kvs with
 | (true, r) => if (vV k).isSome = true then some (u4 r k) else none
 | (false, r) => if (aKr k).isSome = true then some (u4 r k) else none
theorem xT {W : Addr -> Option Nat} {Hs G H : Hp} {v : V} {r : Ev} {kvs : List (D × D)} (gh : Same G H) (h : EOk K W Hs G H v r) (e : kB r = some kvs) :
  ∃ a, v = .ref a /\ ((∃ kv, H a = some (.dT kv) /\ RepT K G kv kvs) \/ ∃ kv r, kvs = (.none, .none) :: r /\ H a = some (.dK kv) /\ RepK K G kv r) := by
 cases r with
 | p d =>
  cases d with
  | dict es =>
   cases e
   cases h with
   | @dT a kv _ h1 h2 => exact ⟨a, rfl, .inl ⟨kv, gh _ _ h1, h2⟩⟩
   | @dK a kv r h1 h2 => exact ⟨a, rfl, .inr ⟨kv, r, rfl, gh _ _ h1, h2⟩⟩
  | _ => cases e
 | b d =>
  cases d with
  | dict es =>
   cases e
   obtain ⟨a, i, o, rfl, h1, h2, h3⟩ := h
   cases h3 with
   | @dT kv _ h4 => exact ⟨a, rfl, .inl ⟨kv, h2, h4⟩⟩
   | @dK kv r h4 => exact ⟨a, rfl, .inr ⟨kv, r, rfl, h2, h4⟩⟩
  | _ => cases e
 | f d => cases e
 | x C => cases e
def aOi (K : PySem.W.Frag) (G : Hp) : Option D -> Option V -> Prop
 | none, w => w = none
 | some d, w => ∃ x, w = some x /\ Rep K G x d
theorem rF {W : Addr -> Option Nat} {Hs Hs' G H : Hp} {v u : V} {r : Ev} {k : D} {kvs : List (D × D)} {o : Option D} (gh : Same G H) (h : EOk K W Hs G H v r) (e : kB r = some kvs) (hk : Rep K G u k) (el : nV kvs k = some o) :
  ∃ a w, v = .ref a /\ DGet H a u w /\ aOi K G o w := by
 obtain ⟨a, rfl, hh⟩ := xT gh h e
 rcases hh with ⟨kv, h1, h2⟩ | ⟨kv, r, rfl, h1, h2⟩
 ·unfold nV at el
  rw [aMh h2] at el
  dsimp only at el
  split at el
  ·rename_i z
   obtain ⟨ks, ek⟩ := Option.isSome_iff_exists.mp z
   obtain ⟨b, rfl, hb⟩ := aGm hk ek
   have := vJ ek
   subst this
   cases el
   refine ⟨a, rR kv ks, rfl, .t h1 (gh _ _ hb), ?_⟩
   rcases aOy ks h2 with ⟨e1, e2⟩ | ⟨d0, v0, e1, e2, e3⟩
   ·rw [e1, e2]; exact rfl
   ·rw [e1, e2]; exact ⟨v0, rfl, e3⟩
  ·cases el
 ·unfold nV at el
  dsimp only [dsp] at el
  split at el
  ·rename_i z
   obtain ⟨ks, ek⟩ := Option.isSome_iff_exists.mp z
   have hb := aBo hk ek
   subst hb
   have := qK ek
   subst this
   cases el
   refine ⟨a, rR kv ks, rfl, .k h1, ?_⟩
   rcases aOf ks h2 with ⟨e1, e2⟩ | ⟨d0, v0, e1, e2, e3⟩
   ·rw [e1, e2]; exact rfl
   ·rw [e1, e2]; exact ⟨v0, rfl, e3⟩
  ·cases el
noncomputable def lC (x y : Ev) : Res Ev := match y with
 | .p k => match kB x with
  | some kvs => match nV kvs k with
   | some (some d) => .ok (.p d)
   | _ => .bad
  | none => .bad
 | _ => .bad
noncomputable def aGt (ng : Bool) (y x : Ev) : Res Ev := match y with
 | .p k => match kB x with
  | some kvs => match nV kvs k with
   | some o => .ok (.p (.bool (if ng then !o.isSome else o.isSome)))
   | none => .bad
  | none => .bad
 | _ => .bad
theorem vA (hu : X.A.units + 1 < cLine) (ha : DE X E a fa) (hb : DE X E b fb) (hs : aOr b) : DE X E (.Subscript a b pos) (aH lC fa fb) := by
 obtain ⟨ta, pa, ma⟩ := ha.out
 obtain ⟨tb, pb, mb⟩ := hb.out
 refine DE.in ⟨_, aIj hu pa pb hs, fun B G0 G W H σ en Q hh hs hw => ma B G0 G W H σ en _ hh hs (DE.go hw fun x G1 H1 v s1 e1 h1 => ?_)⟩
 refine mb B G0 G1 W H1 σ en _ (hh.step s1) (hs.step s1) (DE.go h1 fun y G2 H2 u s2 e2 h2 => ?_)
 unfold lC at h2
 split at h2
 ·rename_i k ey
  rw [ey] at e2
  split at h2
  ·rename_i kvs ed
   split at h2
   ·rename_i d el
    obtain ⟨a, w, rfl, hg, x, rfl, hx⟩ := rF (Hs' := H1) s2.gh (e1.step (Hs' := H1) s2) ed e2 el
    exact ⟨a, x, rfl, hg, h2 G2 H2 _ (Step.refl s2.gh) hx⟩
   ·exact h2.elim
  ·exact h2.elim
 ·exact h2.elim
theorem aE0 {ta tb : TE} {ng : Bool} (ma : ∀ B G0 G W H σ en Q, SimH B G0 G W H -> SimS X.K W G H σ en -> wpR (fa en) (PostE X.K W G H Q) (PostX (E σ) G H) -> ta σ H Q)
  (mb : ∀ B G0 G W H σ en Q, SimH B G0 G W H -> SimS X.K W G H σ en -> wpR (fb en) (PostE X.K W G H Q) (PostX (E σ) G H) -> tb σ H Q) :
  ∀ B G0 G W H σ en Q, SimH B G0 G W H -> SimS X.K W G H σ en -> wpR (aH (aGt ng) fa fb en) (PostE X.K W G H Q) (PostX (E σ) G H) ->
   ta σ H fun y H1 => tb σ H1 fun x H2 => ∃ a o, x = .ref a /\ DGet H2 a y o /\ Q (.bl (if ng then !o.isSome else o.isSome)) H2 := by
 intro B G0 G W H σ en Q hh hs hw
 refine ma B G0 G W H σ en _ hh hs (DE.go hw fun y G1 H1 u s1 e1 h1 => ?_)
 refine mb B G0 G1 W H1 σ en _ (hh.step s1) (hs.step s1) (DE.go h1 fun x G2 H2 v s2 e2 h2 => ?_)
 have e1' := e1.step (Hs' := H1) s2
 unfold aGt at h2
 split at h2
 ·rename_i k ey
  rw [ey] at e1'
  split at h2
  ·rename_i kvs ed
   split at h2
   ·rename_i o el
    obtain ⟨a, w, rfl, hg, hx⟩ := rF (Hs' := H1) s2.gh e2 ed e1' el
    refine ⟨a, w, rfl, hg, ?_⟩
    have z := h2 G2 H2 _ (Step.refl s2.gh) (.bl _)
    cases o with
    | none => rw [show w = none from hx]; exact z
    | some d => obtain ⟨x', rfl, _⟩ := hx; exact z
   ·exact h2.elim
  ·exact h2.elim
 ·exact h2.elim
theorem aCi (hu : X.A.units + 1 < cLine) (ha : DE X E a fa) (hb : DE X E b fb) (hk : behindInMarks .NotIn b = false := by with_unfolding_all rfl) : DT X E (.Compare a [.NotIn] [b] pos) (bY (aH (aGt true) fa fb)) := by
 obtain ⟨ta, pa, ma⟩ := ha.out
 obtain ⟨tb, pb, mb⟩ := hb.out
 exact DT.in ⟨_, aNt (aAj hu pa pb) hk, q8 (t := aA6 ta tb) (aE0 (ng := true) ma mb)⟩
def mDT : En -> Res Ev := fun _ => .ok (.f (.dict []))
def mDK : En -> Res Ev := fun _ => .ok (.f (.dict [(.none, .none)]))
theorem aDx : DE X E (.Dict [] [] pos) mDT :=
 DE.in ⟨_, aEx, fun B G0 G W H σ en Q hh hs hw p hp => hw _ _ _ (Step.lay hh.gh hp) ⟨p, _, rfl, hp, hh.gh.free hp, a6, .dT .nil⟩⟩
theorem aDv : DE X E (.Dict [] [] pos) mDK :=
 DE.in ⟨_, aF7, fun B G0 G W H σ en Q hh hs hw p hp => hw _ _ _ (Step.lay hh.gh hp) ⟨p, _, rfl, hp, hh.gh.free hp, a6, .dK .nil⟩⟩
noncomputable def yK (kvs : List (D × D)) (k v : D) : Option (List (D × D)) := match dsp kvs with
 | (true, r) => if (vV k).isSome = true /\ r.length <= 100000 then some ((.none, .none) :: aDg r k v) else none
 | (false, r) => if (aKr k).isSome = true /\ r.length <= 100000 then some (aDg r k v) else none
noncomputable def sH (i : Nat) (fk fv : En -> Res Ev) : MS := fun en => match en[i]? with
 | some (some (.o (.dict kvs))) => match fv en with
  | .exc C => some (.ex C en)
  | .bad => none
  | .ok rv => match fk en with
   | .exc C => some (.ex C en)
   | .bad => none
   | .ok rk => match rv.c with
    | .p v => match rk.c with
     | .p k => match yK kvs k v with
      | some kvs' => some (.nx (en.set i (some (.o (.dict kvs')))))
      | none => none
     | _ => none
    | _ => none
 | _ => none
theorem y6 {i : Nat} {x : Str} {pos' np : Pos} {ek ev : Expr} {fk fv : En -> Res Ev} (hu : X.A.units + 1 < cLine) (hd : PE X (.Name x np) (aJi i)) (hk : DE X E ek fk) (hv : DE X E ev fv) (hs : swapsWith ev (some (.Subscript (.Name x np) ek pos')) pos.line X.env = pure false) :
  DS X E (.Assign [.Subscript (.Name x np) ek pos'] ev pos) (sH i fk fv) := by
 obtain ⟨tk, pk, mk⟩ := hk.out
 obtain ⟨tv, pv', mv⟩ := hv.out
 refine DS.in ⟨_, aKd hu hd pk pv' hs, fun B G0 G W H σ en Dn hh hs hw => mv B G0 G W H σ en _ hh hs ?_⟩
 unfold sH at hw
 split at hw
 ·rename_i kvs ei
  obtain ⟨v0, f1, a, o, rfl, f2, f3, f4⟩ := hs.2 i _ ei
  cases ev' : fv en with
  | bad => rw [ev'] at hw; exact hw
  | exc C => rw [ev'] at hw; exact fun G1 H1 s => hw G1 W H1 σ (hh.step s) (hs.step s)
  | ok rv =>
   rw [ev'] at hw
   intro G1 H1 v s1 e1
   obtain ⟨G2, s2, e2⟩ := e1.c s1
   dsimp only at hw
   refine ⟨_, f1, mk B G0 G2 W H1 σ en _ (hh.step s2) (hs.step s2) ?_⟩
   cases ek' : fk en with
   | bad => rw [ek'] at hw; exact hw
   | exc C => rw [ek'] at hw; exact fun G3 H3 s => hw G3 W H3 σ ((hh.step s2).step s) ((hs.step s2).step s)
   | ok rk =>
    rw [ek'] at hw
    intro G3 H3 u s3 e3
    obtain ⟨G4, s4, e4⟩ := e3.c s3
    have e2' := e2.step (Hs' := H1) s4
    have s24 := s2.trans s4
    dsimp only at hw
    split at hw
    ·rename_i vd erv
     rw [erv] at e2'
     split at hw
     ·rename_i kd erk
      rw [erk] at e4
      split at hw
      ·rename_i kvs' ep
       have hx := s24.h _ _ f3
       refine ⟨a, ?_⟩
       unfold yK at ep
       have f5 := f4.mono s24.g
       cases f5 with
       | @dT kv _ rT =>
        rw [aMh rT] at ep
        dsimp only at ep
        split at ep
        ·rename_i hz
         cases ep
         obtain ⟨ks, ek⟩ := Option.isSome_iff_exists.mp hz.1
         obtain ⟨b, rfl, hb⟩ := aGm e4 ek
         have := vJ ek
         subst this
         obtain ⟨w1, w2⟩ := mU (o' := .dT (putK kv ks v)) (d' := .dict (aDg kvs (tkD ks) vd)) (hh.step s24) (hs.step s24) f2 f1 (.dT (aQb e2' rT))
         exact ⟨_, rfl, .t hx (s4.gh _ _ hb) (Nat.lt_of_le_of_lt (by rw [rT.len]; exact hz.2) (by decide)), hw _ _ _ _ w1 w2⟩
        ·cases ep
       | @dK kv r rK =>
        dsimp only [dsp] at ep
        split at ep
        ·rename_i hz
         cases ep
         obtain ⟨ks, ek⟩ := Option.isSome_iff_exists.mp hz.1
         have hb := aBo e4 ek
         subst hb
         have := qK ek
         subst this
         obtain ⟨w1, w2⟩ := mU (o' := .dK (putK kv ks v)) (d' := .dict ((.none, .none) :: aDg r (kD ks) vd)) (hh.step s24) (hs.step s24) f2 f1 (.dK (aO8 e2' rK))
         exact ⟨_, rfl, .k hx (Nat.lt_of_le_of_lt (by rw [rK.len]; exact hz.2) (by decide)), hw _ _ _ _ w1 w2⟩
        ·cases ep
      ·exact hw.elim
     ·exact hw.elim
    ·exact hw.elim
 ·exact hw.elim
def uL : D -> Bool
 | .none => true
 | .bool _ => true
 | .int _ => true
 | .str _ => true
 | _ => false
theorem vZ {G : Hp} {v : V} {d : D} (h : Rep K G v d) (f : uL d = true) : nX v = true := by
 cases h <;> first | rfl | exact absurd f Bool.false_ne_true
theorem aJx {G : Hp} {v u : V} {d e : D} (h : Rep K G v d) (h2 : Rep K G u e) (f : uL d = true) (f2 : uL e = true) : eqV v u = PyData.eqv d e := by
 cases h <;> cases h2 <;> first | rfl | exact absurd f Bool.false_ne_true | exact absurd f2 Bool.false_ne_true | simp only [eqV, PyData.eqv]
def inE (ng : Bool) (x y : Ev) : Res Ev := match x with
 | .p d => match gP y with
  | some ds => if uL d = true /\ ds.all uL = true then .ok (.p (.bool (if ng then !ds.any (fun e => PyData.eqv e d) else ds.any fun e => PyData.eqv e d))) else .bad
  | none => .bad
 | _ => .bad
theorem aK4 {ng : Bool} : NoX (inE ng) := by
 intro x y A h
 unfold inE at h
 split at h
 ·split at h
  ·split at h <;> cases h
  ·cases h
 ·cases h
theorem aCs {G : Hp} {v : V} {d : D} (h : Rep K G v d) (f : uL d = true) : ∀ {xs : List V} {ds : List D}, Reps K G xs ds -> ds.all uL = true -> xs.all nX = true /\ inV v xs = ds.any (fun e => PyData.eqv e d)
 | _, _, .nil, _ => ⟨rfl, rfl⟩
 | _, _, .cons r t, hf => by
  rw [List.all_cons, Bool.and_eq_true] at hf
  obtain ⟨i1, i2⟩ := aCs h f t hf.2
  unfold inV at i2 ⊢
  rw [List.all_cons, List.any_cons, List.any_cons, vZ r hf.1, i1, i2, aJx r h hf.1 f]
  exact ⟨rfl, rfl⟩
theorem aL2 {K : PySem.W.Frag} (h : X.K = K) : OpR X (compareOp .In) (rIn K false) := h ▸ zX
theorem aOu {ng : Bool} : OpM K (rIn K ng) (inE ng) := by
 intro W G H v u x y Q gh hx hy hw
 unfold inE at hw
 split at hw
 ·rename_i d ex
  rw [ex] at hx
  split at hw
  ·rename_i ds ed
   split at hw
   ·rename_i hf
    have hx : Rep K G v d := hx
    have fin : ∀ {xs : List V}, Reps K G xs ds -> xs.all nX = true /\ Q (.bl (if ng then !inV v xs else inV v xs)) H := fun r => by
     obtain ⟨i1, i2⟩ := aCs hx hf.1 r hf.2
     rw [i2]
     exact ⟨i1, hw G H _ (Step.refl gh) (.bl _)⟩
    cases ey : y.c with
    | p dd =>
     rw [ey] at ed hy
     cases dd with
     | list es =>
      cases ed
      cases hy with
      | @lst a xs _ h1 h2 => exact ⟨a, xs, rfl, .inl (.inl (gN gh h1)), vZ hx hf.1, fin h2⟩
     | tuple es =>
      cases ed
      cases hy with
      | @tup a xs _ h1 h2 => exact ⟨a, xs, rfl, .inr (SqT.of (gh _ _ h1)), vZ hx hf.1, fin h2⟩
     | _ => cases ed
    | b dd =>
     rw [ey] at ed hy
     cases dd with
     | list es =>
      cases ed
      obtain ⟨a, k, o, rfl, h1, h2, h3⟩ := hy
      cases h3 with
      | @lst xs _ h4 => exact ⟨a, xs, rfl, .inl (.inl (.inl h2)), vZ hx hf.1, fin h4⟩
     | _ => cases ed
    | f dd => rw [ey] at ed; cases ed
    | x C => rw [ey] at ed; cases ed
   ·exact hw.elim
  ·exact hw.elim
 ·exact hw.elim
end
end M
namespace SRT
open PySem PySem.W PyProof.Rows
structure Ord (lt : Nat -> Nat -> Bool) : Prop where
 as : ∀ i j, lt i j = true -> lt j i = false
 tr : ∀ i j k, lt j i = false -> lt k j = false -> lt k i = false
section
variable {lt : Nat -> Nat -> Bool} {n : Nat} {cmp : Nat -> Nat -> (Bool -> Shared -> Prop) -> Shared -> Prop} {s : Shared}
def le (lt : Nat -> Nat -> Bool) (a b : Nat) : Prop := lt b a = false
theorem Ord.rf (o : Ord lt) (i : Nat) : le lt i i := by
 cases e : lt i i with
 | false => exact e
 | true => have := o.as i i e; rw [e] at this; cases this
theorem Ord.tot (o : Ord lt) {i j : Nat} (h : lt i j = true) : le lt i j := o.as i j h
def Pt (p : Array Nat) (i : Nat) : Nat := p.getD i 0
def Sd (lt : Nat -> Nat -> Bool) (p : Array Nat) (m : Nat) : Prop := ∀ i j, i <= j -> j < m -> le lt (Pt p i) (Pt p j)
def NI (lt : Nat -> Nat -> Bool) (p : Array Nat) (m : Nat) : Prop := ∀ i j, i <= j -> j < m -> le lt (Pt p j) (Pt p i)
def Pm (n : Nat) (p : Array Nat) : Prop := p.Perm (List.range n).toArray
theorem Pm.size {p : Array Nat} (h : Pm n p) : p.size = n := by
 have := h.size_eq
 simpa using this
theorem Pm.bd {p : Array Nat} (h : Pm n p) (hn : 0 < n) (i : Nat) : Pt p i < n := by
 unfold Pt
 by_cases hi : i < p.size
 ·have e : p.getD i 0 = p[i] := by simp [Array.getD, hi]
  rw [e]
  have : p[i] ∈ (List.range n).toArray := h.mem_iff.mp (Array.getElem_mem hi)
  simpa using this
 ·have e : p.getD i 0 = 0 := by simp [Array.getD, hi]
  rw [e]; exact hn
theorem aCp {p q : Array Nat} {i j : Nat} (h : p[i]? = q[j]?) : Pt p i = Pt q j := by
 unfold Pt
 rw [Array.getD_eq_getD_getElem?, Array.getD_eq_getD_getElem?, h]
theorem sZ {p : Array Nat} (h : Pm n p) (i j : Nat) : Pm n (kas_rev p i j) := (mirror_perm _ _ _ _).trans h
theorem sW {p : Array Nat} {i j : Nat} (hj : j <= p.size) (k : Nat) : Pt (kas_rev p i j) k = if i <= k /\ k < j then Pt p (i + j - 1 - k) else Pt p k := by
 have e := getElem?_mirror_all (xs := p) (i := i) hj k
 split
 ·rename_i h
  rw [if_pos h] at e
  exact aCp e
 ·rename_i h
  rw [if_neg h] at e
  exact aCp e
variable (hc : ∀ i j C, i < n -> j < n -> C (lt i j) s -> cmp i j C s) (hn : 0 < n) (o : Ord lt)
include hc hn
theorem aDa {Q : Nat -> Shared -> Prop} {p : Array Nat} (hp : Pm n p) : ∀ (f a : Nat), (∀ m, a <= m -> m <= a + f -> (∀ k, a <= k -> k < m -> le lt (Pt p (k - 1)) (Pt p k)) -> (m < a + f -> lt (Pt p m) (Pt p (m - 1)) = true) -> Q m s) ->
  (kas_asc p f a).kasWp cmp Q s
 | 0, a, h => h a (Nat.le_refl _) (Nat.le_refl _) (fun k h1 h2 => absurd h2 (by omega)) (fun h => absurd h (by omega))
 | f + 1, a, h => by
  refine hc _ _ _ (hp.bd hn _) (hp.bd hn _) ?_
  show KasT.kasWp cmp (if lt (Pt p a) (Pt p (a - 1)) = true then .ret a else kas_asc p f (a + 1)) Q s
  cases e : lt (Pt p a) (Pt p (a - 1)) with
  | true =>
   rw [if_pos rfl]
   exact h a (Nat.le_refl _) (by omega) (fun k h1 h2 => absurd h2 (by omega)) fun _ => e
  | false =>
   rw [if_neg Bool.false_ne_true]
   refine aDa hp f (a + 1) fun m h1 h2 h3 h4 => h m (by omega) (by omega) (fun k k1 k2 => ?_) fun z => h4 (by omega)
   by_cases ek : k = a
   ·subst ek; exact e
   ·exact h3 k (by omega) k2
include o
omit hc hn in
theorem aLg {p : Array Nat} {a m : Nat} (h1 : 1 <= a) (hs : Sd lt p a) (hk : ∀ k, a <= k -> k < m -> le lt (Pt p (k - 1)) (Pt p k)) : Sd lt p m := by
 intro i j hij hj
 induction j with
 | zero =>
  have : i = 0 := by omega
  subst this
  exact o.rf _
 | succ j ih =>
  by_cases e : i = j + 1
  ·subst e; exact o.rf _
  ·have ih := ih (by omega) (by omega)
   by_cases hja : j + 1 < a
   ·exact hs i (j + 1) hij hja
   ·have := hk (j + 1) (by omega) hj
    exact o.tr _ _ _ ih this
omit hc hn in
theorem aLk {p : Array Nat} {m : Nat} (hm : m <= p.size) (h : NI lt p m) : Sd lt (kas_rev p 0 m) m := by
 intro i j hij hj
 rw [sW hm, sW hm, if_pos ⟨Nat.zero_le _, by omega⟩, if_pos ⟨Nat.zero_le _, hj⟩]
 exact h _ _ (by omega) (by omega)
theorem aBm {Q : Nat × Array Nat -> Shared -> Prop} {p : Array Nat} {a r : Nat} (hp : Pm n p) (h1 : 1 <= a) (ha : a <= r) (hr : r <= n) (hni : NI lt p a) (h : ∀ m q, 1 <= m -> m <= r -> Pm n q -> Sd lt q m -> Q (m, q) s) : (kas_tail3 a r p).kasWp cmp Q s := by
 unfold kas_tail3
 rw [KasT.kasWp_bind]
 have hz : a <= p.size := by rw [hp.size]; omega
 refine aDa hc hn (sZ hp 0 a) _ _ fun m h2 h3 h4 _ => ?_
 exact h m _ (by omega) (by omega) (sZ hp 0 a) (aLg o h1 (aLk o hz hni) h4)
omit hc hn in
theorem rev_eq {p : Array Nat} {i j : Nat} (hj : j <= p.size) (he : ∀ a b, i <= a -> a < j -> i <= b -> b < j -> le lt (Pt p a) (Pt p b)) (k : Nat) : le lt (Pt (kas_rev p i j) k) (Pt p k) /\ le lt (Pt p k) (Pt (kas_rev p i j) k) := by
 rw [sW hj]
 split
 ·rename_i h
  exact ⟨he _ _ (by omega) (by omega) h.1 h.2, he _ _ h.1 h.2 (by omega) (by omega)⟩
 ·exact ⟨o.rf _, o.rf _⟩
omit hc hn in
theorem oQ {p : Array Nat} {i j m : Nat} (hj : j <= p.size) (he : ∀ a b, i <= a -> a < j -> i <= b -> b < j -> le lt (Pt p a) (Pt p b)) (h : NI lt p m) : NI lt (kas_rev p i j) m := fun a b hab hb =>
 o.tr _ _ _ (rev_eq o hj he b).1 (o.tr _ _ _ (h a b hab hb) (rev_eq o hj he a).2)
theorem qP {Q : Array Nat × Nat × Nat -> Shared -> Prop} {r : Nat} (hr : r <= n) : ∀ (f : Nat) (p : Array Nat) (a q : Nat), Pm n p -> a + f <= r -> q + 1 <= a -> NI lt p a -> (∀ x y, a - (q + 1) <= x -> x < a -> a - (q + 1) <= y -> y < a -> le lt (Pt p x) (Pt p y)) ->
  (∀ p' a' q', Pm n p' -> a <= a' -> a' <= r -> q' + 1 <= a' -> NI lt p' a' -> (∀ x y, a' - (q' + 1) <= x -> x < a' -> a' - (q' + 1) <= y -> y < a' -> le lt (Pt p' x) (Pt p' y)) -> Q (p', a', q') s) -> (kas_desc f p a q).kasWp cmp Q s
 | 0, p, a, q, hp, hf, hq, hni, he, h => h p a q hp (Nat.le_refl _) (by omega) hq hni he
 | f + 1, p, a, q, hp, hf, hq, hni, he, h => by
  have hz : a <= p.size := by rw [hp.size]; omega
  refine hc _ _ _ (hp.bd hn _) (hp.bd hn _) ?_
  show KasT.kasWp cmp (if lt (Pt p a) (Pt p (a - 1)) = true then (if q > 0 then kas_desc f (kas_rev p (a - (q + 1)) a) (a + 1) 0 else kas_desc f p (a + 1) 0)
   else .ask (Pt p (a - 1)) (Pt p a) fun d => if d = true then .ret (p, a, q) else kas_desc f p (a + 1) (q + 1)) Q s
  have grow : ∀ {p' : Array Nat}, NI lt p' a -> le lt (Pt p' a) (Pt p' (a - 1)) -> NI lt p' (a + 1) := fun {p'} h1 h2 i j hij hj => by
   by_cases e : j = a
   ·subst e
    by_cases e2 : i = j
    ·subst e2; exact o.rf _
    ·exact o.tr _ _ _ h2 (h1 i (j - 1) (by omega) (by omega))
   ·exact h1 i j hij (by omega)
  cases e : lt (Pt p a) (Pt p (a - 1)) with
  | true =>
   rw [if_pos rfl]
   by_cases hq0 : q > 0
   ·rw [if_pos hq0]
    have n1 := oQ o hz he hni
    have e1 : Pt (kas_rev p (a - (q + 1)) a) a = Pt p a := by rw [sW hz, if_neg (by omega)]
    have le1 : le lt (Pt (kas_rev p (a - (q + 1)) a) a) (Pt (kas_rev p (a - (q + 1)) a) (a - 1)) := by
     rw [e1]
     exact o.tr _ _ _ (o.tot e) (rev_eq o hz he (a - 1)).2
    refine qP hr f _ (a + 1) 0 (sZ hp _ _) (by omega) (by omega) (grow n1 le1) (fun x y h1 h2 h3 h4 => ?_) fun p' a' q' k1 k2 k3 k4 k5 k6 => h p' a' q' k1 (by omega) k3 k4 k5 k6
    have : x = y := by omega
    subst this; exact o.rf _
   ·rw [if_neg hq0]
    refine qP hr f _ (a + 1) 0 hp (by omega) (by omega) (grow hni (o.tot e)) (fun x y h1 h2 h3 h4 => ?_) fun p' a' q' k1 k2 k3 k4 k5 k6 => h p' a' q' k1 (by omega) k3 k4 k5 k6
    have : x = y := by omega
    subst this; exact o.rf _
  | false =>
   rw [if_neg Bool.false_ne_true]
   refine hc _ _ _ (hp.bd hn _) (hp.bd hn _) ?_
   show KasT.kasWp cmp (if lt (Pt p (a - 1)) (Pt p a) = true then .ret (p, a, q) else kas_desc f p (a + 1) (q + 1)) Q s
   cases e2 : lt (Pt p (a - 1)) (Pt p a) with
   | true =>
    rw [if_pos rfl]
    exact h p a q hp (Nat.le_refl _) (by omega) hq hni he
   | false =>
    rw [if_neg Bool.false_ne_true]
    have eq1 : le lt (Pt p (a - 1)) (Pt p a) := e
    have eq2 : le lt (Pt p a) (Pt p (a - 1)) := e2
    refine qP hr f p (a + 1) (q + 1) hp (by omega) (by omega) (grow hni eq2) (fun x y h1 h2 h3 h4 => ?_) fun p' a' q' k1 k2 k3 k4 k5 k6 => h p' a' q' k1 (by omega) k3 k4 k5 k6
    by_cases hx : x = a
    ·subst hx
     by_cases hy : y = x
     ·subst hy; exact o.rf _
     ·exact o.tr _ _ _ eq2 (he _ _ (by omega) (by omega) (by omega) (by omega))
    ·by_cases hy : y = a
     ·subst hy
      exact o.tr _ _ _ (he _ (y - 1) (by omega) (by omega) (by omega) (by omega)) eq1
     ·exact he _ _ (by omega) (by omega) (by omega) (by omega)
theorem oJ {Q : Nat × Array Nat -> Shared -> Prop} {p : Array Nat} {a r : Nat} (hp : Pm n p) (h1 : 1 <= a) (ha : a + 1 <= r) (hr : r <= n) (hni : NI lt p (a + 1)) (h : ∀ m q, 1 <= m -> m <= r -> Pm n q -> Sd lt q m -> Q (m, q) s) : (kas_descPart a r p).kasWp cmp Q s := by
 unfold kas_descPart
 rw [KasT.kasWp_bind]
 refine qP hc hn o hr _ p (a + 1) 0 hp (by omega) (by omega) hni (fun x y h1 h2 h3 h4 => ?_) fun p' a' q' k1 k2 k3 k4 k5 k6 => ?_
 ·have : x = y := by omega
  subst this; exact o.rf _
 ·have hz : a' <= p'.size := by rw [k1.size]; omega
  show KasT.kasWp cmp (if q' > 0 then kas_tail3 a' r (kas_rev p' (a' - (q' + 1)) a') else kas_tail3 a' r p') Q s
  by_cases hq : q' > 0
  ·rw [if_pos hq]
   exact aBm hc hn o (sZ k1 _ _) (by omega) k3 hr (oQ o hz k6 k5) h
  ·rw [if_neg hq]
   exact aBm hc hn o k1 (by omega) k3 hr k5 h
theorem aDz {Q : Nat × Array Nat -> Shared -> Prop} {p : Array Nat} {r : Nat} (hp : Pm n p) (h1 : 1 <= r) (hr : r <= n) (h : ∀ m q, 1 <= m -> m <= r -> Pm n q -> Sd lt q m -> Q (m, q) s) : (kas_count r p).kasWp cmp Q s := by
 unfold kas_count
 rw [KasT.kasWp_bind]
 have s1 : Sd lt p 1 := fun i j hij hj => by
  have : i = j := by omega
  subst this; exact o.rf _
 refine aDa hc hn hp _ _ fun m h2 h3 h4 h5 => ?_
 have sm := aLg o (Nat.le_refl 1) s1 h4
 show KasT.kasWp cmp (if (m == r) = true then .ret (m, p) else if m > 1 then .ask (Pt p 0) (Pt p (m - 1)) fun c => if c = true then .ret (m, p) else kas_descPart m r (kas_rev p 0 m) else kas_descPart m r p) Q s
 by_cases em : m = r
 ·rw [if_pos (by simp [em])]
  exact h m p h2 (by omega) hp sm
 ·rw [if_neg (by simp [em])]
  have hlt := h5 (by omega)
  have hz : m <= p.size := by rw [hp.size]; omega
  by_cases hm : m > 1
  ·rw [if_pos hm]
   refine hc _ _ _ (hp.bd hn _) (hp.bd hn _) ?_
   show KasT.kasWp cmp (if lt (Pt p 0) (Pt p (m - 1)) = true then .ret (m, p) else kas_descPart m r (kas_rev p 0 m)) Q s
   cases e : lt (Pt p 0) (Pt p (m - 1)) with
   | true => rw [if_pos rfl]; exact h m p h2 (by omega) hp sm
   | false =>
    rw [if_neg Bool.false_ne_true]
    have e : le lt (Pt p (m - 1)) (Pt p 0) := e
    have he : ∀ a b, 0 <= a -> a < m -> 0 <= b -> b < m -> le lt (Pt p a) (Pt p b) := fun a b _ ha _ hb =>
     o.tr _ _ _ (sm a (m - 1) (by omega) (by omega)) (o.tr _ _ _ e (sm 0 b (by omega) hb))
    have nm : NI lt p m := fun i j hij hj => he j i (by omega) hj (by omega) (by omega)
    have n2 := oQ o hz he nm
    have em1 : Pt (kas_rev p 0 m) m = Pt p m := by rw [sW hz, if_neg (by omega)]
    refine oJ hc hn o (sZ hp 0 m) (by omega) (by omega) hr (fun i j hij hj => ?_) h
    by_cases ej : j = m
    ·subst ej
     by_cases ei : i = j
     ·subst ei; exact o.rf _
     ·rw [em1]
      refine o.tr _ _ _ (o.tot hlt) (o.tr _ _ _ (rev_eq o hz he (j - 1)).2 ?_)
      exact n2 i (j - 1) (by omega) (by omega)
    ·exact n2 i j hij (by omega)
  ·rw [if_neg hm]
   have e1 : m = 1 := by omega
   subst e1
   refine oJ hc hn o hp (Nat.le_refl 1) (by omega) hr (fun i j hij hj => ?_) h
   by_cases ei : i = j
   ·subst ei; exact o.rf _
   ·have : i = 0 /\ j = 1 := by omega
    obtain ⟨rfl, rfl⟩ := this
    exact o.tot hlt
theorem p8 {Q : Nat -> Shared -> Prop} {p : Array Nat} {k : Nat} (hp : Pm n p) (hs : Sd lt p k) : ∀ (f l r : Nat), l <= r -> r <= k -> r - l <= f -> (∀ i, i < l -> le lt (Pt p i) (Pt p k)) -> (∀ i, r <= i -> i < k -> lt (Pt p k) (Pt p i) = true) ->
  (∀ m, m <= k -> (∀ i, i < m -> le lt (Pt p i) (Pt p k)) -> (∀ i, m <= i -> i < k -> lt (Pt p k) (Pt p i) = true) -> Q m s) -> (kas_place p k f l r).kasWp cmp Q s
 | 0, l, r, h1, h2, h3, h4, h5, h => by
  have : l = r := by omega
  subst this
  exact h l h2 h4 h5
 | f + 1, l, r, h1, h2, h3, h4, h5, h => by
  unfold kas_place
  by_cases e : l ≥ r
  ·rw [if_pos e]
   have : l = r := by omega
   subst this
   exact h l h2 h4 h5
  ·rw [if_neg e]
   refine hc _ _ _ (hp.bd hn _) (hp.bd hn _) ?_
   show KasT.kasWp cmp (if lt (Pt p k) (Pt p ((l + r) / 2)) = true then kas_place p k f l ((l + r) / 2) else kas_place p k f ((l + r) / 2 + 1) r) Q s
   cases ec : lt (Pt p k) (Pt p ((l + r) / 2)) with
   | true =>
    rw [if_pos rfl]
    refine p8 hp hs f l ((l + r) / 2) (by omega) (by omega) (by omega) h4 (fun i i1 i2 => ?_) h
    cases ei : lt (Pt p k) (Pt p i) with
    | true => rfl
    | false =>
     have := o.tr _ _ _ (hs ((l + r) / 2) i i1 i2) ei
     rw [ec] at this; cases this
   | false =>
    rw [if_neg Bool.false_ne_true]
    refine p8 hp hs f ((l + r) / 2 + 1) r (by omega) h2 (by omega) (fun i i1 => ?_) h5 h
    exact o.tr _ _ _ (hs i ((l + r) / 2) (by omega) (by omega)) ec
omit hc hn in
theorem aHd {p : Array Nat} {k l : Nat} (hk : k < p.size) (hl : l <= k) (i : Nat) : Pt (bubble p k (k - l)) i = if i = l then Pt p k else if l < i /\ i <= k then Pt p (i - 1) else Pt p i := by
 have e := getElem?_bubble hk (k - l) (by omega) i
 have e1 : k - (k - l) = l := by omega
 rw [e1] at e
 repeat' split
 ·rename_i h; rw [if_pos h] at e; exact aCp e
 ·rename_i h h2; rw [if_neg h, if_pos h2] at e; exact aCp e
 ·rename_i h h2; rw [if_neg h, if_neg h2] at e; exact aCp e
theorem aHe {Q : Array Nat -> Shared -> Prop} : ∀ (f : Nat) (p : Array Nat) (k : Nat), Pm n p -> k + f <= n -> Sd lt p k -> (∀ q, Pm n q -> Sd lt q (k + f) -> Q q s) -> (kas_bin f p k).kasWp cmp Q s
 | 0, p, k, hp, _, hs, h => h p hp hs
 | f + 1, p, k, hp, hk, hs, h => by
  unfold kas_bin
  rw [KasT.kasWp_bind]
  have hz : k < p.size := by rw [hp.size]; omega
  refine p8 hc hn o hp hs k 0 k (Nat.zero_le _) (Nat.le_refl _) (by omega) (fun i h => absurd h (by omega)) (fun i h1 h2 => absurd h2 (by omega)) fun l hl h1 h2 => ?_
  refine aHe f _ (k + 1) ((bubble_perm _ _ _).trans hp) (by omega) (fun i j hij hj => ?_) fun q q1 q2 => h q q1 (by rw [show k + (f + 1) = k + 1 + f by omega]; exact q2)
  rw [aHd o hz hl, aHd o hz hl]
  by_cases ei : i = l
  ·rw [if_pos ei]
   by_cases ej : j = l
   ·rw [if_pos ej]; exact o.rf _
   ·rw [if_neg ej, if_pos ⟨by omega, by omega⟩]
    exact o.tot (h2 (j - 1) (by omega) (by omega))
  ·rw [if_neg ei]
   by_cases ej : j = l
   ·rw [if_pos ej, if_neg (by omega)]
    exact h1 i (by omega)
   ·rw [if_neg ej]
    by_cases hi : l < i /\ i <= k
    ·rw [if_pos hi, if_pos ⟨by omega, by omega⟩]
     exact hs _ _ (by omega) (by omega)
    ·rw [if_neg hi]
     by_cases hj2 : l < j /\ j <= k
     ·rw [if_pos hj2]
      exact hs _ _ (by omega) (by omega)
     ·rw [if_neg hj2]
      exact hs _ _ (by omega) (by omega)
theorem aJ9 {Q : Array Nat -> Shared -> Prop} (h : ∀ q, Pm n q -> Sd lt q n -> Q q s) : (kas_sort n).kasWp cmp Q s := by
 unfold kas_sort
 rw [KasT.kasWp_bind]
 refine aDz hc hn o (Array.Perm.refl _) hn (Nat.le_refl n) fun m q h1 h2 h3 h4 => ?_
 show KasT.kasWp cmp (if m < n then kas_bin (n - max m 1) q (max m 1) else .ret q) Q s
 have em : max m 1 = m := by omega
 by_cases e : m < n
 ·rw [if_pos e, em]
  refine aHe hc hn o _ _ _ h3 (by omega) h4 fun q' k1 k2 => h q' k1 (by rw [show m + (n - m) = n by omega] at k2; exact k2)
 ·rw [if_neg e]
  have : m = n := by omega
  subst this
  exact h q h3 h4
end
end SRT
namespace SRT
open PySem PySem.W PyProof.Rows L2
def aNz (h : Heap) (v : Value) (ns : List Int) : Prop := ∃ t o xs c, v = .ref t /\ h.get? t = some o /\ o.cls = .type "tuple" /\ o.data = .seq xs c /\ IntsAre xs.toList ns
theorem kR : ∀ {vs : List Value} {ns : List Int}, IntsAre vs ns -> vs.length = ns.length
 | _, _, .nil => rfl
 | _, _, .cons _ _ r => by rw [List.length_cons, List.length_cons, kR r]
theorem aAn : ∀ a b : List Int, HT.lexLt a b = true -> HT.lexLt b a = false
 | [], [], h => by cases h
 | [], _ :: _, _ => rfl
 | _ :: _, [], h => by cases h
 | x :: a, y :: b, h => by
  rw [HT.fN] at h ⊢
  by_cases e : x = y
  ·rw [if_pos e] at h; rw [if_pos e.symm]; exact aAn a b h
  ·rw [if_neg e] at h; rw [if_neg (Ne.symm e)]
   have := of_decide_eq_true h
   exact decide_eq_false (by omega)
theorem aAu : ∀ a b c : List Int, HT.lexLt b a = false -> HT.lexLt c b = false -> HT.lexLt c a = false
 | [], _, [], _, _ => rfl
 | [], b, _ :: _, _, _ => rfl
 | _ :: _, [], _, h, _ => by cases h
 | x :: a, y :: b, [], _, h => by cases h
 | x :: a, y :: b, z :: c, h1, h2 => by
  rw [HT.fN] at h1 h2 ⊢
  by_cases e1 : y = x
  ·subst e1
   rw [if_pos rfl] at h1
   by_cases e2 : z = y
   ·subst e2
    rw [if_pos rfl] at h2 ⊢
    exact aAu a b c h1 h2
   ·rw [if_neg e2] at h2 ⊢
    exact h2
  ·rw [if_neg e1] at h1
   have q1 := of_decide_eq_false h1
   by_cases e2 : z = y
   ·subst e2
    rw [if_neg e1]
    exact h1
   ·rw [if_neg e2] at h2
    have q2 := of_decide_eq_false h2
    have e3 : z ≠ x := by omega
    rw [if_neg e3]
    exact decide_eq_false (by omega)
theorem aGp : ∀ a b : List Int, HT.lexLt a b = false -> HT.lexLt b a = false -> a = b
 | [], [], _, _ => rfl
 | [], _ :: _, h, _ => by cases h
 | _ :: _, [], _, h => by cases h
 | x :: a, y :: b, h1, h2 => by
  rw [HT.fN] at h1 h2
  by_cases e : x = y
  ·subst e
   rw [if_pos rfl] at h1 h2
   rw [aGp a b h1 h2]
  ·rw [if_neg e] at h1; rw [if_neg (Ne.symm e)] at h2
   have q1 := of_decide_eq_false h1
   have q2 := of_decide_eq_false h2
   omega
theorem aB8 (ks : List (List Int)) : Ord fun i j => HT.lexLt (ks.getD i []) (ks.getD j []) := ⟨fun _ _ => aAn _ _, fun _ _ _ => aAu _ _ _⟩
section
variable {prog : Program} {w : World} {A : Around} {E : Value -> Shared -> Prop} {s : Shared}
theorem aHa {b fin : Bool} {Q : Bool -> Shared -> Prop} : ∀ {us ws : List Value} {ns ms : List Int} (i : Nat), IntsAre us ns -> IntsAre ws ms -> (fin = decide (ns.length < ms.length)) -> Q (HT.lexLt ns ms) s -> KatLex prog w A b fin Q (us.zip ws) i s
 | _, _, [], [], i, .nil, .nil, hf, q => by
  rw [hf]; exact q
 | _, _, [], m :: ms, i, .nil, .cons _ _ _, hf, q => by
  rw [hf]
  show Q (decide (0 < ms.length + 1)) s
  rw [decide_eq_true (Nat.succ_pos _)]
  exact q
 | _, _, n :: ns, [], i, .cons _ _ _, .nil, hf, q => by
  rw [hf]
  show Q (decide (ns.length + 1 < 0)) s
  rw [decide_eq_false (Nat.not_lt_zero _)]
  exact q
 | _, _, n :: ns, m :: ms, i, .cons _ t hi, .cons _ u hj, hf, q => by
  rw [HT.fN] at q
  refine kat_cons (wpAny_eqBool_int ?_)
  by_cases e : n = m
  ·rw [if_pos e] at q
   rw [show (n == m) = true by simp [e]]
   exact kat_yes (aHa (i + 1) hi hj (by rw [hf]; simp) q)
  ·rw [if_neg e] at q
   rw [show (n == m) = false by simp [e]]
   refine kat_no ?_
   cases eb : (b && i == 0) with
   | true => exact oneLt_int q
   | false => exact kat_one _ _ (lt_int q)
theorem aD3 {x y : Value} {ns ms : List Int} {Q : Bool -> Shared -> Prop} (b : Bool) (hx : aNz s.heap x ns) (hy : aNz s.heap y ms) (q : Q (HT.lexLt ns ms) s) : wpAny (model prog w) A (keyLt' (tuples' b) x y) Q E s := by
 obtain ⟨t, o, xs, c, rfl, ho, hc, hd, hi⟩ := hx
 obtain ⟨t2, o2, xs2, c2, rfl, ho2, hc2, hd2, hi2⟩ := hy
 refine kat_lt ho hd ho2 hd2 (aHa 0 hi hi2 ?_ q)
 have e1 := kR hi
 have e2 := kR hi2
 rw [Array.length_toList] at e1 e2
 rw [e1, e2]
def TupsI (h : Heap) (vs : List Value) (ks : List (List Int)) : Prop := vs.length = ks.length /\ ∀ (i : Nat) (v : Value) (k : List Int), vs[i]? = some v -> ks[i]? = some k -> aNz h v k /\ k ≠ []
theorem TupsI.cons {h : Heap} {v : Value} {vs : List Value} {ks : List (List Int)} (x : TupsI h (v :: vs) ks) : ∃ k r, ks = k :: r /\ aNz h v k /\ k ≠ [] /\ TupsI h vs r := by
 obtain ⟨hl, ha⟩ := x
 cases ks with
 | nil => simp at hl
 | cons k r =>
  obtain ⟨h1, h2⟩ := ha 0 v k rfl rfl
  exact ⟨k, r, rfl, h1, h2, by simpa using hl, fun i v k e1 e2 => ha (i + 1) v k (by simpa using e1) (by simpa using e2)⟩
theorem aP0 {h : Heap} : ∀ {vs : List Value} {ks : List (List Int)}, TupsI h vs ks -> ∃ fs, KatTups h vs fs /\ fs.length = vs.length /\ ∀ f ∈ fs, ∃ i t, f = Value.int i t
 | [], _, _ => ⟨[], KatTups.nil, rfl, fun _ z => nomatch z⟩
 | v :: vs, ks, x => by
  obtain ⟨k, r, rfl, ⟨t, o, xs, c, rfl, ho, hc, hd, hi⟩, hk, hr⟩ := x.cons
  obtain ⟨fs, h1, h2, h3⟩ := aP0 hr
  cases k with
  | nil => exact absurd rfl hk
  | cons n k =>
   cases hx : xs.toList with
   | nil => rw [hx] at hi; cases hi
   | cons y ys =>
    rw [hx] at hi
    cases hi with
    | cons _ tt _ =>
     refine ⟨.int n tt :: fs, KatTups.cons ho hc hd ?_ h1, by simp [h2], fun f hf => ?_⟩
     ·have : xs.toList[0]? = some (Value.int n tt) := by rw [hx]; rfl
      simpa using this
     ·rcases List.mem_cons.mp hf with rfl | hf
      ·exact ⟨n, tt, rfl⟩
      ·exact h3 f hf
theorem range_getD (vs : List Value) : ((List.range vs.length).map fun i => vs.getD i Value.none) = vs := by
 refine List.ext_getElem? fun i => ?_
 rw [List.getElem?_map]
 by_cases hi : i < vs.length
 ·rw [List.getElem?_range hi]
  simp [hi]
 ·rw [List.getElem?_eq_none (by rw [List.length_range]; omega), List.getElem?_eq_none (by omega)]
  rfl
def aKv (H : Hp) (ts : List V) (ks : List (List Int)) : Prop := ts.length = ks.length /\ ∀ (i : Nat) (t : V) (k : List Int), ts[i]? = some t -> ks[i]? = some k -> (∃ b, t = .ref b /\ H b = some (.tup (k.map V.int))) /\ k ≠ []
end
theorem aAy {P : Program} {w : World} {H : Hp} {h : Heap} {ts : List V} {ks : List (List Int)} {vs : List Value} (ok : HOk P w H h) (r : aKv H ts ks) (v : Vals ts vs) : TupsI h vs ks := by
 have hl := v.length
 refine ⟨by rw [<- hl]; exact r.1, fun i u k e1 e2 => ?_⟩
 have hi : i < ts.length := by
  have := (List.getElem?_eq_some_iff.mp e1).1
  omega
 obtain ⟨⟨b, eb, hb⟩, hk⟩ := r.2 i ts[i] k (List.getElem?_eq_getElem hi) e2
 obtain ⟨u', e3, ru⟩ := v.get (i := i) (x := ts[i]) (List.getElem?_eq_getElem hi)
 rw [e1] at e3
 cases e3
 rw [eb] at ru
 cases (show u = Value.ref b from ru)
 obtain ⟨_, its, rv, o, ho, hc, n, hd⟩ := (show ObjOk P w H h b (.tup (k.map V.int)) from ok b _ hb)
 exact ⟨⟨b, o, _, n, rfl, ho, hc, hd, by rw [List.toList_toArray]; exact intsAre_of rv⟩, hk⟩
def l8 (ks : List (List Int)) : Nat -> Nat -> Bool := fun i j => HT.lexLt (ks.getD i []) (ks.getD j [])
theorem tR {ts : List V} {vs : List Value} (v : Vals ts vs) : ∀ (l : List Nat), (∀ i ∈ l, i < ts.length) -> Vals (l.map fun i => ts.getD i .non) (l.map fun i => vs.getD i Value.none)
 | [], _ => .nil
 | i :: l, h => by
  have hi := h i (.head _)
  obtain ⟨u, e, r⟩ := v.get (i := i) (x := ts[i]) (List.getElem?_eq_getElem hi)
  have e1 : ts.getD i .non = ts[i] := by simp [hi]
  have e2 : vs.getD i Value.none = u := by simp [e]
  refine .cons ?_ (tR v l fun j hj => h j (.tail _ hj))
  show RelV (ts.getD i .non) (vs.getD i Value.none)
  rw [e1, e2]; exact r
theorem Paired.get {α β : Type} {F : α -> β -> Prop} : ∀ {l₁ : List α} {l₂ : List β} {i : Nat} {a : α}, Paired F l₁ l₂ -> l₁[i]? = some a -> ∃ b, l₂[i]? = some b /\ F a b
 | _, _, _, _, .nil, e => by simp at e
 | _, _, 0, _, .cons h _, e => by simp at e; subst e; exact ⟨_, rfl, h⟩
 | _, _, i + 1, _, .cons _ r, e => by
  have := Paired.get (i := i) r (by simpa using e)
  simpa using this
theorem sC {κ : Type} : ∀ l : List (κ × Addr × Value), Vals (l.map fun x => V.ref x.2.1) (l.map fun x => Value.ref x.2.1)
 | [] => .nil
 | _ :: l => .cons rfl (sC l)
section
variable {X : Cx}
end
end SRT
namespace M
open PySem PySem.Spec PyProof.Rows L2 SRT
def uH (k : List Int) : D := .tuple (k.map .int)
def tF : List D -> Option (List Int)
 | [] => some []
 | .int i :: ds => match tF ds with
  | some r => some (i :: r)
  | none => none
 | _ => none
def aCt : D -> Option (List Int)
 | .tuple ds => tF ds
 | _ => none
def p0 : List D -> Option (List (List Int))
 | [] => some []
 | d :: ds => match aCt d with
  | none => none
  | some k => match p0 ds with
   | none => none
   | some ks => some (k :: ks)
theorem mP : ∀ {ds : List D} {k : List Int}, tF ds = some k -> ds = k.map .int
 | [], _, h => by cases h; rfl
 | d :: ds, k, h => by
  cases d with
  | int i =>
   unfold tF at h
   cases e : tF ds with
   | none => rw [e] at h; cases h
   | some r => rw [e] at h; cases h; rw [mP e]; rfl
  | _ => cases h
theorem nD : ∀ k : List Int, tF (k.map .int) = some k
 | [] => rfl
 | i :: k => by
  show (match tF (k.map .int) with | some r => some (i :: r) | none => none) = _
  rw [nD k]
theorem zC (k : List Int) : aCt (uH k) = some k := nD k
theorem aEe {d : D} {k : List Int} (h : aCt d = some k) : d = uH k := by
 cases d with
 | tuple ds => unfold uH; rw [<- mP h]
 | _ => cases h
theorem mM : ∀ {ds : List D} {ks : List (List Int)}, p0 ds = some ks -> ds = ks.map uH
 | [], _, h => by cases h; rfl
 | d :: ds, ks, h => by
  unfold p0 at h
  cases e : aCt d with
  | none => rw [e] at h; cases h
  | some k =>
   rw [e] at h
   cases e2 : p0 ds with
   | none => rw [e2] at h; cases h
   | some ks' => rw [e2] at h; cases h; rw [aEe e, mM e2]; rfl
theorem uB : ∀ ks : List (List Int), p0 (ks.map uH) = some ks
 | [] => rfl
 | k :: ks => by
  show (match aCt (uH k) with | none => none | some k => match p0 (ks.map uH) with | none => none | some ks => some (k :: ks)) = _
  rw [zC, uB ks]
def aIl (k : List Int) : List (List Int) -> List (List Int)
 | [] => [k]
 | x :: r => if HT.lexLt k x = true then k :: x :: r else x :: aIl k r
def sG : List (List Int) -> List (List Int)
 | [] => []
 | k :: ks => aIl k (sG ks)
def leK (a b : List Int) : Prop := HT.lexLt b a = false
theorem nF (k : List Int) : ∀ l, (aIl k l).Perm (k :: l)
 | [] => .refl _
 | x :: r => by
  unfold aIl
  split
  ·exact .refl _
  ·exact ((nF k r).cons x).trans (List.Perm.swap k x r)
theorem gU : ∀ l, (sG l).Perm l
 | [] => .refl _
 | k :: ks => (nF k _).trans ((gU ks).cons k)
theorem aEr {k y : List Int} {l : List (List Int)} (h : y ∈ aIl k l) : y = k \/ y ∈ l := by
 have := (nF k l).mem_iff.mp h
 exact List.mem_cons.mp this
theorem nU (k : List Int) : ∀ l, l.Pairwise leK -> (aIl k l).Pairwise leK
 | [], _ => List.pairwise_singleton _ _
 | x :: r, h => by
  unfold aIl
  obtain ⟨h1, h2⟩ := List.pairwise_cons.mp h
  split
  ·rename_i e
   have e1 := aAn _ _ e
   exact List.pairwise_cons.mpr ⟨fun y hy => by
    rcases List.mem_cons.mp hy with rfl | hy
    ·exact e1
    ·exact aAu _ _ _ e1 (h1 y hy), h⟩
  ·rename_i e
   refine List.pairwise_cons.mpr ⟨fun y hy => ?_, nU k r h2⟩
   rcases aEr hy with rfl | hy
   ·exact Bool.eq_false_iff.mpr e
   ·exact h1 y hy
theorem iT : ∀ l, (sG l).Pairwise leK
 | [] => .nil
 | k :: ks => nU k _ (iT ks)
theorem oB : ∀ {a b : List (List Int)}, a.Perm b -> a.Pairwise leK -> b.Pairwise leK -> a = b
 | [], b, p, _, _ => (List.Perm.nil_eq p)
 | x :: a, [], p, _, _ => absurd p.length_eq (by simp)
 | x :: a, y :: b, p, ha, hb => by
  obtain ⟨a1, a2⟩ := List.pairwise_cons.mp ha
  obtain ⟨b1, b2⟩ := List.pairwise_cons.mp hb
  have hx : x ∈ y :: b := p.mem_iff.mp (.head _)
  have hy : y ∈ x :: a := p.mem_iff.mpr (.head _)
  have e : x = y := by
   rcases List.mem_cons.mp hx with e | hx
   ·exact e
   ·rcases List.mem_cons.mp hy with e | hy
    ·exact e.symm
    ·exact aGp _ _ (b1 x hx) (a1 y hy)
  subst e
  rw [oB (List.Perm.cons_inv p) a2 b2]
theorem picked {ks : List (List Int)} {q : Array Nat} {n : Nat} (hn : n = ks.length) (hp : Pm n q) (hs : Sd (l8 ks) q n) : (q.toList.map fun i => ks.getD i []) = sG ks := by
 subst hn
 have e0 : ((List.range ks.length).map fun i => ks.getD i []) = ks := by
  refine List.ext_getElem? fun i => ?_
  rw [List.getElem?_map]
  by_cases hi : i < ks.length
  ·rw [List.getElem?_range hi]; simp [hi]
  ·rw [List.getElem?_eq_none (by rw [List.length_range]; omega), List.getElem?_eq_none (by omega)]; rfl
 have p1 : q.toList.Perm (List.range ks.length) := by
  have := hp.toList
  simpa using this
 have p2 : (q.toList.map fun i => ks.getD i []).Perm ks := by
  have := p1.map (fun i => ks.getD i [])
  rwa [e0] at this
 refine oB (p2.trans (gU ks).symm) ?_ (iT ks)
 rw [List.pairwise_iff_getElem]
 intro i j hi hj hij
 rw [List.length_map] at hi hj
 rw [List.getElem_map, List.getElem_map]
 have sz : q.toList.length = ks.length := by rw [Array.length_toList]; exact hp.size
 have := hs i j (Nat.le_of_lt hij) (by omega)
 unfold SRT.le l8 Pt at this
 have e1 : q.getD i 0 = q.toList[i] := by
  have : i < q.size := by rw [<- Array.length_toList]; exact hi
  simp [Array.getD, this]
 have e2 : q.getD j 0 = q.toList[j] := by
  have : j < q.size := by rw [<- Array.length_toList]; exact hj
  simp [Array.getD, this]
 rw [e1, e2] at this
 exact this
section
variable {X : Cx} {K : PySem.W.Frag}
theorem aD0 {G : Hp} {v : V} {k : List Int} (h : Rep K G v (uH k)) : ∃ b, v = .ref b /\ G b = some (.tup (k.map V.int)) := by
 cases h with
 | @tup b xs _ h1 h2 =>
  refine ⟨b, rfl, ?_⟩
  have : xs = k.map V.int := by
   clear h1
   induction k generalizing xs with
   | nil => cases h2; rfl
   | cons i k ih =>
    cases h2 with
    | cons r t => cases r; rw [ih t]; rfl
  rw [<- this]; exact h1
theorem aEt {G : Hp} {b : Addr} {k : List Int} (h : G b = some (.tup (k.map V.int))) : Rep K G (.ref b) (uH k) := by
 refine .tup h ?_
 clear h
 induction k with
 | nil => exact .nil
 | cons i k ih => exact .cons (.int i) ih
theorem aB4 {G H : Hp} (gh : Same G H) : ∀ {ts : List V} {ks : List (List Int)}, Reps K G ts (ks.map uH) -> (∀ k ∈ ks, k ≠ []) -> aKv H ts ks := by
 intro ts ks r hne
 refine ⟨by rw [r.length, List.length_map], fun i t k e1 e2 => ?_⟩
 obtain ⟨d, e3, rd⟩ := r.get e1
 rw [List.getElem?_map, e2] at e3
 cases e3
 obtain ⟨b, rfl, hb⟩ := aD0 rd
 exact ⟨⟨b, rfl, gh _ _ hb⟩, hne k (List.mem_of_getElem? e2)⟩
theorem aNh {n : Nat} {q : Array Nat} (hp : Pm n q) : ∀ i ∈ q.toList, i < n := fun i hi => by
 have : i ∈ (List.range n).toArray := hp.mem_iff.mp (Array.mem_toList_iff.mp hi)
 simpa using this
theorem sS {ks : List (List Int)} (h : (ks.all fun k => !k.isEmpty) = true) : ∀ k ∈ ks, k ≠ [] := fun k hk z => by
 have := List.all_eq_true.mp h k hk
 rw [z] at this
 cases this
def wt (G H : Hp) : Hp := fun b => match G b with
 | some o => some o
 | none => match H b with
  | some (.tup xs) => some (.tup xs)
  | _ => none
theorem aJg {G H : Hp} : Same G (wt G H) := fun b o e => by unfold wt; rw [e]
theorem aJ1 {G H : Hp} (gh : Same G H) : Same (wt G H) H := fun b o e => by
 unfold wt at e
 cases eg : G b with
 | some u => rw [eg] at e; cases e; exact gh _ _ eg
 | none =>
  rw [eg] at e
  dsimp only at e
  split at e
  ·rename_i xs eh
   cases e; exact eh
  ·cases e
theorem aNj {G H : Hp} (gh : Same G H) {b : Addr} {xs : List V} (e : H b = some (.tup xs)) : wt G H b = some (.tup xs) := by
 unfold wt
 cases eg : G b with
 | some u =>
  have := gh _ _ eg
  rw [e] at this
  exact this.symm
 | none => dsimp only; rw [e]
theorem aH8 {G H : Hp} (gh : Same G H) : Step G H (wt G H) H := ⟨aJg, Same.refl _, aJ1 gh, fun b hb hg => by
 unfold wt
 rw [hg]
 dsimp only
 split
 ·rename_i xs eh; exact .inr ⟨xs, eh⟩
 ·exact .inl rfl⟩
theorem aDs {k : List Key} {n : List Int} (h : tkD k = uH n) : k = n.map Sum.inl := by
 unfold tkD uH at h
 injection h with h
 induction k generalizing n with
 | nil => cases n with
  | nil => rfl
  | cons _ _ => cases h
 | cons x k ih =>
  cases n with
  | nil => cases h
  | cons y n =>
   rw [List.map_cons, List.map_cons] at h
   injection h with h1 h2
   cases x with
   | inl i => cases h1; rw [ih h2]; rfl
   | inr i => cases h1
theorem rZ {G : Hp} : ∀ {kv : List (List Key × V)} {kvs : List (D × D)} {ks : List (List Int)}, RepT K G kv kvs -> kvs.map (·.1) = ks.map uH -> kv.map (·.1) = ks.map (List.map Sum.inl)
 | _, _, [], .nil, _ => rfl
 | _, _, _ :: _, .nil, h => by cases h
 | _, _, [], .cons _ _, h => by cases h
 | _, _, k :: ks, .cons _ t, h => by
  rw [List.map_cons, List.map_cons] at h
  injection h with h1 h2
  rw [List.map_cons, List.map_cons, rZ t h2, aDs h1]
end
end M
namespace L2
open PySem PySem.Spec PyProof.Rows
def Ite (K : PySem.W.Frag) (a : Addr) : It :=
 ⟨fun i H => ∃ xs x, SqL K H a xs /\ xs[i]? = some x, fun i H v H' => ∃ p x, H p = none /\ v = .ref p /\ (∀ xs, SqL K H a xs -> xs[i]? = some x) /\ H' = upd H p (.tup [.int i, x]), fun i H => ∃ xs, SqL K H a xs /\ xs.length <= i⟩
theorem aCh {P : Program} {w : World} {K : PySem.W.Frag} {elts : List Expr} {x1} {tp : Pos} (a e it : Addr) (hne : e ≠ it) : Turn P w K (.Tuple elts x1 tp) (Ite K a) [e, it] e (fun i h => (∃ old, IsEnum h e it ((i : Nat) : Int) old) /\ h.IsListIter it a i) where
 mem := by simp
 obj := fun i h st b hb => by
  rcases List.mem_cons.mp hb with rfl | hb
  ·obtain ⟨⟨old, q⟩, _⟩ := st
   exact ⟨_, q, fun v z => nomatch z⟩
  ·have : b = it := by simpa using hb
   subst this
   obtain ⟨_, o, q, c, d⟩ := st
   exact ⟨o, q, fun v z => by rw [d] at z; cases z⟩
 keep := fun i h h' st k => ⟨let ⟨old, q⟩ := st.1; ⟨old, k e (by simp) _ q⟩, st.2.at fun o q => k it (by simp) o q⟩
 item := by
  intro X hP hw hK hc i pins s σ H E I hf st hg
  subst hP hw hK
  obtain ⟨⟨old, he⟩, hit⟩ := st
  obtain ⟨xs, x, hq, hx⟩ := hg
  obtain ⟨its, rv, p, hz⟩ := I.list hq
  obtain ⟨u, hu, ru⟩ := rv.get hx
  obtain ⟨f0, f1, f2, f3, f4, f5⟩ := hf e (by simp)
  obtain ⟨g0, g1, g2, g3, g4, g5⟩ := hf it (by simp)
  refine wpAny_pyNext_enum_item he hit p.isList (x := u) (by simpa using hu) hne fun h₁ heo hit₁ ht₁ hz₁ hk₁ => ?_
  refine ⟨_, rfl, wpAny_letOwnedTupleGo_enum heo fun h₂ he₂ hs₂ => ?_⟩
  have hs₂ : Heap.SameBut e h₁ h₂ := hs₂
  have hn : H s.heap.objs.size = none := I.fresh
  have nn : ∀ b o, H b = some o -> b ≠ s.heap.objs.size := fun b o q => bE q hn
  have eE : e < s.heap.objs.size := Heap.lt_size he
  have keep : ∀ b o, b ∉ [e, it] -> s.heap.get? b = some o -> h₂.get? b = some o := fun b o hb q => by
   have b1 : b ≠ e := fun z => hb (by simp [z])
   have b2 : b ≠ it := fun z => hb (by simp [z])
   exact (hs₂.2 b b1).trans (hk₁ b o b1 b2 q)
  have trk : ∀ b o, H b = some o -> b ∉ [e, it] := fun b o q hb => by
   rcases List.mem_cons.mp hb with z | hb
   ·rw [z, f0] at q; cases q
   ·rw [List.mem_singleton.mp hb, g0] at q; cases q
  refine ⟨.ref s.heap.objs.size, upd H s.heap.objs.size (.tup [.int i, x]), ?_, rfl, ⟨_, x, hn, rfl, fun ys hy => by rw [I.list_inj hy hq]; exact hx, rfl⟩, ⟨⟨u, ?_⟩, ?_⟩, fun b hb => ?_⟩
  ·refine Inv.step (X := X) (pins := pins) (σ := σ) (H := H) (s := s) (H' := upd H s.heap.objs.size (.tup [.int i, x])) (h' := h₂) (g' := s.gens) (d' := s.drawn) (t' := s.toks + 1) (ch := [e, it]) I (fun b hb => ?_) (fun b o _ _ hb q _ => keep b o hb q) (fun b o _ _ hb q _ => ⟨o.slots, keep b o hb q⟩) (fun b o _ q n => ?_) (fun b o hb q => ⟨o, keep b o hb q⟩)
    (fun b ys q => ?_) (fun b o v q => ?_) (fun b ps q => ⟨#[], ?_⟩) (fun m hm => ?_) (fun b v q => ?_) I.bare
   ·rcases List.mem_cons.mp hb with z | hb
    ·subst z; exact ⟨f3, f1, f4, f5⟩
    ·have z := List.mem_singleton.mp hb
     subst z; exact ⟨g3, g1, g4, g5⟩
   ·rw [aS (Nat.ne_of_lt (Heap.lt_size q))]; exact n
   ·rw [aS (nn b _ q)]; exact q
   ·rw [aS (nn b _ q)]; exact q
   ·rw [aS (nn b _ q), q]; simp
   ·obtain ⟨o, es, ep, ho, r⟩ := hm
    exact ⟨o, es, ep, keep _ o (fun z => by
     rcases List.mem_cons.mp z with y | y
     ·exact f1 y.symm
     ·exact g1 (List.mem_singleton.mp y).symm) ho, r⟩
   ·by_cases hb : b = s.heap.objs.size
    ·subst hb
     rw [a6] at q
     cases q
     refine ⟨by show 2 <= sizeLine; decide, [.int i s.toks, u], .cons ⟨_, rfl⟩ (.cons ru .nil), _, (hs₂.2 _ (Nat.ne_of_gt eE)).trans ht₁, rfl, _, rfl⟩
    ·rw [aS hb] at q
     refine (I.hok b v q).stay (fun c w' hc q' => keep c w' ?_ q') (fun c q' => ?_) (fun c ys q' => ?_) fun c ys q' => by rw [aS (nn c _ q')]; exact q'
     ·rcases hc with z | z
      ·rw [z]; exact trk b v q
      ·exact trk c _ z
     ·rw [aS (nn c _ q')]; exact q'
     ·rw [aS (nn c _ q')]; exact q'
  ·have : (((i + 1 : Nat)) : Int) = (i : Int) + 1 := by push_cast; rfl
   rw [this]; exact he₂
  ·exact hit₁.at fun o q => (hs₂.2 it (Ne.symm hne)).trans q
  ·have hb' := (hf b hb).1
   have : b ≠ s.heap.objs.size := by
    rcases List.mem_cons.mp hb with z | z
    ·rw [z]; exact Nat.ne_of_lt eE
    ·rw [List.mem_singleton.mp z]
     obtain ⟨o, q, _⟩ := id hit
     exact Nat.ne_of_lt (Heap.lt_size q)
   rw [aS this]; exact hb'
 done := by
  intro X hP hw hK hc i pins s σ H E I hf st hg
  subst hP hw hK
  obtain ⟨⟨old, he⟩, hit⟩ := st
  obtain ⟨xs, hq, hx⟩ := hg
  obtain ⟨its, rv, p, hz⟩ := I.list hq
  obtain ⟨g0, g1, g2, g3, g4, g5⟩ := hf it (by simp)
  have hl := rv.length
  exact wpAny_pyNext_enum_end (I.ok.hd hc) he hit p.isList (by simp; omega) fun h' eb => ⟨rfl, I.turned (t' := s.toks) (fun b o hb q => eb b o hb q) g0 g1 g3 g4 g5⟩
 self := fun _ _ _ _ _ st h => let ⟨_, q⟩ := st.1; wpAny_pyIter_enum q h
section
variable {X : Cx}
def aOa (K : PySem.W.Frag) (ta : TA) : TI := fun σ H R => ta σ H fun vs H1 => ∃ a xs, vs = [.ref a] /\ Rd H1 a (.lst xs) /\ R (Ite K a) H1
theorem aAt : bootBuiltins "enumerate" = some (.type "enumerate") := by decide +kernel
theorem aI5 {a : Expr} {ta : TA} {p pos tp : Pos} {elts : List Expr} {x1} (hg : Gl X "enumerate") (hm : X.mg "enumerate" = none) (ha : PA X [a] ta) (hs : starEach [a] X.env = [(false, eval a X.env)] := by rfl) : PI X (.Tuple elts x1 tp) (.Call (.Name "enumerate" p) [a] [] pos) (aOa X.K ta) := by
 intro pins s σ H R I h
 refine Call_ (lZ I hg hm aAt (PyProof.Rows.callWith_type1 (thn (ha pos pins s σ H _ I h) fun us s1 ⟨vs, H1, I1, r1, q1⟩ => ?_) hs rfl))
 obtain ⟨a, xs, rfl, hr, q⟩ := q1
 obtain ⟨u, rfl, ru⟩ := vals1 r1
 cases (show u = Value.ref a from ru)
 obtain ⟨_, its, n, rv, ho⟩ := hr.ok I1.hok
 refine call_enumerate_1 ho fun h' he hit hz hk => ?_
 refine wpAny_pyIter_enum (s := { s1 with heap := h' }) he ?_
 refine ⟨s1.heap.objs.size + 1, [s1.heap.objs.size + 1, s1.heap.objs.size], _, _, H1, rfl, I1.kept (t' := s1.toks) hk, aCh a _ _ (Nat.ne_of_gt (Nat.lt_succ_self _)), ⟨⟨_, he⟩, hit⟩, fun b hb => ?_, q⟩
 have hle : s1.heap.objs.size <= b := by
  rcases List.mem_cons.mp hb with z | z
  ·rw [z]; exact Nat.le_succ _
  ·rw [List.mem_singleton.mp z]; exact Nat.le_refl _
 exact I1.fpOk hle (I1.hok.fresh hle)
end
end L2
namespace M
open PySem PySem.Spec PyProof.Rows L2
def n5 (k : Nat) : List D -> List D
 | [] => []
 | d :: ds => .tuple [.int (k : Int), d] :: n5 (k + 1) ds
theorem sI : ∀ (ds : List D) (k : Nat), (n5 k ds).length = ds.length
 | [], _ => rfl
 | _ :: ds, k => by unfold n5; rw [List.length_cons, List.length_cons, sI ds]
theorem sR : ∀ (ds : List D) (k i : Nat), (n5 k ds)[i]? = (ds[i]?).map fun d => .tuple [.int ((k + i : Nat) : Int), d]
 | [], _, _ => by simp [n5]
 | d :: ds, k, 0 => by simp [n5]
 | d :: ds, k, i + 1 => by
  unfold n5
  rw [List.getElem?_cons_succ, List.getElem?_cons_succ, sR ds (k + 1) i]
  have : k + 1 + i = k + (i + 1) := by omega
  rw [this]
def aE4 (rs : List Ev) : Res (List D) := match rs with
 | [.p (.list ds)] => .ok (n5 0 ds)
 | _ => .bad
theorem aJm {X : Cx} {E : L2.St -> XK} {a : Expr} {fr : En -> Res (List Ev)} {p pos tp : Pos} {elts : List Expr} {x1} (hg : Gl X "enumerate") (hm : X.mg "enumerate" = none) (ha : DA X E [a] fr) (hs : starEach [a] X.env = [(false, eval a X.env)] := by rfl) :
  DI X E (.Tuple elts x1 tp) (.Call (.Name "enumerate" p) [a] [] pos) (aEn aE4 fr) := by
 obtain ⟨t, q, m⟩ := ha.out
 refine DI.in ⟨_, aI5 hg hm q hs, fun B G0 G W H σ en R hh hs hw => m B G0 G W H σ en _ hh hs ?_⟩
 have hw : wpR ((fr en).bind _) _ _ := hw
 rw [bU] at hw
 refine bD hw (fun rs hr G1 H1 vs s e => ?_) fun C h => h
 unfold aE4 at hr
 split at hr
 ·rename_i ds
  match vs, e with
  | [v], ⟨e1, _⟩ =>
   cases e1 with
   | @lst a xs _ h1 h2 =>
    refine ⟨a, xs, rfl, gN s.gh h1, hr G1 H1 _ s fun G3 H3 k1 k2 => ⟨fun i d ed => ?_, ?_⟩⟩
    ·rw [sR, Option.map_eq_some_iff] at ed
     obtain ⟨d', ed, rfl⟩ := ed
     obtain ⟨x, ex, rx⟩ := h2.get' ed
     have sq : SqL X.K H3 a xs := .inl (gN (k1.trans k2) h1)
     refine ⟨⟨xs, x, sq, ex⟩, fun v H' hy => ?_⟩
     obtain ⟨p, x', hp, rfl, hy, rfl⟩ := hy
     have := hy xs sq
     rw [ex] at this
     cases this
     have st := Step.put (o := .tup [.int i, x]) k2 hp
     refine ⟨_, st, .tup a6 (.cons ?_ (.cons (rx.mono (k1.trans st.g)) .nil))⟩
     have : ((0 + i : Nat) : Int) = (i : Int) := by simp
     rw [this]
     exact .int _
    ·refine ⟨xs, .inl (gN (k1.trans k2) h1), ?_⟩
     rw [sI, h2.length]
     exact Nat.le_refl _
 ·exact hr.elim
section
variable {X : Cx} {E : L2.St -> XK}
def aAs (i : Nat) (g : List D -> Option (List D)) : MS := fun en => match en[i]? with
 | some (some (.o (.list ds))) => match g ds with
  | some es => some (.nx (en.set i (some (.o (.list es)))))
  | none => none
 | _ => none
theorem aIp {i : Nat} {st : Stmt} {r : V -> List V -> Hp -> VK -> Prop} {g : List D -> Option (List D)} (hp : PS X st (aCy (aN3 X.K "list" r (aJi i))))
  (hg : ∀ (G H : Hp) (a : Addr) (xs : List V) (ds es : List D) (Q : VK), H a = some (.lst xs) -> Reps X.K G xs ds -> g ds = some es -> (∀ u ys, Reps X.K G ys es -> Q u (upd H a (.lst ys))) -> r (.ref a) [] H Q) : DS X E st (aAs i g) := by
 refine DS.in ⟨_, hp, fun B G0 G W H σ en Dn hh hs hw => ?_⟩
 unfold aAs at hw
 split at hw
 ·rename_i ds ei
  obtain ⟨v, e1, a, o, rfl, e2, e3, e4⟩ := hs.2 i _ ei
  cases e4 with
  | @lst xs _ rp =>
  cases eg : g ds with
  | none => rw [eg] at hw; exact hw.elim
  | some es =>
   rw [eg] at hw
   refine ⟨_, e1, .inl ⟨rfl, _, SqL.of e3⟩, hg G H a xs ds es _ e3 rp eg fun u ys ry => ?_⟩
   obtain ⟨w1, w2⟩ := mU (o' := .lst ys) (d' := .list es) hh hs e2 e1 (.lst ry)
   exact hw _ _ _ _ w1 w2
 ·exact hw.elim
theorem Reps.rev {K : PySem.W.Frag} {G : Hp} : ∀ {xs : List V} {ds : List D}, Reps K G xs ds -> Reps K G xs.reverse ds.reverse
 | _, _, .nil => .nil
 | _, _, .cons h r => by
  rw [List.reverse_cons, List.reverse_cons]
  exact (Reps.rev r).append (.cons h .nil)
theorem Reps.dropLast {K : PySem.W.Frag} {G : Hp} : ∀ {xs : List V} {ds : List D}, Reps K G xs ds -> Reps K G xs.dropLast ds.dropLast
 | _, _, .nil => .nil
 | _, _, .cons h .nil => .nil
 | _, _, .cons h (.cons h2 r) => .cons h (Reps.dropLast (.cons h2 r))
def aMk (i : Nat) : MS := aAs i fun ds => if ds = [] then none else some ds.dropLast
theorem aHo {i : Nat} {st : Stmt} (hp : PS X st (aCy (aN3 X.K "list" aPw (aJi i)))) : DS X E st (aMk i) :=
 aIp hp fun G H a xs ds es Q h rp e q => by
  split at e
  ·cases e
  ·rename_i hne
   cases e
   have hl := rp.length
   have hx : xs ≠ [] := fun z => hne (List.length_eq_zero_iff.mp (by rw [<- hl, z]; rfl))
   have hpos : xs.length - 1 < xs.length := Nat.sub_lt (List.length_pos_iff.mpr hx) (by decide)
   exact ⟨a, xs, _, rfl, rfl, h, List.getElem?_eq_getElem hpos, q _ _ rp.dropLast⟩
def cutD (ds : List D) (lo hi : Option Int) : List D := (ds.drop (HT.sIx ds.length 0 lo)).take (HT.sIx ds.length ds.length hi - HT.sIx ds.length 0 lo)
theorem Reps.cut {K : PySem.W.Frag} {G : Hp} {xs : List V} {ds : List D} (r : Reps K G xs ds) (lo hi : Option Int) : Reps K G (aKt xs lo hi) (cutD ds lo hi) := by
 unfold aKt cutD
 rw [r.length]
 exact (r.drop _).take _
def aN6 : En -> Res (Option Int) := fun _ => .ok none
def mPt (fe : En -> Res Ev) : En -> Res (Option Int) := fun en => (fe en).bind fun x => match x.c with
 | .p (.int i) => .ok (some i)
 | _ => .bad
def tP (K : PySem.W.Frag) (E : L2.St -> XK) (f : En -> Res (Option Int)) : TO := fun σ H R => ∃ B G0 G W en, SimH B G0 G W H /\ SimS K W G H σ en /\ wpR (f en) (fun k => ∀ G' H', Step G H G' H' -> R k H') (PostX (E σ) G H)
def DP (X : Cx) (E : L2.St -> XK) (o : Option Expr) (f : En -> Res (Option Int)) : Prop := PO X o (tP X.K E f)
theorem aIw : DP X E none aN6 := fun pins s σ H R I ⟨B, G0, G, W, en, hh, hs, hw⟩ => aJq pins s σ H R I (hw G H (Step.refl hh.gh))
theorem oR {e : Expr} {fe : En -> Res Ev} (he : DE X E e fe) : DP X E (some e) (mPt fe) := fun pins s σ H R I ⟨B, G0, G, W, en, hh, hs, hw⟩ => by
 obtain ⟨t, p, m⟩ := he.out
 refine aJ3 p pins s σ H R I (m B G0 G W H σ en _ hh hs ?_)
 unfold mPt at hw
 rw [bU] at hw
 refine bD hw (fun x hx G1 H1 v s1 e1 => ?_) fun C h => h
 obtain ⟨G2, s2, e2⟩ := e1.c s1
 cases ex : x.c with
 | p d =>
  rw [ex] at hx e2
  cases d with
  | int i => cases e2; exact ⟨i, rfl, hx G2 H1 s2⟩
  | _ => exact hx.elim
 | f d => rw [ex] at hx; exact hx.elim
 | b d => rw [ex] at hx; exact hx.elim
 | x C => rw [ex] at hx; exact hx.elim
def mSl (fe : En -> Res Ev) (fl fh : En -> Res (Option Int)) : En -> Res Ev := fun en => (fe en).bind fun x => (fl en).bind fun l => (fh en).bind fun u => match gH x.c with
 | some ds => .ok (.f (.list (cutD ds l u)))
 | none => .bad
theorem aIr {e : Expr} {lo hi : Option Expr} {fe : En -> Res Ev} {fl fh : En -> Res (Option Int)} {p2 pos : Pos} (he : DE X E e fe) (hl : DP X E lo fl) (hu : DP X E hi fh) : DE X E (.Subscript e (.Slice lo hi none p2) pos) (mSl fe fl fh) := by
 obtain ⟨t, p, m⟩ := he.out
 refine DE.in ⟨_, aEo aJk p hl hu, fun B G0 G W H σ en Q hh hs hw => ?_⟩
 unfold mSl at hw
 refine m B G0 G W H σ en _ hh hs (DE.go hw fun x G1 H1 v s1 e1 h1 => ?_)
 refine ⟨B, G0, G1, W, en, hh.step s1, hs.step s1, ?_⟩
 rw [bU] at h1
 refine bD h1 (fun l hx G2 H2 s2 => ?_) fun C h => h
 refine ⟨B, G0, G2, W, en, (hh.step s1).step s2, (hs.step s1).step s2, ?_⟩
 have hx' := bD hx (fun r h => h.step s2) (fun C h => h.step s2)
 rw [bU] at hx'
 refine bD hx' (fun u hy G3 H3 s3 => ?_) fun C h => h
 cases ex : gH x.c with
 | none => rw [ex] at hy; exact hy.elim
 | some ds =>
  rw [ex] at hy
  obtain ⟨a, xs, rfl, rd, rp⟩ := pR (Hs := H) s3.gh (e1.step (s2.trans s3)) ex
  exact ⟨a, xs, rfl, .inl rd, fun p hp => hy _ _ _ (s3.trans (Step.lay s3.gh hp)) ⟨p, _, rfl, s3.h.free hp, s3.gh.free hp, a6, .lst (rp.cut l u)⟩⟩
end
end M
namespace L2
open PySem PySem.Spec PyProof.Rows
theorem aBw : typeLookup (Value.type "list_reverseiterator") (Str.ofString "__len__") = pure none := by rfl
theorem aGd : typeLookup (Value.type "list_reverseiterator") (Str.ofString "__length_hint__") = pure (some (Value.builtin "list_reverseiterator.__length_hint__")) := by rfl
theorem aJ0 : isSubtype (Value.type "list_reverseiterator") (Value.type "list_reverseiterator") = pure true := by rfl
theorem zB {prog : Program} {w : World} {A : Around} (hh : A.handled = none) {I l : Addr} (hne : l ≠ I) (items : Array Value) :
  WalksS prog w A I [I, l] [I] Eq items.size (fun i v => items[items.size - 1 - i]? = some v) (fun i s => s.heap.IsRevIter I l ((items.size : Int) - 1 - i) /\ s.heap.IsList l items) where
 sub := fun b hb => by rw [List.mem_singleton.mp hb]; exact .head _
 grefl := fun _ => rfl
 gtrans := fun _ _ _ h1 h2 => h1.trans h2
 frame := fun i s h' tk st _ k => by
  obtain ⟨⟨o, h1, h2, h3⟩, ⟨p, h4, h5⟩⟩ := st
  exact ⟨⟨o, k I (.head _) o h1, h2, h3⟩, ⟨p, k l (.tail _ (.head _)) p h4, h5⟩⟩
 item := fun i s Q E hi st k => by
  obtain ⟨st1, st2⟩ := st
  have e : ((items.size : Int) - 1 - i) = ((items.size - 1 - i : Nat) : Int) := by omega
  rw [e] at st1
  have hx : items.size - 1 - i < items.size := by omega
  refine wpAny_pyNext_rev_item st1 st2 (x := items[items.size - 1 - i]) (by simp [hx]) fun h' g1 g2 => ?_
  refine k _ _ (by simp [hx]) ⟨?_, ?_⟩ ⟨fun b o hb q => ?_, rfl, rfl, rfl, Nat.le_refl _⟩
  ·have e2 : ((items.size - 1 - i : Nat) : Int) - 1 = (items.size : Int) - 1 - ((i + 1 : Nat) : Int) := by omega
   rw [<- e2]
   exact g1
  ·obtain ⟨p, h4, h5⟩ := st2
   exact ⟨p, (g2.2 l hne).trans h4, h5⟩
  ·exact (g2.2 b (fun z => hb (by rw [z]; exact .head _))).trans q
 done := fun s Q E st k => by
  obtain ⟨st1, st2⟩ := st
  have e : ((items.size : Int) - 1 - (items.size : Nat)) = -1 := by omega
  rw [e] at st1
  exact wpAny_pyNext_rev_end hh st1 fun h' g => k _ ⟨fun b o hb q => g b o (fun z => hb (by rw [z]; exact .head _)) q, rfl, rfl, rfl, Nat.le_refl _⟩
 self := fun i s Q E st h => wpAny_pyIter_revIter st.1 h
theorem aF4 {prog : Program} {w : World} {A : Around} {E : Value -> Shared -> Prop} {s : Shared} {I : Addr} {Q : Bool -> Shared -> Prop} (t : s.TypeIs (.ref I) "list_reverseiterator") (q : Q false s) : wpAny (model prog w) A (Builtin.List.listLengthHint (.ref I)) Q E s := by
 unfold Builtin.List.listLengthHint
 refine wpAny_bind (wpAny_specialOf t aBw ?_)
 refine wpAny_bind (wpAny_specialOf t aGd ?_)
 refine wpAny_bind (wpAny_isInstance t aJ0 ?_)
 exact wpAny_pure q
theorem yI {prog : Program} {w : World} {A : Around} (hh : A.in1.handled = none) {s : Shared} {R : Result -> Shared -> Prop} {I l : Addr} {items : Array Value} (hne : l ≠ I) (hI : s.heap.IsRevIter I l ((items.size : Int) - 1)) (hl : s.heap.IsList l items) (S : Addr) (hS1 : S ≠ I) (hS2 : S ≠ l) (res : Value) (c₀ : Nat)
  (hS : s.heap.get? S = some { cls := Value.type "list", data := Data.seq #[] c₀ }) (hz : items.size <= sizeLine)
  (k : ∀ (s' : Shared) (acc' : Array Value) (c' : Nat), Moved [S, I] Eq s s' -> s'.heap.get? S = some { cls := Value.type "list", data := Data.seq acc' c' } -> ItemsOf (fun i v => items[items.size - 1 - i]? = some v) acc' items.size -> R (.ok (.ret res)) s') :
  wpAny (model prog w) A.in1 (Builtin.List.listExtendWith (.ref S) (.ref I) res) (fun fin s' => match fin with
   | Fin.done f => R (.ok f) s'
   | Fin.again c' => c'.quiet = true /\ codeAny (model prog w) A c' R s') (fun e s' => R (.error e) s') s := by
 have t : s.TypeIs (.ref I) "list_reverseiterator" := by
  obtain ⟨o, h1, h2, _⟩ := hI
  exact ⟨o, h1, h2⟩
 unfold Builtin.List.listExtendWith
 refine wpAny_bind (wpAny_typeOf t ?_)
 have e : (Builtin.List.listSameRef (.ref S) (.ref I) || Value.type "list_reverseiterator" == Value.type "list" || Value.type "list_reverseiterator" == Value.type "tuple") = false := by
  have : (S == I) = false := beq_false_of_ne hS1
  show ((S == I) || _ || _) = false
  rw [this]
  decide
 rw [e, if_neg (by decide)]
 refine wpAny_bind (wpAny_pyIter_revIter hI ?_)
 refine wpAny_bind (wpAny_holding (aF4 t ?_))
 refine wpAny_pure ?_
 refine ⟨plainId_quiet F.plain_extend_loop _, ?_⟩
 exact codeAny_extend_loopS (zB hh hne items) hz S (by simp [hS1, hS2]) res items.size 0 s #[] c₀ rfl (Nat.zero_le _) ⟨by simpa using hI, hl⟩ hS ⟨rfl, fun j v h => by simp at h⟩ k
theorem qY {prog : Program} {w : World} {A : Around} {E : Value -> Shared -> Prop} (hh : A.in1.in1.handled = none) {s : Shared} {Q : Value -> Shared -> Prop} {I l : Addr} {items : Array Value} (hne : l ≠ I) (hI : s.heap.IsRevIter I l ((items.size : Int) - 1)) (hl : s.heap.IsList l items) (hz : items.size <= sizeLine)
  (k : ∀ (s' : Shared) (acc' : Array Value) (c' : Nat), (∀ b o, b ≠ I -> s.heap.get? b = some o -> s'.heap.get? b = some o) -> s'.gens = s.gens -> s'.drawn = s.drawn -> s'.os = s.os -> s'.heap.get? s.heap.objs.size = some { cls := Value.type "list", data := Data.seq acc' c' } -> ItemsOf (fun i v => items[items.size - 1 - i]? = some v) acc' items.size -> Q (.ref s.heap.objs.size) s') :
  wpAny (model prog w) A (call (.type "list") [.ref I]) Q E s := by
 obtain ⟨oI, hI1, hI2, hI3⟩ := id hI
 obtain ⟨ol, hl1, hl2⟩ := id hl
 have lI : I < s.heap.objs.size := Heap.lt_size hI1
 have ll : l < s.heap.objs.size := Heap.lt_size hl1
 refine callType_codes F.called_list (F.typeCall_list_1 _) F.entry_list_init (code_list_new _ ?_) ?_ (Q₁ := fun obj s₁ => obj = .ref s.heap.objs.size /\ s₁ = { s with heap := s.heap.push { cls := Value.type "list", data := Data.seq #[] } })
 ·exact ⟨rfl, rfl⟩
 ·rintro obj s₁ ⟨rfl, rfl⟩
  have hS : (s.heap.push { cls := Value.type "list", data := Data.seq #[] }).get? s.heap.objs.size = some { cls := Value.type "list", data := Data.seq #[] } := Heap.get?_push_size s.heap rfl
  refine ⟨⟨_, hS, rfl⟩, F.args_list_init_2 _ _, ?_⟩
  have hI' : (s.heap.push { cls := Value.type "list", data := Data.seq #[] }).get? I = some oI := Heap.get?_push_of_some _ hI1
  have hl' : (s.heap.push { cls := Value.type "list", data := Data.seq #[] }).get? l = some ol := Heap.get?_push_of_some _ hl1
  have u1 : ((s.heap.push { cls := Value.type "list", data := Data.seq #[] }).update s.heap.objs.size (Obj.mapSeq fun _ => #[])).get? s.heap.objs.size = some { cls := Value.type "list", data := Data.seq #[] } := (Heap.get?_update_self _ hS rfl).trans rfl
  have u2 : ∀ b o, b ≠ s.heap.objs.size -> (s.heap.push { cls := Value.type "list", data := Data.seq #[] }).get? b = some o -> ((s.heap.push { cls := Value.type "list", data := Data.seq #[] }).update s.heap.objs.size (Obj.mapSeq fun _ => #[])).get? b = some o := fun b o hb q => (Heap.get?_update_other _ _ (Ne.symm hb)).trans q
  refine wpAny_bind ?_
  unfold Builtin.List.listItems
  refine wpAny_bind (wpAny_seqItems hS rfl (wpAny_pure ?_))
  refine wpAny_bind (wpAny_updateSeq hS rfl ?_ (by decide) (by decide))
  refine wpAny_bind (wpAny_letGo ?_)
  refine yI (A := A.in1) hh hne ⟨oI, u2 I oI (Nat.ne_of_lt lI) hI', hI2, hI3⟩ ⟨ol, u2 l ol (Nat.ne_of_lt ll) hl', hl2⟩ s.heap.objs.size (Nat.ne_of_gt lI) (Nat.ne_of_gt ll) .none 0 u1 hz fun s' acc' c' mv g it => ?_
  exact ⟨rfl, k s' acc' c' (fun b o hb q => mv.heap b o (by
   have : b ≠ s.heap.objs.size := Nat.ne_of_lt (Heap.lt_size q)
   simp [hb, this]) (u2 b o (Nat.ne_of_lt (Heap.lt_size q)) (Heap.get?_push_of_some _ q))) mv.gens.symm mv.drawn mv.os g it⟩
section
variable {X : Cx}
theorem aH1 : bootBuiltins "reversed" = some (.type "reversed") := by decide +kernel
theorem aDq : bootBuiltins "list" = some (.type "list") := by decide +kernel
def tLR (K : PySem.W.Frag) (te : TE) : TE := fun σ H Q => te σ H fun x H1 => ∃ a xs, x = .ref a /\ SqL K H1 a xs /\ ∀ l, H1 l = none -> Q (.ref l) (upd H1 l (.lst xs.reverse))
theorem aEp {xs : List V} {its : List Value} (r : Vals xs its) {acc : Array Value} (h : ItemsOf (fun i v => its.toArray[its.toArray.size - 1 - i]? = some v) acc its.toArray.size) : acc.toList = its.reverse := by
 obtain ⟨h1, h2⟩ := h
 have h1 : acc.size = its.length := h1.trans (List.size_toArray ..)
 apply List.ext_getElem?
 intro i
 rw [Array.getElem?_toList]
 by_cases hi : i < its.length
 ·have hx : i < acc.size := by omega
  have this := h2 i acc[i] (by simp [hx])
  have this : its.toArray[its.toArray.size - 1 - i]? = some acc[i] := this
  rw [Array.getElem?_eq_getElem hx, List.getElem?_reverse hi]
  rw [List.size_toArray, List.getElem?_toArray] at this
  exact this.symm
 ·rw [Array.getElem?_eq_none (by omega), List.getElem?_eq_none (by rw [List.length_reverse]; omega)]
theorem lS : ∀ {xs : List V} {us : List Value}, Vals xs us -> Vals xs.reverse us.reverse
 | _, _, .nil => .nil
 | _, _, .cons r t => by
  rw [List.reverse_cons, List.reverse_cons]
  exact (lS t).append (.cons r .nil)
theorem yC {e : Expr} {te : TE} {p1 p2 pos1 pos2 : Pos} (hc : X.calm = true) (hg1 : Gl X "list") (hm1 : X.mg "list" = none) (hg2 : Gl X "reversed") (hm2 : X.mg "reversed" = none) (he : PE X e te)
  (hs1 : starEach [.Call (.Name "reversed" p2) [e] [] pos2] X.env = (false, eval (.Call (.Name "reversed" p2) [e] [] pos2) X.env) :: starEach [] X.env := by rfl) (hs2 : starEach [e] X.env = (false, eval e X.env) :: starEach [] X.env := by rfl) :
  PE X (.Call (.Name "list" p1) [.Call (.Name "reversed" p2) [e] [] pos2] [] pos1) (tLR X.K te) := by
 intro pins s σ H Q I h
 refine wpAny_Call_Name_kw (lZ I hg1 hm1 aDq (PyProof.Rows.callWith_type1 ?_ hs1 rfl))
 rw [hs1]
 show wpAny _ _ (spliced ((false, eval _ X.env) :: backTo pos1 (starEach [] X.env))) _ _ s
 refine Calls.spliced_cons (wpAny_Call_Name_kw (lZ I hg2 hm2 aH1 (PyProof.Rows.callWith_type1 ?_ hs2 rfl)))
 rw [hs2]
 show wpAny _ _ (spliced ((false, eval _ X.env) :: backTo pos2 (starEach [] X.env))) _ _ s
 refine Calls.spliced_cons (thn (he pins s σ H _ I h) fun u s1 ⟨x, H1, I1, r1, a, xs, ex, hq, q⟩ => Calls.spliced_nil ?_)
 subst ex
 cases (show u = Value.ref a from r1)
 obtain ⟨its, rv, pl, hz⟩ := I1.list hq
 refine call_reversed_list pl.isList (Calls.spliced_nil ?_)
 have hlen := rv.length
 have kp : ∀ b o, s1.heap.get? b = some o -> (s1.heap.push (revObj a ((its.toArray.size : Int) - 1))).get? b = some o := fun b o q => Heap.get?_push_of_some _ q
 have I2 : Inv X pins σ H1 { s1 with heap := s1.heap.push (revObj a ((its.toArray.size : Int) - 1)) } := I1.kept (t' := s1.toks) kp
 have hR : (s1.heap.push (revObj a ((its.toArray.size : Int) - 1))).get? s1.heap.objs.size = some (revObj a ((its.toArray.size : Int) - 1)) := Heap.get?_push_size _ rfl
 have hp := I1.fpOk (Nat.le_refl _) (I1.hok.fresh (Nat.le_refl s1.heap.objs.size))
 obtain ⟨o, n, ho, hoc, hod, hos⟩ := pl
 have lt : a < s1.heap.objs.size := Heap.lt_size ho
 refine qY (s := { s1 with heap := s1.heap.push (revObj a ((its.toArray.size : Int) - 1)) }) (I := s1.heap.objs.size) (l := a) (items := its.toArray) (I.ok.hd hc) (Nat.ne_of_lt lt) ⟨_, hR, rfl, rfl⟩ ⟨o, kp a o ho, hoc, n, hos⟩ (by rw [List.size_toArray]; omega) fun s' acc c' k1 k2 k3 k4 k5 k6 => ?_
 have ev := aEp rv k6
 have hsz : (s1.heap.push (revObj a ((its.toArray.size : Int) - 1))).objs.size = s1.heap.objs.size + 1 := by simp [Heap.push]
 have hH : H1 (s1.heap.objs.size + 1) = none := I2.hok.fresh (a := s1.heap.objs.size + 1) (by show (s1.heap.push _).objs.size <= _; rw [hsz]; exact Nat.le_refl _)
 rw [show ({ s1 with heap := s1.heap.push (revObj a ((its.toArray.size : Int) - 1)) } : Shared).heap.objs.size = s1.heap.objs.size + 1 from hsz] at k5 ⊢
 obtain ⟨f0, f1, f2, f3, f4, f5⟩ := hp
 have keep : ∀ b o, b ∉ [s1.heap.objs.size] -> (s1.heap.push (revObj a ((its.toArray.size : Int) - 1))).get? b = some o -> s'.heap.get? b = some o := fun b o hb q => k1 b o (fun z => hb (by rw [z]; exact .head _)) q
 have trk : ∀ b o, H1 b = some o -> b ∉ [s1.heap.objs.size] := fun b o q hb => by rw [List.mem_singleton.mp hb, f0] at q; cases q
 have nn : ∀ b o, H1 b = some o -> b ≠ s1.heap.objs.size + 1 := fun b o q z => by rw [z, hH] at q; cases q
 refine ⟨.ref (s1.heap.objs.size + 1), upd H1 (s1.heap.objs.size + 1) (.lst xs.reverse), ?_, rfl, q _ hH⟩
 have st := Inv.step (X := X) (pins := pins) (σ := σ) (H := H1) (s := { s1 with heap := s1.heap.push (revObj a ((its.toArray.size : Int) - 1)) }) (H' := upd H1 (s1.heap.objs.size + 1) (.lst xs.reverse)) (h' := s'.heap) (g' := s1.gens) (d' := s1.drawn) (t' := s'.toks) (ch := [s1.heap.objs.size]) I2 (fun b hb => by rw [List.mem_singleton.mp hb]; exact ⟨f3, f1, f4, f5⟩) (fun b o _ _ hb q _ => keep b o hb q) (fun b o _ _ hb q _ => ⟨o.slots, keep b o hb q⟩)
  (fun b o _ q n => by rw [aS (fun z => by have := Heap.lt_size q; rw [z] at this; exact absurd (show s1.heap.objs.size + 1 < s1.heap.objs.size + 1 by rw [<- hsz]; exact hsz ▸ this) (Nat.lt_irrefl _))]; exact n) (fun b o hb q => ⟨o, keep b o hb q⟩)
  (fun b ys q => by rw [aS (nn b _ q)]; exact q) (fun b o v q => by rw [aS (nn b _ q)]; exact q) (fun b ps q => ⟨#[], by rw [aS (nn b _ q), q]; simp⟩) (fun m hm => by
   obtain ⟨o, es, ep, ho, r⟩ := hm
   exact ⟨o, es, ep, keep _ o (fun z => f1 (List.mem_singleton.mp z).symm) ho, r⟩) (fun b v q => by
   by_cases hb : b = s1.heap.objs.size + 1
   ·subst hb
    rw [a6] at q
    cases q
    refine ⟨by rw [List.length_reverse]; exact hz, its.reverse, c', lS rv, ?_⟩
    rw [k5, <- ev]
   ·rw [aS hb] at q
    refine (I2.hok b v q).stay (fun c w' hc q' => keep c w' ?_ q') (fun c q' => ?_) (fun c ys q' => ?_) fun c ys q' => by rw [aS (nn c _ q')]; exact q'
    ·rcases hc with z | z
     ·rw [z]; exact trk b v q
     ·exact trk c _ z
    ·rw [aS (nn c _ q')]; exact q'
    ·rw [aS (nn c _ q')]; exact q') I1.bare
 have es : s' = { heap := s'.heap, gens := s1.gens, drawn := s1.drawn, toks := s'.toks, os := s1.os } := by
  cases s'
  cases k2
  cases k3
  cases k4
  rfl
 rw [es]
 exact st
end
end L2
namespace M
open PySem PySem.Spec PyProof.Rows L2
def aJe (x : Ev) : Res Ev := match gH x with
 | some ds => .ok (.f (.list ds.reverse))
 | none => .bad
theorem yE {X : Cx} {E : L2.St -> XK} {e : Expr} {fe : En -> Res Ev} {p1 p2 pos1 pos2 : Pos} (hc : X.calm = true) (hg1 : Gl X "list") (hm1 : X.mg "list" = none) (hg2 : Gl X "reversed") (hm2 : X.mg "reversed" = none) (he : DE X E e fe)
  (hs1 : starEach [.Call (.Name "reversed" p2) [e] [] pos2] X.env = (false, eval (.Call (.Name "reversed" p2) [e] [] pos2) X.env) :: starEach [] X.env := by rfl) (hs2 : starEach [e] X.env = (false, eval e X.env) :: starEach [] X.env := by rfl) :
  DE X E (.Call (.Name "list" p1) [.Call (.Name "reversed" p2) [e] [] pos2] [] pos1) (mUn aJe fe) := by
 obtain ⟨t, q, m⟩ := he.out
 refine DE.in ⟨_, yC hc hg1 hm1 hg2 hm2 q hs1 hs2, fun B G0 G W H σ en Q hh hs hw => m B G0 G W H σ en _ hh hs ?_⟩
 have hw : wpR ((fe en).bind _) _ _ := hw
 rw [bU] at hw
 refine bD hw (fun r hr G1 H1 v s e => ?_) fun C h => h
 obtain ⟨G2, s2, e2⟩ := e.c s
 unfold aJe at hr
 cases el : gH r.c with
 | none => rw [el] at hr; exact hr.elim
 | some ds =>
  rw [el] at hr
  obtain ⟨a, xs, rfl, h1, h2⟩ := pR s2.gh e2 el
  refine ⟨a, xs, rfl, .inl h1, fun l hl => ?_⟩
  exact hr G2 _ _ (s2.trans (Step.lay s2.gh hl)) ⟨l, _, rfl, s2.h.free hl, s2.gh.free hl, a6, .lst h2.rev⟩
end M
namespace L2
open PySem PySem.Spec PyProof.Rows
section
variable {X : Cx}
end
end L2
namespace M
open PySem PySem.Spec PyProof.Rows L2
variable {K : PySem.W.Frag}
def intsOf : List D -> Option (List Int)
 | [] => some []
 | .int b :: ds => match intsOf ds with
  | some bs => some (b :: bs)
  | none => none
 | _ => none
theorem lE : ∀ is : List Int, intsOf (is.map .int) = some is
 | [] => rfl
 | i :: is => by
  show (match intsOf (is.map .int) with | some bs => some (i :: bs) | none => none) = _
  rw [lE is]
theorem tX {G : Hp} : ∀ {ds : List D} {bs : List Int} {xs : List V}, intsOf ds = some bs -> Reps K G xs ds -> xs = bs.map V.int
 | [], _, _, h, .nil => by cases h; rfl
 | d :: ds, bs, _, h, .cons r t => by
  cases d with
  | int b =>
   unfold intsOf at h
   cases e : intsOf ds with
   | none => rw [e] at h; cases h
   | some bs' =>
    rw [e] at h
    cases h
    cases r
    rw [tX e t]
    rfl
  | _ => cases h
def insI (k : Int) : List Int -> List Int
 | [] => [k]
 | x :: r => if k <= x then k :: x :: r else x :: insI k r
def sortI : List Int -> List Int
 | [] => []
 | k :: ks => insI k (sortI ks)
theorem insI_perm (k : Int) : ∀ l, (insI k l).Perm (k :: l)
 | [] => .refl _
 | x :: r => by
  unfold insI
  split
  ·exact .refl _
  ·exact ((insI_perm k r).cons x).trans (List.Perm.swap k x r)
theorem sortI_perm : ∀ l, (sortI l).Perm l
 | [] => .refl _
 | k :: ks => (insI_perm k _).trans ((sortI_perm ks).cons k)
theorem oA (k : Int) : ∀ l : List Int, l.Pairwise (· <= ·) -> (insI k l).Pairwise (· <= ·)
 | [], _ => List.pairwise_singleton _ _
 | x :: r, h => by
  unfold insI
  obtain ⟨h1, h2⟩ := List.pairwise_cons.mp h
  split
  ·rename_i e
   exact List.pairwise_cons.mpr ⟨fun y hy => by
    rcases List.mem_cons.mp hy with z | z
    ·rw [z]; exact e
    ·exact Int.le_trans e (h1 y z), h⟩
  ·rename_i e
   refine List.pairwise_cons.mpr ⟨fun y hy => ?_, oA k r h2⟩
   rcases List.mem_cons.mp ((insI_perm k r).mem_iff.mp hy) with z | z
   ·rw [z]; omega
   ·exact h1 y z
theorem i5 : ∀ l, (sortI l).Pairwise (· <= ·)
 | [] => .nil
 | k :: ks => oA k _ (i5 ks)
theorem pN : ∀ {a b : List Int}, a.Perm b -> a.Pairwise (· <= ·) -> b.Pairwise (· <= ·) -> a = b
 | [], b, p, _, _ => (List.Perm.nil_eq p)
 | x :: a, [], p, _, _ => absurd p.length_eq (by simp)
 | x :: a, y :: b, p, ha, hb => by
  obtain ⟨a1, a2⟩ := List.pairwise_cons.mp ha
  obtain ⟨b1, b2⟩ := List.pairwise_cons.mp hb
  have hx : x ∈ y :: b := p.mem_iff.mp (.head _)
  have hy : y ∈ x :: a := p.mem_iff.mpr (.head _)
  have e : x = y := by
   rcases List.mem_cons.mp hx with e | hx
   ·exact e
   ·rcases List.mem_cons.mp hy with e | hy
    ·exact e.symm
    ·exact Int.le_antisymm (a1 y hy) (b1 x hx)
  subst e
  rw [pN (List.Perm.cons_inv p) a2 b2]
end M
namespace L2
open PySem PySem.Spec PyProof.Rows M
section
variable {X : Cx}
def aG3 (K : PySem.W.Frag) : List V -> Hp -> VK -> Prop := fun xs H Q => ∃ a ns, xs = [.ref a] /\ SqL K H a (ns.map V.int) /\ ns.length < 64 /\ ∀ l, H l = none -> Q (.ref l) (upd H l (.lst ((sortI ns).map V.int)))
theorem xS : ∀ {ns : List Int} {us : List Value}, Vals (ns.map V.int) us -> IntsAre us ns
 | [], _, .nil => .nil
 | n :: ns, _, .cons r t => by
  obtain ⟨tk, rfl⟩ := r
  exact .cons _ _ (xS t)
theorem w6 : ∀ {ns : List Int} {us : List Value}, IntsAre us ns -> Vals (ns.map V.int) us
 | [], _, .nil => .nil
 | _ :: _, _, .cons _ _ t => .cons ⟨_, rfl⟩ (w6 t)
theorem yM {K : PySem.W.Frag} (hK : X.K = K) : l5 X (.builtin "sorted") (aG3 K) := by
 subst hK
 intro pins s σ H xs us Q I r h
 obtain ⟨a, ns, rfl, hq, h64, q⟩ := h
 obtain ⟨u, rfl, ru⟩ := vals1 r
 cases ru
 obtain ⟨its, rv, p, hz⟩ := I.list hq
 have hlen := rv.length
 rw [List.length_map] at hlen
 refine sorted_ints p.isList (xS rv) (by omega) fun out ns' a1 a2 a3 => ?_
 obtain ⟨e, he⟩ := sortedAll_at s.heap its out
 have es : ns' = sortI ns := pN (a2.trans (sortI_perm ns).symm) a3 (i5 ns)
 subst es
 refine ⟨.ref (s.heap.objs.size + 1), _, I.laid (a := s.heap.objs.size + 1) (o := .lst ((sortI ns).map V.int)) (t' := s.toks) (fun _ _ => sortedAll_old) (Nat.le_succ _) ⟨?_, out.toList, e, w6 a1, he⟩, rfl, q _ (I.hok.fresh (Nat.le_succ _))⟩
 rw [List.length_map, (sortI_perm ns).length_eq, sizeLine_eq]
 omega
end
end L2
namespace M
open PySem PySem.Spec PyProof.Rows L2
variable {K : PySem.W.Frag}
def lV (rs : List Ev) : Res Ev := match rs with
 | [x] => match gH x with
  | some ds => match intsOf ds with
   | some ns => if ns.length < 64 then .ok (.f (.list ((sortI ns).map .int))) else .bad
   | none => .bad
  | none => .bad
 | _ => .bad
theorem aAm : aDj lV := by
 intro rs C h
 unfold lV at h
 split at h
 ·split at h
  ·split at h
   ·split at h <;> cases h
   ·cases h
  ·cases h
 ·cases h
theorem ints_rep {G : Hp} : ∀ ns : List Int, Reps K G (ns.map V.int) (ns.map .int)
 | [] => .nil
 | _ :: ns => .cons (.int _) (ints_rep ns)
theorem aF8 : o9 K (aG3 K) lV := by
 intro W Hs G H vs rs Q gh he hw
 unfold lV at hw
 split at hw
 ·rename_i x
  match vs, he with
  | [v], ⟨h1, _⟩ =>
   split at hw
   ·rename_i ds ed
    obtain ⟨a, xs, rfl, k1, k2⟩ := pR gh h1 ed
    split at hw
    ·rename_i ns eb
     split at hw
     ·rename_i hl
      have := tX eb k2
      subst this
      refine ⟨a, ns, rfl, .inl k1, hl, fun l hl => ?_⟩
      exact hw _ _ _ (Step.lay gh hl) ⟨l, _, rfl, hl, gh.free hl, a6, .lst (ints_rep _)⟩
     ·exact hw.elim
    ·exact hw.elim
   ·exact hw.elim
 ·exact hw.elim
end M
namespace L2
open PySem PySem.Spec PyProof.Rows M
section
variable {X : Cx}
def aG5 : List V -> Hp -> VK -> Prop := fun xs H Q => ∃ (a : Addr) (kv : List (Key × V)) (ns : List Int), xs = [.ref a] /\ Rd H a (.dK kv) /\ kv.map (·.1) = ns.map Sum.inl /\ ∀ l, H l = none -> Q (.ref l) (upd H l (.lst (ns.map V.int)))
theorem zL {kv : List (Key × V)} {vs : List (Key × Value)} {ns : List Int} (r : KV kv vs) (hk : kv.map (·.1) = ns.map Sum.inl) {us : List Value} (hl : us.length = vs.length) (hu : ∀ (j : Nat) (u : Value), us[j]? = some u -> ∃ k x, vs[j]? = some (k, x) /\ vU k u = true) : Vals (ns.map V.int) us := by
 induction r generalizing ns us with
 | nil =>
  cases ns with
  | nil =>
   cases us with
   | nil => exact .nil
   | cons u t => cases hl
  | cons n t => cases hk
 | @cons p q ps qs h t ih =>
  cases ns with
  | nil => cases hk
  | cons n ns =>
   cases us with
   | nil => cases hl
   | cons u us =>
    rw [List.map_cons, List.map_cons] at hk
    injection hk with hk1 hk2
    obtain ⟨k, x, e1, e2⟩ := hu 0 u rfl
    cases e1
    have hq : k = Sum.inl n := h.1.symm.trans hk1
    refine .cons ?_ (ih hk2 (Nat.succ.inj hl) fun j v e => hu (j + 1) v e)
    rw [hq] at e2
    exact Value.isInt_shape e2
theorem uD (hc : X.calm = true) : l5 X (.type "list") aG5 := by
 intro pins s σ H xs us Q I r h
 obtain ⟨a, kv, ns, rfl, ha, hk, q⟩ := h
 obtain ⟨u, rfl, ru⟩ := vals1 r
 cases (show u = Value.ref a from ru)
 obtain ⟨hz, lo, vs, rel, hd⟩ := u0 I.hok ha
 obtain ⟨ep, hat⟩ := hd.dictAt
 have len1 : kv.length = vs.length := Paired.length rel
 refine PySem.W.kdl_call (PySem.W.kdl_dict (knd := dM X.prog X.w) (kvs := vs) (ep := ep) lo) (I.ok.hd hc) hat (by omega) fun h' tk acc c' kp e it => ?_
 have rv : Vals (ns.map V.int) acc.toList := zL rel hk (by rw [Array.length_toList]; exact it.1) fun j v e => by
  obtain ⟨k, x, e1, e2⟩ := it.2 j v (by rw [<- Array.getElem?_toList]; exact e)
  exact ⟨k, x, e1, e2⟩
 have hn : ns.length = kv.length := by
  have := congrArg List.length hk
  rw [List.length_map, List.length_map] at this
  exact this.symm
 refine ⟨.ref s.heap.objs.size, _, I.laid (a := s.heap.objs.size) (o := .lst (ns.map V.int)) (t' := tk) kp (Nat.le_refl _) ⟨by rw [List.length_map]; omega, acc.toList, c', rv, e⟩, rfl, q _ (I.hok.fresh (Nat.le_refl _))⟩
end
end L2
namespace M
open PySem PySem.Spec PyProof.Rows L2
variable {K : PySem.W.Frag}
def lU (rs : List Ev) : Res Ev := match rs with
 | [x] => match kB x with
  | some ((.none, .none) :: kvs) => match intsOf (kvs.map (·.1)) with
   | some ns => .ok (.f (.list (ns.map .int)))
   | none => .bad
  | _ => .bad
 | _ => .bad
theorem aA8 : aDj lU := by
 intro rs C h
 unfold lU at h
 split at h
 ·split at h
  ·split at h <;> cases h
  ·cases h
 ·cases h
theorem sV {G : Hp} : ∀ {kv : List (Key × V)} {kvs : List (D × D)} {ns : List Int}, RepK K G kv kvs -> intsOf (kvs.map (·.1)) = some ns -> kv.map (·.1) = ns.map Sum.inl
 | [], _, _, .nil, h => by cases h; rfl
 | (k, x) :: kv, _, ns, .cons (kvs := kvs) r t, h => by
  rw [List.map_cons] at h
  cases k with
  | inl i =>
   have h : (match intsOf (kvs.map (·.1)) with | some bs => some (i :: bs) | none => none) = some ns := h
   cases e : intsOf (kvs.map (·.1)) with
   | none => rw [e] at h; cases h
   | some bs =>
    rw [e] at h
    cases h
    rw [List.map_cons, List.map_cons, sV t e]
  | inr y => cases h
theorem aGa : o9 K aG5 lU := by
 intro W Hs G H vs rs Q gh he hw
 unfold lU at hw
 split at hw
 ·rename_i x
  match vs, he with
  | [v], ⟨h1, _⟩ =>
   split at hw
   ·rename_i kvs ed
    obtain ⟨a, rfl, hd⟩ := xT gh h1 ed
    split at hw
    ·rename_i ns eb
     rcases hd with ⟨kv, k1, k2⟩ | ⟨kv, r, er, k1, k2⟩
     ·cases k2
     ·cases er
      refine ⟨a, kv, ns, rfl, .inl k1, sV k2 eb, fun l hl => ?_⟩
      exact hw _ _ _ (Step.lay gh hl) ⟨l, _, rfl, hl, gh.free hl, a6, .lst (ints_rep _)⟩
    ·exact hw.elim
   ·exact hw.elim
 ·exact hw.elim
end M
namespace L2
open PySem PySem.Spec PyProof.Rows
def aEb (i j : Int) : Prop := CMulW i j \/ CMul i j
theorem n8 {X : Cx} : OpR X (binaryOp .Mult) (rI aEb fun i j => .int (i * j)) := opI fun _ _ _ _ _ _ _ hc q => mul_int q (hc.elim CMulW.ok CMul.ok)
end L2
namespace M
open PySem PySem.Spec PyProof.Rows L2
variable {K : PySem.W.Frag}
noncomputable abbrev jS : Ev -> Ev -> Res Ev := wB aEb fun i j => .int (i * j)
theorem mY : OpM K (rI aEb fun i j => .int (i * j)) jS := t7 fun _ _ _ => .int _
theorem rB {i j : Int} (h : aEb i j) : jS (.p (.int i)) (.p (.int j)) = .ok (.p (.int (i * j))) := by simp [wB, h]
theorem aHc {i j : Int} (h1 : -(2 ^ 64) < j) (h2 : j < 2 ^ 64) : jS (.p (.int i)) (.p (.int j)) = .ok (.p (.int (i * j))) := rB (.inr (.inr ⟨h1, h2⟩))
end M
namespace L2
open PySem PySem.Spec PyProof.Rows M SRT
section
variable {prog : Program} {w : World} {A : Around} {E : Value -> Shared -> Prop} {s : Shared}
end
section
variable {X : Cx}
def aGk : List V -> Hp -> VK -> Prop := fun xs H Q => ∃ a kv ks, xs = [.ref a] /\ H a = some (.dT kv) /\ kv.map (·.1) = ks.map (List.map Sum.inl) /\ (∀ k ∈ ks, k ≠ []) /\ ∀ ts l, aKv H ts ks -> H l = none -> Q (.ref l) (upd H l (.lst ts))
theorem tK (hcm : X.calm = true) : l5 X (.type "list") aGk := by
 intro pins s σ H xs us Q I r h
 obtain ⟨a, kv, ks, rfl, ha, hk, hne, q⟩ := h
 obtain ⟨u, rfl, ru⟩ := vals1 r
 cases (show u = Value.ref a from ru)
 obtain ⟨hz, hsys, es0, rel, o, es, ep, h1, h2, h3, h4, h5⟩ := (show ObjOk X.prog X.w H s.heap a (.dT kv) from I.hok a _ ha)
 have hraw : RawD s.heap a es ep := ⟨o, h1, h2, h3⟩
 have len1 : kv.length = es0.length := rel.length
 have len2 : es.size = es0.length := by rw [<- Array.length_toList, h4, List.length_map]
 have len3 : ks.length = kv.length := by
  have := congrArg List.length hk
  simpa using this.symm
 have hts : aKv H (es0.map fun x => V.ref x.2.1) ks := by
  refine ⟨by rw [List.length_map]; omega, fun i t k e1 e2 => ?_⟩
  rw [List.getElem?_map] at e1
  cases ex : es0[i]? with
  | none => rw [ex] at e1; cases e1
  | some x =>
   rw [ex] at e1
   cases e1
   have hi : i < kv.length := by rw [len1]; exact (List.getElem?_eq_some_iff.mp ex).1
   obtain ⟨y, ey, hy1, hy2, _⟩ := SRT.Paired.get rel (List.getElem?_eq_getElem hi)
   rw [ex] at ey
   cases ey
   refine ⟨⟨x.2.1, rfl, ?_⟩, hne k (List.mem_of_getElem? e2)⟩
   have hkk : (kv.map (·.1))[i]? = (ks.map (List.map Sum.inl))[i]? := by rw [hk]
   rw [List.getElem?_map, List.getElem?_map, List.getElem?_eq_getElem hi, e2] at hkk
   have hkk : kv[i].1 = k.map Sum.inl := Option.some.inj hkk
   rw [hkk, List.map_map] at hy2
   exact hy2
 refine PySem.W.kdl_call (aJh (prog := X.prog) (w := X.w) (ep := ep) (es := es) hsys) (I.ok.hd hcm) hraw (by omega) fun h' tk acc c' kp e it => ?_
 have hv : ∀ (j : Nat) v, acc.toList[j]? = some v -> ∃ e, es[j]? = some e /\ v = e.key := fun j v e => it.2 j v (by rw [<- Array.getElem?_toList]; exact e)
 have hl : acc.toList.length = es.size := by rw [Array.length_toList]; exact it.1
 have ev : acc.toList = es0.map fun x => Value.ref x.2.1 := by
  refine List.ext_getElem? fun i => ?_
  rw [List.getElem?_map]
  by_cases hi : i < acc.toList.length
  ·have hi2 : i < es0.length := by omega
   obtain ⟨e, e1, e2⟩ := hv i acc.toList[i] (List.getElem?_eq_getElem hi)
   have e3 : es.toList[i]? = some e := by simpa using e1
   rw [h4, List.getElem?_map, List.getElem?_eq_getElem hi2] at e3
   have e3 := Option.some.inj e3
   rw [List.getElem?_eq_getElem hi, List.getElem?_eq_getElem hi2, e2, <- e3]
   rfl
  ·rw [List.getElem?_eq_none (by omega), List.getElem?_eq_none (by omega)]
   rfl
 have rv : Vals (es0.map fun x => V.ref x.2.1) acc.toList := by
  rw [ev]
  exact sC _
 exact ⟨.ref s.heap.objs.size, _, I.laid (a := s.heap.objs.size) (o := .lst (es0.map fun x => V.ref x.2.1)) (t' := tk) kp (Nat.le_refl _) ⟨by rw [List.length_map]; omega, acc.toList, c', rv, e⟩, rfl, q _ _ hts (I.hok.fresh (Nat.le_refl _))⟩
end
end L2
namespace M
open PySem PySem.Spec PyProof.Rows L2 SRT
variable {K : PySem.W.Frag}
def nH (rs : List Ev) : Res Ev := match rs with
 | [x] => match kB x with
  | some kvs => if (dsp kvs).1 = false then match p0 (kvs.map (·.1)) with
    | some ks => if (ks.all fun k => !k.isEmpty) = true then .ok (.f (.list (ks.map uH))) else .bad
    | none => .bad
   else .bad
  | none => .bad
 | _ => .bad
theorem aBt : aDj nH := by
 intro rs C h
 unfold nH at h
 split at h
 ·split at h
  ·split at h
   ·split at h
    ·split at h <;> cases h
    ·cases h
   ·cases h
  ·cases h
 ·cases h
theorem tH {G : Hp} : ∀ {ts : List V} {ks : List (List Int)}, aKv G ts ks -> Reps K G ts (ks.map uH)
 | [], [], _ => .nil
 | [], _ :: _, h => by cases h.1
 | _ :: _, [], h => by cases h.1
 | t :: ts, k :: ks, h => by
  obtain ⟨⟨b, eb, hb⟩, _⟩ := h.2 0 t k rfl rfl
  rw [eb]
  exact .cons (aEt hb) (tH ⟨Nat.succ.inj h.1, fun i t k e1 e2 => h.2 (i + 1) t k e1 e2⟩)
theorem aDk : o9 K aGk nH := by
 intro W Hs G H vs rs Q gh he hw
 unfold nH at hw
 split at hw
 ·rename_i x
  match vs, he with
  | [v], ⟨h1, _⟩ =>
   split at hw
   ·rename_i kvs ed
    obtain ⟨a, rfl, hd⟩ := xT gh h1 ed
    split at hw
    ·rename_i hk
     rcases hd with ⟨kv, k1, k2⟩ | ⟨kv, r, rfl, k1, k2⟩
     ·split at hw
      ·rename_i ks ek
       split at hw
       ·rename_i hz
        have ek := mM ek
        have hne := sS hz
        refine ⟨a, kv, ks, rfl, k1, rZ k2 ek, hne, fun ts D rI hD => ?_⟩
        have st := (aH8 gh).trans (Step.lay (o := .lst ts) (aJ1 gh) hD)
        refine hw _ _ _ st ⟨D, _, rfl, hD, (aJ1 gh).free hD, a6, .lst (tH ⟨rI.1, fun i t k e1 e2 => ?_⟩)⟩
        obtain ⟨⟨b, eb, hb⟩, z⟩ := rI.2 i t k e1 e2
        exact ⟨⟨b, eb, aNj gh hb⟩, z⟩
       ·exact hw.elim
      ·exact hw.elim
     ·cases hk
    ·exact hw.elim
   ·exact hw.elim
 ·exact hw.elim
end M
namespace L2
open PySem PySem.Spec PyProof.Rows
section
variable {X : Cx}
def aCa (X : Cx) : V -> List V -> Hp -> VK -> Prop := fun x vs H Q => ∃ l xs, x = .ref l /\ vs = [] /\ Rd H l (.lst xs) /\ (∀ o u, X.H₀ l ≠ some (.frz o u)) /\ Q .non (upd H l (.lst []))
theorem Inv.thaw {pins : List (Addr × Obj)} {σ : St} {H : Hp} {s : Shared} {l : Addr} {o : Obj} {xs : List V} (I : Inv X pins σ H s) (h : H l = some (.frz o (.lst xs))) (hn : ∀ o u, X.H₀ l ≠ some (.frz o u)) : Inv X pins σ (upd H l (.lst xs)) s := by
 have n0 : ∀ b, H b = none -> upd H l (.lst xs) b = none := fun b e => by
  rw [aS (by rintro rfl; rw [h] at e; cases e)]; exact e
 refine ⟨I.ok, I.os, I.bare, ⟨I.base.keep, I.base.slot, fun b ob q n hx => n0 b (I.base.free b ob q n hx), I.base.there, fun b ys q => ?_, fun b ob u q => ?_, fun b ps q => ?_⟩, I.loc, I.cell, n0 _ I.free, fun x c e => n0 _ (I.freeC x c e), fun p hp => ?_, fun b u q => ?_, I.len⟩
 ·have e := I.base.tups b ys q
  rw [aS (by rintro rfl; rw [h] at e; cases e)]; exact e
 ·have e := I.base.frzs b ob u q
  rw [aS (by rintro rfl; exact hn _ _ q)]; exact e
 ·obtain ⟨more, e⟩ := I.base.tbls b ps q
  exact ⟨more, by rw [aS (by rintro rfl; rw [h] at e; cases e)]; exact e⟩
 ·obtain ⟨p1, p2, p3⟩ := I.pin p hp
  exact ⟨p1, n0 _ p2, p3⟩
 ·by_cases z : b = l
  ·subst z
   rw [a6] at q
   cases q
   exact (I.hok b _ h).2
  ·rw [aS z] at q
   refine (I.hok b u q).stay (fun c v _ q => q) (fun c q => ?_) (fun c ys q => ?_) fun c ys q => by rw [aS (by rintro rfl; rw [h] at q; cases q)]; exact q
   ·rw [aS (by rintro rfl; rw [h] at q; cases q)]; exact q
   ·rw [aS (by rintro rfl; rw [h] at q; cases q)]; exact q
theorem aB7 : MtM X "list.clear" (aCa X) := by
 intro pins s σ H x vs v us Q I rx rv h
 obtain ⟨l, xs, rfl, rfl, hr, hn, q⟩ := h
 rcases hr with hr | ⟨o, hr⟩
 ·exact wC pins s σ H _ _ v us Q I rx rv ⟨l, xs, rfl, rfl, hr, q⟩
 ·exact wC pins s σ _ _ _ v us Q (I.thaw hr hn) rx rv ⟨l, xs, rfl, rfl, a6, by rw [aIk]; exact q⟩
end
end L2
namespace M
open PySem PySem.Spec PyProof.Rows L2
def aAc (k : Nat) (d : D) (en : En) : En := (List.replicate en.length none).set k (some (.p d))
section
variable {X : Cx} {E : L2.St -> XK} {sts rest A : List Stmt} {st : Stmt} {fA g : MS} {fe : En -> Res Ev} {fc : En -> Res Bool} {e c : Expr} {pos pos2 : Pos}
end
def aQq (xs es : List D) : Prop := xs.length ≠ es.length \/ ∃ a r b r', xs = .tuple a :: r /\ es = .tuple b :: r' /\ a.length ≠ b.length
section
variable {X : Cx} {E : L2.St -> XK} {rest A : List Stmt} {s1 s2 : Stmt} {fA g : MS} {fe : En -> Res Ev} {fc : En -> Res Bool} {e c : Expr} {pos pos2 pos3 : Pos}
end
end M
namespace L2
open PySem PySem.Spec PyProof.Rows
theorem x9 {pos : Pos} {a b : Int} {c cv : Value} (l : List Value) (h : TriplesOk l) (e : codeAmong pos (l ++ [rawInt a, rawInt b, c]) = some cv) : codeAmong pos l = some cv \/ cv = c := by
 fun_induction TriplesOk l with
 | case1 =>
  simp only [List.nil_append, codeAmong, rawInt] at e
  split at e
  ·exact .inr (Option.some.inj e).symm
  ·cases e
 | case2 a' t b' u x rest ih =>
  simp only [List.cons_append, codeAmong] at e ⊢
  split at e
  ·rename_i z; rw [if_pos z]; exact .inl e
  ·rename_i z; rw [if_neg z]; exact ih h e
 | case3 => exact h.elim
theorem xR (a : Value) (more : Array Value) : (#[a] ++ more)[0]? = some a := by
 rw [Array.getElem?_append_left (by simp)]; rfl
section
variable {X : Cx} {pins : List (Addr × Obj)} {σ : St} {H : Hp} {s : Shared}
theorem aFa (I : Inv X pins σ H s) {c P : Addr} {n : Str} (htb : (c, P, n) ∈ tbs X.K) (hhd : PySem.W.codeHdIn X.K c P = true) (hcode : X.env.code = .ref c) (hqual : X.env.qual = n ++ ".<locals>.") {scope : Scope} {cl : List (Str × Addr)} {args : Arguments} {body : Expr} {pos : Pos}
  (hcl : closureFor scope X.env = pure cl) (hdef : defaultsOf args X.env = ([], [])) {Q E : Value -> Shared -> Prop}
  (h : ∀ (f c' : Addr) (pm ctv : Value) (s' : Shared) (H' : Hp) (oc : Obj) (vs : Array Value) (u : Tok), Inv X pins σ H' s' -> (H' = H \/ H c' = none /\ H' = upd H c' (.frz oc (.own P))) -> qD X pins H' f -> s'.heap.get? f = some (PySem.W.kla_obj "<lambda>" (X.env.qual ++ "<lambda>") args body scope cl pm c' ctv) ->
   H' c' = some (.frz oc (.own P)) -> oc.data = .fields vs -> vs[1]? = some (.str (X.env.qual ++ "<lambda>") u) -> Q (.ref f) s') :
  wpAny (model X.prog X.w) X.A (eval (.Lambda args body scope pos) X.env) Q E s := by
 refine PySem.W.kla_eval hdef ?_
 obtain ⟨more, hP⟩ := I.tab _ htb
 dsimp only at hP
 obtain ⟨qs, hq, ht, hz⟩ := I.hok _ _ hP
 have C : PySem.W.CodeHd s.heap c P := PySem.W.codeHd_of_K I.kIn hhd
 have hg : s.heap.Ns mainGlobals X.mg := I.mod.glob.keeps I.bk
 obtain ⟨bm, ob, b1, b2, b3, b4, b5, b6⟩ := I.mod.bm
 have nP : ∀ b o, X.base.get? b = some o -> b ≠ P := fun b o e z => by
  have := (I.bs b o e).2
  rw [z, hP] at this; cases this
 have hgP : mainGlobals ≠ P := let ⟨o, _, _, e, _⟩ := I.mod.glob; nP _ o e
 have hbG : bm ≠ mainGlobals := fun q => by
  obtain ⟨o, es, ep, e, hd, _⟩ := I.mod.glob
  rw [q, e] at b3; cases b3; rw [hd] at b6; cases b6
 have B : s.heap.BuiltinsAt X.mg P := ⟨bm, ob, b1, b2, hbG, nP _ _ b3, I.bk _ _ b3, b4, b5, b6⟩
 cases ec : codeAmong pos qs.toList with
 | some cv =>
  obtain ⟨c', oc, vs, u, rfl, e2, e3, e4⟩ := hz n 0 (xR _ _) pos cv ec
  refine PySem.W.kla_makeFunctionHit hcl I.ok.glob hg hcode C hq ht ec B fun ctv h' tk hk hsz => ?_
  exact h h'.objs.size c' _ ctv _ H oc vs u (I.kept (t' := tk) fun b o e => Heap.get?_push_of_some _ (hk b o e)) (.inl rfl) (I.fpOk hsz (I.hok.fresh hsz)) (Heap.get?_push_size _ rfl) e2 e3 (by rw [hqual]; exact e4)
 | none =>
  refine PySem.W.kla_makeFunction hcl I.ok.glob hg hcode C hq ht ec hgP B fun c' ctv h' tk hx hge hlt hrec htb' => ?_
  obtain ⟨c2, oc, vs, u, e1, e2, e3, e4⟩ := hrec
  cases e1
  have hc' : H c' = none := I.hok.fresh hge
  have neP : ∀ b, H b = none -> b ≠ P := fun b e z => by rw [z, hP] at e; cases e
  have cP : P ≠ c' := fun z => by rw [z, hc'] at hP; cases hP
  have up : ∀ {b : Addr} {o : HO}, H b = some o -> upd H c' (.frz oc (.own P)) b = some o := fun e => by rw [aS (bE e hc')]; exact e
  have ps : ∀ {b : Addr} {o o' : Obj}, h'.get? b = some o -> (h'.push o').get? b = some o := fun e => Heap.get?_push_of_some _ e
  have J : Inv X pins σ (upd H c' (.frz oc (.own P))) { s with heap := h'.push (PySem.W.kla_obj "<lambda>" (X.env.qual ++ "<lambda>") args body scope cl ((X.mg "__name__").getD .none) c' ctv), gens := s.gens, drawn := s.drawn, toks := tk } := by
   refine I.step (ch := []) (fun _ z => nomatch z) (fun b o _ _ _ e n => ps (hx b o (neP b n) e)) (fun b o _ _ _ e n => ⟨o.slots, ps (hx b o (neP b n) e)⟩) (fun b o _ e n => ?_) (fun b o _ e => ?_) (fun b xs e => up e) (fun b o u e => up e) (fun b qs e => ⟨#[], by rw [up e]; simp⟩) (fun m hm => ?_) (fun b ho e => ?_) I.bare
   ·rw [aS (Nat.ne_of_lt (Nat.lt_of_lt_of_le (Heap.lt_size e) hge))]; exact n
   ·by_cases z : b = P
    ·subst z; exact ⟨_, ps htb'⟩
    ·exact ⟨o, ps (hx b o z e)⟩
   ·exact (hm.extBut hx (neP _ I.free)).push _
   ·by_cases z : b = c'
    ·subst z
     rw [a6] at e
     cases e
     exact ⟨ps e2, _, ps e2⟩
    ·rw [aS z] at e
     by_cases y : b = P
     ·subst y
      rw [hP] at e
      cases e
      refine ⟨_, ps htb', by simpa using TriplesOk_snoc _ _ _ _ ht, fun n' t' en pos' cv ea => ?_⟩
      rcases x9 qs.toList ht (by simpa using ea) with ea | rfl
      ·obtain ⟨c2, oc2, vs2, u2, f1, f2, f3⟩ := hz n' t' en pos' cv ea
       exact ⟨c2, oc2, vs2, u2, f1, up f2, f3⟩
      ·have en := (xR _ _).symm.trans en
       cases en
       exact ⟨c', oc, vs, u, rfl, a6, e3, by rw [<- hqual]; exact e4⟩
     ·refine (I.hok b _ e).stay (fun d o hd q => ps (hx d o ?_ q)) (fun d q => up q) (fun d xs q => up q) fun d o q => up q
      rcases hd with hd | hd
      ·rw [hd]; exact y
      ·rintro rfl; rw [hP] at hd; cases hd
  have sz : s.heap.objs.size <= h'.objs.size := Nat.le_trans hge (Nat.le_of_lt hlt)
  exact h h'.objs.size c' _ ctv _ _ oc vs u J (.inr ⟨hc', rfl⟩) (I.fpOk sz (by rw [aS (Nat.ne_of_gt hlt)]; exact I.hok.fresh sz)) (Heap.get?_push_size _ rfl) a6 e3 e4
abbrev aFg (X : Cx) (A : Around) (qual : Str) (scope : Scope) (cl : List (Str × Addr)) (f : Addr) (cd : Value) (N : List Str) (s : Shared) (H : Hp) : Cx :=
 { X with A := A.deeper (PySem.W.envX qual scope s.heap.objs.size f cd cl), N := N, s₀ := s, H₀ := H, env := PySem.W.envX qual scope s.heap.objs.size f cd cl, outer := X.stack, stack := PySem.W.envX qual scope s.heap.objs.size f cd cl :: X.stack, ex := [], fn := fun _ => false, calm := true, pn := [], xe := fun _ _ => False }
structure aDp (X : Cx) (scope : Scope) (cl : List (Str × Addr)) (x : Str) (ys : List Str) (js : List Nat) : Prop where
 clos : closureFor scope X.env = pure cl
 sub : ∀ y c, cl.lookup y = some c -> X.env.cells.lookup y = some c
 has : ∀ y, scope.names.lookup y = some .free -> ∃ c, cl.lookup y = some c
 len : ys.length = js.length
 at_ : ∀ (i : Nat) (y : Str) (j : Nat), ys[i]? = some y -> js[i]? = some j -> X.N[j]? = some y /\ (X.env.kindOf y = some .cell \/ X.env.kindOf y = some .free) /\ scope.names.lookup y = some .free /\ cl.lookup y = X.env.cells.lookup y
 loc : scope.names.lookup x = some .local
 kind : scope.kind = .function
 co : scope.isCoroutine = false
 gen : scope.isGenerator = false
 nocell : ∀ y ∈ scope.names, y.2 ≠ .cell
theorem aF1 (I : Inv X pins σ H s) {A : Around} (hA : A.frames = X.A.frames) (hh : A.handled = none) (hroom : A.depth < recursionLimit) {scope : Scope} {cl : List (Str × Addr)} {x : Str} {ys : List Str} {js : List Nat} (L : aDp X scope cl x ys js)
  {qual : Str} {params : Arguments} {body : Expr} {pm ctv : Value} {f c' P : Addr} {oc : Obj} {vs : Array Value} {tq : Tok} (ho : s.heap.get? f = some (PySem.W.kla_obj "<lambda>" qual params body scope cl pm c' ctv)) (hc : H c' = some (.frz oc (.own P))) (hd1 : oc.data = .fields vs) (hd2 : vs[1]? = some (.str qual tq))
  (hbind : ∀ v, bindArgs (PySem.W.kla_fn "<lambda>" qual params body scope cl pm (.ref c') ctv) ⟨[v], []⟩ = pure [(x, v)]) {te : TE} (hb : PE (aFg X A qual scope cl f (.ref c') (x :: ys) s H) body te) {v : V} {u : Value} (rv : RelV v u) {Q : VK} {E : Value -> Shared -> Prop} (h : te (some v :: lL js σ) H Q) :
  wpAny (model X.prog X.w) A (call (.ref f) [u]) (EP X pins σ Q) E s := by
 refine wpAny_call (codeAny_mono (R := fun r s' => ∃ u', r = .ok (.ret u') /\ CE X.stack X.prog X.w H s Q u' s') (PySem.W.kla_callFunE hroom ho rfl L.co L.gen rfl ⟨c', oc, vs, tq, rfl, (I.hok c' _ hc).1, hd1, hd2⟩ ?_) fun r s' hq => ?_)
 ·rw [hbind]
  refine wpAny_pure (wpAny_newFunctionEnv L.nocell (by intro y hy; rw [List.mem_singleton.mp hy]; exact L.loc) (fun h₁ hns hsb => ⟨I.nolimit.fresh _ hsb, PySem.W.kla_codeExpr ?_⟩) L.kind)
  have old : ∀ b o, s.heap.get? b = some o -> h₁.get? b = some o := fun b o e => hsb.extBut b o (Nat.ne_of_lt (Heap.lt_size e)) (Heap.get?_push_of_some _ e)
  have noA : ∀ b : Addr, b ∉ ([] : List Addr) := fun b => by simp
  have J : Inv (aFg X A qual scope cl f (.ref c') (x :: ys) s H) [] (some v :: lL js σ) H { s with heap := h₁, toks := s.toks + 1 } := by
   refine ⟨⟨I.ok.mod, L.kind, rfl, rfl, Nat.le_refl _, fun y z c h1 h2 => I.ok.inj y z c (L.sub y c h1) (L.sub z c h2), fun y hy => ?_, (fun y c hf _ => nomatch hf), fun _ => hh, Around.frames_deeper (hA.trans I.ok.frames), .inr ⟨rfl, rfl⟩, fun b z => absurd z (noA b), I.bs, Nat.le_trans I.ok.bsz I.sz, fun b _ _ => noA b, fun b z => absurd z (noA b), I.stack, I.stkFree, I.tab⟩,
    rfl, I.bare, Un.kept old, ⟨_, hns, fun i y v' e1 e2 e3 => ?_⟩, fun y c q => ?_, I.hok.fresh (Nat.le_refl _), fun y c q => I.freeC y c (L.sub y c q), fun p hp => absurd (show p ∈ ([] : List (Addr × Obj)) from hp) (by simp), I.hok.kept old, ?_⟩
   ·have hy : scope.names.lookup y = some .cell \/ scope.names.lookup y = some .free := hy
    rcases hy with hy | hy
    ·exact absurd rfl (L.nocell _ (PySem.mem_of_lookup hy))
    ·exact L.has y hy
   ·cases i with
    | zero =>
     cases e1
     have e2 : v = v' := by simpa using e2
     subst e2
     exact ⟨u, rv, .inl ⟨L.loc, by simp [List.lookup]⟩⟩
    | succ k =>
     have e1' : ys[k]? = some y := by simpa using e1
     have e2' : (lL js σ)[k]? = some (some v') := by simpa using e2
     unfold lL at e2'
     rw [List.getElem?_map] at e2'
     cases ej : js[k]? with
     | none => rw [ej] at e2'; cases e2'
     | some j =>
      rw [ej] at e2'
      have e2'' : (σ[j]?).getD none = some v' := Option.some.inj e2'
      have eσ : σ[j]? = some (some v') := by
       cases es : σ[j]? with
       | none => rw [es] at e2''; cases e2''
       | some z => rw [es] at e2''; have : z = some v' := e2''; rw [this]
      obtain ⟨c1, c2, c3, c4⟩ := L.at_ k y j e1' ej
      obtain ⟨m0, hn0, hl0⟩ := I.loc
      obtain ⟨u', r, l⟩ := hl0 j y v' c1 eσ (c2.elim (fun z => .inr (.inl z)) fun z => .inr (.inr z))
      refine ⟨u', r, .inr ⟨.inr c3, ?_⟩⟩
      rcases l with ⟨l, _⟩ | ⟨_, c, hcc, z⟩
      ·rcases c2 with c2 | c2
       ·rw [c2] at l; cases l
       ·rw [c2] at l; cases l
      ·obtain ⟨o, ho', hd⟩ := z
       exact ⟨c, c4.trans hcc, o, old c o ho', hd⟩
   ·obtain ⟨v0, o, ho', hd⟩ := I.cell y c (L.sub y c q)
    exact ⟨v0, o, old c o ho', hd⟩
   ·show (some v :: lL js σ).length = (x :: ys).length
    unfold lL
    simp [L.len]
  exact wpAny_mono (hb [] _ _ H Q J h) (fun u' s' ⟨v', H', J', r', q'⟩ => ⟨u', rfl, v', H', J'.os, J'.bare, J'.base, J'.hok, r', q'⟩) fun _ _ z => z.elim
 ·obtain ⟨u', rfl, hq⟩ := hq
  exact I.after hq
end
end L2
namespace SRT
open PySem PySem.W PyProof.Rows L2
section
variable {prog : Program} {w : World} {A : Around} {E : Value -> Shared -> Prop} {s : Shared}
def aL7 (h : Heap) (ws : List Value) (ks : List (List Int)) : Prop := (∃ ns, IntsAre ws ns /\ ks = ns.map fun n => [n]) \/ TupsI h ws ks
theorem wJ {a kS : Addr} {e e1 : Nat} {ws out : List Value} {st : SortSt} {P : PySem.Fin -> Shared -> Prop} (hk : s.heap.get? kS = some (seqObj "list" ws.toArray e)) (ha : s.heap.get? a = some (seqObj "list" #[] e1)) (hne : a ≠ kS) (hout : (arrOf st).map (·.2) = out.toArray) (hf : failedOf st = none) (hz : out.length < 64) (hkz : ws.length < 64)
  (h : ∀ (h' : Heap) (c c' : Nat), (∀ b o, b ≠ a -> b ≠ kS -> s.heap.get? b = some o -> h'.get? b = some o) -> h'.get? a = some (seqObj "list" out.toArray c) -> h'.get? kS = some (seqObj "list" #[] c') -> P (.done (.ret .none)) { s with heap := h' }) :
  wpAny (model prog w) A (ksk_tail a false e1 (.ref kS) st) P E s := by
 unfold ksk_tail
 try dsimp only
 rw [hout]
 simp only [Bool.false_eq_true, if_false]
 refine wpAny_bind (listUpdate_at hk rfl ?_ (by rw [List.size_toArray, sizeLine_eq]; omega) (Nat.zero_le _))
 refine wpAny_bind (wpAny_letGo ?_)
 have ha2 : (s.heap.update kS (Obj.mapSeq fun _ => (#[] : Array Value))).get? a = some (seqObj "list" #[] e1) := by rw [Heap.get?_update_ne _ _ _ _ hne]; exact ha
 refine wpAny_bind (seqEpoch_at ha2 rfl ?_)
 refine wpAny_bind (listUpdate_at ha2 rfl ?_ (Nat.zero_le _) (by rw [List.size_toArray, sizeLine_eq]; omega))
 rw [hf]
 simp only [bne_self_eq_false, Bool.false_eq_true, if_false]
 obtain ⟨c', e2⟩ : ∃ c', (s.heap.update kS (Obj.mapSeq fun _ => (#[] : Array Value))).get? kS = some (seqObj "list" #[] c') := ⟨_, get?_update_seq hk fun _ => #[]⟩
 refine wpAny_pure (h _ _ c' (fun b o b1 b2 e => ?_) (get?_update_seq ha2 fun _ => out.toArray) ?_)
 ·rw [Heap.get?_update_ne _ _ _ _ b1, Heap.get?_update_ne _ _ _ _ b2]; exact e
 ·rw [Heap.get?_update_ne _ _ _ _ hne.symm]; exact e2
theorem aHp {a kS : Addr} {e e1 : Nat} {ws vs : List Value} {ks : List (List Int)} {P : PySem.Fin -> Shared -> Prop} (hk : s.heap.get? kS = some (seqObj "list" ws.toArray e)) (ha : s.heap.get? a = some (seqObj "list" #[] e1)) (hne : a ≠ kS) (hw : ws.length = vs.length) (h64 : vs.length < 64) (hK : aL7 s.heap ws ks)
  (h : ∀ (q : Array Nat) (h' : Heap) (c c' : Nat), Pm vs.length q -> Sd (l8 ks) q vs.length -> (∀ b o, b ≠ a -> b ≠ kS -> s.heap.get? b = some o -> h'.get? b = some o) -> h'.get? a = some (seqObj "list" (q.toList.map fun i => vs.getD i Value.none).toArray c) -> h'.get? kS = some (seqObj "list" #[] c') -> P (.done (.ret .none)) { s with heap := h' }) :
  wpAny (model prog w) A (ksk_end a false vs.toArray e1 (.ref kS) ws.toArray) P E s := by
 have hkl : ks.length = ws.length := by
  rcases hK with ⟨ns, z, rfl⟩ | z
  ·rw [List.length_map, kR z]
  ·exact z.1.symm
 unfold ksk_end
 try dsimp only
 simp only [Bool.false_eq_true, if_false, pure_bind]
 by_cases h2 : vs.toArray.size < 2
 ·rw [if_pos h2, if_pos h2]
  refine wpAny_bind (wpAny_pure ?_)
  dsimp only
  have e0 : (arrOf (SortSt.mk' general' (ws.toArray.zip vs.toArray) #[] 7 none)).map (·.2) = ((List.range vs.length).toArray.toList.map fun i => vs.getD i Value.none).toArray := by
   show (ws.toArray.zip vs.toArray).map (·.2) = _
   rw [List.toList_toArray, range_getD]
   apply Array.toList_inj.mp
   simp [List.map_snd_zip, hw]
  refine wJ hk ha hne e0 rfl (by rw [List.length_map]; simpa using h64) (by omega) fun h' c c' k1 k2 k3 => h (List.range vs.length).toArray h' c c' (Array.Perm.refl _) (fun i j hij hj => ?_) k1 k2 k3
  have : i = j := by rw [List.size_toArray] at h2; omega
  subst this
  exact (aB8 ks).rf _
 ·rw [if_neg h2, if_neg h2]
  have h2' : 2 <= vs.length := by rw [List.size_toArray] at h2; omega
  have ask : ∃ κ, (∀ Q : SortKind -> Shared -> Prop, Q κ s -> wpAny (model prog w) A (keyKind' ws.toArray) Q E s) /\ ∀ (i j : Nat) (C : Bool -> Shared -> Prop), i < vs.length -> j < vs.length -> C (l8 ks i j) s -> wpAny (model prog w) A (keyLt' κ (ws.getD i Value.none) (ws.getD j Value.none)) C (fun _ _ => False) s := by
   rcases hK with ⟨ns, z, rfl⟩ | z
   ·refine ⟨oneType', fun Q q => ?_, fun i j C hi hj hC => ?_⟩
    ·rw [ksk_kind (kz := ns) (by simpa using z) (by rw [List.size_toArray]; omega)]
     exact wpAny_pure q
    ·have hl := kR z
     have at' : ∀ {ws : List Value} {ns : List Int} {i : Nat}, IntsAre ws ns -> i < ns.length -> ∃ t, ws.getD i Value.none = .int (ns.getD i 0) t := by
      intro ws ns i z
      induction z generalizing i with
      | nil => intro h; cases h
      | cons n t _ ih =>
       intro h
       cases i with
       | zero => exact ⟨t, rfl⟩
       | succ i => obtain ⟨t', e⟩ := ih (i := i) (by simpa using h); exact ⟨t', by simpa using e⟩
     obtain ⟨t1, e1⟩ := at' z (i := i) (by omega)
     obtain ⟨t2, e2⟩ := at' z (i := j) (by omega)
     have f1 : (ns.map fun n => [n]).getD i [] = [ns.getD i 0] := by simp [List.getD, List.getElem?_map, List.getElem?_eq_getElem (show i < ns.length by omega)]
     have f2 : (ns.map fun n => [n]).getD j [] = [ns.getD j 0] := by simp [List.getD, List.getElem?_map, List.getElem?_eq_getElem (show j < ns.length by omega)]
     rw [e1, e2]
     refine kat_lt_int ?_
     unfold l8 at hC
     rw [f1, f2, HT.fN] at hC
     by_cases q : ns.getD i 0 = ns.getD j 0
     ·rw [if_pos q] at hC
      rw [q]
      have hC : C false s := hC
      simpa using hC
     ·rw [if_neg q] at hC; exact hC
   ·obtain ⟨fs, f1, f2, f3⟩ := aP0 z
    refine ⟨tuples' (Value.type "int" != Value.type "tuple"), fun Q q => kat_kind (T := .type "int") f1 (by rw [f2]; omega) (fun v hv => ?_) rfl q, fun i j C hi hj hC => ?_⟩
    ·obtain ⟨i, t, rfl⟩ := f3 v hv
     exact .now
    ·have hi' : ws[i]? = some ws[i] := List.getElem?_eq_getElem (by omega)
     have hj' : ws[j]? = some ws[j] := List.getElem?_eq_getElem (by omega)
     have ki : i < ks.length := by omega
     have kj : j < ks.length := by omega
     have di : ws.getD i Value.none = ws[i] := by simp [hw, hi]
     have dj : ws.getD j Value.none = ws[j] := by simp [hw, hj]
     have ei : ks.getD i [] = ks[i] := by simp [ki]
     have ej : ks.getD j [] = ks[j] := by simp [kj]
     unfold l8 at hC
     rw [ei, ej] at hC
     rw [di, dj]
     exact aD3 _ (z.2 i _ _ hi' (List.getElem?_eq_getElem ki)).1 (z.2 j _ _ hj' (List.getElem?_eq_getElem kj)).1 hC
  obtain ⟨κ, a1, a2⟩ := ask
  refine wpAny_bind (a1 _ ?_)
  refine wpAny_bind (wpAny_mono (kat_run (κ := κ) (ks := ws) (vs := vs) (Q := fun st' s' => ∃ p : Array Nat, s' = s /\ p.size = vs.length /\ arrOf st' = p.map (kas_item (ws.toArray.zip vs.toArray)) /\ failedOf st' = none /\ Pm vs.length p /\ Sd (l8 ks) p vs.length)
   (G := fun p s' => s' = s /\ Pm vs.length p /\ Sd (l8 ks) p vs.length)
   hw h2' h64 (fun p st' s' a1 a2 a3 a4 => ⟨p, a4.1, a1, a2, a3, a4.2⟩) (aJ9 (n := vs.length) (lt := l8 ks) (fun i j C hi hj hC => ?_) (by omega) (aB8 ks) fun q q1 q2 => ⟨rfl, q1, q2⟩)) ?_ fun _ _ e => e)
  ·unfold kas_ask
   exact a2 i j _ hi hj hC
  ·rintro ⟨⟨⟩, st'⟩ s' ⟨p, rfl, hp, har, hf, hpm, hsd⟩
   dsimp only
   refine wJ hk ha hne (kat_snds (ks := ws) (vs := vs) hw har) hf (by rw [List.length_map, Array.length_toList, hp]; exact h64) (by omega) fun h' c c' k1 k2 k3 => h p h' c c' hpm hsd k1 k2 k3
end
end SRT
namespace L2
open PySem PySem.Spec PyProof.Rows
def aJ8 (H : Hp) (ys : List V) (ks : List (List Int)) : Prop := (∃ ns : List Int, ys = ns.map V.int /\ ks = ns.map fun n => [n]) \/ SRT.aKv H ys ks
def vV (te : TE) (js : List Nat) (σ : St) (Q : VK) : VK := fun x H1 => ∃ a ts, x = .ref a /\ Rd H1 a (.lst ts) /\ ts.length < 64 /\ ∀ H2, (H2 = H1 \/ ∃ c o P, H1 c = none /\ H2 = upd H1 c (.frz o (.own P))) ->
 ∃ W : Nat -> List V -> Hp -> Prop, W 0 [] H2 /\ (∀ i ys H3 v, W i ys H3 -> ts[i]? = some v -> te (some v :: lL js σ) H3 fun y H4 => (∀ c o P, H3 c = some (.frz o (.own P)) -> H4 c = some (.frz o (.own P))) /\ W (i + 1) (ys ++ [y]) H4) /\
  ∀ ys H3, W ts.length ys H3 -> ∃ ks, aJ8 H3 ys ks /\ ∀ D q, H3 D = none -> SRT.Pm ts.length q -> SRT.Sd (SRT.l8 ks) q ts.length -> Q (.ref D) (upd H3 D (.lst (q.toList.map fun i => ts.getD i .non)))
def aPz (t0 te : TE) (js : List Nat) : TE := fun σ H Q => t0 σ H (vV te js σ Q)
section
variable {X : Cx} {pins : List (Addr × Obj)} {σ : St}
theorem aJ6 {H : Hp} {h : Heap} {ys : List V} {ws : List Value} {ks : List (List Int)} (ok : HOk X.prog X.w H h) (k : aJ8 H ys ks) (v : Vals ys ws) : SRT.aL7 h ws ks := by
 rcases k with ⟨ns, rfl, rfl⟩ | k
 ·exact .inl ⟨ns, intsAre_of v, rfl⟩
 ·exact .inr (SRT.aAy ok k v)
theorem t9 {pins' : List (Addr × Obj)} {H H' : Hp} {b : Addr} (h : qD X pins H b) (hn : H' b = none) (hp : ∀ p ∈ pins', p ∈ pins \/ p.1 ≠ b) : qD X pins' H' b :=
 ⟨hn, h.2.1, h.2.2.1, h.2.2.2.1, h.2.2.2.2.1, fun p hq => (List.mem_append.mp hq).elim (fun z => h.2.2.2.2.2 p (List.mem_append_left _ z)) fun z => (hp p z).elim (fun y => h.2.2.2.2.2 p (List.mem_append_right _ y)) id⟩
theorem wK {A : Around} {kS f c' P : Addr} {oc fo : Obj} {te : TE} {js : List Nat} {ts : List V} {W : Nat -> List V -> Hp -> Prop} {E : Value -> Shared -> Prop} {body : Value -> PUnit -> Sem (ForInStep PUnit)} (h64 : ts.length < 64) (hf : (f, fo) ∈ pins)
  (hcall : ∀ (pl : List (Addr × Obj)) (H : Hp) (s : Shared) (v : V) (u : Value) (Q : VK), Inv X pl σ H s -> s.heap.get? f = some fo -> H c' = some (.frz oc (.own P)) -> RelV v u -> te (some v :: lL js σ) H Q -> wpAny (model X.prog X.w) A (call (.ref f) [u]) (EP X pl σ Q) (fun _ _ => False) s)
  (hW : ∀ i ys H3 v, W i ys H3 -> ts[i]? = some v -> te (some v :: lL js σ) H3 fun y H4 => (∀ c o P, H3 c = some (.frz o (.own P)) -> H4 c = some (.frz o (.own P))) /\ W (i + 1) (ys ++ [y]) H4)
  (hb : ∀ (x : Value) (s : Shared) (C : Shared -> Prop), wpAny (model X.prog X.w) A (call (.ref f) [x]) (fun k s' => ∃ ws e, s'.heap.get? kS = some (seqObj "list" (List.toArray ws) e) /\ ws.length < 64 /\ ∀ h' c, Heap.SameBut kS s'.heap h' -> h'.get? kS = some (seqObj "list" (List.toArray (ws ++ [k])) c) -> C { s' with heap := h' }) (fun _ _ => False) s ->
   wpAny (model X.prog X.w) A (body x ⟨⟩) (fun r s' => r = .yield ⟨⟩ /\ C s') E s) :
  ∀ (r : List Value) (tr : List V) (i : Nat) (ys : List V) (ws : List Value) (e : Nat) (s : Shared) (H : Hp), Vals tr r -> ts.drop i = tr -> Inv X pins σ H s -> H c' = some (.frz oc (.own P)) -> qD X pins H kS -> s.heap.get? kS = some (seqObj "list" (List.toArray ws) e) -> Vals ys ws -> ys.length = i -> i <= ts.length -> W i ys H ->
   wpAny (model X.prog X.w) A (forIn r PUnit.unit body) (fun _ s' => ∃ ys ws e H, Inv X pins σ H s' /\ qD X pins H kS /\ s'.heap.get? kS = some (seqObj "list" (List.toArray ws) e) /\ Vals ys ws /\ ys.length = ts.length /\ W ts.length ys H) E s
 | [], _, i, ys, ws, e, s, H, .nil, hd, I, hc, hk, ho, hv, hl, hle, w => by
  rw [List.forIn_nil]
  have hi : ts.length <= i := by simpa using hd
  obtain rfl : i = ts.length := by omega
  exact wpAny_pure ⟨ys, ws, e, H, I, hk, ho, hv, hl, w⟩
 | x :: r, _, i, ys, ws, e, s, H, .cons (a := v) (l₁ := tr) rv rr, hd, I, hc, hk, ho, hv, hl, hle, w => by
  rw [List.forIn_cons]
  have hiv : ts[i]? = some v := by
   have := congrArg (fun l : List V => l[0]?) hd
   simpa [List.getElem?_drop] using this
  have hlt : i < ts.length := (List.getElem?_eq_some_iff.mp hiv).1
  have hd2 : ts.drop (i + 1) = tr := by
   have := congrArg (List.drop 1) hd
   simpa [List.drop_drop] using this
  have hvl := hv.length
  refine wpAny_bind (wpAny_mono (hb x s (fun s' => ∃ ys ws e H, Inv X pins σ H s' /\ H c' = some (.frz oc (.own P)) /\ qD X pins H kS /\ s'.heap.get? kS = some (seqObj "list" (List.toArray ws) e) /\ Vals ys ws /\ ys.length = i + 1 /\ W (i + 1) ys H) ?_) (fun q s' hq => ?_) fun _ _ e => e)
  ·have Ip : Inv X (pins ++ [(kS, seqObj "list" (List.toArray ws) e)]) σ H s := I.pins_of fun p hp => by
    rcases List.mem_append.mp hp with hp | hp
    ·exact I.pin p (List.mem_append_right _ hp)
    ·rw [List.mem_singleton.mp hp]
     exact ⟨ho, hk.1, hk.2.1, hk.2.2.1, fun v z => by cases z⟩
   refine wpAny_mono (hcall _ H s v x _ Ip (I.pin _ (List.mem_append_right _ hf)).1 hc rv (hW i ys H v w hiv)) (fun k s' ⟨y, H4, I4, ry, k4, w4⟩ => ?_) fun _ _ z => z
   have pk := I4.pin (kS, seqObj "list" (List.toArray ws) e) (List.mem_append_right _ (List.mem_append_right _ (.head _)))
   refine ⟨ws, e, pk.1, by omega, fun h' c sb eo => ⟨ys ++ [y], ws ++ [k], c, H4, ?_, k4 _ _ _ hc, t9 hk pk.2.1 fun p hp => .inl hp, eo, hv.append (.cons ry .nil), by simp [hl], w4⟩⟩
   exact (I4.unpinned (pins := pins)).turned (t' := s'.toks) (it := kS) (fun b o hb q => (sb.2 b hb).trans q) pk.2.1 hk.2.1 hk.2.2.2.1 hk.2.2.2.2.1 hk.2.2.2.2.2
  ·obtain ⟨rfl, ys', ws', e', H', I', hc', hk', ho', hv', hl', w'⟩ := hq
   show wpAny (model X.prog X.w) A (forIn r PUnit.unit body) _ E s'
   exact wK h64 hf hcall hW hb r tr (i + 1) ys' ws' e' s' H' rr hd2 I' hc' hk' ho' hv' hl' hlt w'
open PySem.W in
theorem yS {H : Hp} {s : Shared} (I : Inv X pins σ H s) {a f c' P : Addr} {oc fo : Obj} {te : TE} {js : List Nat} {ts : List V} {W : Nat -> List V -> Hp -> Prop} {Q : VK} {E : Value -> Shared -> Prop} (ha : Rd H a (.lst ts)) (h64 : ts.length < 64) (hfo : s.heap.get? f = some fo) (hfp : qD X pins H f) (hfc : ∀ v, fo.data ≠ .cell v) (hc : H c' = some (.frz oc (.own P)))
  (hcall : ∀ (pl : List (Addr × Obj)) (H : Hp) (s : Shared) (v : V) (u : Value) (Q : VK), Inv X pl σ H s -> s.heap.get? f = some fo -> H c' = some (.frz oc (.own P)) -> RelV v u -> te (some v :: lL js σ) H Q -> wpAny (model X.prog X.w) X.A.in1.in1 (call (.ref f) [u]) (EP X pl σ Q) (fun _ _ => False) s)
  (w0 : W 0 [] H) (hW : ∀ i ys H3 v, W i ys H3 -> ts[i]? = some v -> te (some v :: lL js σ) H3 fun y H4 => (∀ c o P, H3 c = some (.frz o (.own P)) -> H4 c = some (.frz o (.own P))) /\ W (i + 1) (ys ++ [y]) H4)
  (hq : ∀ ys H3, W ts.length ys H3 -> ∃ ks, aJ8 H3 ys ks /\ ∀ D q, H3 D = none -> SRT.Pm ts.length q -> SRT.Sd (SRT.l8 ks) q ts.length -> Q (.ref D) (upd H3 D (.lst (q.toList.map fun i => ts.getD i .non)))) :
  wpAny (model X.prog X.w) X.A (call (.builtin "sorted") [.ref a] [(Str.ofString "key", .ref f)]) (EP X pins σ Q) E s := by
 obtain ⟨_, its, n, rv, ho⟩ := ha.ok I.hok
 have hlen := rv.length
 refine call_function_entry_kw kind_sorted plain_sorted entry_sorted (ksk_s1 _ _) ?_
 unfold Builtin.«sorted»
 refine wpAny_bind (m := checkCount "sorted" 1 1 _) (wpAny_pure ?_)
 refine wpAny_bind (collect_list (⟨_, ho, rfl, n, rfl⟩ : s.heap.IsList a its.toArray) ?_ (by rw [sizeLine_eq]; omega))
 refine wpAny_bind (wpAny_newList ?_ (by rw [sizeLine_eq]; omega))
 obtain ⟨g0, hg0⟩ : ∃ g0, g0 = (s.heap.push (seqObj "list" #[] 0)).update s.heap.objs.size (Obj.mapSeq (· ++ its.toArray)) := ⟨_, rfl⟩
 have k0 : ∀ b o, s.heap.get? b = some o -> g0.get? b = some o := fun b o e => by
  rw [hg0, Heap.get?_update_ne _ _ _ _ (Nat.ne_of_lt (Heap.lt_size e))]
  exact Heap.get?_push_of_some _ e
 have z0 : g0.objs.size = s.heap.objs.size + 1 := by rw [hg0, Heap.size_update, Heap.size_push]
 show wpAny _ _ _ _ _ { s with heap := ((s.heap.push (seqObj "list" #[] 0)).update s.heap.objs.size (Obj.mapSeq (· ++ its.toArray))).push (seqObj "list" its.toArray 0) }
 rw [<- hg0]
 obtain ⟨D, hD⟩ : ∃ D, D = g0.objs.size := ⟨_, rfl⟩
 have hoL : (g0.push (seqObj "list" its.toArray 0)).get? D = some (seqObj "list" its.toArray 0) := by rw [hD]; exact Heap.get?_push_size _ rfl
 rw [<- hD]
 refine wpAny_bind (wpAny_holding (wpAny_call_entry_kw slot_list_sort ⟨_, hoL, rfl⟩ entry_list_sort ?body (ksk_l1 _ _)))
 show wpAny (model X.prog X.w) X.A.in1.in1 (Builtin.«list.sort» ⟨[.ref D], [(Str.ofString "key", .ref f)]⟩) _ _ _
 rw [ksk_t1]
 unfold ksk_tree
 refine wpAny_bind (listItems_at hoL rfl ?_)
 refine wpAny_bind (listUpdate_at hoL rfl ?_ (by rw [List.size_toArray, sizeLine_eq]; omega) (Nat.zero_le _))
 obtain ⟨e1, ho1⟩ : ∃ e1, ((g0.push (seqObj "list" its.toArray 0)).update D (Obj.mapSeq fun _ => (#[] : Array Value))).get? D = some (seqObj "list" #[] e1) := ⟨_, get?_update_seq hoL (fun _ => #[])⟩
 refine wpAny_bind (seqEpoch_at ho1 rfl ?_)
 refine wpAny_bind (wpAny_newTuple ?_ (by show its.length <= _; rw [sizeLine_eq]; omega))
 refine wpAny_bind (wpAny_newList ?_ (Nat.zero_le _))
 refine wpAny_holding ?_
 obtain ⟨g5, hg5⟩ : ∃ g5, g5 = ((g0.push (seqObj "list" its.toArray 0)).update D (Obj.mapSeq fun _ => (#[] : Array Value))).push (seqObj "tuple" its.toArray 0) := ⟨_, rfl⟩
 have lD : s.heap.objs.size <= D := by omega
 have z5 : g5.objs.size = D + 2 := by rw [hg5, Heap.size_push, Heap.size_update, Heap.size_push]; omega
 show wpAny _ _ (ksk_rest D (.ref f) false its.toArray e1 (.ref (((g0.push (seqObj "list" its.toArray 0)).update D (Obj.mapSeq fun _ => (#[] : Array Value))).push (seqObj "tuple" its.toArray 0)).objs.size)) _ _ { s with heap := (((g0.push (seqObj "list" its.toArray 0)).update D (Obj.mapSeq fun _ => (#[] : Array Value))).push (seqObj "tuple" its.toArray 0)).push (seqObj "list" #[] 0) }
 rw [<- hg5]
 have k5 : ∀ b o, s.heap.get? b = some o -> g5.get? b = some o := fun b o e => by
  rw [hg5]
  refine Heap.get?_push_of_some _ ?_
  rw [Heap.get?_update_ne _ _ _ _ (Nat.ne_of_lt (Nat.lt_of_lt_of_le (Heap.lt_size e) lD))]
  exact Heap.get?_push_of_some _ (k0 b o e)
 have hD5 : g5.get? D = some (seqObj "list" #[] e1) := by rw [hg5]; exact Heap.get?_push_of_some _ ho1
 obtain ⟨kS, hkS⟩ : ∃ kS, kS = g5.objs.size := ⟨_, rfl⟩
 rw [<- hkS]
 have hk5 : (g5.push (seqObj "list" #[] 0)).get? kS = some (seqObj "list" #[] 0) := by rw [hkS]; exact Heap.get?_push_size _ rfl
 have J5 : Inv X pins σ H { s with heap := g5.push (seqObj "list" #[] 0) } := I.kept (t' := s.toks) fun b o e => Heap.get?_push_of_some _ (k5 b o e)
 have lf : f < s.heap.objs.size := Heap.lt_size hfo
 have fD : qD X pins H D := I.fpOk lD (I.hok.fresh lD)
 have lk : s.heap.objs.size <= kS := by omega
 have fk : qD X pins H kS := I.fpOk lk (I.hok.fresh lk)
 have nDk : D ≠ kS := by omega
 have I6 : Inv X (pins ++ [(f, fo), (D, seqObj "list" #[] e1)]) σ H { s with heap := g5.push (seqObj "list" #[] 0) } := J5.pins_of fun p hp => by
  rcases List.mem_append.mp hp with hp | hp
  ·exact J5.pin p (List.mem_append_right _ hp)
  ·rcases List.mem_cons.mp hp with rfl | hp
   ·exact ⟨Heap.get?_push_of_some _ (k5 _ _ hfo), hfp.1, hfp.2.1, hfp.2.2.1, hfc⟩
   ·rw [List.mem_singleton.mp hp]
    exact ⟨Heap.get?_push_of_some _ hD5, fD.1, fD.2.1, fD.2.2.1, fun v z => by cases z⟩
 have fk6 : qD X (pins ++ [(f, fo), (D, seqObj "list" #[] e1)]) H kS := t9 fk fk.1 fun p hp => by
  rcases List.mem_append.mp hp with hp | hp
  ·exact .inl hp
  ·rcases List.mem_cons.mp hp with rfl | hp
   ·exact .inr (Nat.ne_of_lt (Nat.lt_of_lt_of_le lf lk))
   ·rw [List.mem_singleton.mp hp]; exact .inr nDk
 unfold ksk_rest
 refine wpAny_bind (wpAny_rule ?_)
 first
  | rw [List.forIn_toArray]
  | (rw [<- Array.forIn_toList]; simp only [List.toList_toArray])
  | rw [<- Array.forIn_toList]
 refine wpAny_bind (wpAny_mono (wK (pins := pins ++ [(f, fo), (D, seqObj "list" #[] e1)]) (kS := kS) h64 (List.mem_append_right _ (.head _)) hcall hW (fun x s' C hx => ?_) its ts 0 [] [] 0 _ H rv rfl I6 hc fk6 hk5 .nil rfl (Nat.zero_le _) w0) (fun _ s' hd => ?_) fun _ _ x => x)
 ·refine wpAny_bind (wpAny_attempt (wpAny_mono hx (fun k s'' hk => ?_) fun _ _ hF => hF.elim))
  obtain ⟨ws, e, ek, lw, hC⟩ := hk
  have s1 := Heap.SameBut.update s''.heap kS (Obj.mapSeq (·.push k))
  have ea : (List.toArray ws).push k = List.toArray (ws ++ [k]) := by simp
  obtain ⟨c2, hc2⟩ : ∃ c2, (s''.heap.update kS (Obj.mapSeq (·.push k))).get? kS = some (seqObj "list" (List.toArray (ws ++ [k])) c2) := ⟨_, by rw [<- ea]; exact get?_update_seq ek (·.push k)⟩
  try dsimp only
  refine wpAny_bind (listUpdate_at ek rfl ?_ (by rw [List.size_toArray, sizeLine_eq]; omega) (Nat.le_trans (Nat.le_of_eq (Array.size_push ..)) (by rw [List.size_toArray, sizeLine_eq]; omega)))
  exact wpAny_pure ⟨rfl, hC _ c2 s1 hc2⟩
 ·obtain ⟨ys, ws, e, H', I', fk', ek, rvk, hl', w'⟩ := hd
  try dsimp only
  refine wpAny_bind (listItems_at ek rfl ?_)
  obtain ⟨ks, hks, hQ⟩ := hq ys H' w'
  have pD := I'.pin (D, seqObj "list" #[] e1) (List.mem_append_right _ (List.mem_append_right _ (.tail _ (.head _))))
  have hwl := rvk.length
  refine SRT.aHp ek pD.1 nDk (by omega) (by omega) (aJ6 I'.hok hks rvk) fun q h' cc c2 pm sd keep eD ekS => ⟨_, rfl, wpAny_pure ⟨_, rfl, .ref D, upd H' D (.lst (q.toList.map fun i => ts.getD i .non)), ?_, rfl, hQ D q pD.2.1 (hlen ▸ pm) (hlen ▸ sd)⟩⟩
  have I7 := I'.unpinned (pins := pins)
  have hDn : H' D = none := pD.2.1
  have hkn : H' kS = none := fk'.1
  have up : ∀ {b : Addr} {o : HO}, H' b = some o -> upd H' D (.lst (q.toList.map fun i => ts.getD i .non)) b = some o := fun e => by rw [aS (bE e hDn)]; exact e
  have nch : ∀ {b : Addr}, b ∉ [D, kS] -> b ≠ D /\ b ≠ kS := fun hb => by simpa using hb
  refine I7.step (g' := s'.gens) (d' := s'.drawn) (t' := s'.toks) (ch := [D, kS]) (fun b hb => ?_) (fun b o _ _ hb e _ => keep b o (nch hb).1 (nch hb).2 e) (fun b o _ _ hb e _ => ⟨o.slots, keep b o (nch hb).1 (nch hb).2 e⟩) (fun b o hb e n => by rw [aS (nch hb).1]; exact n) (fun b o hb e => ⟨o, keep b o (nch hb).1 (nch hb).2 e⟩)
   (fun b xs e => up e) (fun b o u e => up e) (fun b qs e => ⟨#[], by rw [up e]; simp⟩) (fun m hm => ?_) (fun b u e => ?_) I7.bare
  ·rcases List.mem_cons.mp hb with rfl | hb
   ·exact ⟨fD.2.2.2.1, fD.2.1, fD.2.2.2.2.1, fD.2.2.2.2.2⟩
   ·rw [List.mem_singleton.mp hb]
    exact ⟨fk.2.2.2.1, fk.2.1, fk.2.2.2.2.1, fk.2.2.2.2.2⟩
  ·obtain ⟨o, es, ep, e, r⟩ := hm
   exact ⟨o, es, ep, keep _ o fD.2.1.symm fk.2.1.symm e, r⟩
  ·by_cases z : b = D
   ·subst z
    rw [a6] at e
    cases e
    have hb : ∀ i ∈ q.toList, i < ts.length := fun i hi => by
     have : i ∈ (List.range its.length).toArray := pm.mem_iff.mp (Array.mem_toList_iff.mp hi)
     rw [hlen]; simpa using this
    have hl : q.toList.length = its.length := by rw [Array.length_toList]; exact pm.size
    exact ⟨by rw [List.length_map, hl, sizeLine_eq]; omega, _, cc, SRT.tR rv _ hb, eD⟩
   ·rw [aS z] at e
    refine (I7.hok b _ e).stay (fun d o hd q' => keep d o ?_ ?_ q') (fun d q' => up q') (fun d xs q' => up q') fun d o q' => up q'
    ·rcases hd with hd | hd
     ·rw [hd]; exact z
     ·exact bE hd hDn
    ·rcases hd with hd | hd
     ·rw [hd]; exact bE e hkn
     ·exact bE hd hkn
theorem aFi {e body : Expr} {args : Arguments} {scope : Scope} {p pos lpos kpos : Pos} {cl : List (Str × Addr)} {x n : Str} {ys : List Str} {js : List Nat} {c P : Addr} {t0 te : TE} (h0 : PE X e t0) (L : aDp X scope cl x ys js) (htb : (c, P, n) ∈ tbs X.K) (hhd : PySem.W.codeHdIn X.K c P = true) (hcode : X.env.code = .ref c) (hqual : X.env.qual = n ++ ".<locals>.") (hdef : defaultsOf args X.env = ([], []))
  (hbind : ∀ (pm ctv : Value) (c' : Addr) (v : Value), bindArgs (PySem.W.kla_fn "<lambda>" (X.env.qual ++ "<lambda>") args body scope cl pm (.ref c') ctv) ⟨[v], []⟩ = pure [(x, v)]) (hh : X.A.handled = none) (hroom : X.A.depth < recursionLimit)
  (hb : ∀ (f : Addr) (cd : Value) (s : Shared) (H : Hp), PE (aFg X X.A.in1.in1 (X.env.qual ++ "<lambda>") scope cl f cd (x :: ys) s H) body te) (hg : Gl X "sorted") (hm : X.mg "sorted" = none) (hv : bootBuiltins "sorted" = some (.builtin "sorted"))
  (he : starEach [e] X.env = [(false, eval e X.env)] := by rfl) :
  PE X (.Call (.Name "sorted" p) [e] [⟨some "key", .Lambda args body scope lpos, kpos⟩] pos) (aPz t0 te js) := by
 intro pins s σ H Q I h
 refine wpAny_Call_Name_kw (lZ I hg hm hv ?_)
 have hbt : backTo pos (starEach [e] X.env) = [(false, eval e X.env)] := by rw [he]; rfl
 refine callWith_kw ?_ hbt (by rw [hbt]; rfl)
 refine thn (iB h0 lO he pos pins s σ H (fun xs H1 => match xs with | [x] => vV te js σ Q x H1 | _ => False) I h) fun us s1 ⟨xs, H1, I1, r, q⟩ => ?_
 cases r with
 | nil => exact False.elim q
 | @cons x' u _ _ r rest =>
 cases rest with
 | cons _ _ => exact False.elim q
 | nil =>
 obtain ⟨a, ts, rfl, ha, h64, hW⟩ := q
 cases (show u = Value.ref a from r)
 show wpAny _ _ (evalAll [(do let v <- eval (.Lambda args body scope lpos) X.env; standAt pos; pure v)]) _ _ s1
 refine wpAny_evalAll_cons (wpAny_bind (aFa I1 htb hhd hcode hqual L.clos hdef fun f c' pm ctv s2 H2 oc vs u I2 h2 fp ho hc hd1 hd2 => wpAny_bind (wpAny_standAt (wpAny_pure ?_))))
 refine wpAny_evalAll_nil ?_
 obtain ⟨W, w0, wS, wE⟩ := hW H2 (h2.imp id fun z => ⟨c', oc, P, z.1, z.2⟩)
 have ha2 : Rd H2 a (.lst ts) := by
  rcases h2 with rfl | ⟨z, rfl⟩
  ·exact ha
  ·rcases ha with q | ⟨o, q⟩
   ·exact .inl (by rw [aS (bE q z)]; exact q)
   ·exact .inr ⟨o, by rw [aS (bE q z)]; exact q⟩
 exact yS I2 ha2 h64 ho fp (fun v z => by cases z) hc (fun pl H s v u Q J e1 e2 rv hte => aF1 (A := X.A.in1.in1) J rfl hh hroom L e1 e2 hd1 hd2 (hbind pm ctv c') (hb f (.ref c') s H) rv hte) w0 wS wE
end
end L2
namespace M
open PySem PySem.Spec PyProof.Rows L2 SRT
def aKx (js : List Nat) (fe : En -> Res Ev) (en : En) (d : D) : Option D := match fe (some (.p d) :: uK js en) with
 | .ok r => match r.c with
  | .p y => some y
  | _ => none
 | _ => none
def aF0 (g : D -> Option D) : List D -> Option (List D)
 | [] => some []
 | d :: ds => match g d with
  | none => none
  | some y => match aF0 g ds with
   | none => none
   | some r => some (y :: r)
def yF (b : Bool) (ds : List D) : Option (List (List Int)) := if b = true then match p0 ds with
  | some ks => if (ks.all fun k => !k.isEmpty) = true then some ks else none
  | none => none
 else match tF ds with
  | some ns => some (ns.map fun n => [n])
  | none => none
def aAd (ks : List (List Int)) (ds : List D) : List D := (sG ks).map fun k => ds.getD (ks.idxOf k) .none
def aN1 (b : Bool) (g : D -> Option D) (ds : List D) : Res Ev := if ds.length < 64 then match aF0 g ds with
  | some kd => match yF b kd with
   | some ks => if ks.Nodup then .ok (.f (.list (aAd ks ds))) else .bad
   | none => .bad
  | none => .bad
 else .bad
def aN8 (b : Bool) (js : List Nat) (f0 fe : En -> Res Ev) : En -> Res Ev := fun en => (f0 en).bind fun x => match gH x.c with
 | some ds => aN1 b (aKx js fe en) ds
 | none => .bad
theorem wH {g : D -> Option D} : ∀ {ds r : List D}, aF0 g ds = some r -> r.length = ds.length
 | [], _, h => by cases h; rfl
 | d :: ds, r, h => by
  unfold aF0 at h
  split at h
  ·cases h
  ·split at h
   ·cases h
   ·rename_i y r' e
    cases h
    rw [List.length_cons, List.length_cons, wH e]
theorem aBb {b : Bool} {kd : List D} {ks : List (List Int)} (h : yF b kd = some ks) : ks.length = kd.length := by
 unfold yF at h
 split at h
 ·split at h
  ·rename_i ks' e
   split at h
   ·cases h; rw [mM e, List.length_map]
   ·cases h
  ·cases h
 ·split at h
  ·rename_i ns e
   cases h; rw [mP e, List.length_map, List.length_map]
  ·cases h
theorem yT {ks : List (List Int)} {ds : List D} {q : Array Nat} (hn : ds.length = ks.length) (nd : ks.Nodup) (hp : Pm ks.length q) (hs : Sd (l8 ks) q ks.length) : (q.toList.map fun i => ds.getD i .none) = aAd ks ds := by
 unfold aAd
 rw [<- picked rfl hp hs, List.map_map]
 refine List.map_congr_left fun i hi => ?_
 have hi := aNh hp i hi
 have e : ks.getD i [] = ks[i] := by simp [hi]
 show _ = ds.getD (ks.idxOf (ks.getD i [])) .none
 rw [e, nd.idxOf_getElem i hi]
theorem aC6 {K : PySem.W.Frag} {G H : Hp} {σ : L2.St} {en : En} {v : V} {d : D} (h : SimS K (fun _ => none) G H σ en) (r : Rep K G v d) : SimS K (fun _ => none) G H (some v :: σ) (some (.p d) :: en) := by
 refine ⟨by simp [h.1], fun i l e => ?_⟩
 cases i with
 | zero =>
  have e : L.p d = l := by simpa using e
  subst e
  exact ⟨v, rfl, r⟩
 | succ i =>
  obtain ⟨v', e1, e2⟩ := h.2 i l (by simpa using e)
  refine ⟨v', by simpa using e1, ?_⟩
  cases l with
  | p d => exact e2
  | x C => exact e2
  | h a => exact e2
  | o d => obtain ⟨_, _, _, z, _⟩ := e2; cases z
theorem tQ {K : PySem.W.Frag} {G : Hp} : ∀ {ys : List V} {ns : List Int}, Reps K G ys (ns.map .int) -> ys = ns.map V.int
 | [], [], _ => rfl
 | _ :: _, [], h => by cases h
 | [], _ :: _, h => by cases h
 | y :: ys, n :: ns, .cons r t => by cases r; rw [tQ t]; rfl
section
variable {X : Cx} {E : L2.St -> XK}
theorem aEh {t0 : TE} {b : Bool} {js : List Nat} {f0 fe : En -> Res Ev} (m : ∀ B G0 G W H σ en Q, SimH B G0 G W H -> SimS X.K W G H σ en -> wpR (f0 en) (PostE X.K W G H Q) (PostX (E σ) G H) -> t0 σ H Q) :
  ∀ B G0 G W H σ en Q, SimH B G0 G W H -> SimS X.K W G H σ en -> wpR (aN8 b js f0 fe en) (PostE X.K W G H Q) (PostX (E σ) G H) -> aPz t0 (tE X.K (fun _ => E0) fe) js σ H Q := by
 intro B G0 G W H σ en Q hh hs hw
 refine m B G0 G W H σ en _ hh hs (DE.go hw fun x G1 H1 v s1 e1 h1 => ?_)
 split at h1
 case h_2 => exact h1.elim
 rename_i ds ed
 obtain ⟨a, ts, rfl, rd, rp⟩ := pR s1.gh e1 ed
 unfold aN1 at h1
 split at h1
 case isFalse => exact h1.elim
 rename_i h64
 split at h1
 case h_2 => exact h1.elim
 rename_i kd ek
 split at h1
 case h_2 => exact h1.elim
 rename_i ks eks
 split at h1
 case isFalse => exact h1.elim
 rename_i nd
 have hl := rp.length
 have hkl : ks.length = ds.length := (aBb eks).trans (wH ek)
 refine ⟨a, ts, rfl, rd, by omega, fun H2 h2 => ?_⟩
 have s2 : Step G1 H1 G1 H2 := by
  rcases h2 with rfl | ⟨c, o, P, z, rfl⟩
  ·exact Step.refl s1.gh
  ·exact Step.lay s1.gh z
 refine ⟨fun i ys H3 => i <= ds.length /\ ∃ G3 kd1 rest, Step G1 H2 G3 H3 /\ Reps X.K G3 ys kd1 /\ aF0 (aKx js fe en) (ds.drop i) = some rest /\ kd1 ++ rest = kd, ⟨Nat.zero_le _, G1, [], kd, Step.refl s2.gh, .nil, ek, rfl⟩, ?_, ?_⟩
 ·rintro i ys H3 v ⟨hi, G3, kd1, rest, s3, r3, em, er⟩ hv
  have hlt : i < ts.length := (List.getElem?_eq_some_iff.mp hv).1
  have hld : i < ds.length := by omega
  obtain ⟨d, ed', rv⟩ := rp.get hv
  have ed2 : ds[i] = d := by rw [List.getElem?_eq_getElem hld] at ed'; exact Option.some.inj ed'
  rw [List.drop_eq_getElem_cons hld, ed2] at em
  unfold aF0 at em
  split at em
  ·cases em
  ·rename_i y ey
   split at em
   ·cases em
   ·rename_i rest' em'
    cases em
    unfold aKx at ey
    have s13 := (s1.trans s2).trans s3
    have cs := xP 0 js (hs.step s13)
    have cs : SimS X.K (fun _ => none) G3 H3 (lL js σ) (uK js en) := cs
    refine ⟨_, _, G3, fun _ => none, some (.p d) :: uK js en, aOp s3.gh, aC6 cs (rv.mono (s3.g)), ?_⟩
    split at ey
    ·rename_i r er'
     rw [er']
     split at ey
     ·rename_i y' ey'
      obtain rfl := Option.some.inj ey
      intro G4 H4 u s4 e4
      obtain ⟨G5, s5, e5⟩ := EOk.c s4 e4
      rw [ey'] at e5
      exact ⟨fun c o P z => s5.h _ _ z, hld, G5, kd1 ++ [y'], rest', s3.trans s5, (r3.mono s5.g).append (.cons e5 .nil), em', by rw [List.append_assoc]; exact er⟩
     ·cases ey
    ·cases ey
 ·rintro ys H3 ⟨_, G3, kd1, rest, s3, r3, em, er⟩
  rw [hl, List.drop_length] at em
  cases em
  rw [List.append_nil] at er
  subst er
  have s13 := s2.trans s3
  refine ⟨ks, ?_, fun D q hD hp hsd => ?_⟩
  ·unfold yF at eks
   split at eks
   ·split at eks
    ·rename_i ks' e
     split at eks
     ·rename_i ha
      cases eks
      rw [mM e] at r3
      exact .inr (aB4 s3.gh r3 (sS ha))
     ·cases eks
    ·cases eks
   ·split at eks
    ·rename_i ns e
     cases eks
     rw [mP e] at r3
     exact .inl ⟨ns, tQ r3, rfl⟩
    ·cases eks
  ·rw [hl, <- hkl] at hp hsd
   refine h1 _ _ _ (s13.trans (Step.lay s3.gh hD)) ⟨D, _, rfl, s13.h.free hD, s3.gh.free hD, a6, .lst ?_⟩
   rw [<- yT hkl.symm nd hp hsd]
   have pick : ∀ l : List Nat, (∀ i ∈ l, i < ks.length) -> Reps X.K G3 (l.map fun i => ts.getD i .non) (l.map fun i => ds.getD i .none) := by
    intro l hi
    induction l with
    | nil => exact .nil
    | cons i l ih =>
    have hit : i < ts.length := by have := hi i (.head _); omega
    obtain ⟨d, e3, rd'⟩ := rp.get (List.getElem?_eq_getElem hit)
    have e1 : ts.getD i .non = ts[i] := by simp [hit]
    have e2 : ds.getD i .none = d := by simp [e3]
    rw [List.map_cons, List.map_cons, e1, e2]
    exact .cons (rd'.mono s3.g) (ih fun j hj => hi j (.tail _ hj))
   exact pick _ (aNh hp)
theorem aFh {e body : Expr} {args : Arguments} {scope : Scope} {p pos lpos kpos : Pos} {cl : List (Str × Addr)} {x n : Str} {ys : List Str} {js : List Nat} {c P : Addr} {f0 fe : En -> Res Ev} (b : Bool) (h0 : DE X E e f0) (L : aDp X scope cl x ys js) (htb : (c, P, n) ∈ tbs X.K) (hhd : PySem.W.codeHdIn X.K c P = true) (hcode : X.env.code = .ref c) (hqual : X.env.qual = n ++ ".<locals>.") {k : Nat} (hr : Room k X.A)
  (hb : ∀ (f : Addr) (cd : Value) (s : Shared) (H : Hp), DE (aFg X X.A.in1.in1 (X.env.qual ++ "<lambda>") scope cl f cd (x :: ys) s H) (fun _ => E0) body fe) (hg : Gl X "sorted") (hm : X.mg "sorted" = none) (hv : bootBuiltins "sorted" = some (.builtin "sorted"))
  (hbind : ∀ (pm ctv : Value) (c' : Addr) (v : Value), bindArgs (PySem.W.kla_fn "<lambda>" (X.env.qual ++ "<lambda>") args body scope cl pm (.ref c') ctv) ⟨[v], []⟩ = pure [(x, v)]) (hdef : defaultsOf args X.env = ([], []))
  (he : starEach [e] X.env = [(false, eval e X.env)]) :
  DE X E (.Call (.Name "sorted" p) [e] [⟨some "key", .Lambda args body scope lpos, kpos⟩] pos) (aN8 b js f0 fe) := by
 obtain ⟨t, q, m⟩ := h0.out
 exact DE.in ⟨_, aFi (te := tE X.K (fun _ => E0) fe) q L htb hhd hcode hqual hdef hbind hr.hd hr.depth hb hg hm hv he, aEh m⟩
theorem aKf {scope : Scope} {x y : Str} {j : Nat} {c : Addr} (clos : closureFor scope X.env = pure [(y, c)]) (hN : X.N[j]? = some y) (hk : X.env.kindOf y = some .cell) (hf : scope.names.lookup y = some .free) (hc : X.env.cells.lookup y = some c) (hall : ∀ q ∈ scope.names, q.2 = .free -> q.1 = y) (loc : scope.names.lookup x = some .local)
  (kind : scope.kind = .function) (co : scope.isCoroutine = false) (gen : scope.isGenerator = false) (nocell : ∀ q ∈ scope.names, q.2 ≠ .cell) : aDp X scope [(y, c)] x [y] [j] := by
 refine ⟨clos, fun z d h => ?_, fun z h => ?_, rfl, fun i z k h1 h2 => ?_, loc, kind, co, gen, nocell⟩
 ·have := PySem.mem_of_lookup h
  have := List.mem_singleton.mp this
  cases this
  exact hc
 ·have := hall _ (PySem.mem_of_lookup h) rfl
  dsimp only at this
  subst this
  exact ⟨c, by simp [List.lookup]⟩
 ·cases i with
  | succ i => simp at h1
  | zero =>
   have h1 : y = z := by simpa using h1
   have h2 : j = k := by simpa using h2
   subst h1 h2
   exact ⟨hN, .inl hk, hf, by rw [hc]; simp [List.lookup]⟩
theorem aO9 {k : Nat} {A : Around} {env : Env} (hr : Room (k + 3) A) : Room k (A.in1.in1.deeper env) := (hr.in1.in1).deeper _
end
structure aI9 (K : PySem.W.Frag) (mg : Str -> Option Value) (x : Str) : Prop where
 ex : ∃ (f c P : Addr) (oc : Value) (od : Option Addr) (fd : FuncData) (osl : Array (Option Value)), mg x = some (.ref f) /\ K.lookup f = some ⟨oc, od, .func fd, osl⟩ /\ fd.code = .ref c /\ (c, P, x) ∈ tbs K /\ PySem.W.codeHdIn K c P = true
section
variable {P : Program} {w : World} {K : PySem.W.Frag} {mg : Str -> Option Value} {base : Heap}
theorem aOt {x : Str} {st : Stmt} {N ps : List Str} {k n : Nat} {m : List L -> Res L} (La : aI9 K mg x) (Df : Def K mg x ps st) (S : aY N ps (aJ st)) (hn : n = ps.length)
  (hbody : ∀ (f c PP : Addr) (A : Around) (outer : List Env) (s : Shared) (H : Hp) (E : XK), (c, PP, x) ∈ tbs K -> PySem.W.codeHdIn K c PP = true -> Room k (A.deeper (envOfC x (aJ st) s.heap.objs.size f (.ref c))) ->
   ∃ fm, DSs (pL (CXr P w) P w K mg base N x (aJ st) f (.ref c) A outer s H E) (fun _ => E) (eJ st) fm /\ ∀ ls, m ls = .bad \/ e9 N.length fm ls = m ls) : Cal P w K mg base (k + 1) x n m := by
 obtain ⟨f, fd, F, b, kp, h⟩ := Df.ex
 refine ⟨f, fd, ps, ?_, b, kp, h⟩
 obtain ⟨oc, od, kV, doc, pm, an, cdv, ct, osl, rfl, lk, hcd⟩ := F.ex
 obtain ⟨f', c, PP, oc', od', fd', osl', e1, e2, e3, e4, e5⟩ := La.ex
 rw [h] at e1
 cases e1
 rw [lk] at e2
 cases e2
 have e3 : cdv = .ref c := e3
 subst e3
 refine aNd lk hcd S (fun vs H Q E h => by rw [<- hn]; exact h.1) fun A outer s H vs Q E hr hsp => ?_
 obtain ⟨fm, hd, hm⟩ := hbody f c PP A outer s H E e4 e5 hr
 exact ⟨_, hd, s8 hsp hm⟩
end
end M
namespace L2
open PySem PySem.Spec PyProof.Rows
end L2
namespace M
open PySem PySem.Spec PyProof.Rows L2
noncomputable def sO (x y z : Ev) : Res Ev := match y, z with
 | .p k, .p dq => match kB x with
  | some kvs => match nV kvs k with
   | some (some d) => .ok (.p d)
   | some none => .ok (.p dq)
   | none => .bad
  | none => .bad
 | _, _ => .bad
noncomputable def wG (fa fb fc : En -> Res Ev) : En -> Res Ev := fun en => (fa en).bind fun x => if (kB x.c).isSome = true then (fb en).bind fun y => (fc en).bind fun z => sO x.c y.c z.c else .bad
section
variable {X : Cx} {E : L2.St -> XK} {a b c : Expr} {fa fb fc : En -> Res Ev} {apos cpos : Pos}
theorem aFz (hu : X.A.units + 1 < cLine) (ha : DE X E a fa) (hb : DE X E b fb) (hc : DE X E c fc) (m : M2 X a "get" apos b c cpos) : DE X E (.Call (.Attribute a "get" apos) [b, c] [] cpos) (wG fa fb fc) := by
 obtain ⟨ta, pa, ma⟩ := ha.out
 obtain ⟨tb, pb, mb⟩ := hb.out
 obtain ⟨tc, pc, mc⟩ := hc.out
 refine DE.in ⟨_, aE3 hu pa pb pc m, fun B G0 G W H σ en Q hh hs hw => ma B G0 G W H σ en _ hh hs (DE.go hw fun x G1 H1 v s1 e1 h1 => ?_)⟩
 split at h1
 ·rename_i hx
  obtain ⟨kvs, ed⟩ := Option.isSome_iff_exists.mp hx
  obtain ⟨a', rfl, hd⟩ := xT s1.gh e1 ed
  refine ⟨a', rfl, ?_, mb B G0 G1 W H1 σ en _ (hh.step s1) (hs.step s1) (DE.go h1 fun y G2 H2 u s2 e2 h2 => ?_)⟩
  ·rcases hd with ⟨kv, h, _⟩ | ⟨kv, r, _, h, _⟩
   ·exact .inr ⟨kv, .inl h⟩
   ·exact .inl ⟨kv, .inl h⟩
  ·refine mc B G0 G2 W H2 σ en _ ((hh.step s1).step s2) ((hs.step s1).step s2) (DE.go h2 fun z G3 H3 w s3 e3 h3 => ?_)
   have e1' := (e1.step (Hs' := H1) s2).step (Hs' := H1) s3
   have e2' := e2.step (Hs' := H2) s3
   unfold sO at h3
   split at h3
   ·rename_i k dq ey ez
    rw [ey] at e2'
    rw [ez] at e3
    split at h3
    ·rename_i kvs' ed'
     split at h3
     ·rename_i d el
      obtain ⟨a2, w', ea, hg, x', rfl, hx'⟩ := rF (Hs' := H1) s3.gh e1' ed' e2' el
      cases ea
      exact ⟨_, hg, h3 G3 H3 _ (Step.refl s3.gh) hx'⟩
     ·rename_i el
      obtain ⟨a2, w', ea, hg, hx'⟩ := rF (Hs' := H1) s3.gh e1' ed' e2' el
      cases ea
      cases (show w' = none from hx')
      exact ⟨_, hg, h3 G3 H3 _ (Step.refl s3.gh) e3⟩
     ·exact h3.elim
    ·exact h3.elim
   ·exact h3.elim
 ·exact h1.elim
end
end M
namespace M
open PySem PySem.Spec PyProof.Rows L2
def DK (X : Cx) (E : L2.St -> XK) (ks : List Nat) (sts tail : List Stmt) (f : En -> Option En) : Prop := ∀ tr, PSs X tail tr -> ∃ t, PSs X sts t /\ ∀ B G0 G W H σ en en' Dn, SimH B G0 G W H -> SimS X.K W G H σ en -> f en = some en' ->
 (∀ G1 H1 σ1, Step G H G1 H1 -> SimS X.K W G1 H1 σ1 en' -> Kept ks σ σ1 -> tr Dn σ1 H1) -> t Dn σ H
open Classical in
noncomputable def kIf (fc : En -> Res Bool) (f : En -> Option En) : En -> Option En := fun en => if fc en = .ok false then f en else none
noncomputable def aIs (i : Nat) (fe : En -> Res Ev) (f : En -> Option En) : En -> Option En := fun en => match fe en with
 | .ok r => match r.c with
  | .p d => f (en.set i (some (.p d)))
  | _ => none
 | _ => none
open Classical in
noncomputable def o6 (r : Nat) (fc : En -> Res Bool) : List D -> En -> Option En
 | [], en => some en
 | d :: ds, en => if fc (en.set r (some (.p d))) = .ok false then o6 r fc ds (en.set r (some (.p d))) else none
noncomputable def kFor (r : Nat) (fi : En -> Res (List D)) (fc : En -> Res Bool) (f : En -> Option En) : En -> Option En := fun en => match fi en with
 | .ok ds => match o6 r fc ds en with
  | some e => f e
  | none => none
 | _ => none
theorem aGs {fc : En -> Res Bool} {f : En -> Option En} {en : En} (h : fc en = .ok false) : kIf fc f en = f en := if_pos h
theorem aBd {i : Nat} {fe : En -> Res Ev} {f : En -> Option En} {en : En} {d : D} {r : Ev} (h : fe en = .ok r) (hr : r.c = .p d) : aIs i fe f en = f (en.set i (some (.p d))) := by
 unfold aIs
 rw [h]
 dsimp only
 rw [hr]
theorem xA {r : Nat} {fc : En -> Res Bool} : ∀ {ds : List D} {en : En}, (∀ d ∈ ds, ∀ x, fc ((en.set r x).set r (some (.p d))) = .ok false) -> r < en.length -> ∃ x, o6 r fc ds en = some (en.set r x)
 | [], en, _, hr => ⟨en[r], by
  unfold o6
  congr 1
  exact (List.set_getElem_self hr).symm⟩
 | d :: ds, en, h, hr => by
  unfold o6
  have e := h d (.head _) (some (.p d))
  rw [List.set_set] at e
  rw [if_pos e]
  obtain ⟨x, e2⟩ := xA (r := r) (fc := fc) (ds := ds) (en := en.set r (some (.p d))) (fun d' hd x => by have q := h d' (.tail _ hd) x; simp only [List.set_set] at q ⊢; exact q) (by rw [List.length_set]; exact hr)
  exact ⟨x, by rw [e2, List.set_set]⟩
section
variable {X : Cx} {E : L2.St -> XK} {ks : List Nat} {sts tail A : List Stmt} {f : En -> Option En} {fA : MS} {fe : En -> Res Ev} {fc : En -> Res Bool} {e c : Expr} {pos pos2 pos3 : Pos}
theorem aM7 : DK X E [] tail tail some := fun tr h => ⟨tr, h, fun B G0 G W H σ en en' Dn hh hs e k => by
 cases e
 exact k G H σ (Step.refl hh.gh) hs ⟨rfl, fun _ _ => rfl⟩⟩
theorem aLb (hc : DT X E c fc) (hA : DSs X E A fA) (h : DK X E ks sts tail f) : DK X E ks (.If c A [] pos :: sts) tail (kIf fc f) := by
 intro tr htr
 obtain ⟨tc, pc, mc⟩ := hc.out
 obtain ⟨tA, pA, _⟩ := hA.out
 obtain ⟨t, p, m⟩ := h tr htr
 refine ⟨_, jH (aIo pc pA vT) p, fun B G0 G W H σ en en' Dn hh hs hw k => mc B G0 G W H σ en _ hh hs ?_⟩
 unfold kIf at hw
 split at hw
 case isFalse => cases hw
 rename_i ec
 rw [ec]
 intro G1 H1 s1
 exact m B G0 G1 W H1 σ en en' Dn (hh.step s1) (hs.step s1) hw fun G2 H2 σ2 s2 => k G2 H2 σ2 (s1.trans s2)
theorem aGu {i : Nat} {x : Str} {pos' : Pos} (hN : X.N.Nodup) (hi : X.N[i]? = some x) (hx : Loc X.env.scope x) (he : DE X E e fe) (h : DK X E ks sts tail f) (hs : swapsWith e (some (.Name x pos')) pos.line X.env = pure false := by rfl) (hf : X.fn x = true \/ X.env.scope.names.lookup x = some .local := by first | exact .inl rfl | exact .inr rfl | assumption) :
  DK X E (i :: ks) (.Assign [.Name x pos'] e pos :: sts) tail (aIs i fe f) := by
 intro tr htr
 obtain ⟨te, pe, me⟩ := he.out
 obtain ⟨t, p, m⟩ := h tr htr
 refine ⟨_, jH (aAq hN hi hx pe hs hf) p, fun B G0 G W H σ en en' Dn hh hs hw k => me B G0 G W H σ en _ hh hs ?_⟩
 unfold aIs at hw
 split at hw
 case h_2 => cases hw
 rename_i r ef
 split at hw
 case h_2 => cases hw
 rename_i d er
 rw [ef]
 intro G1 H1 v s1 eo
 obtain ⟨G2, s2, e2⟩ := eo.c s1
 rw [er] at e2
 exact m B G0 G2 W H1 _ _ en' Dn (hh.step s2) ((hs.step s2).set (l := .p d) e2) hw fun G3 H3 σ3 s3 h3 k3 => k G3 H3 σ3 (s2.trans s3) h3 ⟨k3.1.trans List.length_set, fun j hj => (k3.2 j fun z => hj (.tail _ z)).trans (List.getElem?_set_ne fun z => hj (by rw [z]; exact .head _))⟩
theorem aL6 {r : Nat} {y : Str} {iter : Expr} {fi : En -> Res (List D)} {p4 : Pos} (hp : PassesOwn (model X.prog X.w) X.A X.env X.xe) (hcalm : X.calm = true) (hi : DI X E (.Name y p4) iter fi) (hN : X.N.Nodup) (hr : X.N[r]? = some y) (hy : Loc X.env.scope y) (hc : DT X E c fc) (hA : DSs X E A fA) (h : DK X E ks sts tail f)
  (hs' : ∀ x', foldedSetIterable iter X.env x' = pure x' := by intro _; rfl) (hfy : X.fn y = true \/ X.env.scope.names.lookup y = some .local := by first | exact .inl rfl | exact .inr rfl | assumption) :
  DK X E (r :: ks) (.For (.Name y p4) iter [.If c A [] pos2] [] pos3 :: sts) tail (kFor r fi fc f) := by
 intro tr htr
 obtain ⟨tc, pc, mc⟩ := hc.out
 obtain ⟨tA, pA, _⟩ := hA.out
 obtain ⟨t, p, m⟩ := h tr htr
 refine ⟨_, jH (aGl hp hcalm hi (uY hN hr hy hfy) (zQ (aIo pc pA vT)) hs') p, fun B G0 G W H σ en en' Dn hh hs hw k => ⟨B, G0, G, W, en, hh, hs, ?_⟩⟩
 unfold kFor at hw
 split at hw
 case h_2 => cases hw
 rename_i ds ef
 rw [ef]
 intro G1 H1 J s1 hJ
 cases el : o6 r fc ds en with
 | none => rw [el] at hw; cases hw
 | some e0 =>
 rw [el] at hw
 dsimp only at hw
 refine ⟨fun i n σ' H' => n = ds.length - i /\ i <= ds.length /\ ∃ G' en', Step G1 H1 G' H' /\ SimS X.K W G' H' σ' en' /\ Kept [r] σ σ' /\ o6 r fc (ds.drop i) en' = some e0,
  ⟨ds.length, rfl, Nat.zero_le _, G1, en, Step.refl s1.gh, hs.step s1, ⟨rfl, fun _ _ => rfl⟩, el⟩, ?_⟩
 rintro i n σ' H' ⟨rfl, hi, G', en1, st, hs1, hk, hl⟩
 obtain ⟨j1, j2⟩ := hJ G' H' st.g st.gh
 by_cases hlt : i < ds.length
 ·refine .inr ?_
  obtain ⟨jg, jy⟩ := j1 i ds[i] (List.getElem?_eq_getElem hlt)
  rw [List.drop_eq_getElem_cons hlt] at hl
  unfold o6 at hl
  split at hl
  case isFalse => cases hl
  rename_i ec
  refine ⟨jg, fun σ2 H2 => ∃ G' en', Step G1 H1 G' H2 /\ SimS X.K W G' H2 σ2 en' /\ Kept [r] σ σ2 /\ o6 r fc (ds.drop (i + 1)) en' = some e0, fun σ2 H2 q => ⟨ds.length - (i + 1), by omega, rfl, hlt, q⟩, fun v H2 hyl => ?_⟩
  obtain ⟨G2, s2, rv⟩ := jy v H2 hyl
  have hs2 := (hs1.step s2).set (i := r) (l := .p ds[i]) rv
  refine mc B G0 G2 W H2 _ _ _ (((hh.step s1).step st).step s2) hs2 ?_
  rw [ec]
  intro G3 H3 s3
  exact ⟨G3, _, (st.trans s2).trans s3, hs2.step s3, ⟨List.length_set.trans hk.1, fun j hj => (List.getElem?_set_ne fun z => hj (by rw [z]; exact .head _)).trans (hk.2 j hj)⟩, hl⟩
 ·have e : i = ds.length := by omega
  subst e
  rw [List.drop_length] at hl
  unfold o6 at hl
  cases hl
  refine .inl ⟨j2, ?_⟩
  exact m B G0 G' W H' σ' e0 en' Dn ((hh.step s1).step st) hs1 hw fun G3 H3 σ3 s3 h3 k3 => k G3 H3 σ3 ((s1.trans st).trans s3) h3 ⟨k3.1.trans hk.1, fun j hj => (k3.2 j fun z => hj (.tail _ z)).trans (hk.2 j fun z => hj (by rw [List.mem_singleton] at z; rw [z]; exact .head _))⟩
end
def wipe : List Nat -> En -> En
 | [], en => en
 | k :: ks, en => wipe ks (en.set k none)
theorem w9 : ∀ (ks : List Nat) (en : En), (wipe ks en).length = en.length
 | [], _ => rfl
 | k :: ks, en => (w9 ks _).trans List.length_set
theorem xG : ∀ (ks : List Nat) (en : En) (m : Nat) (l : L), (wipe ks en)[m]? = some (some l) -> m ∉ ks /\ en[m]? = some (some l)
 | [], _, _, _, h => ⟨List.not_mem_nil, h⟩
 | k :: ks, en, m, l, h => by
  obtain ⟨h1, h2⟩ := xG ks _ m l h
  rw [List.getElem?_set] at h2
  by_cases z : k = m
  ·rw [if_pos z] at h2
   split at h2 <;> cases h2
  ·rw [if_neg z] at h2
   exact ⟨fun y => (List.mem_cons.mp y).elim (fun y => z y.symm) h1, h2⟩
def trp : Res Ev -> Option (D × D × List D)
 | .ok (.p (.tuple [a, b, .list xs])) => some (a, b, xs)
 | _ => none
theorem aMy {r : Res Ev} {a b : D} {xs : List D} (h : trp r = some (a, b, xs)) : r = .ok (.p (.tuple [a, b, .list xs])) := by
 unfold trp at h
 split at h
 ·cases h; rfl
 ·cases h
structure aCu (i : Nat) (f : En -> Option En) (en : En) (a b : D) (es xs : List D) : Prop where
 e : lfA es = true
 u : aQq xs es
 c : ∃ en', f (en.set i (some (.p (.tuple [a, b, .list xs])))) = some en'
open Classical in
noncomputable def aCg (i k : Nat) (ks : List Nat) (fe : En -> Res Ev) (f : En -> Option En) (g : MS) : MS := fun en => match en[k]? with
 | some (some (.p (.list es))) => match trp (fe (aAc k (.list es) en)) with
  | some (a, b, xs) => if aCu i f en a b es xs then g (wipe (i :: ks) en) else none
  | none => none
 | _ => none
theorem aH4 {i k : Nat} {ks : List Nat} {fe : En -> Res Ev} {f : En -> Option En} {g : MS} {en : En} {a b : D} {es xs : List D} (h1 : en[k]? = some (some (.p (.list es)))) (h2 : fe (aAc k (.list es) en) = .ok (.p (.tuple [a, b, .list xs]))) (h3 : aCu i f en a b es xs) : aCg i k ks fe f g en = g (wipe (i :: ks) en) := by
 unfold aCg
 rw [h1]
 dsimp only
 rw [h2]
 exact if_pos h3
section
variable {X : Cx} {E : L2.St -> XK} {rest sts : List Stmt} {s7 : Stmt} {g : MS} {f : En -> Option En} {fe : En -> Res Ev} {e : Expr} {pos : Pos}
theorem aEj {i k : Nat} {ks : List Nat} {x : Str} {pos' : Pos} (hik : i ∉ ks) (hN : X.N.Nodup) (hi : X.N[i]? = some x) (hx : Loc X.env.scope x) (he : DE X E e fe) (hm : DK X E ks sts (s7 :: rest) f)
  (h1 : PS X s7 (aCy (aN3 X.K "list" (aCa X) (tOp (aPm X.K) (aJi i) (tC (.int 2)))))) (h4 : DSs X E rest g)
  (hsw : swapsWith e (some (.Name x pos')) pos.line X.env = pure false := by rfl) (hf : X.fn x = true \/ X.env.scope.names.lookup x = some .local := by first | exact .inl rfl | exact .inr rfl | assumption) :
  DSs X E (.Assign [.Name x pos'] e pos :: sts) (aCg i k ks fe f g) := by
 obtain ⟨te, pe, me⟩ := he.out
 obtain ⟨t4, p4', m4⟩ := h4.out
 obtain ⟨tm, pm, mm⟩ := hm _ (jH h1 p4')
 rintro pins s σ H Dn I ⟨B, G0, G, W, en, hh, hs, hw⟩
 refine jH (aAq hN hi hx pe hsw hf) pm pins s σ H Dn I ?_
 have iσ : i < σ.length := by
  rw [I.len]
  exact (List.getElem?_eq_some_iff.mp hi).1
 unfold aCg at hw
 split at hw
 case h_2 => exact hw.elim
 rename_i es ek
 split at hw
 case h_2 => exact hw.elim
 rename_i a b xs ef
 by_cases ok : aCu i f en a b es xs
 case neg => rw [if_neg ok] at hw; exact hw.elim
 rw [if_pos ok] at hw
 obtain ⟨lfe, un, en', ec⟩ := ok
 obtain ⟨v0, eσ, rk⟩ := hs.2 k _ ek
 have rk : Rep X.K G v0 (.list es) := rk
 cases rk with
 | @lst ak vs _ hak rp =>
 obtain ⟨G', hG'⟩ : ∃ G' : Hp, (∀ b o, G' b = some o -> G b = some o /\ ((∃ ts, o = .tup ts) \/ b = ak)) /\ (∀ b ts, G b = some (.tup ts) -> G' b = some (.tup ts)) /\ Rd G' ak (.lst vs) := by
  classical
  refine ⟨fun b => if (∃ ts, G b = some (.tup ts)) \/ b = ak then G b else none, fun b o q => ?_, fun b ts q => (if_pos (.inl ⟨ts, q⟩)).trans q, ?_⟩
  ·dsimp only at q
   split at q
   ·rename_i z
    refine ⟨q, z.imp (fun ⟨ts, w⟩ => ⟨ts, ?_⟩) id⟩
    rw [q] at w
    exact Option.some.inj w
   ·cases q
  ·rcases hak with hak | ⟨o, hak⟩
   ·exact .inl ((if_pos (.inr rfl)).trans hak)
   ·exact .inr ⟨o, (if_pos (.inr rfl)).trans hak⟩
 obtain ⟨gs, gt, ga⟩ := hG'
 have gh' : Same G' H := fun b o q => hh.gh _ _ (gs b o q).1
 have rk : Rep X.K G' (.ref ak) (.list es) := .lst ga (qW gt lfe rp)
 refine me (fun _ => none) (fun _ => none) G' (fun _ => none) H σ (aAc k (.list es) en) _ ⟨gh', fun _ _ z => (nomatch z), fun _ _ z => (nomatch z), fun _ _ => .inr (.inl rfl), fun _ _ z => (nomatch z)⟩ ⟨?_, fun n l q => ?_⟩ ?_
 ·unfold aAc
  rw [List.length_set, List.length_replicate]
  exact hs.1
 ·unfold aAc at q
  rw [List.getElem?_set] at q
  by_cases z : k = n
  ·subst z
   rw [if_pos rfl] at q
   split at q
   ·cases q
    exact ⟨_, eσ, rk⟩
   ·cases q
  ·rw [if_neg z, List.getElem?_replicate] at q
   split at q <;> cases q
 rw [aMy ef]
 intro G1 H1 v st1 eo
 have eo : Rep X.K G1 v (.tuple [a, b, .list xs]) := eo
 have eo' := eo
 cases eo' with
 | @tup t0 ys _ ht r1 =>
 cases r1 with
 | @cons u1 _ _ _ _ r2 =>
 cases r2 with
 | @cons u2 _ _ _ _ r2 =>
 cases r2 with
 | @cons w _ _ _ rw' r3 =>
 cases r3
 cases rw' with
 | @lst c0 zs _ hcl rz =>
 have gg : ∀ b o o', G b = some o -> G1 b = some o' -> o = o' := fun b o o' q q' => by
  have a1 := st1.h _ _ (hh.gh _ _ q)
  have a2 := st1.gh _ _ q'
  rw [a1] at a2
  exact Option.some.inj a2
 have hc0 : H c0 = none := by
  refine Classical.byContradiction fun hz => ?_
  have hg' : G' c0 ≠ none := fun z => by
   rcases st1.new c0 hz z with w | ⟨ts, w⟩
   ·rcases hcl with u | ⟨_, u⟩
    ·rw [w] at u; cases u
    ·rw [w] at u; cases u
   ·have w := st1.h _ _ w
    rcases hcl with u | ⟨_, u⟩
    ·have := st1.gh _ _ u; rw [w] at this; cases this
    ·have := st1.gh _ _ u; rw [w] at this; cases this
  cases q : G' c0 with
  | none => exact hg' q
  | some o =>
   obtain ⟨q1, q2⟩ := gs c0 o q
   have w := st1.g _ _ q
   rcases q2 with ⟨ts, rfl⟩ | rfl
   ·rcases hcl with u | ⟨_, u⟩
    ·rw [w] at u; cases u
    ·rw [w] at u; cases u
   ·have ez : zs = vs := by
     rcases ga with u | ⟨o1, u⟩
     ·have := st1.g _ _ u
      rcases hcl with t | ⟨o2, t⟩
      ·rw [this] at t; cases t; rfl
      ·rw [this] at t; cases t
     ·have := st1.g _ _ u
      rcases hcl with t | ⟨o2, t⟩
      ·rw [this] at t; cases t
      ·rw [this] at t; cases t; rfl
    subst ez
    rcases un with un | ⟨a, r, b, r', rfl, rfl, n⟩
    ·exact un (rz.length.symm.trans rp.length)
    ·cases rz with
     | cons z1 _ =>
      cases rp with
      | cons z2 _ =>
       cases z1 with
       | tup t1 r1 =>
        cases z2 with
        | tup t2 r2 =>
         have := gg _ _ _ t2 t1
         cases this
         exact n (r1.length.symm.trans r2.length)
 obtain ⟨G2, hG2⟩ : ∃ G2 : Hp, ∀ b, G2 b = (G b).or (G1 b) := ⟨_, fun _ => rfl⟩
 have s2 : Same G G2 := fun b o q => by rw [hG2, q]; rfl
 have s12 : Same G1 G2 := fun b o q => by
  rw [hG2]
  cases z : G b with
  | none => exact q
  | some o' => rw [gg b _ _ z q]; rfl
 have T2 : Step G H G2 H1 := by
  refine ⟨s2, st1.h, fun b o q => ?_, fun b hb hg => ?_⟩
  ·rw [hG2] at q
   cases z : G b with
   | none => rw [z] at q; exact st1.gh _ _ q
   | some o' => rw [z] at q; exact st1.h _ _ (hh.gh _ _ (by rw [z]; exact q))
  ·have z : G' b = none := by
    cases z : G' b with
    | none => rfl
    | some o' => rw [(gs b o' z).1] at hg; cases hg
   rcases st1.new b hb z with w | w
   ·left
    rw [hG2, hg, w]
    rfl
   ·exact .inr w
 refine mm B G0 G2 W H1 _ _ en' Dn (hh.step T2) ((hs.step T2).set (i := i) (l := .p (.tuple [a, b, .list xs])) (eo.mono s12)) ec ?_
 intro G3 H3 σ3 st3 hs3 kp3
 have T3 : Same H H3 := st1.h.trans st3.h
 have k3 : Same G1 H3 := st1.gh.trans st3.h
 have hσi : σ3[i]? = some (some (.ref t0)) := by
  rw [kp3.2 i hik]
  exact List.getElem?_set_self iσ
 have hrd : Rd H3 c0 (.lst zs) := gN k3 hcl
 refine ⟨.ref t0, hσi, .inr ⟨t0, [u1, u2, .ref c0], 2, .ref c0, rfl, rfl, SqT.of (k3 _ _ ht), rfl, .inl ⟨rfl, zs, .inl hrd⟩, c0, zs, rfl, rfl, hrd, fun o u q => ?_, ?_⟩⟩
 ·have q := I.base.frzs _ _ _ q
  rw [hc0] at q
  cases q
 have kp : Same H (upd H3 c0 (.lst [])) := fun b o q => by
  rw [aS (fun z => by rw [z, hc0] at q; cases q)]
  exact T3 _ _ q
 refine m4 B G0 G W _ _ (wipe (i :: ks) en) Dn ⟨hh.gh.trans kp, hh.bh.trans kp, hh.g0, hh.gb, fun b m q => ?_⟩ ⟨by rw [w9, kp3.1, List.length_set]; exact hs.1, fun m l q => ?_⟩ hw
 ·obtain ⟨k1, k2, o, k3, k4⟩ := hh.wf b m q
  exact ⟨k1, k2, o, kp _ _ k3, k4⟩
 ·obtain ⟨q1, q2⟩ := xG _ _ _ _ q
  obtain ⟨v, f1, f2⟩ := hs.2 m l q2
  refine ⟨v, by rw [kp3.2 m fun z => q1 (.tail _ z), List.getElem?_set_ne fun z => q1 (by rw [z]; exact .head _)]; exact f1, ?_⟩
  cases l with
  | p d => exact f2
  | x C => exact f2
  | h a => exact f2
  | o d =>
   obtain ⟨b, ob, g1, g2, g3, g4⟩ := f2
   exact ⟨b, ob, g1, g2, kp _ _ g3, g4⟩
end
end M
namespace N
open PySem PySem.Spec PyProof.Rows L2 M
def frD (x : Int × Int) : D := .tuple [.int x.1, .int x.2]
abbrev Pl := Int × Int × (Int × Int)
def plD (p : Pl) : D := .tuple [.int p.1, .int p.2.1, frD p.2.2]
def slD (p : Int × Int) : D := .tuple [.int p.1, .int p.2]
theorem at0 {α : Type} (x : α) (r : List α) : atI (x :: r) 0 = some x := qQ (j := 0) rfl
theorem at1 {α : Type} (x y : α) (r : List α) : atI (x :: y :: r) 1 = some y := qQ (j := 1) rfl
theorem at2 {α : Type} (x y z : α) (r : List α) : atI (x :: y :: z :: r) 2 = some z := qQ (j := 2) rfl
theorem gW (i j : Int) : PyData.eqv (.int i) (.int j) = (i == j) := by simp [PyData.eqv]
theorem iM (i : Int) : SeqAt.shaped (.int i) = true := by simp [SeqAt.shaped, PyData.canLay0, PyData.depth]
def aN5 {α : Type} (f : D -> Option α) : List D -> Option (List α)
 | [] => some []
 | d :: r => match f d with
  | none => none
  | some a => match aN5 f r with
   | none => none
   | some as => some (a :: as)
theorem qX {α : Type} {f : D -> Option α} {enc : α -> D} (h : ∀ a, f (enc a) = some a) : ∀ xs : List α, aN5 f (xs.map enc) = some xs
 | [] => rfl
 | x :: xs => by
  show (match f (enc x) with | none => none | some a => match aN5 f (xs.map enc) with | none => none | some as => some (a :: as)) = _
  rw [h x, qX h xs]
def aOe : D -> Option (Int × Int)
 | .tuple [.int a, .int b] => some (a, b)
 | _ => none
theorem x8 (x : Int × Int) : aOe (frD x) = some x := rfl
theorem g8 {α : Type} {g : D -> Option (Option D)} {enc : α -> D} {out : α -> D} : ∀ xs : List α, (∀ x ∈ xs, g (enc x) = some (some (out x))) -> sM g (xs.map enc) = some (xs.map out)
 | [], _ => rfl
 | x :: xs, h => by
  show (match g (enc x) with | none => none | some o => match sM g (xs.map enc) with | none => none | some r => some (match o with | some y => y :: r | none => r)) = _
  rw [h x (.head _), g8 xs fun y hy => h y (.tail _ hy)]
  rfl
def ltF (x y : Int × Int) : Bool := decide (x.1 * y.2 < y.1 * x.2)
def best (b : Int × Int) : List (Int × Int) -> Int × Int
 | [] => b
 | x :: r => best (if ltF b x = true then x else b) r
def FSz (n : Nat) (x : Int × Int) : Prop := Sz n x.1 /\ Sz n x.2
def Good (n : Nat) (x : Int × Int) : Prop := 1 <= x.2 /\ Sz n x.1 /\ Sz n x.2
theorem Good.fsz {n : Nat} {x : Int × Int} (h : Good n x) : FSz n x := h.2
theorem Good.mono {m n : Nat} {x : Int × Int} (h : Good m x) (l : m <= n) : Good n x := ⟨h.1, h.2.1.mono l, h.2.2.mono l⟩
theorem fQ {n : Nat} {t b : Int} (ht : Sz n t) (hb : Sz n b) (h0 : b ≠ 0) : Good n (FR.mk t b) := ⟨(FR.aC5 h0).1.pos, Sz.le ht (natAbs_fdiv_le _ _), Sz.le hb (natAbs_fdiv_le _ _)⟩
def hT (i : Int) (x : Int × Int) : Int × Int := FR.mk (i * x.1) (1 * x.2)
def hP (x y : Int × Int) : Int × Int := FR.mk (x.1 * y.2 + y.1 * x.2) (x.2 * y.2)
theorem aCc {m n : Nat} {i : Int} {x : Int × Int} (hi : Sz m i) (hx : Good n x) : Good (m + n) (hT i x) :=
 fQ (Sz.mul hi hx.2.1) (by rw [Int.one_mul]; exact hx.2.2.mono (Nat.le_add_left _ _)) (by have := hx.1; omega)
theorem aGn {m n : Nat} {x y : Int × Int} (hx : Good m x) (hy : Good n y) : Good (m + n + 1) (hP x y) :=
 fQ (Sz.add (Sz.mul hx.2.1 hy.2.2) ((Sz.mul hy.2.1 hx.2.2).mono (by omega))) ((Sz.mul hx.2.2 hy.2.2).mono (by omega)) (fun z => by
  rcases Int.mul_eq_zero.mp z with q | q
  ·have := hx.1; omega
  ·have := hy.1; omega)
theorem Good.ne {m n : Nat} {x y : Int × Int} (hx : Good m x) (hy : Good n y) : x.2 * y.2 ≠ 0 := fun z => by
 rcases Int.mul_eq_zero.mp z with q | q
 ·have := hx.1; omega
 ·have := hy.1; omega
theorem aBl : Sz 2000 (1 : Int) := by unfold Sz; exact Nat.one_lt_two_pow (by decide)
open Classical in
noncomputable def mOf {α : Type} (enc : α -> List L) (P : α -> Prop) (g : α -> Res L) (ls : List L) : Res L := if h : ∃ a, enc a = ls /\ P a then g h.choose else .bad
theorem cC {α : Type} {enc : α -> List L} {P : α -> Prop} {g : α -> Res L} (inj : ∀ a b, enc a = enc b -> a = b) {a : α} (h : P a) : mOf enc P g (enc a) = g a := by
 have hx : ∃ b, enc b = enc a /\ P b := ⟨a, rfl, h⟩
 unfold mOf
 rw [dif_pos hx, inj _ _ hx.choose_spec.1]
theorem cD {α : Type} {enc : α -> List L} {P : α -> Prop} {g : α -> Res L} {n : Nat} {f : MS} (h : ∀ a, P a -> e9 n f (enc a) = g a) : ∀ ls, mOf enc P g ls = .bad \/ e9 n f ls = mOf enc P g ls := by
 intro ls
 unfold mOf
 by_cases hx : ∃ a, enc a = ls /\ P a
 ·rw [dif_pos hx]
  exact .inr ((congrArg _ hx.choose_spec.1.symm).trans (h _ hx.choose_spec.2))
 ·exact .inl (dif_neg hx)
theorem frI {a b : Int × Int} (h : frD a = frD b) : a = b := Option.some.inj (congrArg aOe h)
theorem jD (a : D) (r : List D) : ixE (.p (.tuple (a :: r))) (.p (.int 0)) = .ok (.p a) := by simp [ixE, gP, at0]
theorem jN (a b : D) (r : List D) : ixE (.p (.tuple (a :: b :: r))) (.p (.int 1)) = .ok (.p b) := by simp [ixE, gP, at1]
theorem nR (a b d : D) (r : List D) : ixE (.p (.tuple (a :: b :: d :: r))) (.p (.int 2)) = .ok (.p d) := by simp [ixE, gP, at2]
theorem nN (p : Pl) : ixE (.p (plD p)) (.p (.int 0)) = .ok (.p (.int p.1)) := jD _ _
theorem nS (p : Pl) : ixE (.p (plD p)) (.p (.int 1)) = .ok (.p (.int p.2.1)) := jN _ _ _
theorem oH (p : Pl) : ixE (.p (plD p)) (.p (.int 2)) = .ok (.p (frD p.2.2)) := nR _ _ _ _
theorem kY (p : Int × Int) : ixE (.p (frD p)) (.p (.int 0)) = .ok (.p (.int p.1)) := jD _ _
theorem kI (p : Int × Int) : ixE (.p (frD p)) (.p (.int 1)) = .ok (.p (.int p.2)) := jN _ _ _
section
variable {κ α : Type} [DecidableEq κ]
def fC : List (κ × α) -> κ -> Option α
 | [], _ => none
 | p :: r, k => if p.1 = k then some p.2 else fC r k
def aBs (k : κ) (v : α) : List (κ × α) -> List (κ × α)
 | [] => []
 | p :: r => (if p.1 = k then (p.1, v) else p) :: aBs k v r
def rQ (m : List (κ × α)) (k : κ) (v : α) : List (κ × α) := if (fC m k).isSome = true then aBs k v m else m ++ [(k, v)]
def encM (ek : κ -> D) (ev : α -> D) (m : List (κ × α)) : List (D × D) := m.map fun p => (ek p.1, ev p.2)
variable {ek : κ -> D} {ev : α -> D} (inj : ∀ a b, ek a = ek b -> a = b)
include inj
theorem mJ (k : κ) : ∀ m : List (κ × α), u4 (encM ek ev m) (ek k) = (fC m k).map ev
 | [] => rfl
 | p :: r => by
  unfold encM
  rw [List.map_cons]
  unfold u4 fC
  by_cases e : p.1 = k
  ·rw [if_pos (by rw [e]), if_pos e]; rfl
  ·rw [if_neg (fun z => e (inj _ _ z)), if_neg e]
   exact mJ k r
theorem xM (k : κ) (v : α) : ∀ m : List (κ × α), aHk (ek k) (ev v) (encM ek ev m) = encM ek ev (aBs k v m)
 | [] => rfl
 | p :: r => by
  have ih := xM k v r
  unfold encM at ih ⊢
  rw [List.map_cons]
  unfold aHk aBs
  rw [List.map_cons, ih]
  by_cases e : p.1 = k
  ·rw [if_pos (by rw [e]), if_pos e]
  ·rw [if_neg (fun z => e (inj _ _ z)), if_neg e]
theorem wR (k : κ) (v : α) (m : List (κ × α)) : aDg (encM ek ev m) (ek k) (ev v) = encM ek ev (rQ m k v) := by
 unfold aDg rQ
 rw [mJ inj]
 cases e : fC m k with
 | none =>
  rw [if_neg (by simp), if_neg (by simp)]
  unfold encM
  rw [List.map_append]
  rfl
 | some x =>
  rw [if_pos (by rfl), if_pos (by rfl)]
  exact xM inj k v m
end
theorem lB (a b : Int × Int) (h : slD a = slD b) : a = b := by
 unfold slD at h
 injection h with h
 injection h with h1 h2
 injection h2 with h2 _
 injection h1 with h1
 injection h2 with h2
 exact Prod.ext h1 h2
theorem aDf {α : Type} {ev : α -> D} (m : List ((Int × Int) × α)) : dsp (encM slD ev m) = (false, encM slD ev m) := by
 cases m <;> rfl
theorem aCq (s : Int × Int) : (aKr (slD s)).isSome = true := rfl
theorem xD {α : Type} {ev : α -> D} (m : List ((Int × Int) × α)) (s : Int × Int) : nV (encM slD ev m) (slD s) = some ((fC m s).map ev) := by
 unfold nV
 rw [aDf]
 dsimp only
 rw [if_pos (aCq s), mJ lB]
theorem aH2 {α : Type} {ev : α -> D} (m : List ((Int × Int) × α)) (s : Int × Int) (v : α) (h : m.length <= 100000) : yK (encM slD ev m) (slD s) (ev v) = some (encM slD ev (rQ m s v)) := by
 unfold yK
 rw [aDf]
 dsimp only
 rw [if_pos ⟨aCq s, by unfold encM; rw [List.length_map]; exact h⟩, wR lB]
theorem qF {α κ : Type} [DecidableEq κ] (k : κ) (v : α) : ∀ m : List (κ × α), (aBs k v m).length = m.length
 | [] => rfl
 | _ :: r => by unfold aBs; rw [List.length_cons, List.length_cons, qF k v r]
theorem aFr {α κ : Type} [DecidableEq κ] (m : List (κ × α)) (k : κ) (v : α) : (rQ m k v).length <= m.length + 1 := by
 unfold rQ
 split
 ·rw [qF]; exact Nat.le_succ _
 ·rw [List.length_append]; exact Nat.le_refl _
theorem sD {α κ : Type} [DecidableEq κ] (k : κ) (v : α) (j : κ) : ∀ m : List (κ × α), fC (aBs k v m) j = if j = k then (fC m k).map (fun _ => v) else fC m j
 | [] => by unfold aBs fC; split <;> rfl
 | p :: r => by
  have ih := sD k v j r
  unfold aBs fC
  by_cases e : p.1 = k
  ·rw [if_pos e]
   by_cases e2 : p.1 = j
   ·have : j = k := by rw [<- e2, e]
    rw [if_pos e2, if_pos this, if_pos e]; rfl
   ·have : j ≠ k := fun z => e2 (by rw [e, z])
    rw [if_neg e2, if_neg this, if_neg e2]
    rw [if_neg this] at ih
    exact ih
  ·rw [if_neg e]
   by_cases e2 : p.1 = j
   ·have : j ≠ k := fun z => e (by rw [e2, z])
    rw [if_pos e2, if_neg this, if_pos e2]
   ·rw [if_neg e2, ih]
    by_cases e3 : j = k
    ·rw [if_pos e3, if_pos e3, if_neg e]
    ·rw [if_neg e3, if_neg e3, if_neg e2]
theorem xU {α κ : Type} [DecidableEq κ] (j : κ) (l : List (κ × α)) : ∀ m : List (κ × α), fC (m ++ l) j = match fC m j with
  | some x => some x
  | none => fC l j
 | [] => rfl
 | p :: r => by
  have ih := xU j l r
  rw [List.cons_append]
  show (if p.1 = j then some p.2 else fC (r ++ l) j) = match (if p.1 = j then some p.2 else fC r j) with
   | some x => some x
   | none => fC l j
  by_cases e : p.1 = j
  ·rw [if_pos e, if_pos e]
  ·rw [if_neg e, if_neg e]; exact ih
theorem tY {α κ : Type} [DecidableEq κ] (m : List (κ × α)) (k : κ) (v : α) (j : κ) : fC (rQ m k v) j = if j = k then some v else fC m j := by
 unfold rQ
 cases e : fC m k with
 | none =>
  rw [if_neg (by simp), xU]
  by_cases ej : j = k
  ·subst ej; rw [e, if_pos rfl]; unfold fC; rw [if_pos rfl]
  ·rw [if_neg ej]
   cases e2 : fC m j with
   | some x => rfl
   | none => unfold fC; rw [if_neg (fun z => ej z.symm)]; rfl
 | some x =>
  rw [if_pos (by rfl), sD]
  by_cases ej : j = k
  ·rw [if_pos ej, if_pos ej, e]; rfl
  ·rw [if_neg ej, if_neg ej]
def kys {α : Type} (m : List ((Int × Int) × α)) : List (List Int) := m.map fun e => [e.1.1, e.1.2]
theorem aDo {α : Type} {ev : α -> D} (m : List ((Int × Int) × α)) : (encM slD ev m).map (·.1) = (kys m).map uH := by
 unfold encM kys
 rw [List.map_map, List.map_map]
 rfl
theorem xN {α κ : Type} [DecidableEq κ] : ∀ {m : List (κ × α)} {e : κ × α}, e ∈ m -> ∃ v, fC m e.1 = some v
 | p :: r, e, h => by
  unfold fC
  by_cases q : p.1 = e.1
  ·rw [if_pos q]; exact ⟨_, rfl⟩
  ·rw [if_neg q]
   rcases List.mem_cons.mp h with z | z
   ·exact absurd (by rw [z]) q
   ·exact xN z
theorem aLo {x : Int} (n : Nat) (h : x.natAbs < 2 ^ n) : Sz n x := h
theorem cm {i j : Int} {m n : Nat} (h1 : Sz m i) (h2 : Sz n j) (hm : m <= 60000) (hn : n <= 60000) : CMulW i j := ⟨h1.mono hm, h2.mono hn⟩
theorem dU {a b : Int} (hb : 0 < b) : 0 <= a.fmod b /\ a.fmod b < b := by
 rw [Int.fmod_eq_emod_of_nonneg a (Int.le_of_lt hb)]
 exact ⟨Int.emod_nonneg a (by omega), Int.emod_lt_of_pos a hb⟩
theorem aQ {f g : MS} {en e1 : En} (h : f en = some (.nx e1)) : cI f g en = g e1 := by unfold cI; rw [h]
theorem aC8 {f g : MS} {en : En} {l : L} (h : f en = some (.rt l)) : cI f g en = some (.rt l) := by unfold cI; rw [h]
theorem eO {i : Nat} {fe : En -> Res Ev} {en : En} {d : D} (h : fe en = .ok (.p d)) : dO i fe en = some (.nx (en.set i (some (.p d)))) := by unfold dO; rw [h]
theorem j7 {i : Nat} {fe : En -> Res Ev} {en : En} {d : D} (h : fe en = .ok (.f d)) : dO i fe en = some (.nx (en.set i (some (.o d)))) := by unfold dO; rw [h]
theorem aB0 {ft : En -> Res Bool} {f g : MS} {en : En} (h : ft en = .ok true) : kF ft f g en = f en := by unfold kF; rw [h]; rfl
theorem uA {ft : En -> Res Bool} {f g : MS} {en : En} (h : ft en = .ok false) : kF ft f g en = g en := by unfold kF; rw [h]; rfl
theorem bZ {n : Nat} {f : MS} {ls : List L} {l : L} (h : f (bG n ls) = some (.rt l)) : e9 n f ls = .ok l := by unfold e9; rw [h]
theorem aAe {α : Type} (f : α -> D) (h : ∀ a, PyData.canLay0 (f a) = true) : ∀ xs : List α, PyData.canLayAll0 (xs.map f) = true
 | [] => rfl
 | x :: xs => by rw [List.map_cons, PyData.canLayAll0, h x, aAe f h xs]; rfl
theorem aCb {α : Type} (f : α -> D) (n : Nat) (h : ∀ a, PyData.depth (f a) <= n) : ∀ xs : List α, PyData.depthAll (xs.map f) <= n
 | [] => Nat.zero_le _
 | x :: xs => by
  rw [List.map_cons, PyData.depthAll]
  exact Nat.max_le.mpr ⟨h x, aCb f n h xs⟩
theorem aCx {α : Type} (f : α -> D) (h1 : ∀ a, PyData.canLay0 (f a) = true) (h2 : ∀ a, PyData.depth (f a) <= 9) (xs : List α) : SeqAt.shaped (.list (xs.map f)) = true := by
 have a : PyData.canLay0 (.list (xs.map f)) = true := by rw [PyData.canLay0]; exact aAe f h1 xs
 have b : PyData.depth (.list (xs.map f)) <= 64 := by
  rw [PyData.depth]
  have := aCb f 9 h2 xs
  omega
 unfold SeqAt.shaped
 rw [a, decide_eq_true b]
 rfl
theorem jF {x y : Ev} {d : D} (h1 : dat x = some d) (h2 : dat y = some d) (hs : SeqAt.shaped d = true) (ng : Bool) : eqE ng x y = .ok (.p (.bool (!ng))) := by
 have hc : PyData.canLay0 d = true := by
  unfold SeqAt.shaped at hs
  exact (Bool.and_eq_true_iff.mp hs).1
 unfold eqE
 rw [h1, h2]
 dsimp only
 rw [if_pos ⟨hs, hs⟩, SeqAt.eqv_refl d hc]
 cases ng <;> rfl
theorem aNl (x : Int × Int) : SeqAt.shaped (frD x) = true := by simp [SeqAt.shaped, frD, PyData.canLay0, PyData.canLayAll0, PyData.depth, PyData.depthAll]
theorem mF {fi : En -> Res (List D)} {tg : D -> En -> Option En} {f : MS} {en : En} {ds : List D} (h : fi en = .ok ds) : uG fi tg f en = dP tg f ds en := by unfold uG; rw [h]
theorem vX {α : Type} {g : D -> Option (Option D)} {enc : α -> D} {out : α -> D} {p : α -> Bool} : ∀ xs : List α, (∀ x ∈ xs, g (enc x) = some (if p x = true then some (out x) else none)) -> sM g (xs.map enc) = some ((xs.filter p).map out)
 | [], _ => rfl
 | x :: xs, h => by
  show (match g (enc x) with | none => none | some o => match sM g (xs.map enc) with | none => none | some r => some (match o with | some y => y :: r | none => r)) = _
  rw [h x (.head _), vX xs fun y hy => h y (.tail _ hy), List.filter_cons]
  cases p x <;> rfl
theorem aCz {α : Type} (f : α -> D) (h : ∀ a, lfD (f a) = true) : ∀ xs : List α, lfA (xs.map f) = true
 | [] => by simp [lfA]
 | x :: xs => by rw [List.map_cons]; unfold lfA; rw [h x, aCz f h xs]; rfl
theorem Sz.addM {m n : Nat} {x y : Int} (hx : Sz m x) (hy : Sz n y) : Sz (max m n + 1) (x + y) := Sz.add (hx.mono (Nat.le_max_left _ _)) (hy.mono (Nat.le_max_right _ _))
theorem Sz.subM {m n : Nat} {x y : Int} (hx : Sz m x) (hy : Sz n y) : Sz (max m n + 1) (x - y) := Sz.sub (hx.mono (Nat.le_max_left _ _)) (hy.mono (Nat.le_max_right _ _))
theorem rC {n : Nat} {a b : Int} (h : 0 < b) (hb : Sz n b) : Sz n (a.fmod b) := by
 have := dU (a := a) h
 exact Sz.le hb (by omega)
theorem cm2 {m n : Nat} {i j : Int} (h1 : Sz m i) (h2 : Sz n j) (hm : m <= 60000) (hn : n <= 60000) : CMulW i j := ⟨h1.mono hm, h2.mono hn⟩
theorem wA {i j : Int} (h : CMulW i j) : kG (.p (.int i)) (.p (.int j)) = .ok (.p (.int (i * j))) := by simp [kG, wB, h]
theorem qA {i j : Int} (h : mE i j) : rL (.p (.int i)) (.p (.int j)) = .ok (.p (.int (i.fdiv j))) := by simp [rL, wB, h]
theorem nI {i j : Int} (h : j ≠ 0) : mQ (.p (.int i)) (.p (.int j)) = .ok (.p (.int (i.fmod j))) := by simp [mQ, wB, h]
theorem x5 {i j : Int} (h : aJp i j) : aDi (.p (.int i)) (.p (.int j)) = .ok (.p (.int (i ^ j.toNat))) := by simp [aDi, wB, h]
theorem aG9 (i j : Int) : gR (.p (.int i)) (.p (.int j)) = .ok (.p (.int (i + j))) := by simp [gR]
theorem pJ (i j : Int) : mX (.p (.int i)) (.p (.int j)) = .ok (.p (.int (i - j))) := by simp [mX, fM]
def eII (a : Int × Int) : List L := [.p (.int a.1), .p (.int a.2)]
theorem u9 (a b : Int × Int) (h : eII a = eII b) : a = b := by
 unfold eII at h
 injection h with h1 h2
 injection h2 with h2 _
 injection h1 with h1
 injection h2 with h2
 injection h1 with h1
 injection h2 with h2
 exact Prod.ext h1 h2
theorem aQt {a b : List (Int × Int)} (h : a.map frD = b.map frD) : a = b := by
 have e := congrArg (aN5 aOe) h
 rw [qX x8, qX x8] at e
 exact Option.some.inj e
def eFs (hs : List (Int × Int)) : List L := [.p (.list (hs.map frD))]
theorem zG (a b : List (Int × Int)) (h : eFs a = eFs b) : a = b := by
 unfold eFs at h
 injection h with h _
 injection h with h
 injection h with h
 exact aQt h
def eFF (a : (Int × Int) × (Int × Int)) : List L := [.p (frD a.1), .p (frD a.2)]
theorem lJ (a b : (Int × Int) × (Int × Int)) (h : eFF a = eFF b) : a = b := by
 unfold eFF at h
 injection h with h1 h2
 injection h2 with h2 _
 injection h1 with h1
 injection h2 with h2
 exact Prod.ext (frI h1) (frI h2)
abbrev Pt := (Int × Int) × (Int × Int)
theorem qS {α β : Type} (a : α) (f : α -> Res β) : (Res.ok a).bind f = f a := rfl
theorem aHr {fe : En -> Res Ev} {en : En} {d : D} (h : fe en = .ok (.f d)) : eP fe en = some (.rt (.o d)) := by unfold eP; rw [h]; rfl
theorem fU {fe : En -> Res Ev} {en : En} {d : D} (h : fe en = .ok (.p d)) : eP fe en = some (.rt (.p d)) := by unfold eP; rw [h]; rfl
theorem nO {n : Nat} {js : List Nat} {fi : En -> Res (List D)} {tg : D -> En -> Option En} {ft : En -> Res Bool} {fe : En -> Res Ev} {en : En} {ds es : List D} (h1 : fi en = .ok ds) (h2 : ds.length <= 100000) (h3 : sM (cA n js tg ft fe en) ds = some es) : jR n js fi tg ft fe en = .ok (.f (.list es)) := by
 unfold jR
 rw [h1, qS]
 unfold aJv
 rw [if_pos h2, h3]
theorem xO {tg : D -> En -> Option En} {f : MS} (I : Nat -> En -> Prop) : ∀ (ds : List D) (k : Nat) (en : En), I k en -> (∀ j d e, ds[j]? = some d -> I (k + j) e -> ∃ e1 e2, tg d e = some e1 /\ f e1 = some (.nx e2) /\ I (k + j + 1) e2) -> ∃ e', I (k + ds.length) e' /\ dP tg f ds en = some (.nx e')
 | [], k, en, h, _ => ⟨en, h, rfl⟩
 | d :: ds, k, en, h, st => by
  obtain ⟨e1, e2, h1, h2, h3⟩ := st 0 d en rfl h
  obtain ⟨e', g1, g2⟩ := xO I ds (k + 1) e2 h3 fun j d' e hd hi => by
   have := st (j + 1) d' e hd (by rw [show k + (j + 1) = k + 1 + j by omega]; exact hi)
   rw [show k + (j + 1) + 1 = k + 1 + j + 1 by omega] at this
   exact this
  refine ⟨e', by rw [show k + (d :: ds).length = k + 1 + ds.length by rw [List.length_cons]; omega]; exact g1, ?_⟩
  unfold dP
  rw [h1]
  dsimp only
  rw [h2]
  exact g2
theorem aIm (lo : Int) (n j : Nat) (d : D) (h : (yZ lo n)[j]? = some d) : j < n /\ d = .int (lo + (j : Int)) := by
 unfold yZ at h
 rw [List.getElem?_map, Option.map_eq_some_iff] at h
 obtain ⟨a, h1, h2⟩ := h
 have q : j < n := by
  by_cases q : j < n
  ·exact q
  ·rw [List.getElem?_eq_none (by simp; omega)] at h1; cases h1
 rw [List.getElem?_range q] at h1
 cases h1
 exact ⟨q, h2.symm⟩
end N
local macro_rules | `(tactic| walk_at "z") => `(tactic| repeat (first | assumption | apply L2.Sz.mul | apply N.Sz.addM | apply N.Sz.subM | apply L2.Sz.neg | apply N.sz_fdiv | (apply N.rC; (first | decide | omega)) | exact N.sz_lit4 (by decide) | exact N.sz_lit (by decide) | exact N.sz_lit70 (by decide) | exact N.sz_big (by decide)))
local macro_rules | `(tactic| walk_at "d") => `(tactic| first | assumption | (first | apply N.cm2 | apply N.cd2) <;> (first | decide | omega | (walk_at "z")) | decide | omega)
namespace N
open PySem PySem.Spec PyProof.Rows L2 M
def leF (x y : Int × Int) : Prop := x.1 * y.2 <= y.1 * x.2
theorem iA (x : Int × Int) : leF x x := Int.le_refl _
theorem v8 {x y : Int × Int} (h : ltF y x = false) : leF x y := by
 unfold ltF at h
 have := of_decide_eq_false h
 unfold leF
 omega
theorem aLa {x y : Int × Int} (h : ltF x y = true) : leF x y := by
 unfold ltF at h
 have := of_decide_eq_true h
 unfold leF
 omega
theorem i8 {x y z : Int × Int} (hx : 1 <= x.2) (hy : 1 <= y.2) (hz : 1 <= z.2) (h1 : leF x y) (h2 : leF y z) : leF x z := by
 unfold leF at *
 have a := Int.mul_le_mul_of_nonneg_right h1 (show 0 <= z.2 by omega)
 have b := Int.mul_le_mul_of_nonneg_right h2 (show 0 <= x.2 by omega)
 refine Int.le_of_mul_le_mul_right (a := y.2) ?_ (by omega)
 have e1 : x.1 * z.2 * y.2 = x.1 * y.2 * z.2 := by ac_rfl
 have e2 : z.1 * x.2 * y.2 = z.1 * y.2 * x.2 := by ac_rfl
 have e3 : y.1 * x.2 * z.2 = y.1 * z.2 * x.2 := by ac_rfl
 omega
theorem aA1 {a b d : Int} (h : d ∣ a * b) (g : Int.gcd a d = 1) : d ∣ b := by
 have h1 : d.natAbs ∣ a.natAbs * b.natAbs := by
  rw [<- Int.natAbs_mul]
  exact Int.natAbs_dvd_natAbs.mpr h
 have c : Nat.Coprime d.natAbs a.natAbs := by
  show Nat.gcd d.natAbs a.natAbs = 1
  rw [Nat.gcd_comm]
  exact g
 exact Int.natAbs_dvd_natAbs.mp (Nat.Coprime.dvd_of_dvd_mul_left c h1)
theorem wL {x y : Int × Int} (hx : FR.Fr x) (hy : FR.Fr y) (h1 : leF x y) (h2 : leF y x) : x = y := by
 have e : x.1 * y.2 = y.1 * x.2 := Int.le_antisymm h1 h2
 have p1 := hx.pos
 have p2 := hy.pos
 have d1 : x.2 ∣ y.2 := by
  have : x.2 ∣ x.1 * y.2 := ⟨y.1, by rw [e]; ac_rfl⟩
  exact aA1 this hx.low
 have d2 : y.2 ∣ x.2 := by
  have : y.2 ∣ y.1 * x.2 := ⟨x.1, by rw [<- e]; ac_rfl⟩
  exact aA1 this hy.low
 have eb : x.2 = y.2 := Int.dvd_antisymm (by omega) (by omega) d1 d2
 have et : x.1 = y.1 := by
  rw [eb] at e
  exact Int.eq_of_mul_eq_mul_right (by omega) e
 exact Prod.ext et eb
theorem xI : ∀ (xs : List (Int × Int)) (b : Int × Int), best b xs = b \/ best b xs ∈ xs
 | [], b => .inl rfl
 | x :: xs, b => by
  show best (if ltF b x = true then x else b) xs = b \/ best (if ltF b x = true then x else b) xs ∈ x :: xs
  rcases xI xs (if ltF b x = true then x else b) with h | h
  ·rw [h]
   split
   ·exact .inr (.head _)
   ·exact .inl rfl
  ·exact .inr (.tail _ h)
theorem aA7 : ∀ (xs : List (Int × Int)) (b : Int × Int), 1 <= b.2 -> (∀ x ∈ xs, 1 <= x.2) -> leF b (best b xs) /\ (∀ x ∈ xs, leF x (best b xs)) /\ 1 <= (best b xs).2
 | [], b, h, _ => ⟨iA b, (fun _ z => nomatch z), h⟩
 | x :: xs, b, h, hx => by
  have hx0 := hx x (.head _)
  have hb2 : 1 <= (if ltF b x = true then x else b).2 := by split <;> assumption
  have g : best b (x :: xs) = best (if ltF b x = true then x else b) xs := rfl
  obtain ⟨i1, i2, i3⟩ := aA7 xs (if ltF b x = true then x else b) hb2 fun y hy => hx y (.tail _ hy)
  rw [g]
  have l1 : leF b (if ltF b x = true then x else b) := by
   split
   ·rename_i z; exact aLa z
   ·exact iA b
  have l2 : leF x (if ltF b x = true then x else b) := by
   split
   ·exact iA x
   ·rename_i z; exact v8 (by simpa using z)
  refine ⟨i8 h hb2 i3 l1 i1, fun y hy => ?_, i3⟩
  rcases List.mem_cons.mp hy with z | z
  ·rw [z]; exact i8 hx0 hb2 i3 l2 i1
  ·exact i2 y z
structure AF (x y : Int × Int) : Prop where
 a : 1 <= x.2
 b : 1 <= y.2
 e : x.1 * y.2 = y.1 * x.2
theorem AF.refl {x : Int × Int} (h : 1 <= x.2) : AF x x := ⟨h, h, rfl⟩
theorem b9 {x y : Int} (hx : 1 <= x) (hy : 1 <= y) : 1 <= x * y := by
 have := Int.mul_pos (show 0 < x by omega) (show 0 < y by omega)
 omega
theorem yW {t b : Int} {y : Int × Int} (hb : 1 <= b) (hy : 1 <= y.2) (h : t * y.2 = y.1 * b) : AF (FR.mk t b) y := by
 obtain ⟨f1, e1⟩ := FR.aC5 (t := t) (b := b) (by omega)
 refine ⟨f1.pos, hy, ?_⟩
 have h2 : (FR.mk t b).1 * y.2 * b = y.1 * (FR.mk t b).2 * b := by
  have e3 : (FR.mk t b).1 * y.2 * b = (FR.mk t b).1 * b * y.2 := by ac_rfl
  rw [e3, e1]
  have e4 : t * (FR.mk t b).2 * y.2 = t * y.2 * (FR.mk t b).2 := by ac_rfl
  rw [e4, h]
  ac_rfl
 exact Int.eq_of_mul_eq_mul_right (by omega) h2
theorem aDh {i : Int} {x x' : Int × Int} (h : AF x x') : AF (hT i x) (i * x'.1, x'.2) := by
 obtain ⟨a, b, e⟩ := h
 refine yW (by omega) b ?_
 show i * x.1 * x'.2 = i * x'.1 * (1 * x.2)
 rw [Int.mul_assoc, e, Int.one_mul, Int.mul_assoc]
theorem aKu {x x' y y' : Int × Int} (h : AF x x') (g : AF y y') : AF (hP x y) (x'.1 * y'.2 + y'.1 * x'.2, x'.2 * y'.2) := by
 obtain ⟨a, b, e⟩ := h
 obtain ⟨a2, b2, e2⟩ := g
 refine yW (b9 a a2) (b9 b b2) ?_
 show (x.1 * y.2 + y.1 * x.2) * (x'.2 * y'.2) = (x'.1 * y'.2 + y'.1 * x'.2) * (x.2 * y.2)
 rw [Int.add_mul, Int.add_mul]
 have e3 : x.1 * y.2 * (x'.2 * y'.2) = x.1 * x'.2 * (y.2 * y'.2) := by ac_rfl
 have e4 : y.1 * x.2 * (x'.2 * y'.2) = y.1 * y'.2 * (x.2 * x'.2) := by ac_rfl
 rw [e3, e4, e, e2]
 have e5 : x'.1 * x.2 * (y.2 * y'.2) = x'.1 * y'.2 * (x.2 * y.2) := by ac_rfl
 have e6 : y'.1 * y.2 * (x.2 * x'.2) = y'.1 * x'.2 * (x.2 * y.2) := by ac_rfl
 rw [e5, e6]
theorem yV {x x' y y' : Int × Int} (h : AF x x') (g : AF y y') : ltF x y = ltF x' y' := by
 obtain ⟨a, b, e⟩ := h
 obtain ⟨a2, b2, e2⟩ := g
 unfold ltF
 have k : (y.1 * x.2 - x.1 * y.2) * (x'.2 * y'.2) = (y'.1 * x'.2 - x'.1 * y'.2) * (x.2 * y.2) := by
  rw [Int.sub_mul, Int.sub_mul]
  have e3 : y.1 * x.2 * (x'.2 * y'.2) = y.1 * y'.2 * (x.2 * x'.2) := by ac_rfl
  have e4 : x.1 * y.2 * (x'.2 * y'.2) = x.1 * x'.2 * (y.2 * y'.2) := by ac_rfl
  rw [e3, e4, e, e2]
  have e5 : y'.1 * y.2 * (x.2 * x'.2) = y'.1 * x'.2 * (x.2 * y.2) := by ac_rfl
  have e6 : x'.1 * x.2 * (y.2 * y'.2) = x'.1 * y'.2 * (x.2 * y.2) := by ac_rfl
  rw [e5, e6]
 have p1 := b9 b b2
 have p2 := b9 a a2
 have iff : 0 < (y.1 * x.2 - x.1 * y.2) ↔ 0 < (y'.1 * x'.2 - x'.1 * y'.2) := by
  constructor
  ·intro q
   have := Int.mul_pos q (show 0 < x'.2 * y'.2 by omega)
   rw [k] at this
   exact Int.pos_of_mul_pos_left this (by omega)
  ·intro q
   have := Int.mul_pos q (show 0 < x.2 * y.2 by omega)
   rw [<- k] at this
   exact Int.pos_of_mul_pos_left this (by omega)
 rw [decide_eq_decide]
 constructor
 ·intro q; have := iff.mp (by omega); omega
 ·intro q; have := iff.mpr (by omega); omega
abbrev R2 := Int × Int
abbrev R3 := Int × Int × Int
def hM (x y : Int × Int) : Int × Int := FR.mk (x.1 * y.2 - y.1 * x.2) (x.2 * y.2)
def hO (x y : Int × Int) : Int × Int := FR.mk (x.1 * y.2) (x.2 * y.1)
theorem head_mem {α : Type} {xs : List α} (d : α) (h : xs ≠ []) : xs.headD d ∈ xs := by
 cases xs with
 | nil => exact absurd rfl h
 | cons p r => exact .head _
def aHt (l h : R3) : R2 := (l.2.1 * h.1 - h.2.1 * l.1, l.2.1 * h.2.2 - h.2.1 * l.2.2)
def aOv (rows : List R3) : List R2 := (rows.filter fun r => decide (r.2.1 = 0)).map fun r => (r.1, r.2.2)
def aO5 (rows : List R3) : List R3 := rows.filter fun r => decide (r.2.1 < 0)
def aPk (highs : List R3) (k : List R2) (l : R3) : List R2 := if 0 < l.2.1 then k ++ highs.map (aHt l) else k
def elim (rows : List R3) : List R2 := rows.foldl (aPk (aO5 rows)) (aOv rows)
end N
namespace N
abbrev Q2 := Int × Int
def a7 (a b c : Q2) : Int := (b.1 - a.1) * (c.2 - a.2) - (b.2 - a.2) * (c.1 - a.1)
def fL (p : Q2) : List Q2 -> List Q2
 | k1 :: k2 :: r => if a7 k2 k1 p <= 0 then fL p (k2 :: r) else k1 :: k2 :: r
 | s => s
def pushS (s : List Q2) (p : Q2) : List Q2 := p :: fL p s
def lM (ps : List Q2) : List Q2 := ps.foldl pushS []
def iY : List Q2 -> List (Q2 × Q2)
 | a :: b :: r => (b, a) :: iY (b :: r)
 | _ => []
def pH : List Q2 -> Prop
 | a :: b :: c :: r => 0 < a7 c b a /\ pH (b :: c :: r)
 | _ => True
def xZ (l : List Q2) : Prop := l.Pairwise fun a b => a.1 < b.1
theorem yA {a b : Int} (ha : a <= 0) (hb : 0 <= b) : a * b <= 0 := by
 have := Int.mul_nonneg (show 0 <= -a by omega) hb
 rw [Int.neg_mul] at this
 omega
theorem aA3 {a b : Int} (ha : a < 0) (h : a * b <= 0) : 0 <= b := by
 by_cases z : 0 <= b
 ·exact z
 ·have := Int.mul_pos_of_neg_of_neg ha (show b < 0 by omega)
  omega
theorem aLd {a b : Int} (ha : a < 0) (h : a * b < 0) : 0 < b := by
 by_cases z : 0 < b
 ·exact z
 ·have := Int.mul_nonneg_of_nonpos_of_nonpos (Int.le_of_lt ha) (show b <= 0 by omega)
  omega
theorem aDy {a b c p : Q2} (h1 : b.1 < a.1) (h2 : c.1 < b.1) (h3 : p.1 < c.1) (t1 : 0 < a7 a b c) (t2 : 0 < a7 b c p) : 0 < a7 a b p := by
 refine aLd (a := c.1 - b.1) (by omega) ?_
 have e : (c.1 - b.1) * a7 a b p = (p.1 - b.1) * a7 a b c + (b.1 - a.1) * a7 b c p := by unfold a7; grind
 rw [e]
 have x := Int.mul_neg_of_neg_of_pos (show p.1 - b.1 < 0 by omega) t1
 have y := Int.mul_neg_of_neg_of_pos (show b.1 - a.1 < 0 by omega) t2
 omega
theorem zZ {k2 k1 p q : Q2} (h1 : k1.1 < k2.1) (h2 : p.1 < k2.1) (hq : q.1 <= k2.1) (l : 0 <= a7 k2 k1 q) (t : a7 k2 k1 p <= 0) : 0 <= a7 k2 p q := by
 refine aA3 (a := k1.1 - k2.1) (by omega) ?_
 have e : (k1.1 - k2.1) * a7 k2 p q = (p.1 - k2.1) * a7 k2 k1 q + (k2.1 - q.1) * a7 k2 k1 p := by unfold a7; grind
 rw [e]
 have x := yA (show p.1 - k2.1 <= 0 by omega) l
 have y := Int.mul_nonpos_of_nonneg_of_nonpos (show 0 <= k2.1 - q.1 by omega) t
 omega
theorem uO {k2 k1 p q : Q2} (h1 : k1.1 < k2.1) (h2 : p.1 < k1.1) (hq : p.1 <= q.1) (l : 0 <= a7 k1 p q) (t : a7 k2 k1 p <= 0) : 0 <= a7 k2 p q := by
 have e : (k1.1 - p.1) * a7 k2 p q = (k2.1 - p.1) * a7 k1 p q + (q.1 - p.1) * (- a7 k2 k1 p) := by unfold a7; grind
 have x := Int.mul_nonneg (show 0 <= k2.1 - p.1 by omega) l
 have y := Int.mul_nonneg (show 0 <= q.1 - p.1 by omega) (show 0 <= - a7 k2 k1 p by omega)
 have z : 0 <= (k1.1 - p.1) * a7 k2 p q := by rw [e]; omega
 by_cases w : 0 <= a7 k2 p q
 ·exact w
 ·have := Int.mul_neg_of_pos_of_neg (show 0 < k1.1 - p.1 by omega) (show a7 k2 p q < 0 by omega)
  omega
theorem yX {k' k p q : Q2} (h1 : k.1 < k'.1) (h2 : p.1 < k.1) (hq : k.1 <= q.1) (l : 0 <= a7 k' k q) (t : 0 < a7 k' k p) : 0 <= a7 k p q := by
 have e : (k'.1 - k.1) * a7 k p q = (k.1 - p.1) * a7 k' k q + (q.1 - k.1) * a7 k' k p := by unfold a7; grind
 have x := Int.mul_nonneg (show 0 <= k.1 - p.1 by omega) l
 have y := Int.mul_nonneg (show 0 <= q.1 - k.1 by omega) (Int.le_of_lt t)
 have z : 0 <= (k'.1 - k.1) * a7 k p q := by rw [e]; omega
 by_cases w : 0 <= a7 k p q
 ·exact w
 ·have := Int.mul_neg_of_pos_of_neg (show 0 < k'.1 - k.1 by omega) (show a7 k p q < 0 by omega)
  omega
structure ChI (seen s : List Q2) : Prop where
 sub : s.Sublist seen
 hd : s.head? = seen.head?
 ls : s.getLast? = seen.getLast?
 conv : pH s
 left : ∀ e ∈ iY s, ∀ q ∈ seen, 0 <= a7 e.1 e.2 q
theorem fS (p : Q2) : ∀ s : List Q2, fL p s <:+ s
 | [] => by unfold fL; exact List.suffix_refl _
 | [a] => by unfold fL; exact List.suffix_refl _
 | k1 :: k2 :: r => by
  unfold fL
  split
  ·exact (fS p (k2 :: r)).trans (List.suffix_cons _ _)
  ·exact List.suffix_refl _
theorem wW : ∀ (u t : List Q2), pH (u ++ t) -> pH t
 | [], _, h => h
 | a :: u, t, h => by
  refine wW u t ?_
  rw [List.cons_append] at h
  revert h
  generalize u ++ t = l
  intro h
  cases l with
  | nil => exact trivial
  | cons b l =>
   cases l with
   | nil => exact trivial
   | cons c r => exact h.2
theorem oD {s t : List Q2} (h : t <:+ s) (hc : pH s) : pH t := by
 obtain ⟨u, e⟩ := h
 rw [<- e] at hc
 exact wW u t hc
theorem tZ (e : Q2 × Q2) : ∀ (u t : List Q2), e ∈ iY t -> e ∈ iY (u ++ t)
 | [], _, h => h
 | a :: u, t, h => by
  have ih := tZ e u t h
  rw [List.cons_append]
  revert ih
  generalize u ++ t = l
  intro ih
  cases l with
  | nil => exact nomatch ih
  | cons b r => exact .tail _ ih
theorem lR {s t : List Q2} (h : t <:+ s) (e : Q2 × Q2) (he : e ∈ iY t) : e ∈ iY s := by
 obtain ⟨u, eu⟩ := h
 rw [<- eu]
 exact tZ e u t he
theorem aB1 {p : Q2} {seen : List Q2} : ∀ {s : List Q2}, (∀ k ∈ s, p.1 < k.1) -> xZ s -> (∀ e ∈ iY s, ∀ q ∈ seen, 0 <= a7 e.1 e.2 q) -> (∀ q ∈ seen, p.1 <= q.1) -> (∀ k ∈ s.head?, ∀ q ∈ seen, q.1 <= k.1 -> 0 <= a7 k p q) ->
  (∀ k ∈ (fL p s).head?, ∀ q ∈ seen, q.1 <= k.1 -> 0 <= a7 k p q) /\ ∀ k1 k2 r, fL p s = k1 :: k2 :: r -> 0 < a7 k2 k1 p
 | [], _, _, _, _, h => ⟨by unfold fL; exact h, fun k1 k2 r e => by unfold fL at e; cases e⟩
 | [a], _, _, _, _, h => ⟨by unfold fL; exact h, fun k1 k2 r e => by unfold fL at e; cases e⟩
 | k1 :: k2 :: r, hp, hf, hl, hq, h => by
  unfold fL
  split
  ·rename_i z
   have f := List.pairwise_cons.mp hf
   have f2 : k1.1 < k2.1 := f.1 k2 (.head _)
   refine aB1 (fun k hk => hp k (.tail _ hk)) f.2 (fun e he => hl e (.tail _ he)) hq ?_
   intro k hk q hqs hle
   have : k2 = k := by simpa using hk
   subst this
   by_cases c : q.1 <= k1.1
   ·exact uO f2 (hp k1 (.head _)) (hq q hqs) (h k1 rfl q hqs c) z
   ·exact zZ f2 (hp k2 (.tail _ (.head _))) hle (hl (k2, k1) (.head _) q hqs) z
  ·rename_i z
   refine ⟨h, fun a b c e => ?_⟩
   injection e with e1 e2
   injection e2 with e2 _
   subst e1 e2
   omega
theorem pS {p : Q2} : ∀ {s : List Q2}, (∀ k ∈ s, p.1 < k.1) -> xZ s -> pH s -> (∀ k1 k2 r, s = k1 :: k2 :: r -> 0 < a7 k2 k1 p) -> ∀ e ∈ iY s, 0 < a7 e.1 e.2 p
 | [], _, _, _, _, e, he => nomatch he
 | [a], _, _, _, _, e, he => nomatch he
 | k1 :: k2 :: r, hp, hf, hc, h, e, he => by
  have f := List.pairwise_cons.mp hf
  rcases List.mem_cons.mp he with z | z
  ·rw [z]; exact h k1 k2 r rfl
  ·refine pS (fun k hk => hp k (.tail _ hk)) f.2 ?_ ?_ e z
   ·match r, hc with
    | [], _ => exact trivial
    | c :: r', hc => exact hc.2
   ·intro a b c e2
    injection e2 with e1 e3
    subst e1
    subst e3
    have g := List.pairwise_cons.mp f.2
    exact aDy (g.1 b (.head _)) (f.1 k2 (.head _)) (hp k1 (.head _)) hc.1 (h k1 k2 (b :: c) rfl)
theorem aE6 {l : List Q2} (hf : xZ l) {k : Q2} (h : l.getLast? = some k) : ∀ q ∈ l, q.1 <= k.1 := by
 induction l with
 | nil => cases h
 | cons a l ih =>
  intro q hq
  have f := List.pairwise_cons.mp hf
  cases l with
  | nil =>
   have : a = k := by simpa using h
   rw [List.mem_singleton.mp hq, this]
   exact Int.le_refl _
  | cons b r =>
   have h' : (b :: r).getLast? = some k := by simpa using h
   have ih := ih f.2 h'
   rcases List.mem_cons.mp hq with z | z
   ·rw [z]
    have := f.1 b (.head _)
    have := ih b (.head _)
    omega
   ·exact ih q z
theorem aEi {seen s : List Q2} {p : Q2} (h : ChI seen s) (hn : seen ≠ []) (hf : xZ (p :: seen)) : ChI (p :: seen) (pushS s p) := by
 have f := List.pairwise_cons.mp hf
 have fs : xZ s := List.Pairwise.sublist h.sub f.2
 have ps : ∀ k ∈ s, p.1 < k.1 := fun k hk => f.1 k (h.sub.subset hk)
 have s0 : s ≠ [] := fun z => by
  have := h.hd
  rw [z] at this
  cases seen with
  | nil => exact hn rfl
  | cons a r => cases this
 obtain ⟨a1, a2⟩ := aB1 (p := p) (seen := seen) ps fs h.left (fun q hq => Int.le_of_lt (f.1 q hq)) (fun k hk q hq hle => by
  rw [h.hd] at hk
  cases seen with
  | nil => exact nomatch hk
  | cons b r =>
   have : b = k := by simpa using hk
   subst this
   rcases List.mem_cons.mp hq with z | z
   ·rw [z]; unfold a7; simp
   ·have := (List.pairwise_cons.mp f.2).1 q z
    omega)
 have suf := fS p s
 have fs' : xZ (fL p s) := List.Pairwise.sublist suf.sublist fs
 have ps' : ∀ k ∈ fL p s, p.1 < k.1 := fun k hk => ps k (suf.subset hk)
 have cs' := oD suf h.conv
 have el := pS ps' fs' cs' a2
 have ne : fL p s ≠ [] := by
  intro z
  match s, s0 with
  | [a], _ => unfold fL at z; cases z
  | k1 :: k2 :: r, _ =>
   have : ∀ t : List Q2, t ≠ [] -> fL p t ≠ [] := fun t => by
    induction t with
    | nil => intro h; exact absurd rfl h
    | cons x t ih =>
     intro _
     cases t with
     | nil => unfold fL; exact List.cons_ne_nil _ _
     | cons y t =>
      unfold fL
      split
      ·exact ih (List.cons_ne_nil _ _)
      ·exact List.cons_ne_nil _ _
   exact this _ (List.cons_ne_nil _ _) z
 have lst : (fL p s).getLast? = seen.getLast? := by
  obtain ⟨u, e⟩ := suf
  have e2 := congrArg List.getLast? e
  rw [List.getLast?_append] at e2
  rw [<- h.ls, <- e2]
  cases hg : (fL p s).getLast? with
  | none => exact absurd (List.getLast?_eq_none_iff.mp hg) ne
  | some x => rfl
 refine ⟨(suf.sublist.trans h.sub).cons₂ p, rfl, ?_, ?_, ?_⟩
 ·unfold pushS
  cases hs : fL p s with
  | nil => exact absurd hs ne
  | cons k r =>
   rw [List.getLast?_cons_cons, <- hs, lst]
   cases seen with
   | nil => exact absurd rfl hn
   | cons b t => rw [List.getLast?_cons_cons]
 ·unfold pushS
  match hs : fL p s, cs', a2 with
  | [], _, _ => exact trivial
  | [k], _, _ => exact trivial
  | k1 :: k2 :: r, c, a2 => exact ⟨a2 k1 k2 r rfl, c⟩
 ·intro e he q hq
  unfold pushS at he
  cases hs : fL p s with
  | nil => exact absurd hs ne
  | cons k r =>
   rw [hs] at he
   rcases List.mem_cons.mp he with z | z
   ·rw [z]
    show 0 <= a7 k p q
    rcases List.mem_cons.mp hq with y | y
    ·rw [y]; unfold a7; rw [Int.mul_comm]; omega
    ·by_cases c : q.1 <= k.1
     ·exact a1 k (by rw [hs]; rfl) q y c
     ·cases r with
      | nil =>
       have : seen.getLast? = some k := by rw [<- lst, hs]; rfl
       exact absurd (aE6 f.2 this q y) c
      | cons k' r =>
       have kk := List.pairwise_cons.mp (show xZ (k :: k' :: r) by rw [<- hs]; exact fs')
       have em : ((k', k) : Q2 × Q2) ∈ iY s := lR suf _ (by rw [hs]; exact .head _)
       exact yX (kk.1 k' (.head _)) (ps' k (by rw [hs]; exact .head _)) (by omega) (h.left _ em q y) (a2 k k' r hs)
   ·rcases List.mem_cons.mp hq with y | y
    ·rw [y]; exact Int.le_of_lt (el e (by rw [hs]; exact z))
    ·exact h.left e (lR suf e (by rw [hs]; exact z)) q y
theorem rW : ∀ (ps seen s : List Q2), ChI seen s -> seen ≠ [] -> xZ (ps.reverse ++ seen) -> ChI (ps.reverse ++ seen) (ps.foldl pushS s)
 | [], seen, s, h, _, _ => h
 | p :: ps, seen, s, h, hn, hf => by
  rw [List.reverse_cons, List.append_assoc] at hf ⊢
  have hf2 : xZ (p :: seen) := (List.pairwise_append.mp hf).2.1
  rw [List.foldl_cons]
  exact rW ps (p :: seen) (pushS s p) (aEi h hn hf2) (List.cons_ne_nil _ _) hf
theorem vW {p : Q2} {ps : List Q2} (hf : xZ (p :: ps).reverse) : ChI (p :: ps).reverse (lM (p :: ps)) := by
 rw [List.reverse_cons] at hf ⊢
 have h1 : ChI [p] [p] := ⟨List.Sublist.refl _, rfl, rfl, trivial, fun e he => nomatch he⟩
 exact rW ps [p] [p] h1 (List.cons_ne_nil _ _) hf
theorem aGe {x y a b : Int × Int} (hx : FR.Fr x) (hy : FR.Fr y) (h : AF x a) (g : AF y b) (e : a.1 * b.2 = b.1 * a.2) : x = y := by
 have q : x.1 * y.2 = y.1 * x.2 := by
  have e1 := h.e
  have e2 := g.e
  have p := b9 h.b g.b
  have z : x.1 * y.2 * (a.2 * b.2) = y.1 * x.2 * (a.2 * b.2) := by grind
  exact Int.eq_of_mul_eq_mul_right (by omega) z
 exact wL hx hy (Int.le_of_eq q) (Int.le_of_eq q.symm)
theorem tD {t b : Int} (h : 1 <= b) : FR.Fr (FR.mk t b) := (FR.aC5 (by omega)).1
theorem aLm {x y : Int × Int} (hx : 1 <= x.2) (hy : 1 <= y.2) : FR.Fr (hP x y) := tD (b9 hx hy)
def ng (x : Int × Int) : Int × Int := hM (0, 1) x
end N
namespace N
section
open PySem PySem.Spec PyProof.Rows L2 M
variable {en : En} {f g : En -> Res Ev} {x y : Ev} {o : Res Ev} {a b d r : D}
theorem bP {op : Ev -> Ev -> Res Ev} (h1 : f en = .ok x) (h2 : g en = .ok y) (h : op x.c y.c = o) : aH op f g en = o := by simp only [aH, h1, h2, Res.bind, h]
theorem aN7 {op : Ev -> Res Ev} (h1 : f en = .ok x) (h : op x.c = o) : mUn op f en = o := by simp only [mUn, h1, Res.bind, h]
theorem kA {b : Bool} (h : f en = .ok (.p (.bool b))) : bY f en = .ok b := by simp only [bY, h, Res.bind, cR]
theorem rG {f : En -> Res Bool} (h : f en = .ok true) : gY f en = .ok false := by simp only [gY, h, Res.bind]; rfl
theorem aGi {f g : En -> Res Bool} (h1 : f en = .ok false) (h2 : g en = .ok false) : mOr f g en = .ok false := by simp only [mOr, h1, h2, Res.bind]; rfl
theorem dG {g : En -> Res (List Ev)} {xs : List Ev} (h1 : f en = .ok x) (h2 : g en = .ok xs) : aB f g en = .ok (x.c :: xs) := by simp only [aB, h1, h2, Res.bind]
theorem aKg {n : Nat} {m : List L -> Res L} {fr : En -> Res (List Ev)} {rs : List Ev} {ls : List L} {r : L} (h : fr en = .ok rs) (ha : dX mV rs = some ls) (hn : ls.length = n) (hm : m ls = .ok r) : aL n m fr en = .ok (nE r) := by
 unfold aL
 rw [h]
 show fK n m rs = _
 unfold fK
 rw [ha]
 dsimp only
 rw [if_pos hn, hm]
 rfl
theorem lP {r : List Ev -> Res Ev} {f : En -> Res (List Ev)} {rs : List Ev} (h1 : f en = .ok rs) (h : r rs = o) : aN r f en = o := by simp only [aN, h1, Res.bind, h]
theorem j3 {m : List L -> Res L} {r : L} (h1 : f en = .ok x) (hx : x.c = .p a) (hm : m [.p a] = .ok r) : aL 1 m (aB f aT) en = .ok (nE r) := aKg (dG h1 rfl) (by rw [hx]; rfl) rfl hm
theorem fV {m : List L -> Res L} {r : L} (h1 : f en = .ok x) (h2 : g en = .ok y) (hm : m [.p a, .p b] = .ok r) (hx : x.c = .p a := by rfl) (hy : y.c = .p b := by rfl) : aL 2 m (aB f (aB g aT)) en = .ok (nE r) := aKg (dG h1 (dG h2 rfl)) (by rw [hx, hy]; rfl) rfl hm
theorem aA2 (h1 : f en = .ok x) (h2 : g en = .ok y) (hx : x.c = .p a := by rfl) (hy : y.c = .p b := by rfl) : aN dI (aB f (aB g aT)) en = .ok (.p (.tuple [a, b])) := lP (dG h1 (dG h2 rfl)) (by rw [hx, hy]; rfl)
theorem aPv {h : En -> Res Ev} {z : Ev} (h1 : f en = .ok x) (h2 : g en = .ok y) (h3 : h en = .ok z) (hx : x.c = .p a := by rfl) (hy : y.c = .p b := by rfl) (hz : z.c = .p d := by rfl) : aN dI (aB f (aB g (aB h aT))) en = .ok (.p (.tuple [a, b, d])) := lP (dG h1 (dG h2 (dG h3 rfl))) (by rw [hx, hy, hz]; rfl)
theorem aQj (h1 : f en = .ok x) (hx : x.c = .p a := by rfl) : aN iN (aB f aT) en = .ok (.f (.list [a])) := lP (dG h1 rfl) (by rw [hx]; rfl)
theorem itA {r : List Ev -> Res (List D)} {f : En -> Res (List Ev)} {rs : List Ev} {o : Res (List D)} (h1 : f en = .ok rs) (h : r rs = o) : aEn r f en = o := by simp only [aEn, h1, Res.bind, h]
theorem itL {ds : List D} (h1 : f en = .ok x) (h : x.c = .p (.list ds) := by rfl) : iV f en = .ok ds := by
 unfold iV
 rw [h1]
 show aFe x.c = _
 rw [h]
 rfl
theorem aBg {tg : D -> En -> Option En} {f : MS} {d : D} {ds : List D} {en e e' : En} (h1 : tg d en = some e) (h2 : f e = some (.nx e')) : dP tg f (d :: ds) en = dP tg f ds e' := by
 rw [dP, h1]
 dsimp only
 rw [h2]
theorem aHf {i : Nat} {ds : List D} (h1 : en[i]? = some (some (.o (.list ds)))) (h2 : f en = .ok x) (h3 : ds.length <= 100000) (hx : x.c = .p d := by rfl) : fF i f en = some (.nx (en.set i (some (.o (.list (ds ++ [d])))))) := by
 unfold fF
 rw [h1]
 dsimp only
 rw [h2]
 dsimp only
 rw [hx]
 dsimp only
 rw [if_pos h3]
theorem aHz {i : Nat} {kvs kvs' : List (D × D)} {fk fv : En -> Res Ev} {k v : D} (h1 : en[i]? = some (some (.o (.dict kvs)))) (h2 : fv en = .ok (.p v)) (h3 : fk en = .ok (.p k)) (h : yK kvs k v = some kvs') : sH i fk fv en = some (.nx (en.set i (some (.o (.dict kvs'))))) := by
 unfold sH
 rw [h1]
 dsimp only
 rw [h2]
 dsimp only
 rw [h3]
 dsimp only [Ev.c]
 rw [h]
theorem aH7 {h : En -> Res Ev} {z : Ev} (h1 : f en = .ok x) (h2 : g en = .ok y) (h3 : h en = .ok z) {kvs : List (D × D)} (hd : kB x.c = some kvs) (ho : sO x.c y.c z.c = o) : wG f g h en = o := by
 unfold wG
 simp only [h1, Res.bind, hd, Option.isSome_some, if_true, h2, h3, ho]
theorem s9 {i : Nat} {f : MS} {en e1 : En} {o : Option Out} (h : frz i en = e1) (k : f e1 = o) : f (frz i en) = o := by rw [h]; exact k
theorem wD {α : Type} {g : D -> Option D} {enc out : α -> D} : ∀ xs : List α, (∀ x ∈ xs, g (enc x) = some (out x)) -> aF0 g (xs.map enc) = some (xs.map out)
 | [], _ => rfl
 | x :: xs, h => by
  rw [List.map_cons]
  unfold aF0
  rw [h x (.head _)]
  dsimp only
  rw [wD xs fun y hy => h y (.tail _ hy)]
  rfl
theorem yB {g : D -> Option (Option D)} {lo : Int} : ∀ (n : Nat) (out : Nat -> D), (∀ k, k < n -> g (.int (lo + (k : Int))) = some (some (out k))) -> sM g (yZ lo n) = some ((List.range n).map out) := by
 intro n out h
 show sM g ((List.range n).map fun k : Nat => .int (lo + (k : Int))) = _
 exact g8 (List.range n) fun k hk => h k (List.mem_range.mp hk)
theorem pP {α : Type} {enc : α -> D} {xs : List α} {d : α} {k : Nat} {i : Int} (hx : gP x = some (xs.map enc)) (hk : k < xs.length) (hi : i = (k : Int)) : ixE x (.p (.int i)) = .ok (.p (enc (xs.getD k d))) := by
 subst hi
 have e : atI (xs.map enc) (k : Int) = some (enc (xs.getD k d)) := by
  have e1 : ixN (xs.map enc).length (k : Int) = some k := by
   unfold ixN
   rw [List.length_map, if_pos (by omega), if_pos (by omega)]
   rfl
  unfold atI
  rw [e1]
  show (xs.map enc)[k]? = _
  rw [List.getElem?_map, List.getD_eq_getElem?_getD, List.getElem?_eq_getElem hk]
  rfl
 simp only [ixE, hx, e]
theorem aKi {ys : List D} (hx : gP x = some (ys ++ [a])) : ixE x (.p (.int (-1))) = .ok (.p a) := by
 have e : atI (ys ++ [a]) (-1) = some a := by
  have e1 : ixN (ys ++ [a]).length (-1) = some ys.length := by
   unfold ixN
   rw [List.length_append, List.length_singleton, if_neg (by omega), if_pos (by omega)]
   congr 1
   omega
  unfold atI
  rw [e1]
  show (ys ++ [a])[ys.length]? = _
  simp
 simp only [ixE, hx, e]
theorem aFw {ds : List D} (h1 : f en = .ok x) (hx : gP x.c = some ds) : aN jT (aB f aT) en = .ok (.p (.int (ds.length : Nat))) := by
 refine lP (dG h1 rfl) ?_
 cases hc : x.c with
 | p v =>
  rw [hc] at hx
  cases v <;> first | (cases hx; rfl) | cases hx
 | b v =>
  rw [hc] at hx
  cases v <;> first | (cases hx; rfl) | cases hx
 | f v => rw [hc] at hx; cases hx
 | x C => rw [hc] at hx; cases hx
theorem aP3 {fl fh : En -> Res (Option Int)} {ds : List D} {l u : Option Int} (h1 : f en = .ok x) (hl : fl en = .ok l) (hu : fh en = .ok u) (hd : gH x.c = some ds := by rfl) : mSl f fl fh en = .ok (.f (.list (cutD ds l u))) := by
 simp only [mSl, h1, hl, hu, Res.bind, hd]
theorem aK0 (vs : List Int) (a b : Nat) : ∃ cs : List Int, cutD (vs.map .int) (some (a : Int)) (some (b : Int)) = cs.map .int /\ cs.length <= b - a := by
 refine ⟨(vs.drop (HT.sIx vs.length 0 (some (a : Int)))).take (HT.sIx vs.length vs.length (some (b : Int)) - HT.sIx vs.length 0 (some (a : Int))), ?_, ?_⟩
 ·unfold M.cutD
  rw [List.length_map, List.map_take, List.map_drop]
 ·rw [List.length_take, List.length_drop, HT.uP, HT.uP]
  omega
end
end N
namespace My
open PySem PySem.Spec PyProof.Rows L2 M N
local macro_rules | `(tactic| walk_at "z") => `(tactic| repeat (first | assumption | apply L2.Sz.mul | apply N.Sz.addM | apply N.Sz.subM | apply L2.Sz.neg | apply N.sz_fdiv | (apply N.rC; (first | decide | omega)) | exact N.sz_lit4 (by decide) | exact N.sz_lit (by decide) | exact N.sz_lit70 (by decide) | exact N.sz_big (by decide)))
local macro_rules | `(tactic| walk_at "d") => `(tactic| first | assumption | (first | apply N.cm2 | apply N.cd2) <;> (first | decide | omega | (walk_at "z")) | decide | omega)
local macro_rules | `(tactic| walk_at "1a") => `(tactic| simp (disch := assumption) only [cI, dO, eP, kF, aD, mC, aH, mUn, aB, aT, aL, fK, dX, mV, aBf, Res.bind, Ev.c, aFq, nE, aN, dI, iN, k9, bY, cR, wU, mOr, gY, oU, aI8, qM, jW, fE, gR, fM, kO, gH, dat, jT, eqE, iM, gW, oH, nN, nS, kY, kI, jD, jN, nR, wA, qA, nI, x5, List.getElem?_cons_zero, List.getElem?_cons_succ, List.set_cons_zero, List.set_cons_succ, List.length_cons, List.length_nil, List.length_map, List.length_append, if_true, if_false, ite_true, ite_false, decide_true, decide_false, Bool.false_eq_true, Nat.zero_add, Nat.reduceAdd, Nat.reduceEqDiff, Nat.reduceLeDiff, reduceIte, List.map_append, List.map_cons, List.map_nil])
local macro_rules | `(tactic| ktr_call 11 ⟨$xs,*⟩) => `(tactic| simp (disch := assumption) only [cI, dO, eP, kF, aD, mC, aH, mUn, aB, aT, aL, fK, dX, mV, aBf, Res.bind, Ev.c, aFq, nE, aN, dI, iN, k9, bY, cR, wU, mOr, gY, oU, aI8, qM, jW, fE, gR, fM, kO, gH, dat, jT, eqE, iM, gW, oH, nN, nS, kY, kI, jD, jN, nR, wA, qA, nI, x5, List.getElem?_cons_zero, List.getElem?_cons_succ, List.set_cons_zero, List.set_cons_succ, List.length_cons, List.length_nil, List.length_map, List.length_append, if_true, if_false, ite_true, ite_false, decide_true, decide_false, Bool.false_eq_true, Nat.zero_add, Nat.reduceAdd, Nat.reduceEqDiff, Nat.reduceLeDiff, reduceIte, List.map_append, List.map_cons, List.map_nil, $[$xs:term],*])
local macro_rules | `(tactic| walk_at "1d") => `(tactic| simp (disch := (walk_at "d")) only [cI, dO, eP, kF, aD, mC, aH, mUn, aB, aT, aL, fK, dX, mV, aBf, Res.bind, Ev.c, aFq, nE, aN, dI, iN, k9, bY, cR, wU, mOr, gY, oU, aI8, qM, jW, fE, gR, fM, kO, gH, dat, jT, eqE, iM, gW, oH, nN, nS, kY, kI, jD, jN, nR, wA, qA, nI, x5, List.getElem?_cons_zero, List.getElem?_cons_succ, List.set_cons_zero, List.set_cons_succ, List.length_cons, List.length_nil, List.length_map, List.length_append, if_true, if_false, ite_true, ite_false, decide_true, decide_false, Bool.false_eq_true, Nat.zero_add, Nat.reduceAdd, Nat.reduceEqDiff, Nat.reduceLeDiff, reduceIte, List.map_append, List.map_cons, List.map_nil])
local macro_rules | `(tactic| ktr_call 21 ⟨$xs,*⟩) => `(tactic| simp (disch := (walk_at "d")) only [cI, dO, eP, kF, aD, mC, aH, mUn, aB, aT, aL, fK, dX, mV, aBf, Res.bind, Ev.c, aFq, nE, aN, dI, iN, k9, bY, cR, wU, mOr, gY, oU, aI8, qM, jW, fE, gR, fM, kO, gH, dat, jT, eqE, iM, gW, oH, nN, nS, kY, kI, jD, jN, nR, wA, qA, nI, x5, List.getElem?_cons_zero, List.getElem?_cons_succ, List.set_cons_zero, List.set_cons_succ, List.length_cons, List.length_nil, List.length_map, List.length_append, if_true, if_false, ite_true, ite_false, decide_true, decide_false, Bool.false_eq_true, Nat.zero_add, Nat.reduceAdd, Nat.reduceEqDiff, Nat.reduceLeDiff, reduceIte, List.map_append, List.map_cons, List.map_nil, $[$xs:term],*])
local macro_rules | `(tactic| walk_at "2") => `(tactic| simp only [cI, dO, eP, kF, aD, mC, aH, mUn, aB, aT, aL, fK, dX, mV, aBf, Res.bind, Ev.c, aFq, nE, aN, dI, iN, k9, bY, cR, wU, mOr, gY, oU, aI8, qM, jW, fE, gR, fM, kO, gH, dat, jT, eqE, iM, gW, oH, nN, nS, kY, kI, jD, jN, nR, List.getElem?_cons_zero, List.getElem?_cons_succ, List.set_cons_zero, List.set_cons_succ, List.length_cons, List.length_nil, List.length_map, List.length_append, if_true, if_false, ite_true, ite_false, decide_true, decide_false, Bool.false_eq_true, Nat.zero_add, Nat.reduceAdd, Nat.reduceEqDiff, Nat.reduceLeDiff, reduceIte, List.map_append, List.map_cons, List.map_nil])
local macro_rules | `(tactic| ktr_call 2 ⟨$xs,*⟩) => `(tactic| simp only [cI, dO, eP, kF, aD, mC, aH, mUn, aB, aT, aL, fK, dX, mV, aBf, Res.bind, Ev.c, aFq, nE, aN, dI, iN, k9, bY, cR, wU, mOr, gY, oU, aI8, qM, jW, fE, gR, fM, kO, gH, dat, jT, eqE, iM, gW, oH, nN, nS, kY, kI, jD, jN, nR, List.getElem?_cons_zero, List.getElem?_cons_succ, List.set_cons_zero, List.set_cons_succ, List.length_cons, List.length_nil, List.length_map, List.length_append, if_true, if_false, ite_true, ite_false, decide_true, decide_false, Bool.false_eq_true, Nat.zero_add, Nat.reduceAdd, Nat.reduceEqDiff, Nat.reduceLeDiff, reduceIte, List.map_append, List.map_cons, List.map_nil, $[$xs:term],*])
local macro_rules | `(tactic| ktr_call 3 ⟨$xs,*⟩) => `(tactic| simp only [List.getElem?_cons_zero, List.getElem?_cons_succ, List.set_cons_zero, List.set_cons_succ, List.length_cons, List.length_nil, List.length_map, List.length_append, if_true, if_false, ite_true, ite_false, decide_true, decide_false, Bool.false_eq_true, Nat.zero_add, Nat.reduceAdd, Nat.reduceEqDiff, Nat.reduceLeDiff, reduceIte, List.map_append, List.map_cons, List.map_nil, $[$xs:term],*])
local macro_rules | `(tactic| ktr_call 13 ⟨$xs,*⟩) => `(tactic| simp (disch := assumption) only [List.getElem?_cons_zero, List.getElem?_cons_succ, List.set_cons_zero, List.set_cons_succ, List.length_cons, List.length_nil, List.length_map, List.length_append, if_true, if_false, ite_true, ite_false, decide_true, decide_false, Bool.false_eq_true, Nat.zero_add, Nat.reduceAdd, Nat.reduceEqDiff, Nat.reduceLeDiff, reduceIte, List.map_append, List.map_cons, List.map_nil, $[$xs:term],*])
def top (i : Nat) : Stmt := PySem.Challenge.pw_creasecurve_k16_bends_told.main.body.getD i (.Pass ⟨0, 0, 0, 0⟩)
abbrev cX : Stmt := top 4
abbrev jJ : Stmt := top 5
abbrev qH : Stmt := top 6
abbrev p7 : Stmt := top 7
abbrev wM : Stmt := top 8
abbrev eC : Stmt := top 9
abbrev qL : Stmt := top 10
abbrev v9 : Stmt := top 12
abbrev q0 : Stmt := top 13
abbrev eW : Stmt := top 15
abbrev eV : Stmt := top 17
abbrev p6 : Stmt := top 18
abbrev cV : Stmt := top 19
abbrev mL : Stmt := top 20
abbrev mO : Stmt := top 21
abbrev fZ : Stmt := top 23
abbrev e8 : Stmt := top 24
abbrev jI : Stmt := top 25
abbrev fI : Stmt := top 26
abbrev jM : Stmt := top 27
abbrev eZ : Stmt := top 28
abbrev fJ : Stmt := top 29
abbrev cU : Stmt := top 30
abbrev fH : Stmt := top 31
abbrev iD : Stmt := top 32
abbrev iH : Stmt := top 33
abbrev gB : Stmt := top 34
abbrev eY : Stmt := top 35
abbrev eT : Stmt := top 36
abbrev gC : Stmt := top 37
abbrev iG : Stmt := top 38
abbrev gE : Stmt := top 39
abbrev eF : Stmt := top 42
abbrev eM : Stmt := top 43
abbrev rX : Stmt := top 44
theorem wO : bootBuiltins "abs" = some (.builtin "abs") := by decide +kernel
theorem aKh : bootBuiltins "bool" = some (.type "bool") := by decide +kernel
theorem aLe : bootBuiltins "int" = some (.type "int") := by decide +kernel
theorem nJ : bootBuiltins "list" = some (.type "list") := by decide +kernel
theorem aLf : bootBuiltins "max" = some (.builtin "max") := by decide +kernel
theorem tL : bootBuiltins "sorted" = some (.builtin "sorted") := by decide +kernel
theorem mK : bootBuiltins "tuple" = some (.type "tuple") := by decide +kernel
structure Blt (mg : Str -> Option Value) : Prop where
 abs_ : mg "abs" = none
 bool_ : mg "bool" = none
 enumerate_ : mg "enumerate" = none
 int_ : mg "int" = none
 isinstance_ : mg "isinstance" = none
 len_ : mg "len" = none
 list_ : mg "list" = none
 max_ : mg "max" = none
 range_ : mg "range" = none
 reversed_ : mg "reversed" = none
 sorted_ : mg "sorted" = none
 tuple_ : mg "tuple" = none
structure Cls where
 RoofError : Addr
 NoFraction : Addr
structure iP (mg : Str -> Option Value) (c : Cls) : Prop where
 mRoofError : mg "RoofError" = some (.ref c.RoofError)
 mNoFraction : mg "NoFraction" = some (.ref c.NoFraction)
structure iO (mg : Str -> Option Value) (base : Heap) (c : Cls) : Prop where
 NoFraction : PyProof.Rows.OwnCls "NoFraction" c.NoFraction [.type "ValueError", .type "Exception", .type "BaseException", .type "object"] "ValueError.__new__" mg base
noncomputable def a5 (K : PySem.W.Frag) (c : Cls) : List L -> Res L := mOf eII (fun _ => True) fun a => .ok (.p (.int (Int.gcd a.1 a.2 : Nat)))
noncomputable def bK (K : PySem.W.Frag) (c : Cls) : En -> Res Bool := (bY (aH (eqE true) (aD 3) (mC (.int 0))))
noncomputable def bW (K : PySem.W.Frag) (c : Cls) : MS := (cI (dO 4 (aH mQ (aD 2) (aD 3))) (cI (dO 2 (aD 3)) (dO 3 (aD 4))))
noncomputable def fY (K : PySem.W.Frag) (c : Cls) : MS := (cI (dO 2 (aN aHg (aB (aD 0) aT))) (cI (dO 3 (aN aHg (aB (aD 1) aT))) (cI (jX (bK K c) (bW K c)) (eP (aD 2)))))
theorem aKy (K : PySem.W.Frag) (c : Cls) (A B : Option L) : ∀ (n : Nat) (l s : Int) (r : Option L), 0 <= l -> 0 <= s -> s.toNat <= n -> ∃ r', mWh (bK K c) (bW K c) (n + 1) [A, B, some (.p (.int l)), some (.p (.int s)), r] = some (.nx [A, B, some (.p (.int (Int.gcd l s : Nat))), some (.p (.int 0)), r']) := by
 intro n
 have hc : ∀ (l s : Int) (r : Option L), bK K c [A, B, some (.p (.int l)), some (.p (.int s)), r] = .ok (!(s == 0)) := fun l s r => by
  ktr_call 3 ⟨bK, bY, aH, aD, mC, Res.bind, Ev.c, eqE, dat, iM, gW, cR⟩
  rfl
 have done : ∀ (n : Nat) (l : Int) (r : Option L), 0 <= l -> mWh (bK K c) (bW K c) (n + 1) [A, B, some (.p (.int l)), some (.p (.int 0)), r] = some (.nx [A, B, some (.p (.int (Int.gcd l 0 : Nat))), some (.p (.int 0)), r]) := fun n l r hl => by
  unfold mWh
  rw [hc, FR.aKo hl]
  rfl
 induction n with
 | zero =>
  intro l s r hl hs hn
  have : s = 0 := by omega
  subst this
  exact ⟨r, done 0 l r hl⟩
 | succ n ih =>
  intro l s r hl hs hn
  by_cases h0 : s = 0
  ·subst h0
   exact ⟨r, done _ l r hl⟩
  ·have em : l.fmod s = l % s := Int.fmod_eq_emod_of_nonneg l hs
   have m0 := Int.emod_nonneg l h0
   have m1 := Int.emod_lt_of_pos l (show 0 < s by omega)
   obtain ⟨r', ih⟩ := ih s (l.fmod s) (some (.p (.int (l.fmod s)))) hs (by omega) (by omega)
   refine ⟨r', ?_⟩
   rw [em, FR.aF5 hl hs] at ih
   have hb : bW K c [A, B, some (.p (.int l)), some (.p (.int s)), r] = some (.nx [A, B, some (.p (.int s)), some (.p (.int (l % s))), some (.p (.int (l % s)))]) := by
    ktr_call 13 ⟨bW, aH, aD, mC, cI, dO, Res.bind, Ev.c, nI, em⟩
   have ht : bK K c [A, B, some (.p (.int l)), some (.p (.int s)), r] = .ok true := by rw [hc, beq_false_of_ne h0]; rfl
   unfold mWh
   rw [ht]
   dsimp only
   rw [hb]
   exact ih
theorem j0 (K : PySem.W.Frag) (c : Cls) : ∀ ls, a5 K c ls = .bad \/ e9 5 (fY K c) ls = a5 K c ls := cD fun x _ => by
 obtain ⟨a, b⟩ := x
 obtain ⟨r', h⟩ := aKy K c (some (.p (.int a))) (some (.p (.int b))) _ (if a < 0 then -a else a) (if b < 0 then -b else b) none (by split <;> omega) (by split <;> omega) (Nat.le_refl _)
 have h := kM h
 rw [FR.aBh] at h
 refine bZ ?_
 rw [show bG 5 (eII (a, b)) = [some (.p (.int a)), some (.p (.int b)), none, none, none] from rfl]
 refine (aQ (eO (d := .int (if a < 0 then -a else a)) rfl)).trans ((aQ (eO (d := .int (if b < 0 then -b else b)) rfl)).trans ((aQ h).trans ?_))
 rfl
theorem xH (K : PySem.W.Frag) (c : Cls) (a b : Int) : a5 K c [.p (.int a), .p (.int b)] = .ok (.p (.int (Int.gcd a b : Nat))) := cC (a := (a, b)) u9 trivial
theorem aMo {b : Int} (t : Int) (hb : b ≠ 0) (hz : Sz 8000 b) : mE t ((Int.gcd t b : Nat) : Int) /\ mE t (-((Int.gcd t b : Nat) : Int)) := by
 have g0 := FR.uT (t := t) hb
 have gle : Int.gcd t b <= b.natAbs := Nat.le_of_dvd (by omega) (Int.gcd_dvd_natAbs_right t b)
 refine ⟨⟨by omega, Sz.le hz (by rw [Int.natAbs_natCast]; exact gle)⟩, by omega, Sz.le hz (by rw [Int.natAbs_neg, Int.natAbs_natCast]; exact gle)⟩
open Classical in
noncomputable def cL (K : PySem.W.Frag) (c : Cls) : List L -> Res L := mOf eII (fun a => Sz 8000 a.2) fun a => if a.2 = 0 then .exc c.NoFraction else .ok (.p (frD (FR.mk a.1 a.2)))
noncomputable def fO (K : PySem.W.Frag) (c : Cls) : MS := (cI (kF (bY (aH (eqE false) (aD 1) (mC (.int 0)))) (jW c.NoFraction (aB (mC (.str "nothing is divided by 0")) aT)) fE) (cI (dO 2 (aL 2 (a5 K c) (aB (aD 0) (aB (aD 1) aT)))) (cI (kF (bY (aH ltE (aD 1) (mC (.int 0)))) (dO 2 (mUn kO (aD 2))) fE) (eP (aN dI (aB (aH rL (aD 0) (aD 2)) (aB (aH rL (aD 1) (aD 2)) aT)))))))
theorem vG (K : PySem.W.Frag) (c : Cls) : ∀ ls, cL K c ls = .bad \/ e9 3 (fO K c) ls = cL K c ls := cD fun x hz => by
 obtain ⟨t, b⟩ := x
 have hz : Sz 8000 b := hz
 show e9 3 (fO K c) (eII (t, b)) = if b = 0 then .exc c.NoFraction else .ok (.p (frD (FR.mk t b)))
 have t0 : bY (aH (eqE false) (aD 1) (mC (.int 0))) [some (.p (.int t)), some (.p (.int b)), none] = .ok (b == 0) := by
  ktr_call 3 ⟨bY, aH, aD, mC, Res.bind, Ev.c, eqE, dat, iM, gW, cR⟩
  rfl
 by_cases hb : b = 0
 ·rw [if_pos hb]
  have t0 : bY (aH (eqE false) (aD 1) (mC (.int 0))) [some (.p (.int t)), some (.p (.int b)), none] = .ok true := by rw [t0, hb]; rfl
  have e : fO K c (bG 3 (eII (t, b))) = some (.ex c.NoFraction [some (.p (.int t)), some (.p (.int b)), none]) := by
   unfold fO cI
   rw [show bG 3 (eII (t, b)) = [some (.p (.int t)), some (.p (.int b)), none] from rfl, aB0 t0]
   rfl
  unfold e9
  rw [e]
 ·rw [if_neg hb]
  rw [beq_false_of_ne hb] at t0
  obtain ⟨q1, q2⟩ := aMo t hb hz
  have q1' : mE b ((Int.gcd t b : Nat) : Int) := q1
  have q2' : mE b (-((Int.gcd t b : Nat) : Int)) := q2
  have g := xH K c t b
  have e1 : (aL 2 (a5 K c) (aB (aD 0) (aB (aD 1) aT))) [some (.p (.int t)), some (.p (.int b)), none] = .ok (.p (.int (Int.gcd t b : Nat))) := by
   ktr_call 3 ⟨aL, aB, aT, aD, Res.bind, Ev.c, fK, dX, mV, g, nE⟩
  refine bZ ?_
  rw [show bG 3 (eII (t, b)) = [some (.p (.int t)), some (.p (.int b)), none] from rfl]
  unfold fO
  refine (aQ (uA t0)).trans ((aQ (eO e1)).trans ?_)
  have t1 : bY (aH ltE (aD 1) (mC (.int 0))) [some (.p (.int t)), some (.p (.int b)), some (.p (.int (Int.gcd t b : Nat)))] = .ok (decide (b < 0)) := by
   ktr_call 3 ⟨bY, aH, aD, mC, Res.bind, Ev.c, fM, cR⟩
  by_cases hn : b < 0
  ·rw [decide_eq_true hn] at t1
   have es : FR.mk t b = (t.fdiv (-((Int.gcd t b : Nat) : Int)), b.fdiv (-((Int.gcd t b : Nat) : Int))) := by unfold FR.mk FR.sgn; rw [if_pos hn]
   refine (aQ ((aB0 t1).trans (eO (d := .int (-((Int.gcd t b : Nat) : Int))) rfl))).trans (fU ?_)
   rw [es]
   ktr_call 11 ⟨frD⟩
  ·rw [decide_eq_false hn] at t1
   have es : FR.mk t b = (t.fdiv ((Int.gcd t b : Nat) : Int), b.fdiv ((Int.gcd t b : Nat) : Int)) := by unfold FR.mk FR.sgn; rw [if_neg hn]
   refine (aQ (uA t1)).trans (fU ?_)
   rw [es]
   ktr_call 11 ⟨frD⟩
theorem vB (K : PySem.W.Frag) (c : Cls) {t b : Int} (h0 : b ≠ 0) (h1 : Sz 8000 b) : cL K c [.p (.int t), .p (.int b)] = .ok (.p (frD (FR.mk t b))) := (cC (a := (t, b)) u9 h1).trans (if_neg h0)
noncomputable def gO (K : PySem.W.Frag) (c : Cls) : List L -> Res L := mOf eFF (fun a => FSz 2000 a.1 /\ FSz 2000 a.2 /\ a.1.2 * a.2.2 ≠ 0) fun a => .ok (.p (frD (FR.mk (a.1.1 * a.2.2 - a.2.1 * a.1.2) (a.1.2 * a.2.2))))
noncomputable def u7 (K : PySem.W.Frag) (c : Cls) : MS := (eP (aL 2 (cL K c) (aB (aH mX (aH kG (aH ixE (aD 0) (mC (.int 0))) (aH ixE (aD 1) (mC (.int 1)))) (aH kG (aH ixE (aD 1) (mC (.int 0))) (aH ixE (aD 0) (mC (.int 1))))) (aB (aH kG (aH ixE (aD 0) (mC (.int 1))) (aH ixE (aD 1) (mC (.int 1)))) aT))))
theorem aE2 (K : PySem.W.Frag) (c : Cls) : ∀ ls, gO K c ls = .bad \/ e9 2 (u7 K c) ls = gO K c ls := cD fun a h => by
 obtain ⟨x, y⟩ := a
 obtain ⟨⟨x1, x2⟩, ⟨y1, y2⟩, hb⟩ := h
 dsimp only at x1 x2 y1 y2 hb ⊢
 have f := vB K c (t := x.1 * y.2 - y.1 * x.2) hb ((Sz.mul x2 y2).mono (by decide))
 refine bZ ?_
 rw [show bG 2 (eFF (x, y)) = [some (.p (frD x)), some (.p (frD y))] from rfl]
 unfold u7
 refine fU ?_
 ktr_call 21 ⟨f⟩
theorem y7 (K : PySem.W.Frag) (c : Cls) {x y : Int × Int} (h1 : FSz 2000 x) (h2 : FSz 2000 y) (h3 : x.2 * y.2 ≠ 0) : gO K c [.p (frD x), .p (frD y)] = .ok (.p (frD (FR.mk (x.1 * y.2 - y.1 * x.2) (x.2 * y.2)))) := cC (a := (x, y)) lJ ⟨h1, h2, h3⟩
theorem pI (K : PySem.W.Frag) (c : Cls) {m n : Nat} {x y : Int × Int} (hx : Good m x) (hy : Good n y) (hm : m <= 2000) (hn : n <= 2000) : gO K c [.p (frD x), .p (frD y)] = .ok (.p (frD (hM x y))) := y7 K c (hx.mono hm).fsz (hy.mono hn).fsz (hx.ne hy)
noncomputable def i7 (K : PySem.W.Frag) (c : Cls) : List L -> Res L := mOf eFF (fun a => FSz 2000 a.1 /\ FSz 2000 a.2 /\ a.1.2 * a.2.2 ≠ 0) fun a => .ok (.p (frD (FR.mk (a.1.1 * a.2.1) (a.1.2 * a.2.2))))
noncomputable def uR (K : PySem.W.Frag) (c : Cls) : MS := (eP (aL 2 (cL K c) (aB (aH kG (aH ixE (aD 0) (mC (.int 0))) (aH ixE (aD 1) (mC (.int 0)))) (aB (aH kG (aH ixE (aD 0) (mC (.int 1))) (aH ixE (aD 1) (mC (.int 1)))) aT))))
theorem aDr (K : PySem.W.Frag) (c : Cls) : ∀ ls, i7 K c ls = .bad \/ e9 2 (uR K c) ls = i7 K c ls := cD fun a h => by
 obtain ⟨x, y⟩ := a
 obtain ⟨⟨x1, x2⟩, ⟨y1, y2⟩, hb⟩ := h
 dsimp only at x1 x2 y1 y2 hb ⊢
 have f := vB K c (t := x.1 * y.1) hb ((Sz.mul x2 y2).mono (by decide))
 refine bZ ?_
 rw [show bG 2 (eFF (x, y)) = [some (.p (frD x)), some (.p (frD y))] from rfl]
 unfold uR
 refine fU ?_
 ktr_call 21 ⟨f⟩
theorem aBi (K : PySem.W.Frag) (c : Cls) {x y : Int × Int} (h1 : FSz 2000 x) (h2 : FSz 2000 y) (h3 : x.2 * y.2 ≠ 0) : i7 K c [.p (frD x), .p (frD y)] = .ok (.p (frD (FR.mk (x.1 * y.1) (x.2 * y.2)))) := cC (a := (x, y)) lJ ⟨h1, h2, h3⟩
theorem yJ (K : PySem.W.Frag) (c : Cls) {n : Nat} {i : Int} {x : Int × Int} (hi : Sz 2000 i) (hx : Good n x) (hn : n <= 2000) : i7 K c [.p (.tuple [.int i, .int 1]), .p (frD x)] = .ok (.p (frD (hT i x))) := aBi K c (x := (i, 1)) ⟨hi, aBl⟩ (hx.mono hn).fsz (by have := hx.1; show 1 * x.2 ≠ 0; omega)
noncomputable def nB (K : PySem.W.Frag) (c : Cls) : List L -> Res L := mOf eFF (fun a => FSz 2000 a.1 /\ FSz 2000 a.2 /\ a.1.2 * a.2.1 ≠ 0) fun a => .ok (.p (frD (FR.mk (a.1.1 * a.2.2) (a.1.2 * a.2.1))))
noncomputable def aAv (K : PySem.W.Frag) (c : Cls) : MS := (eP (aL 2 (cL K c) (aB (aH kG (aH ixE (aD 0) (mC (.int 0))) (aH ixE (aD 1) (mC (.int 1)))) (aB (aH kG (aH ixE (aD 0) (mC (.int 1))) (aH ixE (aD 1) (mC (.int 0)))) aT))))
theorem aKe (K : PySem.W.Frag) (c : Cls) : ∀ ls, nB K c ls = .bad \/ e9 2 (aAv K c) ls = nB K c ls := cD fun a h => by
 obtain ⟨x, y⟩ := a
 obtain ⟨⟨x1, x2⟩, ⟨y1, y2⟩, hb⟩ := h
 dsimp only at x1 x2 y1 y2 hb ⊢
 have f := vB K c (t := x.1 * y.2) hb ((Sz.mul x2 y1).mono (by decide))
 refine bZ ?_
 rw [show bG 2 (eFF (x, y)) = [some (.p (frD x)), some (.p (frD y))] from rfl]
 unfold aAv
 refine fU ?_
 ktr_call 21 ⟨f⟩
theorem aGc (K : PySem.W.Frag) (c : Cls) {x y : Int × Int} (h1 : FSz 2000 x) (h2 : FSz 2000 y) (h3 : x.2 * y.1 ≠ 0) : nB K c [.p (frD x), .p (frD y)] = .ok (.p (frD (FR.mk (x.1 * y.2) (x.2 * y.1)))) := cC (a := (x, y)) lJ ⟨h1, h2, h3⟩
def cbS (c b : Int) : Int := (c * b).fdiv (Int.gcd c b : Nat)
def cb (hs : List (Int × Int)) : Int := hs.foldl (fun c h => cbS c h.2) 1
theorem aAk {c b : Int} (hc : 1 <= c) (hb : 1 <= b) : 1 <= cbS c b /\ c ∣ cbS c b /\ b ∣ cbS c b := by
 have g0 : 0 < Int.gcd c b := Int.gcd_pos_of_ne_zero_right c (by omega)
 obtain ⟨k, hk⟩ := Int.gcd_dvd_right c b
 obtain ⟨j, hj⟩ := Int.gcd_dvd_left c b
 have e1 : cbS c b = c * k := by
  unfold cbS
  have : c * b = ((Int.gcd c b : Nat) : Int) * (c * k) := by
   conv => lhs; rw [hk]
   ac_rfl
  rw [this]
  exact Int.mul_fdiv_cancel_left _ (by omega)
 have e2 : cbS c b = b * j := by
  unfold cbS
  have : c * b = ((Int.gcd c b : Nat) : Int) * (b * j) := by
   conv => lhs; rw [hj]
   ac_rfl
  rw [this]
  exact Int.mul_fdiv_cancel_left _ (by omega)
 have k0 : 0 < k := Int.pos_of_mul_pos_right (show 0 < ((Int.gcd c b : Nat) : Int) * k by rw [<- hk]; omega) (by omega)
 refine ⟨?_, ⟨k, e1⟩, ⟨j, e2⟩⟩
 rw [e1]
 exact b9 hc k0
theorem aH0 {b : Nat} : ∀ (hs : List (Int × Int)) (c : Int) (n : Nat), 1 <= c -> Sz n c -> (∀ h ∈ hs, 1 <= h.2 /\ Sz b h.2) -> 1 <= hs.foldl (fun c h => cbS c h.2) c /\ c ∣ hs.foldl (fun c h => cbS c h.2) c /\ (∀ h ∈ hs, h.2 ∣ hs.foldl (fun c h => cbS c h.2) c) /\ Sz (n + b * hs.length) (hs.foldl (fun c h => cbS c h.2) c)
 | [], c, n, h1, h2, _ => ⟨h1, Int.dvd_refl _, (fun _ h => nomatch h), h2⟩
 | h :: hs, c, n, h1, h2, hg => by
  have g := hg h (.head _)
  obtain ⟨a1, a2, a3⟩ := aAk h1 g.1
  have sz : Sz (n + b) (cbS c h.2) := Sz.le (Sz.mul h2 g.2) (natAbs_fdiv_le _ _)
  obtain ⟨b1, b2, b3, b4⟩ := aH0 hs (cbS c h.2) (n + b) a1 sz fun x hx => hg x (.tail _ hx)
  rw [List.foldl_cons]
  refine ⟨b1, Int.dvd_trans a2 b2, fun x hx => ?_, b4.mono (by rw [List.length_cons, Nat.mul_succ]; omega)⟩
  rcases List.mem_cons.mp hx with z | z
  ·rw [z]; exact Int.dvd_trans a3 b2
  ·exact b3 x z
def CbP (hs : List (Int × Int)) : Prop := ∃ b : Nat, b <= 400 /\ b * hs.length <= 40000 /\ ∀ h ∈ hs, 1 <= h.2 /\ Sz b h.2
noncomputable def bB (K : PySem.W.Frag) (c : Cls) : List L -> Res L := mOf eFs CbP fun hs => .ok (.p (.int (cb hs)))
noncomputable def cT (K : PySem.W.Frag) (c : Cls) : MS := (dO 1 (aH rL (aH kG (aD 1) (aH ixE (aD 2) (mC (.int 1)))) (aL 2 (a5 K c) (aB (aD 1) (aB (aH ixE (aD 2) (mC (.int 1))) aT)))))
noncomputable def iX (K : PySem.W.Frag) (c : Cls) : MS := (cI (dO 1 (mC (.int 1))) (cI (uG (iV (aD 0)) (aM 2) (cT K c)) (eP (aD 1))))
theorem l4 (K : PySem.W.Frag) (c : Cls) : ∀ ls, bB K c ls = .bad \/ e9 3 (iX K c) ls = bB K c ls := cD fun hs h => by
 obtain ⟨b, hb, hl, hg⟩ := h
 have gen : ∀ (xs : List (Int × Int)) (x : Int) (n : Nat) (r : Option L), 1 <= x -> Sz n x -> n + b * xs.length <= 40001 -> (∀ h ∈ xs, 1 <= h.2 /\ Sz b h.2) -> ∃ r', dP (aM 2) (cT K c) (xs.map frD) [some (.p (.list (hs.map frD))), some (.p (.int x)), r] = some (.nx [some (.p (.list (hs.map frD))), some (.p (.int (xs.foldl (fun c h => cbS c h.2) x))), r']) := by
  intro xs
  induction xs with
  | nil => intro x n r _ _ _ _; exact ⟨r, rfl⟩
  | cons h xs ih =>
   intro x n r x1 x2 hk hxs
   have g := hxs h (.head _)
   rw [List.length_cons, Nat.mul_succ] at hk
   obtain ⟨a1, a2, a3⟩ := aAk x1 g.1
   have sz : Sz (n + b) (cbS x h.2) := Sz.le (Sz.mul x2 g.2) (natAbs_fdiv_le _ _)
   obtain ⟨r', ih⟩ := ih (cbS x h.2) (n + b) (some (.p (frD h))) a1 sz (by omega) fun y hy => hxs y (.tail _ hy)
   refine ⟨r', ?_⟩
   have g0 : 0 < Int.gcd x h.2 := Int.gcd_pos_of_ne_zero_right x (by have := g.1; omega)
   have q1 : CMulW x h.2 := ⟨x2.mono (by omega), g.2.mono (by omega)⟩
   have q2 : mE (x * h.2) ((Int.gcd x h.2 : Nat) : Int) := ⟨by omega, (Sz.le g.2 (by rw [Int.natAbs_natCast]; exact Nat.le_of_dvd (by have := g.1; omega) (Int.gcd_dvd_natAbs_right x h.2))).mono (by omega)⟩
   have hb : cT K c [some (.p (.list (hs.map frD))), some (.p (.int x)), some (.p (frD h))] = some (.nx [some (.p (.list (hs.map frD))), some (.p (.int (cbS x h.2))), some (.p (frD h))]) := by
    ktr_call 11 ⟨cT, xH⟩
    rfl
   rw [List.map_cons]
   unfold dP
   simp only [aM, List.set_cons_succ, List.set_cons_zero]
   rw [hb]
   exact ih
 obtain ⟨r', h⟩ := gen hs 1 1 none (Int.le_refl 1) (aLo _ (by decide)) (by omega) hg
 refine bZ ?_
 rw [show bG 3 (eFs hs) = [some (.p (.list (hs.map frD))), none, none] from rfl]
 refine (aQ (eO (d := .int 1) rfl)).trans ?_
 refine (aQ ((mF (ds := hs.map frD) rfl).trans h)).trans (fU rfl)
theorem zT (K : PySem.W.Frag) (c : Cls) {hs : List (Int × Int)} (h : CbP hs) : bB K c [.p (.list (hs.map frD))] = .ok (.p (.int (cb hs))) := cC (a := hs) zG h
def eHI (a : (Int × Int) × Int) : List L := [.p (frD a.1), .p (.int a.2)]
theorem aHx (a b : (Int × Int) × Int) (h : eHI a = eHI b) : a = b := by
 unfold eHI at h
 injection h with h1 h2
 injection h2 with h2 _
 injection h1 with h1
 injection h2 with h2
 injection h2 with h2
 exact Prod.ext (frI h1) h2
def wI (x : Int × Int) (F : Int) : Int := x.1 * F.fdiv x.2
noncomputable def gZ (K : PySem.W.Frag) (c : Cls) : List L -> Res L := mOf eHI (fun a => Good 400 a.1 /\ Sz 41000 a.2) fun a => .ok (.p (.int (wI a.1 a.2)))
noncomputable def uV (K : PySem.W.Frag) (c : Cls) : MS := (eP (aH kG (aH ixE (aD 0) (mC (.int 0))) (aH rL (aD 1) (aH ixE (aD 0) (mC (.int 1))))))
theorem aF2 (K : PySem.W.Frag) (c : Cls) : ∀ ls, gZ K c ls = .bad \/ e9 2 (uV K c) ls = gZ K c ls := cD fun a h => by
 obtain ⟨x, F⟩ := a
 obtain ⟨⟨p, t, b⟩, hF⟩ := h
 dsimp only at p t b hF ⊢
 have bn : x.2 ≠ 0 := by omega
 have q1 : mE F x.2 := ⟨bn, b.mono (by decide)⟩
 have q2 : CMulW x.1 (F.fdiv x.2) := ⟨t.mono (by decide), (Sz.le hF (natAbs_fdiv_le _ _)).mono (by decide)⟩
 refine bZ ?_
 rw [show bG 2 (eHI (x, F)) = [some (.p (frD x)), some (.p (.int F))] from rfl]
 unfold uV
 refine fU ?_
 walk_at "1a"
 rfl
theorem pU (K : PySem.W.Frag) (c : Cls) {x : Int × Int} {F : Int} (h1 : Good 400 x) (h2 : Sz 41000 F) : gZ K c [.p (frD x), .p (.int F)] = .ok (.p (.int (wI x F))) := cC (a := (x, F)) aHx ⟨h1, h2⟩
def eT3 (a : Q2 × Q2 × Q2) : List L := [.p (slD a.1), .p (slD a.2.1), .p (slD a.2.2)]
theorem aJw (a b : Q2 × Q2 × Q2) (h : eT3 a = eT3 b) : a = b := by
 unfold eT3 at h
 injection h with h1 h2
 injection h2 with h2 h3
 injection h3 with h3 _
 injection h1 with h1
 injection h2 with h2
 injection h3 with h3
 exact Prod.ext (lB _ _ h1) (Prod.ext (lB _ _ h2) (lB _ _ h3))
def GQ (q : Q2) : Prop := Sz 5000 q.1 /\ Sz 5000 q.2
noncomputable def lW (K : PySem.W.Frag) (c : Cls) : List L -> Res L := mOf eT3 (fun a => GQ a.1 /\ GQ a.2.1 /\ GQ a.2.2) fun a => .ok (.p (.int (a7 a.1 a.2.1 a.2.2)))
noncomputable def y9 (K : PySem.W.Frag) (c : Cls) : MS := (cI (dO 3 (aH kG (aH mX (aH ixE (aD 1) (mC (.int 0))) (aH ixE (aD 0) (mC (.int 0)))) (aH mX (aH ixE (aD 2) (mC (.int 1))) (aH ixE (aD 0) (mC (.int 1)))))) (cI (dO 4 (aH kG (aH mX (aH ixE (aD 1) (mC (.int 1))) (aH ixE (aD 0) (mC (.int 1)))) (aH mX (aH ixE (aD 2) (mC (.int 0))) (aH ixE (aD 0) (mC (.int 0)))))) (eP (aH mX (aD 3) (aD 4)))))
theorem aJn (K : PySem.W.Frag) (c : Cls) : ∀ ls, lW K c ls = .bad \/ e9 5 (y9 K c) ls = lW K c ls := cD fun a h => by
 obtain ⟨a, b, d⟩ := a
 obtain ⟨⟨a1, a2⟩, ⟨b1, b2⟩, d1, d2⟩ := h
 dsimp only at a1 a2 b1 b2 d1 d2 ⊢
 have z : ∀ {x y : Int}, Sz 5000 x -> Sz 5000 y -> Sz 60000 (x - y) := fun h1 h2 => (N.Sz.subM h1 h2).mono (by decide)
 have q1 : CMulW (b.1 - a.1) (d.2 - a.2) := ⟨z b1 a1, z d2 a2⟩
 have q2 : CMulW (b.2 - a.2) (d.1 - a.1) := ⟨z b2 a2, z d1 a1⟩
 have x0 : ∀ y : Int × Int, ixE (.p (slD y)) (.p (.int 0)) = .ok (.p (.int y.1)) := fun y => jD _ _
 have x1 : ∀ y : Int × Int, ixE (.p (slD y)) (.p (.int 1)) = .ok (.p (.int y.2)) := fun y => jN _ _ _
 refine bZ ?_
 rw [show bG 5 (eT3 (a, b, d)) = [some (.p (slD a)), some (.p (slD b)), some (.p (slD d)), none, none] from rfl]
 unfold y9
 refine (aQ (eO (d := .int ((b.1 - a.1) * (d.2 - a.2))) ?_)).trans ((aQ (eO (d := .int ((b.2 - a.2) * (d.1 - a.1))) ?_)).trans (fU ?_))
 ·ktr_call 11 ⟨x0, x1⟩
 ·ktr_call 11 ⟨x0, x1⟩
 ·walk_at "2"
  rfl
theorem aBq (K : PySem.W.Frag) (c : Cls) {a b d : Q2} (ha : GQ a) (hb : GQ b) (hd : GQ d) : lW K c [.p (slD a), .p (slD b), .p (slD d)] = .ok (.p (.int (a7 a b d))) := cC (a := (a, b, d)) aJw ⟨ha, hb, hd⟩
def eQs (ps : List Q2) : List L := [.p (.list (ps.map slD))]
theorem aI4 (a b : List Q2) (h : eQs a = eQs b) : a = b := by
 unfold eQs at h
 injection h with h _
 injection h with h
 injection h with h
 exact List.map_inj_right (fun _ _ e => lB _ _ e) |>.mp h
noncomputable def hZ (K : PySem.W.Frag) (c : Cls) : List L -> Res L := mOf eQs (fun ps => ps.length <= 1000 /\ ∀ p ∈ ps, GQ p) fun ps => .ok (.o (.list ((lM ps).reverse.map slD)))
noncomputable def eR (K : PySem.W.Frag) (c : Cls) : En -> Res Bool := (wU (bY (aH gtE (aN jT (aB (aD 1) aT)) (mC (.int 1)))) (bY (aH leE (aL 3 (lW K c) (aB (aH ixE (aD 1) (mUn kO (mC (.int 2)))) (aB (aH ixE (aD 1) (mUn kO (mC (.int 1)))) (aB (aD 2) aT)))) (mC (.int 0)))))
noncomputable def gX (K : PySem.W.Frag) (c : Cls) : MS := (aMk 1)
noncomputable def jL (K : PySem.W.Frag) (c : Cls) : MS := (cI (jX (eR K c) (gX K c)) (fF 1 (aD 2)))
noncomputable def uI (K : PySem.W.Frag) (c : Cls) : MS := (cI (dO 1 (aN iN aT)) (cI (uG (iV (aD 0)) (aM 2) (jL K c)) (eP (aD 1))))
theorem aMp (xs : List D) (a b : D) : atI (xs ++ [a, b]) (-2) = some a := by
 have hl : (xs ++ [a, b]).length = xs.length + 2 := by simp
 have e : ixN (xs ++ [a, b]).length (-2) = some xs.length := by
  unfold ixN
  rw [hl, if_neg (by decide), if_pos (by omega)]
  congr 1
  omega
 unfold atI
 rw [e]
 simp
theorem aMa (xs : List D) (a b : D) : atI (xs ++ [a, b]) (-1) = some b := by
 have := aFx (xs ++ [a]) b
 rw [List.append_assoc] at this
 exact this
theorem aFf (p : Q2) (s : List Q2) : ∀ k ∈ fL p s, k ∈ s := fun k hk => (fS p s).sublist.subset hk
theorem aE5 (K : PySem.W.Frag) (c : Cls) (Z : Option L) {p : Q2} (gp : GQ p) : ∀ (n : Nat) (s : List Q2), s.length <= n -> (∀ k ∈ s, GQ k) -> mWh (eR K c) (gX K c) (n + 1) [Z, some (.o (.list (s.reverse.map slD))), some (.p (slD p))] = some (.nx [Z, some (.o (.list ((fL p s).reverse.map slD))), some (.p (slD p))]) := by
 have hlen : ∀ s : List Q2, jT [.b (.list (s.reverse.map slD))] = .ok (.p (.int (s.length : Nat))) := fun s => by simp [jT, gP]
 have neg2 : kO (.p (.int 2)) = .ok (.p (.int (-2))) := rfl
 have neg1 : kO (.p (.int 1)) = .ok (.p (.int (-1))) := rfl
 have t1 : ∀ s : List Q2, bY (aH gtE (aN jT (aB (aD 1) aT)) (mC (.int 1))) [Z, some (.o (.list (s.reverse.map slD))), some (.p (slD p))] = .ok (decide ((1 : Int) < (s.length : Nat))) := fun s => by
  ktr_call 3 ⟨bY, aH, aN, aB, aT, aD, mC, Res.bind, Ev.c, hlen, fM, cR⟩
 have short : ∀ (n : Nat) (s : List Q2), s.length <= 1 -> mWh (eR K c) (gX K c) (n + 1) [Z, some (.o (.list (s.reverse.map slD))), some (.p (slD p))] = some (.nx [Z, some (.o (.list (s.reverse.map slD))), some (.p (slD p))]) := fun n s hs => by
  have t : eR K c [Z, some (.o (.list (s.reverse.map slD))), some (.p (slD p))] = .ok false := by
   unfold eR wU
   rw [t1 s, decide_eq_false (by omega)]
   rfl
  unfold mWh
  rw [t]
 intro n
 induction n with
 | zero =>
  intro s hs _
  have e : s = [] := List.length_eq_zero_iff.mp (by omega)
  subst e
  rw [show fL p [] = [] from by unfold fL; rfl]
  exact short 0 [] (by decide)
 | succ n ih =>
  intro s hs hg
  match s, hs, hg with
  | [], _, _ =>
   rw [show fL p [] = [] from by unfold fL; rfl]
   exact short _ [] (by decide)
  | [a], _, _ =>
   rw [show fL p [a] = [a] from by unfold fL; rfl]
   exact short _ [a] (Nat.le_refl _)
  | k1 :: k2 :: r, hs, hg =>
   have er : (k1 :: k2 :: r).reverse.map slD = (r.reverse.map slD) ++ [slD k2, slD k1] := by simp
   have i2 : ixE (.b (.list ((r.reverse.map slD) ++ [slD k2, slD k1]))) (.p (.int (-2))) = .ok (.p (slD k2)) := by simp only [ixE, gP, aMp]
   have i1 : ixE (.b (.list ((r.reverse.map slD) ++ [slD k2, slD k1]))) (.p (.int (-1))) = .ok (.p (slD k1)) := by simp only [ixE, gP, aMa]
   have tg := aBq K c (hg k2 (.tail _ (.head _))) (hg k1 (.head _)) gp
   have t2 : bY (aH leE (aL 3 (lW K c) (aB (aH ixE (aD 1) (mUn kO (mC (.int 2)))) (aB (aH ixE (aD 1) (mUn kO (mC (.int 1)))) (aB (aD 2) aT)))) (mC (.int 0))) [Z, some (.o (.list ((k1 :: k2 :: r).reverse.map slD))), some (.p (slD p))] = .ok (decide (a7 k2 k1 p <= 0)) := by
    rw [er]
    ktr_call 3 ⟨bY, aH, aL, aB, aT, aD, mUn, mC, Res.bind, Ev.c, neg2, neg1, i2, i1, fK, dX, mV, tg, nE, fM, cR⟩
   have t : eR K c [Z, some (.o (.list ((k1 :: k2 :: r).reverse.map slD))), some (.p (slD p))] = .ok (decide (a7 k2 k1 p <= 0)) := by
    unfold eR wU
    rw [t1, decide_eq_true (by simp only [List.length_cons]; omega), qS]
    exact t2
   by_cases h : a7 k2 k1 p <= 0
   ·rw [decide_eq_true h] at t
    have hp : gX K c [Z, some (.o (.list ((k1 :: k2 :: r).reverse.map slD))), some (.p (slD p))] = some (.nx [Z, some (.o (.list ((k2 :: r).reverse.map slD))), some (.p (slD p))]) := by
     have ne : (k1 :: k2 :: r).reverse.map slD ≠ [] := by simp
     have dl : ((k1 :: k2 :: r).reverse.map slD).dropLast = (k2 :: r).reverse.map slD := by
      rw [List.reverse_cons, List.map_append]
      exact List.dropLast_concat
     unfold gX aMk aAs
     simp only [List.getElem?_cons_succ, List.getElem?_cons_zero]
     rw [if_neg ne, dl]
     rfl
    have e : fL p (k1 :: k2 :: r) = fL p (k2 :: r) := by
     show (if a7 k2 k1 p <= 0 then fL p (k2 :: r) else k1 :: k2 :: r) = _
     rw [if_pos h]
    rw [e]
    unfold mWh
    rw [t]
    dsimp only
    rw [hp]
    exact ih (k2 :: r) (by simp only [List.length_cons] at hs ⊢; omega) fun k hk => hg k (.tail _ hk)
   ·rw [decide_eq_false h] at t
    have e : fL p (k1 :: k2 :: r) = k1 :: k2 :: r := by
     show (if a7 k2 k1 p <= 0 then fL p (k2 :: r) else k1 :: k2 :: r) = _
     rw [if_neg h]
    rw [e]
    unfold mWh
    rw [t]
theorem pT (K : PySem.W.Frag) (c : Cls) (Z : Option L) : ∀ (ps s : List Q2) (r : Option L), s.length + ps.length <= 2000 -> (∀ k ∈ s, GQ k) -> (∀ p ∈ ps, GQ p) -> ∃ r', dP (aM 2) (jL K c) (ps.map slD) [Z, some (.o (.list (s.reverse.map slD))), r] = some (.nx [Z, some (.o (.list ((ps.foldl pushS s).reverse.map slD))), r'])
 | [], s, r, _, _, _ => ⟨r, rfl⟩
 | p :: ps, s, r, hl, hs, hp => by
  rw [List.length_cons] at hl
  have gp := hp p (.head _)
  have w := aE5 K c Z gp (List.length s) s (Nat.le_refl _) hs
  have w := kM w
  have ll : (fL p s).length <= s.length := (fS p s).sublist.length_le
  have hb : jL K c [Z, some (.o (.list (s.reverse.map slD))), some (.p (slD p))] = some (.nx [Z, some (.o (.list ((pushS s p).reverse.map slD))), some (.p (slD p))]) := by
   unfold jL
   refine (aQ w).trans ?_
   unfold fF
   simp only [List.set_cons_succ, List.set_cons_zero, List.getElem?_cons_succ, List.getElem?_cons_zero, aD, Ev.c]
   rw [if_pos (by rw [List.length_map, List.length_reverse]; omega)]
   show some (Out.nx [Z, some (.o (.list ((fL p s).reverse.map slD ++ [slD p]))), some (.p (slD p))]) = _
   unfold pushS
   rw [List.reverse_cons, List.map_append]
   rfl
  obtain ⟨r', ih⟩ := pT K c Z ps (pushS s p) (some (.p (slD p))) (by show (fL p s).length + 1 + ps.length <= 2000; omega) (fun k hk => by
   rcases List.mem_cons.mp hk with z | z
   ·rw [z]; exact gp
   ·exact hs k (aFf p s k z)) fun q hq => hp q (.tail _ hq)
  refine ⟨r', ?_⟩
  rw [List.map_cons]
  unfold dP
  simp only [aM, List.set_cons_succ, List.set_cons_zero]
  rw [hb]
  exact ih
theorem aF6 (K : PySem.W.Frag) (c : Cls) : ∀ ls, hZ K c ls = .bad \/ e9 3 (uI K c) ls = hZ K c ls := cD fun ps h => by
 obtain ⟨hl, hg⟩ := h
 obtain ⟨r', hlp⟩ := pT K c (some (.p (.list (ps.map slD)))) ps [] none (by rw [List.length_nil]; omega) (fun _ h => nomatch h) hg
 refine bZ ?_
 rw [show bG 3 (eQs ps) = [some (.p (.list (ps.map slD))), none, none] from rfl]
 unfold uI
 refine (aQ (j7 (d := .list []) rfl)).trans ((aQ ((mF (ds := ps.map slD) rfl).trans hlp)).trans ?_)
 rfl
theorem yU (K : PySem.W.Frag) (c : Cls) {ps : List Q2} (hl : ps.length <= 1000) (hg : ∀ p ∈ ps, GQ p) : hZ K c [.p (.list (ps.map slD))] = .ok (.o (.list ((lM ps).reverse.map slD))) := cC (a := ps) aI4 ⟨hl, hg⟩
abbrev Rw := Int × (Int × Int)
def lrD (r : Rw) : D := .tuple [.int r.1, frD r.2]
theorem lrI {a b : Rw} (h : lrD a = lrD b) : a = b := by
 unfold lrD at h
 injection h with h
 injection h with h1 h2
 injection h2 with h2 _
 injection h1 with h1
 exact Prod.ext h1 (frI h2)
theorem aN4 {a b : List Rw} (h : a.map lrD = b.map lrD) : a = b := List.map_inj_right (fun _ _ e => lrI e) |>.mp h
def eLs (rs : List Rw) : List L := [.p (.list (rs.map lrD))]
theorem pW (a b : List Rw) (h : eLs a = eLs b) : a = b := by
 unfold eLs at h
 injection h with h _
 injection h with h
 injection h with h
 exact aN4 h
def eLT (a : List Rw × (Int × Int)) : List L := [.p (.list (a.1.map lrD)), .p (frD a.2)]
theorem aJ2 (a b : List Rw × (Int × Int)) (h : eLT a = eLT b) : a = b := by
 unfold eLT at h
 injection h with h1 h2
 injection h2 with h2 _
 injection h1 with h1
 injection h1 with h1
 injection h2 with h2
 exact Prod.ext (aN4 h1) (frI h2)
def lh (t : Int × Int) (r : Rw) : Int × Int := hP (hT r.1 t) r.2
def zR (rs : List Rw) (t : Int × Int) : Int × Int := best (lh t (rs.headD (0, (0, 1)))) (rs.map (lh t))
def rM (rs : List Rw) : Int := cb (rs.map (·.2))
def ptL (F : Int) (r : Rw) : Q2 := (r.1, wI r.2 F)
def aI7 (rs : List Rw) : List Int := ((lM ((rs.map (ptL (rM rs))).reverse)).reverse).map (·.1)
def gJ (rs : List Rw) : List Rw := rs.filter fun r => decide (r.1 ∈ aI7 rs)
def GLs (rs : List Rw) : Prop := rs.length <= 200 /\ ∀ r ∈ rs, Sz 100 r.1 /\ 1 <= r.2.2 /\ Sz 300 r.2.1 /\ Sz 20 r.2.2
noncomputable def bL (K : PySem.W.Frag) (c : Cls) : List L -> Res L := mOf eLs GLs fun rs => .ok (.o (.list ((gJ rs).map lrD)))
noncomputable def dE (K : PySem.W.Frag) (c : Cls) : En -> Res Ev := (aD 0)
noncomputable def dD (K : PySem.W.Frag) (c : Cls) : En -> Res Ev := (aD 0)
noncomputable def cM (K : PySem.W.Frag) (c : Cls) : En -> Res Ev := (aN dI (aB (aD 0) (aB (aL 2 (gZ K c) (aB (aD 1) (aB (aD 2) aT))) aT)))
noncomputable def cJ (K : PySem.W.Frag) (c : Cls) : En -> Res Ev := (aD 1)
noncomputable def jV (K : PySem.W.Frag) (c : Cls) : MS := (cI (dO 1 (aL 1 (bB K c) (aB (jR 2 [] (iV (aD 0)) (d8 2 (aX (aM 0) (aX (aM 1) eA))) mS (cJ K c)) aT))) (cI (dO 2 (jR 2 [1] (iV (aD 0)) (d8 2 (aX (aM 0) (aX (aM 1) eA))) mS (cM K c))) (fun en => (cI (dO 3 (jR 2 [] (iV (aL 1 (hZ K c) (aB (mUn aJe (aD 2)) aT))) (d8 2 (aX (aM 0) (aX (aM 1) eA))) mS (dD K c))) (fun en => (eP (jR 1 [3] (iV (aD 0)) (aM 0) (bY (aH (inE false) (aH ixE (aD 0) (mC (.int 0))) (aD 1))) (dE K c))) (frz 3 en))) (frz 2 en))))
theorem aNq (i : Int) (ns : List Int) : inE false (.p (.int i)) (.p (.list (ns.map .int))) = .ok (.p (.bool (decide (i ∈ ns)))) := by
 unfold inE
 simp only [gP]
 rw [if_pos ⟨rfl, by rw [List.all_eq_true]; intro x hx; obtain ⟨n, _, rfl⟩ := List.mem_map.mp hx; rfl⟩, if_neg (by decide)]
 congr 3
 rw [Bool.eq_iff_iff, List.any_eq_true, decide_eq_true_iff]
 constructor
 ·rintro ⟨x, hx, e⟩
  obtain ⟨n, hn, rfl⟩ := List.mem_map.mp hx
  rw [gW] at e
  rw [<- (beq_iff_eq.mp e)]
  exact hn
 ·intro h
  exact ⟨_, List.mem_map.mpr ⟨i, h, rfl⟩, by rw [gW]; exact beq_self_eq_true i⟩
theorem nG (K : PySem.W.Frag) (c : Cls) : ∀ ls, bL K c ls = .bad \/ e9 4 (jV K c) ls = bL K c ls := cD fun rs h => by
 obtain ⟨hl, hz⟩ := h
 have FC : CbP (rs.map (·.2)) := ⟨20, by decide, by rw [List.length_map]; omega, fun x hx => by
  obtain ⟨r, hr, rfl⟩ := List.mem_map.mp hx
  exact ⟨(hz r hr).2.1, (hz r hr).2.2.2⟩⟩
 obtain ⟨F1, _, Fd, FS⟩ := aH0 (b := 20) (rs.map (·.2)) 1 1 (Int.le_refl 1) (aLo _ (by decide)) (fun x hx => by
  obtain ⟨r, hr, rfl⟩ := List.mem_map.mp hx
  exact ⟨(hz r hr).2.1, (hz r hr).2.2.2⟩)
 have FS : Sz 4200 (rM rs) := FS.mono (by rw [List.length_map]; omega)
 have hcb := zT K c FC
 have gh : ∀ r ∈ rs, Good 400 r.2 := fun r hr => ⟨(hz r hr).2.1, (hz r hr).2.2.1.mono (by decide), (hz r hr).2.2.2.mono (by decide)⟩
 have gq : ∀ r ∈ rs, GQ (ptL (rM rs) r) := fun r hr => ⟨(hz r hr).1.mono (by decide), (Sz.mul (hz r hr).2.2.1 (Sz.le FS (natAbs_fdiv_le _ _))).mono (by decide)⟩
 have hw := fun r (hr : r ∈ rs) => pU K c (gh r hr) (FS.mono (show 4200 <= 41000 by decide))
 have hch := yU K c (ps := (rs.map (ptL (rM rs))).reverse) (by rw [List.length_reverse, List.length_map]; omega) (fun p hp => by
  obtain ⟨r, hr, rfl⟩ := List.mem_map.mp (List.mem_reverse.mp hp)
  exact gq r hr)
 have hcb : bB K c [.p (.list ((rs.map (·.2)).map frD))] = .ok (.p (.int (rM rs))) := hcb
 unfold gJ aI7
 generalize rM rs = F at *
 refine bZ ?_
 rw [show bG 4 (eLs rs) = [some (.p (.list (rs.map lrD))), none, none, none] from rfl]
 have hm4 : sM (cA 2 [] (d8 2 (aX (aM 0) (aX (aM 1) eA))) mS (cJ K c) [some (.p (.list (rs.map lrD))), none, none, none]) (rs.map lrD) = some (rs.map fun r => frD r.2) := by
  refine g8 _ fun r hr => ?_
  simp [cA, d8, aX, eA, aM, uK, mS, cJ, aD, Ev.c, lrD]
 have hc4 := nO (n := 2) (js := []) (fi := iV (aD 0)) (tg := d8 2 (aX (aM 0) (aX (aM 1) eA))) (ft := mS) (fe := cJ K c) (en := [some (.p (.list (rs.map lrD))), none, none, none]) (ds := rs.map lrD) rfl (by rw [List.length_map]; omega) hm4
 rw [show (rs.map fun r => frD r.2) = (rs.map (·.2)).map frD by rw [List.map_map]; rfl] at hc4
 have e1 : (aL 1 (bB K c) (aB (jR 2 [] (iV (aD 0)) (d8 2 (aX (aM 0) (aX (aM 1) eA))) mS (cJ K c)) aT)) [some (.p (.list (rs.map lrD))), none, none, none] = .ok (.p (.int F)) := by
  simp only [aL, aB, aT, hc4, Res.bind, Ev.c, fK, dX, mV, List.length_cons, List.length_nil, hcb, nE]
  rfl
 have hm3 : sM (cA 2 [1] (d8 2 (aX (aM 0) (aX (aM 1) eA))) mS (cM K c) [some (.p (.list (rs.map lrD))), some (.p (.int F)), none, none]) (rs.map lrD) = some (rs.map fun r => slD (ptL F r)) := by
  refine g8 _ fun r hr => ?_
  have w := hw r hr
  have he : cM K c [some (.p (.int r.1)), some (.p (frD r.2)), some (.p (.int F))] = .ok (.p (slD (ptL F r))) := by
   ktr_call 2 ⟨cM, w⟩
   rfl
  simp [cA, d8, aX, eA, aM, uK, aFc, mS, he, Ev.c, lrD]
 have hc3 := nO (n := 2) (js := [1]) (fi := iV (aD 0)) (tg := d8 2 (aX (aM 0) (aX (aM 1) eA))) (ft := mS) (fe := cM K c) (en := [some (.p (.list (rs.map lrD))), some (.p (.int F)), none, none]) (ds := rs.map lrD) rfl (by rw [List.length_map]; omega) hm3
 rw [show (rs.map fun r => slD (ptL F r)) = (rs.map (ptL F)).map slD by rw [List.map_map]; rfl] at hc3
 refine (aQ (eO e1)).trans ((aQ (j7 hc3)).trans ?_)
 simp only [List.set_cons_succ, List.set_cons_zero, frz, List.getElem?_cons_succ, List.getElem?_cons_zero]
 have hrv : aJe (.p (.list ((rs.map (ptL F)).map slD))) = .ok (.f (.list ((rs.map (ptL F)).reverse.map slD))) := by
  simp only [aJe, gH]
  rw [List.map_reverse]
 have hlc : (lM ((rs.map (ptL F)).reverse)).length <= 1000 := by
  have : ∀ (ps s : List Q2), (ps.foldl pushS s).length <= s.length + ps.length := by
   intro ps
   induction ps with
   | nil => intro s; exact Nat.le_refl _
   | cons p ps ih =>
    intro s
    have := ih (pushS s p)
    have ll : (fL p s).length <= s.length := (fS p s).sublist.length_le
    have : (pushS s p).length = (fL p s).length + 1 := rfl
    rw [List.foldl_cons, List.length_cons]
    omega
  have := this ((rs.map (ptL F)).reverse) []
  rw [List.length_reverse, List.length_map, List.length_nil] at this
  unfold lM
  omega
 generalize lM ((rs.map (ptL F)).reverse) = ch at hch hlc ⊢
 have hit : (iV (aL 1 (hZ K c) (aB (mUn aJe (aD 2)) aT))) [some (.p (.list (rs.map lrD))), some (.p (.int F)), some (.p (.list ((rs.map (ptL F)).map slD))), none] = .ok (ch.reverse.map slD) := by
  simp only [iV, aL, aB, aT, mUn, aD, List.getElem?_cons_succ, List.getElem?_cons_zero, Res.bind, Ev.c, hrv, fK, dX, mV, List.length_cons, List.length_nil]
  rw [if_pos (by decide), hch]
  rfl
 have hm2 : sM (cA 2 [] (d8 2 (aX (aM 0) (aX (aM 1) eA))) mS (dD K c) [some (.p (.list (rs.map lrD))), some (.p (.int F)), some (.p (.list ((rs.map (ptL F)).map slD))), none]) (ch.reverse.map slD) = some (ch.reverse.map fun q => .int q.1) := by
  refine g8 _ fun r hr => ?_
  simp [cA, d8, aX, eA, aM, uK, mS, dD, aD, Ev.c, slD]
 have hc2 := nO (n := 2) (js := []) (fi := iV (aL 1 (hZ K c) (aB (mUn aJe (aD 2)) aT))) (tg := d8 2 (aX (aM 0) (aX (aM 1) eA))) (ft := mS) (fe := dD K c) (en := [some (.p (.list (rs.map lrD))), some (.p (.int F)), some (.p (.list ((rs.map (ptL F)).map slD))), none]) hit (by rw [List.length_map, List.length_reverse]; omega) hm2
 rw [show (ch.reverse.map fun q => PyData.int q.1) = (ch.reverse.map (·.1)).map .int by rw [List.map_map]; rfl] at hc2
 refine (aQ (j7 hc2)).trans ?_
 simp only [List.set_cons_succ, List.set_cons_zero, frz, List.getElem?_cons_succ, List.getElem?_cons_zero]
 generalize ch.reverse.map (·.1) = ks
 have hm1 : sM (cA 1 [3] (aM 0) (bY (aH (inE false) (aH ixE (aD 0) (mC (.int 0))) (aD 1))) (dE K c) [some (.p (.list (rs.map lrD))), some (.p (.int F)), some (.p (.list ((rs.map (ptL F)).map slD))), some (.p (.list (ks.map .int)))]) (rs.map lrD) = some ((rs.filter fun r => decide (r.1 ∈ ks)).map lrD) := by
  refine vX _ fun r hr => ?_
  have i0 : ixE (.p (lrD r)) (.p (.int 0)) = .ok (.p (.int r.1)) := jD _ _
  have ii := aNq r.1 ks
  by_cases hq : r.1 ∈ ks
  ·rw [decide_eq_true hq] at ii
   simp [cA, aM, uK, aFc, dE, bY, aH, aD, mC, Res.bind, Ev.c, i0, ii, cR, hq]
  ·rw [decide_eq_false hq] at ii
   simp [cA, aM, uK, aFc, dE, bY, aH, aD, mC, Res.bind, Ev.c, i0, ii, cR, hq]
 exact aHr (nO (n := 1) (js := [3]) (fi := iV (aD 0)) rfl (by rw [List.length_map]; omega) hm1)
theorem aC9 (K : PySem.W.Frag) (c : Cls) {rs : List Rw} (h : GLs rs) : bL K c [.p (.list (rs.map lrD))] = .ok (.o (.list ((gJ rs).map lrD))) := cC (a := rs) pW h
structure gA (K : PySem.W.Frag) (c : Cls) : Prop where
 ii : PySem.W.kitOne K (.type "int") (.type "int") = some true
 ib : PySem.W.kitOne K (.type "int") (.type "bool") = some false
 tt : PySem.W.kitOne K (.type "tuple") (.type "tuple") = some true
 ll : PySem.W.kitOne K (.type "list") (.type "list") = some true
noncomputable def gM (K : PySem.W.Frag) (c : Cls) : MS := (cI (kF (bY (aH ltE (aD 1) (aN jT (aB (aD 0) aT)))) (eP (aH ixE (aD 0) (aD 1))) fE) (eP (mC (.int 0))))
noncomputable def bH (K : PySem.W.Frag) (c : Cls) (ls : List L) : Res L := e9 2 (gM K c) ls
theorem n6 (K : PySem.W.Frag) (c : Cls) : ∀ ls, bH K c ls = .bad \/ e9 2 (gM K c) ls = bH K c ls := fun _ => .inr rfl
theorem aK2 {ns : List Int} {k : Nat} (h : k < ns.length) : atI (ns.map PyData.int) (k : Int) = some (.int (ns.getD k 0)) := by
 have : ns.getD k 0 = ns[k] := by simp [List.getD, h]
 rw [this]
 exact qQ (by rw [List.getElem?_map, List.getElem?_eq_getElem h]; rfl)
theorem zP (K : PySem.W.Frag) (c : Cls) (ns : List Int) (k : Nat) : bH K c [.p (.list (ns.map .int)), .p (.int (k : Int))] = .ok (.p (.int (ns.getD k 0))) := by
 have hlen : jT [.p (.list (ns.map .int))] = .ok (.p (.int (ns.length : Nat))) := by simp [jT, gP]
 unfold bH
 refine bZ ?_
 rw [show bG 2 [.p (.list (ns.map .int)), .p (.int (k : Int))] = [some (.p (.list (ns.map .int))), some (.p (.int (k : Int)))] from rfl]
 have ht : bY (aH ltE (aD 1) (aN jT (aB (aD 0) aT))) [some (.p (.list (ns.map .int))), some (.p (.int (k : Int)))] = .ok (decide (k < ns.length)) := by
  simp [bY, aH, aD, aN, aB, aT, Res.bind, Ev.c, hlen, fM, cR]
 by_cases hk : k < ns.length
 ·rw [decide_eq_true hk] at ht
  refine (aC8 ((aB0 ht).trans ?_))
  simp [eP, aH, aD, Res.bind, Ev.c, ixE, gP, aK2 hk, aFq]
 ·rw [decide_eq_false hk] at ht
  refine (aQ (uA ht)).trans ?_
  have : ns.getD k 0 = 0 := by simp [List.getD, Nat.le_of_not_lt hk]
  rw [this]
  rfl
noncomputable def a8 (K : PySem.W.Frag) (c : Cls) : List L -> Res L := mOf (fun i : Int => [.p (.int i)]) (fun _ => True) fun _ => .ok (.p (.bool true))
noncomputable def i6 (K : PySem.W.Frag) (c : Cls) : MS := (eP (oU (mUn (lN K (.type "int")) (aD 0)) (qM (mUn (lN K (.type "bool")) (aD 0)))))
theorem rH (K : PySem.W.Frag) (c : Cls) (hk : gA K c) : ∀ ls, a8 K c ls = .bad \/ e9 1 (i6 K c) ls = a8 K c ls := cD fun i _ => by
 unfold e9
 rw [show bG 1 [.p (.int i)] = [some (.p (.int i))] from rfl]
 simp [i6, cI, dO, eP, kF, aD, mC, aH, mUn, aB, aT, aL, fK, dX, mV, aBf, Res.bind, Ev.c, aFq, nE, aN, dI, iN, k9, bY, cR, wU, mOr, gY, oU, aI8, qM, jW, fE, gR, fM, kO, gH, dat, jT, eqE, iM, gW, oH, nN, nS, kY, kI, jD, jN, nR, lN, tyD, hk.ii, hk.ib]
theorem kJ (K : PySem.W.Frag) (c : Cls) (i : Int) : a8 K c [.p (.int i)] = .ok (.p (.bool true)) := cC (a := i) (fun a b h => by injection h with h _; injection h with h; injection h) trivial
noncomputable def aW (K : PySem.W.Frag) (c : Cls) : List L -> Res L := mOf eII (fun a => a.2 ≠ 0 /\ Sz 8000 a.2) fun a => .ok (.p (frD (FR.mk a.1 a.2)))
noncomputable def iK (K : PySem.W.Frag) (c : Cls) : En -> Res Bool := (bY (aH (eqE true) (aD 3) (mC (.int 0))))
noncomputable def iL (K : PySem.W.Frag) (c : Cls) : MS := (cI (dO 4 (aH mQ (aD 2) (aD 3))) (cI (dO 2 (aD 3)) (dO 3 (aD 4))))
noncomputable def g6 (K : PySem.W.Frag) (c : Cls) : MS := (cI (dO 2 (aN aHg (aB (aD 0) aT))) (cI (dO 3 (aN aHg (aB (aD 1) aT))) (cI (jX (iK K c) (iL K c)) (cI (kF (bY (aH ltE (aD 1) (mC (.int 0)))) (dO 2 (mUn kO (aD 2))) fE) (eP (aN dI (aB (aH rL (aD 0) (aD 2)) (aB (aH rL (aD 1) (aD 2)) aT))))))))
theorem o3 (K : PySem.W.Frag) (c : Cls) : ∀ ls, aW K c ls = .bad \/ e9 5 (g6 K c) ls = aW K c ls := cD fun x h => by
 obtain ⟨t, b⟩ := x
 obtain ⟨hb, hz⟩ := h
 dsimp only at hb hz ⊢
 obtain ⟨r', h⟩ := aKy K c (some (.p (.int t))) (some (.p (.int b))) _ (if t < 0 then -t else t) (if b < 0 then -b else b) none (by split <;> omega) (by split <;> omega) (Nat.le_refl _)
 have h := kM h
 rw [FR.aBh] at h
 have h : jX (iK K c) (iL K c) _ = _ := h
 obtain ⟨q1, q2⟩ := aMo t hb hz
 have q1' : mE b ((Int.gcd t b : Nat) : Int) := q1
 have q2' : mE b (-((Int.gcd t b : Nat) : Int)) := q2
 refine bZ ?_
 rw [show bG 5 (eII (t, b)) = [some (.p (.int t)), some (.p (.int b)), none, none, none] from rfl]
 unfold g6
 refine (aQ (eO (d := .int (if t < 0 then -t else t)) rfl)).trans ((aQ (eO (d := .int (if b < 0 then -b else b)) rfl)).trans ((aQ h).trans ?_))
 have t1 : bY (aH ltE (aD 1) (mC (.int 0))) [some (.p (.int t)), some (.p (.int b)), some (.p (.int (Int.gcd t b : Nat))), some (.p (.int 0)), r'] = .ok (decide (b < 0)) := by
  ktr_call 3 ⟨bY, aH, aD, mC, Res.bind, Ev.c, fM, cR⟩
 by_cases hn : b < 0
 ·rw [decide_eq_true hn] at t1
  have es : FR.mk t b = (t.fdiv (-((Int.gcd t b : Nat) : Int)), b.fdiv (-((Int.gcd t b : Nat) : Int))) := by unfold FR.mk FR.sgn; rw [if_pos hn]
  refine (aQ ((aB0 t1).trans (eO (d := .int (-((Int.gcd t b : Nat) : Int))) rfl))).trans (fU ?_)
  rw [es]
  ktr_call 11 ⟨frD⟩
 ·rw [decide_eq_false hn] at t1
  have es : FR.mk t b = (t.fdiv ((Int.gcd t b : Nat) : Int), b.fdiv ((Int.gcd t b : Nat) : Int)) := by unfold FR.mk FR.sgn; rw [if_neg hn]
  refine (aQ (uA t1)).trans (fU ?_)
  rw [es]
  ktr_call 11 ⟨frD⟩
theorem pO (K : PySem.W.Frag) (c : Cls) {t b : Int} (h0 : b ≠ 0) (h1 : Sz 8000 b) : aW K c [.p (.int t), .p (.int b)] = .ok (.p (frD (FR.mk t b))) := cC (a := (t, b)) u9 ⟨h0, h1⟩
noncomputable def aR (K : PySem.W.Frag) (c : Cls) : List L -> Res L := mOf eFF (fun a => FSz 2000 a.1 /\ FSz 2000 a.2) fun a => .ok (.p (.bool (ltF a.1 a.2)))
noncomputable def iI (K : PySem.W.Frag) (c : Cls) : MS := (eP (aH ltE (aH kG (aH ixE (aD 0) (mC (.int 0))) (aH ixE (aD 1) (mC (.int 1)))) (aH kG (aH ixE (aD 1) (mC (.int 0))) (aH ixE (aD 0) (mC (.int 1))))))
theorem pC (K : PySem.W.Frag) (c : Cls) : ∀ ls, aR K c ls = .bad \/ e9 2 (iI K c) ls = aR K c ls := cD fun a h => by
 obtain ⟨x, y⟩ := a
 obtain ⟨⟨x1, x2⟩, ⟨y1, y2⟩⟩ := h
 dsimp only at x1 x2 y1 y2 ⊢
 refine bZ ?_
 rw [show bG 2 (eFF (x, y)) = [some (.p (frD x)), some (.p (frD y))] from rfl]
 unfold iI
 walk_at "1d"
 rfl
theorem kL (K : PySem.W.Frag) (c : Cls) {x y : Int × Int} (hx : FSz 2000 x) (hy : FSz 2000 y) : aR K c [.p (frD x), .p (frD y)] = .ok (.p (.bool (ltF x y))) := cC (a := (x, y)) lJ ⟨hx, hy⟩
theorem aI6 {x : Int × Int} (h : FR.Fr x) : FR.mk x.1 x.2 = x := by
 have p := h.pos
 obtain ⟨f, e⟩ := FR.aC5 (t := x.1) (b := x.2) (by omega)
 exact wL f h (Int.le_of_eq e) (Int.le_of_eq e.symm)
def eF1 (x : Int × Int) : List L := [.p (frD x)]
theorem aKc (a b : Int × Int) (h : eF1 a = eF1 b) : a = b := by
 unfold eF1 at h
 injection h with h _
 injection h with h
 exact frI h
noncomputable def aV (K : PySem.W.Frag) (c : Cls) : List L -> Res L := mOf eF1 (fun x => FR.Fr x /\ Sz 8000 x.2) fun _ => .ok (.p (.bool true))
noncomputable def eB (K : PySem.W.Frag) (c : Cls) : MS := (cI (kF (mOr (gY (bY (mUn (lN K (.type "tuple")) (aD 0)))) (mOr (bY (aH (eqE true) (aN jT (aB (aD 0) aT)) (mC (.int 2)))) (mOr (gY (bY (aL 1 (a8 K c) (aB (aH ixE (aD 0) (mC (.int 0))) aT)))) (gY (bY (aL 1 (a8 K c) (aB (aH ixE (aD 0) (mC (.int 1))) aT))))))) (eP (mC (.bool false))) fE) (eP (oU (aH gtE (aH ixE (aD 0) (mC (.int 1))) (mC (.int 0))) (aH (eqE false) (aL 2 (aW K c) (aB (aH ixE (aD 0) (mC (.int 0))) (aB (aH ixE (aD 0) (mC (.int 1))) aT))) (aD 0)))))
theorem jZ (K : PySem.W.Frag) (c : Cls) (hk : gA K c) : ∀ ls, aV K c ls = .bad \/ e9 1 (eB K c) ls = aV K c ls := cD fun x h => by
 obtain ⟨hf, hz⟩ := h
 have p := hf.pos
 have l := pO K c (t := x.1) (b := x.2) (by omega) hz
 rw [aI6 hf] at l
 have w1 := kJ K c x.1
 have w2 := kJ K c x.2
 have i1 : lN K (.type "tuple") (.p (frD x)) = .ok (.p (.bool true)) := by simp [lN, dat, frD, tyD, hk.tt]
 have e1 : jT [.p (frD x)] = .ok (.p (.int 2)) := by simp [jT, gP, frD]
 have e2 : eqE true (.p (.int 2)) (.p (.int 2)) = .ok (.p (.bool false)) := by simp [eqE, dat, iM, gW]
 have e3 : eqE false (.p (frD x)) (.p (frD x)) = .ok (.p (.bool true)) := jF rfl rfl (aNl x) false
 refine bZ ?_
 rw [show bG 1 (eF1 x) = [some (.p (frD x))] from rfl]
 unfold eB
 have t1 : (mOr (gY (bY (mUn (lN K (.type "tuple")) (aD 0)))) (mOr (bY (aH (eqE true) (aN jT (aB (aD 0) aT)) (mC (.int 2)))) (mOr (gY (bY (aL 1 (a8 K c) (aB (aH ixE (aD 0) (mC (.int 0))) aT)))) (gY (bY (aL 1 (a8 K c) (aB (aH ixE (aD 0) (mC (.int 1))) aT))))))) [some (.p (frD x))] = .ok false := by
  ktr_call 3 ⟨mOr, gY, bY, mUn, aH, aL, aN, aB, aT, aD, mC, fK, dX, mV, Res.bind, Ev.c, i1, e1, e2, kY, kI, w1, w2, nE, cR, Bool.not_true⟩
 refine (aQ (uA t1)).trans (fU ?_)
 ktr_call 3 ⟨oU, aH, aL, aB, aT, aD, mC, fM, fK, dX, mV, Res.bind, Ev.c, kY, kI, l, nE, e3, decide_eq_true (show 0 < x.2 by omega)⟩
theorem aAh (K : PySem.W.Frag) (c : Cls) {x : Int × Int} (h : FR.Fr x) (hz : Sz 8000 x.2) : aV K c [.p (frD x)] = .ok (.p (.bool true)) := cC (a := x) aKc ⟨h, hz⟩
noncomputable def bR (K : PySem.W.Frag) (c : Cls) : List L -> Res L := mOf eFF (fun a => Good 2000 a.1 /\ Good 2000 a.2) fun a => .ok (.p (frD (hP a.1 a.2)))
noncomputable def lF (K : PySem.W.Frag) (c : Cls) : MS := (eP (aL 2 (aW K c) (aB (aH gR (aH kG (aH ixE (aD 0) (mC (.int 0))) (aH ixE (aD 1) (mC (.int 1)))) (aH kG (aH ixE (aD 1) (mC (.int 0))) (aH ixE (aD 0) (mC (.int 1))))) (aB (aH kG (aH ixE (aD 0) (mC (.int 1))) (aH ixE (aD 1) (mC (.int 1)))) aT))))
theorem uW (K : PySem.W.Frag) (c : Cls) : ∀ ls, bR K c ls = .bad \/ e9 2 (lF K c) ls = bR K c ls := cD fun a h => by
 obtain ⟨x, y⟩ := a
 obtain ⟨g1, g2⟩ := h
 obtain ⟨x0, x1, x2⟩ := id g1
 obtain ⟨y0, y1, y2⟩ := id g2
 dsimp only at g1 g2 x0 x1 x2 y0 y1 y2 ⊢
 have l := pO K c (t := x.1 * y.2 + y.1 * x.2) (b := x.2 * y.2) (g1.ne g2) ((Sz.mul x2 y2).mono (by decide))
 refine bZ ?_
 rw [show bG 2 (eFF (x, y)) = [some (.p (frD x)), some (.p (frD y))] from rfl]
 unfold lF
 refine fU ?_
 ktr_call 21 ⟨l⟩
 rfl
theorem qR (K : PySem.W.Frag) (c : Cls) {m n : Nat} {x y : Int × Int} (hx : Good m x) (hy : Good n y) (h1 : m <= 2000) (h2 : n <= 2000) : bR K c [.p (frD x), .p (frD y)] = .ok (.p (frD (hP x y))) := cC (a := (x, y)) lJ ⟨hx.mono h1, hy.mono h2⟩
noncomputable def bI (K : PySem.W.Frag) (c : Cls) : List L -> Res L := mOf eFF (fun a => Good 2000 a.1 /\ Good 2000 a.2) fun a => .ok (.p (frD (FR.mk (a.1.1 * a.2.1) (a.1.2 * a.2.2))))
noncomputable def gL (K : PySem.W.Frag) (c : Cls) : MS := (eP (aL 2 (aW K c) (aB (aH kG (aH ixE (aD 0) (mC (.int 0))) (aH ixE (aD 1) (mC (.int 0)))) (aB (aH kG (aH ixE (aD 0) (mC (.int 1))) (aH ixE (aD 1) (mC (.int 1)))) aT))))
theorem oC (K : PySem.W.Frag) (c : Cls) : ∀ ls, bI K c ls = .bad \/ e9 2 (gL K c) ls = bI K c ls := cD fun a h => by
 obtain ⟨x, y⟩ := a
 obtain ⟨g1, g2⟩ := h
 obtain ⟨x0, x1, x2⟩ := id g1
 obtain ⟨y0, y1, y2⟩ := id g2
 dsimp only at g1 g2 x0 x1 x2 y0 y1 y2 ⊢
 have l := pO K c (t := x.1 * y.1) (b := x.2 * y.2) (g1.ne g2) ((Sz.mul x2 y2).mono (by decide))
 refine bZ ?_
 rw [show bG 2 (eFF (x, y)) = [some (.p (frD x)), some (.p (frD y))] from rfl]
 unfold gL
 refine fU ?_
 ktr_call 21 ⟨l⟩
theorem qN (K : PySem.W.Frag) (c : Cls) {n : Nat} {i : Int} {y : Int × Int} (hi : Sz 2000 i) (hy : Good n y) (h2 : n <= 2000) : bI K c [.p (.tuple [.int i, .int 1]), .p (frD y)] = .ok (.p (frD (FR.mk (i * y.1) (1 * y.2)))) := cC (a := ((i, 1), y)) lJ ⟨⟨Int.le_refl 1, hi, aBl⟩, hy.mono h2⟩
noncomputable def jG (K : PySem.W.Frag) (c : Cls) : MS := (cI (dO 2 (aH gR (aH gR (aH kG (aH mQ (aD 0) (aH aDi (mC (.int 10)) (mC (.int 18)))) (aH gR (aH kG (mC (.int 2)) (aD 1)) (mC (.int 48271)))) (aH kG (aH kG (mC (.int 7919)) (aD 1)) (aD 1))) (aD 1))) (eP (aH mQ (aH kG (aH mQ (aD 2) (mC (.int 2147483647))) (mC (.int 69621))) (mC (.int 2147483629)))))
noncomputable def bF (K : PySem.W.Frag) (c : Cls) (ls : List L) : Res L := e9 3 (jG K c) ls
theorem u5 (K : PySem.W.Frag) (c : Cls) : ∀ ls, bF K c ls = .bad \/ e9 3 (jG K c) ls = bF K c ls := fun _ => .inr rfl
theorem nT (K : PySem.W.Frag) (c : Cls) (cell : Int) {k : Int} (k0 : 0 <= k) (k1 : k <= 100) : ∃ v : Int, 0 <= v /\ v < 2147483629 /\ bF K c [.p (.int cell), .p (.int k)] = .ok (.p (.int v)) := by
 have p18 : aJp 10 18 := ⟨by decide, by decide, by decide⟩
 have kz : Sz 20 k := by unfold Sz; omega
 have pn : (10 : Int) ^ Int.toNat 18 ≠ 0 := by decide
 have cz : Sz 100 (cell.fmod (10 ^ Int.toNat 18)) := rC (by decide) (by unfold Sz; decide)
 generalize hC : cell.fmod (10 ^ Int.toNat 18) = C at cz
 refine ⟨(((C * (2 * k + 48271) + 7919 * k * k + k).fmod 2147483647) * 69621).fmod 2147483629, (dU (by decide)).1, (dU (by decide)).2, ?_⟩
 have z1 : Sz 40 ((C * (2 * k + 48271) + 7919 * k * k + k).fmod 2147483647) := rC (by decide) (by unfold Sz; decide)
 have sl : ∀ {x : Int}, Sz 50 x -> Sz 60000 x := fun h => h.mono (by decide)
 have q1 : CMulW 2 k := ⟨sl (by unfold Sz; decide), kz.mono (by decide)⟩
 have q2 : CMulW C (2 * k + 48271) := ⟨cz.mono (by decide), sl (by unfold Sz; omega)⟩
 have q3 : CMulW 7919 k := ⟨sl (by unfold Sz; decide), kz.mono (by decide)⟩
 have q4 : CMulW (7919 * k) k := ⟨sl (by unfold Sz; omega), kz.mono (by decide)⟩
 have q5 : CMulW ((C * (2 * k + 48271) + 7919 * k * k + k).fmod 2147483647) 69621 := ⟨z1.mono (by decide), sl (by unfold Sz; decide)⟩
 have n1 : (2147483647 : Int) ≠ 0 := by decide
 have n2 : (2147483629 : Int) ≠ 0 := by decide
 unfold bF
 refine bZ ?_
 rw [show bG 3 [.p (.int cell), .p (.int k)] = [some (.p (.int cell)), some (.p (.int k)), none] from rfl]
 unfold jG
 refine (aQ (eO (d := .int (C * (2 * k + 48271) + 7919 * k * k + k)) ?_)).trans (fU ?_)
 ·ktr_call 11 ⟨hC⟩
 ·walk_at "1a"
noncomputable def eK (K : PySem.W.Frag) (c : Cls) : MS := (cI (dO 2 (aH mQ (aL 2 (bF K c) (aB (aD 0) (aB (aD 1) aT))) (mC (.int 5)))) (cI (kF (bY (aH (eqE false) (aD 2) (mC (.int 0)))) (eP (aL 2 (aW K c) (aB (aH mX (aH mQ (aH gR (aH jS (aD 0) (mC (.int 48271))) (aD 1)) (aH gR (aH jS (mC (.int 2)) (aH aDi (mC (.int 10)) (mC (.int 20)))) (mC (.int 1)))) (aH aDi (mC (.int 10)) (mC (.int 20)))) (aB (aH gR (mC (.int 1)) (aH mQ (aL 2 (bF K c) (aB (aD 0) (aB (aH gR (aD 1) (mC (.int 1))) aT))) (mC (.int 12)))) aT)))) fE) (cI (kF (bY (aH (eqE false) (aD 2) (mC (.int 1)))) (eP (aL 2 (aW K c) (aB (aH mX (aH mQ (aL 2 (bF K c) (aB (aD 0) (aB (aH gR (aD 1) (mC (.int 2))) aT))) (mC (.int 41))) (mC (.int 20))) (aB (aH gR (mC (.int 1)) (aH mQ (aL 2 (bF K c) (aB (aD 0) (aB (aH gR (aD 1) (mC (.int 3))) aT))) (mC (.int 6)))) aT)))) fE) (eP (aN dI (aB (aH mX (aH mQ (aL 2 (bF K c) (aB (aD 0) (aB (aH gR (aD 1) (mC (.int 4))) aT))) (mC (.int 5))) (mC (.int 2))) (aB (mC (.int 1)) aT)))))))
noncomputable def bJ (K : PySem.W.Frag) (c : Cls) (ls : List L) : Res L := e9 3 (eK K c) ls
theorem o8 (K : PySem.W.Frag) (c : Cls) : ∀ ls, bJ K c ls = .bad \/ e9 3 (eK K c) ls = bJ K c ls := fun _ => .inr rfl
structure GN (h : Int × Int) : Prop where
 f : FR.Fr h
 t : Sz 80 h.1
 b : Sz 6 h.2
theorem aG2 {t : Int} (ht : Sz 80 t) : GN (t, 1) := ⟨⟨Int.le_refl 1, Int.gcd_one⟩, ht, (show Sz 6 (1 : Int) by unfold Sz; decide)⟩
theorem aL0 {t b : Int} (h0 : b ≠ 0) (ht : Sz 80 t) (hb : Sz 6 b) : GN (FR.mk t b) := ⟨(FR.aC5 h0).1, Sz.le ht (natAbs_fdiv_le _ _), Sz.le hb (natAbs_fdiv_le _ _)⟩
theorem GN.good {h : Int × Int} (g : GN h) : Good 80 h := ⟨g.f.pos, g.t, g.b.mono (by decide)⟩
theorem tM (K : PySem.W.Frag) (c : Cls) (cell : Int) {k : Int} (k0 : 0 <= k) (k1 : k <= 90) : ∃ x, GN x /\ bJ K c [.p (.int cell), .p (.int k)] = .ok (.p (frD x)) := by
 obtain ⟨v0, a0, b0, e0⟩ := nT K c cell (k := k) k0 (by omega)
 obtain ⟨v1, a1, b1, e1⟩ := nT K c cell (k := k + 1) (by omega) (by omega)
 obtain ⟨v2, a2, b2, e2⟩ := nT K c cell (k := k + 2) (by omega) (by omega)
 obtain ⟨v3, a3, b3, e3⟩ := nT K c cell (k := k + 3) (by omega) (by omega)
 obtain ⟨v4, a4, b4, e4⟩ := nT K c cell (k := k + 4) (by omega) (by omega)
 have p20 : aJp 10 20 := ⟨by decide, by decide, by decide⟩
 have m12 := dU (a := v1) (b := 12) (by decide)
 have m41 := dU (a := v2) (b := 41) (by decide)
 have m6 := dU (a := v3) (b := 6) (by decide)
 have m5 := dU (a := v4) (b := 5) (by decide)
 have x1 : jS (.p (.int cell)) (.p (.int 48271)) = .ok (.p (.int (cell * 48271))) := aHc (by decide) (by decide)
 have x2 : jS (.p (.int 2)) (.p (.int (10 ^ Int.toNat 20))) = .ok (.p (.int (2 * 10 ^ Int.toNat 20))) := rB (.inr (.inl ⟨by decide, by decide⟩))
 have n1 : (2 * 10 ^ Int.toNat 20 + 1 : Int) ≠ 0 := by decide
 have mm := dU (a := cell * 48271 + k) (b := 2 * 10 ^ Int.toNat 20 + 1) (by decide)
 have pw : (10 : Int) ^ Int.toNat 20 = 100000000000000000000 := by decide
 have l0 := pO K c (t := (cell * 48271 + k).fmod (2 * 10 ^ Int.toNat 20 + 1) - 10 ^ Int.toNat 20) (b := 1 + v1.fmod 12) (by omega) (by unfold Sz; omega)
 have l1 := pO K c (t := v2.fmod 41 - 20) (b := 1 + v3.fmod 6) (by omega) (by unfold Sz; omega)
 have d5 : (5 : Int) ≠ 0 := by decide
 have d12 : (12 : Int) ≠ 0 := by decide
 have d41 : (41 : Int) ≠ 0 := by decide
 have d6 : (6 : Int) ≠ 0 := by decide
 unfold bJ
 suffices h : ∃ x, GN x /\ eK K c (bG 3 [.p (.int cell), .p (.int k)]) = some (.rt (.p (frD x))) from let ⟨x, g, e⟩ := h; ⟨x, g, bZ e⟩
 rw [show bG 3 [.p (.int cell), .p (.int k)] = [some (.p (.int cell)), some (.p (.int k)), none] from rfl]
 unfold eK
 have s0 : (aH mQ (aL 2 (bF K c) (aB (aD 0) (aB (aD 1) aT))) (mC (.int 5))) [some (.p (.int cell)), some (.p (.int k)), none] = .ok (.p (.int (v0.fmod 5))) := by
  ktr_call 11 ⟨e0⟩
 have tt : ∀ (w n : Int), bY (aH (eqE false) (aD 2) (mC (.int n))) [some (.p (.int cell)), some (.p (.int k)), some (.p (.int w))] = .ok (w == n) := fun w n => by
  ktr_call 3 ⟨bY, aH, aD, mC, Res.bind, Ev.c, eqE, dat, iM, gW, cR⟩
  rfl
 generalize v0.fmod 5 = w at s0
 by_cases h0 : (w == 0) = true
 ·have t0 := tt w 0
  rw [h0] at t0
  refine ⟨_, aL0 (t := (cell * 48271 + k).fmod (2 * 10 ^ Int.toNat 20 + 1) - 10 ^ Int.toNat 20) (b := 1 + v1.fmod 12) (by omega) (by unfold Sz; omega) (by unfold Sz; omega), (aQ (eO s0)).trans (aC8 ((aB0 t0).trans (fU ?_)))⟩
  ktr_call 11 ⟨e1, x1, x2, l0⟩
 ·have t0 := tt w 0
  rw [Bool.eq_false_iff.mpr h0] at t0
  by_cases h1 : (w == 1) = true
  ·have t1 := tt w 1
   rw [h1] at t1
   refine ⟨_, aL0 (t := v2.fmod 41 - 20) (b := 1 + v3.fmod 6) (by omega) (by unfold Sz; omega) (by unfold Sz; omega), (aQ (eO s0)).trans ((aQ (uA t0)).trans (aC8 ((aB0 t1).trans (fU ?_))))⟩
   ktr_call 11 ⟨e2, e3, l1⟩
  ·have t1 := tt w 1
   rw [Bool.eq_false_iff.mpr h1] at t1
   refine ⟨(v4.fmod 5 - 2, 1), aG2 (by unfold Sz; omega), (aQ (eO s0)).trans ((aQ (uA t0)).trans ((aQ (uA t1)).trans (fU ?_)))⟩
   ktr_call 11 ⟨e4⟩
   rfl
noncomputable def dQ (K : PySem.W.Frag) (c : Cls) : MS := (cI (dO 4 (aH gR (aD 3) (aH jS (mC (.int 7368787)) (aD 2)))) (cI (dO 5 (aH mX (aH mQ (aL 2 (bF K c) (aB (aD 4) (aB (mC (.int 11)) aT))) (mC (.int 9))) (mC (.int 4)))) (cI (kF (bY (aH (eqE false) (aH mQ (aL 2 (bF K c) (aB (aD 4) (aB (mC (.int 12)) aT))) (mC (.int 6))) (mC (.int 0)))) (dO 5 (aH mX (aH mQ (aH gR (aH jS (aD 4) (mC (.int 69621))) (mC (.int 5))) (aH gR (aH jS (mC (.int 2)) (aH aDi (mC (.int 10)) (mC (.int 15)))) (mC (.int 1)))) (aH aDi (mC (.int 10)) (mC (.int 15))))) fE) (fF 1 (aN dI (aB (aD 5) (aB (aL 2 (bJ K c) (aB (aD 4) (aB (mC (.int 20)) aT))) aT)))))))
noncomputable def hV (K : PySem.W.Frag) (c : Cls) : MS := (cI (dO 1 (aN iN aT)) (cI (uG (aEn aE4 (aB (aD 0) aT)) (d8 2 (aX (aM 2) (aX (aM 3) eA))) (dQ K c)) (eP (aD 1))))
noncomputable def cZ (K : PySem.W.Frag) (c : Cls) (ls : List L) : Res L := e9 6 (hV K c) ls
theorem sL (K : PySem.W.Frag) (c : Cls) : ∀ ls, cZ K c ls = .bad \/ e9 6 (hV K c) ls = cZ K c ls := fun _ => .inr rfl
def GRw (r : Rw) : Prop := Sz 60 r.1 /\ GN r.2
theorem aNk (K : PySem.W.Frag) (c : Cls) (Z : Option L) (n : Int) {k : Int} (k0 : 0 <= k) (k1 : k <= 100) (acc : List Rw) (hl : acc.length <= 1000) (r4 r5 : Option L) : ∃ r q4 q5, GRw r /\ dQ K c [Z, some (.o (.list (acc.map lrD))), some (.p (.int k)), some (.p (.int n)), r4, r5] = some (.nx [Z, some (.o (.list ((acc ++ [r]).map lrD))), some (.p (.int k)), some (.p (.int n)), q4, q5]) := by
 have x1 : jS (.p (.int 7368787)) (.p (.int k)) = .ok (.p (.int (7368787 * k))) := rB (.inr (.inl ⟨by decide, by decide⟩))
 generalize hc : n + 7368787 * k = cell
 obtain ⟨v1, a1, b1, e1⟩ := nT K c cell (k := 11) (by decide) (by decide)
 obtain ⟨v2, a2, b2, e2⟩ := nT K c cell (k := 12) (by decide) (by decide)
 obtain ⟨x, gx, ex⟩ := tM K c cell (k := 20) (by decide) (by decide)
 have p15 : aJp 10 15 := ⟨by decide, by decide, by decide⟩
 have x2 : jS (.p (.int cell)) (.p (.int 69621)) = .ok (.p (.int (cell * 69621))) := aHc (by decide) (by decide)
 have x3 : jS (.p (.int 2)) (.p (.int (10 ^ Int.toNat 15))) = .ok (.p (.int (2 * 10 ^ Int.toNat 15))) := rB (.inr (.inl ⟨by decide, by decide⟩))
 have d9 : (9 : Int) ≠ 0 := by decide
 have d6 : (6 : Int) ≠ 0 := by decide
 have dn : (2 * 10 ^ Int.toNat 15 + 1 : Int) ≠ 0 := by decide
 have m9 := dU (a := v1) (b := 9) (by decide)
 have mm := dU (a := cell * 69621 + 5) (b := 2 * 10 ^ Int.toNat 15 + 1) (by decide)
 have pw : (10 : Int) ^ Int.toNat 15 = 1000000000000000 := by decide
 have s1 : (aH gR (aD 3) (aH jS (mC (.int 7368787)) (aD 2))) [Z, some (.o (.list (acc.map lrD))), some (.p (.int k)), some (.p (.int n)), r4, r5] = .ok (.p (.int cell)) := by
  ktr_call 2 ⟨x1, hc⟩
 have s2 : (aH mX (aH mQ (aL 2 (bF K c) (aB (aD 4) (aB (mC (.int 11)) aT))) (mC (.int 9))) (mC (.int 4))) [Z, some (.o (.list (acc.map lrD))), some (.p (.int k)), some (.p (.int n)), some (.p (.int cell)), r5] = .ok (.p (.int (v1.fmod 9 - 4))) := by
  ktr_call 11 ⟨e1⟩
 have t3 : ∀ y : Option L, bY (aH (eqE false) (aH mQ (aL 2 (bF K c) (aB (aD 4) (aB (mC (.int 12)) aT))) (mC (.int 6))) (mC (.int 0))) [Z, some (.o (.list (acc.map lrD))), some (.p (.int k)), some (.p (.int n)), some (.p (.int cell)), y] = .ok (v2.fmod 6 == 0) := fun y => by
  ktr_call 11 ⟨e2⟩
  rfl
 obtain ⟨s, sz, e3⟩ : ∃ s : Int, Sz 60 s /\ (kF (bY (aH (eqE false) (aH mQ (aL 2 (bF K c) (aB (aD 4) (aB (mC (.int 12)) aT))) (mC (.int 6))) (mC (.int 0)))) (dO 5 (aH mX (aH mQ (aH gR (aH jS (aD 4) (mC (.int 69621))) (mC (.int 5))) (aH gR (aH jS (mC (.int 2)) (aH aDi (mC (.int 10)) (mC (.int 15)))) (mC (.int 1)))) (aH aDi (mC (.int 10)) (mC (.int 15))))) fE) [Z, some (.o (.list (acc.map lrD))), some (.p (.int k)), some (.p (.int n)), some (.p (.int cell)), some (.p (.int (v1.fmod 9 - 4)))] = some (.nx [Z, some (.o (.list (acc.map lrD))), some (.p (.int k)), some (.p (.int n)), some (.p (.int cell)), some (.p (.int s))]) := by
  have t := t3 (some (.p (.int (v1.fmod 9 - 4))))
  cases h : (v2.fmod 6 == 0) with
  | true =>
   rw [h] at t
   refine ⟨(cell * 69621 + 5).fmod (2 * 10 ^ Int.toNat 15 + 1) - 10 ^ Int.toNat 15, by unfold Sz; omega, (aB0 t).trans (eO ?_)⟩
   ktr_call 11 ⟨x2, x3⟩
  | false =>
   rw [h] at t
   exact ⟨v1.fmod 9 - 4, by unfold Sz; omega, uA t⟩
 refine ⟨(s, x), some (.p (.int cell)), some (.p (.int s)), ⟨sz, gx⟩, ?_⟩
 unfold dQ
 refine (aQ (eO s1)).trans ((aQ (eO s2)).trans ((aQ e3).trans ?_))
 have ev : (aN dI (aB (aD 5) (aB (aL 2 (bJ K c) (aB (aD 4) (aB (mC (.int 20)) aT))) aT))) [Z, some (.o (.list (acc.map lrD))), some (.p (.int k)), some (.p (.int n)), some (.p (.int cell)), some (.p (.int s))] = .ok (.p (lrD (s, x))) := by
  ktr_call 2 ⟨ex⟩
  rfl
 unfold fF
 simp only [List.set_cons_succ, List.set_cons_zero, List.getElem?_cons_succ, List.getElem?_cons_zero, ev, Ev.c]
 rw [if_pos (by rw [List.length_map]; omega), List.map_append]
 rfl
theorem sJ (K : PySem.W.Frag) (c : Cls) (Z : Option L) : ∀ (ns : List Int) (k : Nat) (acc : List Rw) (r2 r3 r4 r5 : Option L), k + ns.length <= 100 -> acc.length <= k -> (∀ r ∈ acc, GRw r) -> ∃ (rs : List Rw) (q2 q3 q4 q5 : Option L), (∀ r ∈ rs, GRw r) /\ rs.length = acc.length + ns.length /\ dP (d8 2 (aX (aM 2) (aX (aM 3) eA))) (dQ K c) (n5 k (ns.map .int)) [Z, some (.o (.list (acc.map lrD))), r2, r3, r4, r5] = some (.nx [Z, some (.o (.list (rs.map lrD))), q2, q3, q4, q5])
 | [], k, acc, r2, r3, r4, r5, _, _, ha => ⟨acc, r2, r3, r4, r5, ha, rfl, rfl⟩
 | n :: ns, k, acc, r2, r3, r4, r5, hk, hl, ha => by
  rw [List.length_cons] at hk
  obtain ⟨r, q4, q5, gr, hb⟩ := aNk K c Z n (k := (k : Int)) (by omega) (by omega) acc (by omega) r4 r5
  obtain ⟨rs, p2, p3, p4, p5, g1, g2, ih⟩ := sJ K c Z ns (k + 1) (acc ++ [r]) (some (.p (.int (k : Int)))) (some (.p (.int n))) q4 q5 (by omega) (by rw [List.length_append, List.length_singleton]; omega) (fun x hx => by
   rcases List.mem_append.mp hx with z | z
   ·exact ha x z
   ·rw [List.mem_singleton.mp z]; exact gr)
  refine ⟨rs, p2, p3, p4, p5, g1, by rw [g2, List.length_append, List.length_singleton, List.length_cons]; omega, ?_⟩
  rw [List.map_cons]
  show dP (d8 2 (aX (aM 2) (aX (aM 3) eA))) (dQ K c) (.tuple [.int (k : Int), .int n] :: n5 (k + 1) (ns.map .int)) _ = _
  unfold dP
  have et : d8 2 (aX (aM 2) (aX (aM 3) eA)) (.tuple [.int (k : Int), .int n]) [Z, some (.o (.list (acc.map lrD))), r2, r3, r4, r5] = some [Z, some (.o (.list (acc.map lrD))), some (.p (.int (k : Int))), some (.p (.int n)), r4, r5] := rfl
  rw [et]
  dsimp only
  rw [hb]
  exact ih
theorem aJt (K : PySem.W.Frag) (c : Cls) (ns : List Int) (hn : ns.length <= 90) : ∃ rs : List Rw, (∀ r ∈ rs, GRw r) /\ rs.length = ns.length /\ cZ K c [.p (.list (ns.map .int))] = .ok (.o (.list (rs.map lrD))) := by
 obtain ⟨rs, q2, q3, q4, q5, g1, g2, hlp⟩ := sJ K c (some (.p (.list (ns.map .int)))) ns 0 [] none none none none (by omega) (Nat.le_refl _) (fun _ h => nomatch h)
 refine ⟨rs, g1, by rw [g2, List.length_nil, Nat.zero_add], ?_⟩
 unfold cZ
 refine bZ ?_
 rw [show bG 6 [.p (.list (ns.map .int))] = [some (.p (.list (ns.map .int))), none, none, none, none, none] from rfl]
 unfold hV
 have hit : (aEn aE4 (aB (aD 0) aT)) [some (.p (.list (ns.map .int))), some (.o (.list [])), none, none, none, none] = .ok (n5 0 (ns.map .int)) := rfl
 refine (aQ (j7 (d := .list []) rfl)).trans ((aQ ((mF hit).trans hlp)).trans ?_)
 rfl
theorem kU {α κ : Type} [DecidableEq κ] (k : κ) (v : α) : ∀ m : List (κ × α), (aBs k v m).map (·.1) = m.map (·.1)
 | [] => rfl
 | p :: r => by
  unfold aBs
  rw [List.map_cons, List.map_cons, kU k v r]
  split <;> rfl
theorem sF {α κ : Type} [DecidableEq κ] {k : κ} : ∀ {m : List (κ × α)}, fC m k = none -> k ∉ m.map (·.1)
 | [], _ => fun h => nomatch h
 | p :: r, e => by
  unfold fC at e
  split at e
  ·cases e
  ·rename_i z
   rw [List.map_cons, List.mem_cons]
   rintro (q | q)
   ·exact z q.symm
   ·exact sF e q
theorem aC1 {α κ : Type} [DecidableEq κ] {m : List (κ × α)} (h : (m.map (·.1)).Nodup) (k : κ) (v : α) : ((rQ m k v).map (·.1)).Nodup := by
 unfold rQ
 cases e : fC m k with
 | none =>
  rw [if_neg (by simp), List.map_append]
  refine List.nodup_append.mpr ⟨h, List.pairwise_singleton _ _, fun a ha b hb z => ?_⟩
  have : b = k := by simpa using hb
  rw [z, this] at ha
  exact sF e ha
 | some x =>
  rw [if_pos (by rfl), kU]
  exact h
abbrev Mi := List (Int × (Int × Int))
def mI (m : Mi) : List (D × D) := (.none, .none) :: N.encM PyData.int frD m
theorem aPu (a b : Int) (h : PyData.int a = PyData.int b) : a = b := by injection h
theorem aCw (m : Mi) (k : Int) : nV (mI m) (.int k) = some ((fC m k).map frD) := by
 show (if (vV (.int k)).isSome = true then some (u4 (N.encM PyData.int frD m) (.int k)) else none) = _
 rw [if_pos (show (vV (.int k)).isSome = true from rfl), mJ aPu]
theorem aLc (m : Mi) (k : Int) (v : Int × Int) (h : m.length <= 100000) : yK (mI m) (.int k) (frD v) = some (mI (rQ m k v)) := by
 show (if (vV (.int k)).isSome = true /\ (N.encM PyData.int frD m).length <= 100000 then some ((PyData.none, PyData.none) :: aDg (N.encM PyData.int frD m) (.int k) (frD v)) else none) = _
 rw [if_pos ⟨rfl, by unfold N.encM; rw [List.length_map]; exact h⟩, wR aPu]
 rfl
def tkI (o : Option (Int × Int)) (h : Int × Int) : Bool := match o with
 | none => true
 | some f => ltF f h
def hbI (m : Mi) (r : Rw) : Mi := if tkI (fC m r.1) r.2 = true then rQ m r.1 r.2 else m
structure Gi (m : Mi) : Prop where
 nd : (m.map (·.1)).Nodup
 g : ∀ k h, fC m k = some h -> Sz 60 k /\ GN h
theorem Gi.step {m : Mi} (g : Gi m) {r : Rw} (hr : GRw r) : Gi (hbI m r) := by
 unfold hbI
 split
 ·refine ⟨aC1 g.nd _ _, fun k h e => ?_⟩
  rw [tY] at e
  split at e
  ·rename_i z; cases e; rw [z]; exact hr
  ·exact g.g k h e
 ·exact g
theorem aJo (m : Mi) (r : Rw) : (hbI m r).length <= m.length + 1 := by
 unfold hbI
 split
 ·exact aFr _ _ _
 ·exact Nat.le_succ _
theorem aNw (m : Mi) (r : Rw) : hbI m r ≠ [] := by
 unfold hbI
 split
 ·rename_i h
  unfold rQ
  split
  ·rename_i z
   intro e
   have := congrArg List.length e
   rw [qF] at this
   rw [List.length_eq_zero_iff.mp this] at z
   cases z
  ·simp
 ·rename_i h
  intro e
  rw [e] at h
  exact h rfl
noncomputable def dS (K : PySem.W.Frag) (c : Cls) : En -> Res Ev := (aN dI (aB (aD 0) (aB (aH lC (aD 1) (aD 0)) aT)))
noncomputable def eX (K : PySem.W.Frag) (c : Cls) : MS := (kF (mOr (bY (aH (aGt true) (aD 2) (aD 1))) (bY (aL 2 (aR K c) (aB (aH lC (aD 1) (aD 2)) (aB (aD 3) aT))))) (sH 1 (aD 2) (aD 3)) fE)
noncomputable def hX (K : PySem.W.Frag) (c : Cls) : MS := (cI (dO 1 mDK) (cI (uG (iV (aD 0)) (d8 2 (aX (aM 2) (aX (aM 3) eA))) (eX K c)) (fun en => (eP (jR 1 [1] (iV (aN lV (aB (aN lU (aB (aD 1) aT)) aT))) (aM 0) mS (dS K c))) (frz 1 en))))
noncomputable def dC (K : PySem.W.Frag) (c : Cls) (ls : List L) : Res L := e9 4 (hX K c) ls
theorem tN (K : PySem.W.Frag) (c : Cls) : ∀ ls, dC K c ls = .bad \/ e9 4 (hX K c) ls = dC K c ls := fun _ => .inr rfl
theorem aHj {h : Int × Int} (g : GN h) : FSz 2000 h := ⟨g.t.mono (by decide), g.b.mono (by decide)⟩
theorem aLq (K : PySem.W.Frag) (c : Cls) (A : Option L) (m : Mi) (hm : m.length <= 2000) (gm : Gi m) (r : Rw) (hr : GRw r) : eX K c [A, some (.o (.dict (mI m))), some (.p (.int r.1)), some (.p (frD r.2))] = some (.nx [A, some (.o (.dict (mI (hbI m r)))), some (.p (.int r.1)), some (.p (frD r.2))]) := by
 have hd := aCw m r.1
 have hp := aLc m r.1 r.2 (by omega)
 have put : sH 1 (aD 2) (aD 3) [A, some (.o (.dict (mI m))), some (.p (.int r.1)), some (.p (frD r.2))] = some (.nx [A, some (.o (.dict (mI (rQ m r.1 r.2)))), some (.p (.int r.1)), some (.p (frD r.2))]) := by
  unfold sH
  ktr_call 3 ⟨aD, Ev.c, hp⟩
 have tin : bY (aH (aGt true) (aD 2) (aD 1)) [A, some (.o (.dict (mI m))), some (.p (.int r.1)), some (.p (frD r.2))] = .ok (!(fC m r.1).isSome) := by
  ktr_call 2 ⟨aGt, kB, hd⟩
  simp
 unfold eX hbI
 cases ea : fC m r.1 with
 | none =>
  rw [ea] at tin
  have t : (mOr (bY (aH (aGt true) (aD 2) (aD 1))) (bY (aL 2 (aR K c) (aB (aH lC (aD 1) (aD 2)) (aB (aD 3) aT))))) [A, some (.o (.dict (mI m))), some (.p (.int r.1)), some (.p (frD r.2))] = .ok true := by
   unfold mOr
   rw [tin]
   rfl
  exact (aB0 t).trans put
 | some f =>
  rw [ea] at tin hd
  have ef : (aH lC (aD 1) (aD 2)) [A, some (.o (.dict (mI m))), some (.p (.int r.1)), some (.p (frD r.2))] = .ok (.p (frD f)) := by
   ktr_call 2 ⟨lC, kB, hd, Option.map_some⟩
  have hl := kL K c (aHj (gm.g _ f ea).2) (aHj hr.2)
  have tl : bY (aL 2 (aR K c) (aB (aH lC (aD 1) (aD 2)) (aB (aD 3) aT))) [A, some (.o (.dict (mI m))), some (.p (.int r.1)), some (.p (frD r.2))] = .ok (ltF f r.2) := by
   ktr_call 3 ⟨bY, aL, aB, aT, ef, aD, Res.bind, Ev.c, fK, dX, mV, hl, nE, cR⟩
  have t : (mOr (bY (aH (aGt true) (aD 2) (aD 1))) (bY (aL 2 (aR K c) (aB (aH lC (aD 1) (aD 2)) (aB (aD 3) aT))))) [A, some (.o (.dict (mI m))), some (.p (.int r.1)), some (.p (frD r.2))] = .ok (ltF f r.2) := by
   unfold mOr
   rw [tin, qS]
   exact tl
  show _ = some (Out.nx [A, some (.o (.dict (mI (if ltF f r.2 = true then rQ m r.1 r.2 else m)))), some (.p (.int r.1)), some (.p (frD r.2))])
  cases e : ltF f r.2 with
  | true => rw [e] at t; rw [if_pos rfl]; exact (aB0 t).trans put
  | false => rw [e] at t; rw [if_neg (by decide)]; exact uA t
theorem sX (K : PySem.W.Frag) (c : Cls) (A : Option L) : ∀ (rs : List Rw) (m : Mi) (r2 r3 : Option L), m.length + rs.length <= 2000 -> Gi m -> (∀ r ∈ rs, GRw r) -> ∃ (m' : Mi) (q2 q3 : Option L), Gi m' /\ m'.length <= m.length + rs.length /\ (rs ≠ [] \/ m ≠ [] -> m' ≠ []) /\ dP (d8 2 (aX (aM 2) (aX (aM 3) eA))) (eX K c) (rs.map lrD) [A, some (.o (.dict (mI m))), r2, r3] = some (.nx [A, some (.o (.dict (mI m'))), q2, q3])
 | [], m, r2, r3, _, gm, _ => ⟨m, r2, r3, gm, Nat.le_refl _, fun h => h.elim (fun z => absurd rfl z) id, rfl⟩
 | r :: rs, m, r2, r3, hl, gm, hr => by
  rw [List.length_cons] at hl
  have hb := aLq K c A m (by omega) gm r (hr r (.head _))
  have hn := aJo m r
  obtain ⟨m', q2, q3, g1, g2, g3, ih⟩ := sX K c A rs (hbI m r) (some (.p (.int r.1))) (some (.p (frD r.2))) (by omega) (gm.step (hr r (.head _))) fun x hx => hr x (.tail _ hx)
  refine ⟨m', q2, q3, g1, by rw [List.length_cons]; omega, fun _ => g3 (.inr (aNw m r)), ?_⟩
  rw [List.map_cons]
  unfold dP
  have et : d8 2 (aX (aM 2) (aX (aM 3) eA)) (lrD r) [A, some (.o (.dict (mI m))), r2, r3] = some [A, some (.o (.dict (mI m))), some (.p (.int r.1)), some (.p (frD r.2))] := rfl
  rw [et]
  dsimp only
  rw [hb]
  exact ih
def pK (m : Mi) : List Rw := (sortI (m.map (·.1))).map fun k => (k, (fC m k).getD (0, 1))
theorem aJf (K : PySem.W.Frag) (c : Cls) (rs : List Rw) (h0 : rs ≠ []) (hl : rs.length < 64) (hr : ∀ r ∈ rs, GRw r) : ∃ ln : List Rw, ln ≠ [] /\ ln.length <= rs.length /\ (∀ r ∈ ln, GRw r) /\ ln.Pairwise (fun a b => a.1 < b.1) /\ dC K c [.p (.list (rs.map lrD))] = .ok (.o (.list (ln.map lrD))) := by
 obtain ⟨m, q2, q3, g1, g2, g3, hlp⟩ := sX K c (some (.p (.list (rs.map lrD)))) rs [] none none (by rw [List.length_nil]; omega) ⟨List.Pairwise.nil, fun _ _ e => nomatch e⟩ hr
 rw [List.length_nil, Nat.zero_add] at g2
 have ne := g3 (.inl h0)
 have kl : (sortI (m.map (·.1))).length = m.length := by rw [(sortI_perm _).length_eq, List.length_map]
 have inm : ∀ k ∈ sortI (m.map (·.1)), ∃ h, fC m k = some h := fun k hk => by
  have := (sortI_perm _).mem_iff.mp hk
  obtain ⟨e, he, rfl⟩ := List.mem_map.mp this
  exact xN he
 refine ⟨pK m, ?_, by unfold pK; rw [List.length_map, kl]; exact g2, fun r hr => ?_, ?_, ?_⟩
 ·intro z
  have := congrArg List.length z
  unfold pK at this
  rw [List.length_map, kl] at this
  exact ne (List.length_eq_zero_iff.mp this)
 ·unfold pK at hr
  obtain ⟨k, hk, rfl⟩ := List.mem_map.mp hr
  obtain ⟨h, e⟩ := inm k hk
  have := g1.g k h e
  show Sz 60 k /\ GN ((fC m k).getD (0, 1))
  rw [e]
  exact this
 ·unfold pK
  rw [List.pairwise_map]
  have s1 := i5 (m.map (·.1))
  have s2 : (sortI (m.map (·.1))).Nodup := (sortI_perm _).nodup_iff.mpr g1.nd
  exact (s1.and s2).imp fun ⟨a, b⟩ => by
   show _ < _
   omega
 ·unfold dC
  refine bZ ?_
  rw [show bG 4 [.p (.list (rs.map lrD))] = [some (.p (.list (rs.map lrD))), none, none, none] from rfl]
  unfold hX
  refine (aQ (j7 (d := .dict (mI [])) rfl)).trans ((aQ ((mF (ds := rs.map lrD) rfl).trans hlp)).trans ?_)
  simp only [frz, List.getElem?_cons_succ, List.getElem?_cons_zero, List.set_cons_succ, List.set_cons_zero]
  have lk : lU [.p (.dict (mI m))] = .ok (.f (.list ((m.map (·.1)).map .int))) := by
   have e : (N.encM PyData.int frD m).map (·.1) = (m.map (·.1)).map .int := by unfold N.encM; rw [List.map_map, List.map_map]; rfl
   show (match intsOf ((N.encM PyData.int frD m).map (·.1)) with | some ns => Res.ok (Ev.f (.list (ns.map .int))) | none => Res.bad) = _
   rw [e, lE]
  have so : lV [.p (.list ((m.map (·.1)).map .int))] = .ok (.f (.list ((sortI (m.map (·.1))).map .int))) := by
   show (match intsOf ((m.map (·.1)).map .int) with | some ns => if ns.length < 64 then Res.ok (Ev.f (.list ((sortI ns).map .int))) else Res.bad | none => Res.bad) = _
   rw [lE]
   dsimp only
   rw [if_pos (by rw [List.length_map]; omega)]
  have hit : (iV (aN lV (aB (aN lU (aB (aD 1) aT)) aT))) [some (.p (.list (rs.map lrD))), some (.p (.dict (mI m))), q2, q3] = .ok ((sortI (m.map (·.1))).map .int) := by
   simp only [iV, aN, aB, aT, aD, List.getElem?_cons_succ, List.getElem?_cons_zero, Res.bind, Ev.c, lk, so, aFe]
  have hm : sM (cA 1 [1] (aM 0) mS (dS K c) [some (.p (.list (rs.map lrD))), some (.p (.dict (mI m))), q2, q3]) ((sortI (m.map (·.1))).map .int) = some ((sortI (m.map (·.1))).map fun k => lrD (k, (fC m k).getD (0, 1))) := by
   refine g8 _ fun k hk => ?_
   obtain ⟨h, e⟩ := inm k hk
   have hd := aCw m k
   rw [e] at hd
   have he : dS K c [some (.p (.int k)), some (.p (.dict (mI m)))] = .ok (.p (lrD (k, (fC m k).getD (0, 1)))) := by
    rw [e]
    ktr_call 2 ⟨dS, lC, kB, hd, Option.map_some⟩
    rfl
   simp [cA, aM, uK, aFc, mS, he, Ev.c]
  have hc := nO (n := 1) (js := [1]) (fi := iV (aN lV (aB (aN lU (aB (aD 1) aT)) aT))) (tg := aM 0) (ft := mS) (fe := dS K c) (en := [some (.p (.list (rs.map lrD))), some (.p (.dict (mI m))), q2, q3]) hit (by rw [List.length_map, kl]; omega) hm
  refine aHr ?_
  rw [hc]
  unfold pK
  rw [List.map_map]
  rfl
def eRT (a : Rw × (Int × Int)) : List L := [.p (lrD a.1), .p (frD a.2)]
theorem aJ4 (a b : Rw × (Int × Int)) (h : eRT a = eRT b) : a = b := by
 unfold eRT at h
 injection h with h1 h2
 injection h2 with h2 _
 injection h1 with h1
 injection h2 with h2
 exact Prod.ext (lrI h1) (frI h2)
theorem jY (r : Rw) : ixE (.p (lrD r)) (.p (.int 0)) = .ok (.p (.int r.1)) := jD _ _
theorem kQ (r : Rw) : ixE (.p (lrD r)) (.p (.int 1)) = .ok (.p (frD r.2)) := jN _ _ _
noncomputable def b8 (K : PySem.W.Frag) (c : Cls) : List L -> Res L := mOf eRT (fun a => Sz 100 a.1.1 /\ Good 900 a.1.2 /\ Good 900 a.2) fun a => .ok (.p (frD (lh a.2 a.1)))
noncomputable def iW (K : PySem.W.Frag) (c : Cls) : MS := (eP (aL 2 (bR K c) (aB (aL 2 (bI K c) (aB (aN dI (aB (aH ixE (aD 0) (mC (.int 0))) (aB (mC (.int 1)) aT))) (aB (aD 1) aT))) (aB (aH ixE (aD 0) (mC (.int 1))) aT))))
theorem pY (K : PySem.W.Frag) (c : Cls) : ∀ ls, b8 K c ls = .bad \/ e9 2 (iW K c) ls = b8 K c ls := cD fun a h => by
 obtain ⟨r, t⟩ := a
 obtain ⟨h1, h2, h3⟩ := h
 dsimp only at h1 h2 h3 ⊢
 have p := qN K c (i := r.1) (h1.mono (by decide)) h3 (by decide)
 have g : Good 1000 (FR.mk (r.1 * t.1) (1 * t.2)) := aCc h1 h3
 have s := qR K c g h2 (by decide) (by decide)
 refine bZ ?_
 rw [show bG 2 (eRT (r, t)) = [some (.p (lrD r)), some (.p (frD t))] from rfl]
 unfold iW
 refine fU ?_
 ktr_call 2 ⟨jY, kQ, p, s⟩
 rfl
theorem wN (K : PySem.W.Frag) (c : Cls) {r : Rw} {t : Int × Int} (h1 : Sz 100 r.1) (h2 : Good 900 r.2) (h3 : Good 900 t) : b8 K c [.p (lrD r), .p (frD t)] = .ok (.p (frD (lh t r))) := cC (a := (r, t)) aJ4 ⟨h1, h2, h3⟩
noncomputable def bV (K : PySem.W.Frag) (c : Cls) : List L -> Res L := mOf eLT (fun a => a.1 ≠ [] /\ a.1.length <= 1000 /\ Good 900 a.2 /\ ∀ r ∈ a.1, Sz 100 r.1 /\ Good 900 r.2) fun a => .ok (.p (frD (zR a.1 a.2)))
noncomputable def dF (K : PySem.W.Frag) (c : Cls) : MS := (cI (dO 4 (aL 2 (b8 K c) (aB (aD 3) (aB (aD 1) aT)))) (kF (bY (aL 2 (aR K c) (aB (aD 2) (aB (aD 4) aT)))) (dO 2 (aD 4)) fE))
noncomputable def gT (K : PySem.W.Frag) (c : Cls) : MS := (cI (dO 2 (aL 2 (b8 K c) (aB (aH ixE (aD 0) (mC (.int 0))) (aB (aD 1) aT)))) (cI (uG (iV (mSl (aD 0) (mPt (mC (.int 1))) aN6)) (aM 3) (dF K c)) (eP (aD 2))))
theorem aDd (K : PySem.W.Frag) (c : Cls) (A : Option L) {t : Int × Int} (ht : Good 900 t) : ∀ (rs : List Rw) (b : Int × Int) (r3 r4 : Option L), FSz 2000 b -> (∀ r ∈ rs, Sz 100 r.1 /\ Good 900 r.2) -> ∃ q3 q4, dP (aM 3) (dF K c) (rs.map lrD) [A, some (.p (frD t)), some (.p (frD b)), r3, r4] = some (.nx [A, some (.p (frD t)), some (.p (frD (best b (rs.map (lh t))))), q3, q4])
 | [], b, r3, r4, _, _ => ⟨r3, r4, rfl⟩
 | r :: rs, b, r3, r4, hb, hz => by
  obtain ⟨z1, z2⟩ := hz r (.head _)
  have v := wN K c z1 z2 ht
  have gv : FSz 2000 (lh t r) := ((aGn (aCc z1 ht) z2).mono (by decide)).fsz
  have bo := kL K c hb gv
  have e1 : (aL 2 (b8 K c) (aB (aD 3) (aB (aD 1) aT))) [A, some (.p (frD t)), some (.p (frD b)), some (.p (lrD r)), r4] = .ok (.p (frD (lh t r))) := by
   ktr_call 3 ⟨aL, aB, aT, aD, Res.bind, Ev.c, fK, dX, mV, v, nE⟩
  have t1 : bY (aL 2 (aR K c) (aB (aD 2) (aB (aD 4) aT))) [A, some (.p (frD t)), some (.p (frD b)), some (.p (lrD r)), some (.p (frD (lh t r)))] = .ok (ltF b (lh t r)) := by
   ktr_call 3 ⟨bY, aL, aB, aT, aD, Res.bind, Ev.c, fK, dX, mV, bo, nE, cR⟩
  have hb1 : dF K c [A, some (.p (frD t)), some (.p (frD b)), some (.p (lrD r)), r4] = some (.nx [A, some (.p (frD t)), some (.p (frD (if ltF b (lh t r) = true then lh t r else b))), some (.p (lrD r)), some (.p (frD (lh t r)))]) := by
   unfold dF
   refine (aQ (eO e1)).trans ?_
   simp only [List.set_cons_succ, List.set_cons_zero]
   cases e : ltF b (lh t r) with
   | true => rw [e] at t1; rw [if_pos rfl]; exact (aB0 t1).trans rfl
   | false => rw [e] at t1; rw [if_neg (by decide)]; exact uA t1
  obtain ⟨q3, q4, ih⟩ := aDd K c A ht rs (if ltF b (lh t r) = true then lh t r else b) (some (.p (lrD r))) (some (.p (frD (lh t r)))) (by split; exact gv; exact hb) fun x hx => hz x (.tail _ hx)
  refine ⟨q3, q4, ?_⟩
  rw [List.map_cons]
  unfold dP
  simp only [aM, List.set_cons_succ, List.set_cons_zero]
  rw [hb1]
  exact ih
theorem aFk (x : D) (xs : List D) : M.cutD (x :: xs) (some 1) none = xs := by
 unfold M.cutD
 rw [show HT.sIx (x :: xs).length 0 (some 1) = min 1 (x :: xs).length from HT.uP _ _ 1, HT.aFo]
 have : min 1 (x :: xs).length = 1 := by rw [List.length_cons]; omega
 rw [this, List.length_cons]
 show xs.take (xs.length + 1 - 1) = xs
 rw [Nat.add_sub_cancel, List.take_length]
theorem nA (K : PySem.W.Frag) (c : Cls) : ∀ ls, bV K c ls = .bad \/ e9 5 (gT K c) ls = bV K c ls := cD fun a h => by
 obtain ⟨rs, t⟩ := a
 obtain ⟨h0, hl, ht, hz⟩ := h
 dsimp only at h0 hl ht hz ⊢
 cases rs with
 | nil => exact absurd rfl h0
 | cons r rs =>
  obtain ⟨z1, z2⟩ := hz r (.head _)
  have v := wN K c z1 z2 ht
  have gv : FSz 2000 (lh t r) := ((aGn (aCc z1 ht) z2).mono (by decide)).fsz
  obtain ⟨q3, q4, hlp⟩ := aDd K c (some (.p (.list ((r :: rs).map lrD)))) ht rs (lh t r) none none gv fun x hx => hz x (.tail _ hx)
  have eb : zR (r :: rs) t = best (lh t r) (rs.map (lh t)) := by
   show best (if ltF (lh t r) (lh t r) = true then lh t r else lh t r) (rs.map (lh t)) = _
   rw [ite_self]
  rw [eb]
  refine bZ ?_
  rw [show bG 5 (eLT (r :: rs, t)) = [some (.p (.list ((r :: rs).map lrD))), some (.p (frD t)), none, none, none] from rfl]
  unfold gT
  have i0 : ixE (.p (.list ((r :: rs).map lrD))) (.p (.int 0)) = .ok (.p (lrD r)) := by simp [ixE, gP, at0]
  have e1 : (aL 2 (b8 K c) (aB (aH ixE (aD 0) (mC (.int 0))) (aB (aD 1) aT))) [some (.p (.list ((r :: rs).map lrD))), some (.p (frD t)), none, none, none] = .ok (.p (frD (lh t r))) := by
   simp only [aL, aB, aT, aH, aD, mC, List.getElem?_cons_succ, List.getElem?_cons_zero, Res.bind, Ev.c, i0, fK, dX, mV, List.length_cons, List.length_nil]
   rw [if_pos (by decide), v]
   rfl
  have hit : (iV (mSl (aD 0) (mPt (mC (.int 1))) aN6)) [some (.p (.list ((r :: rs).map lrD))), some (.p (frD t)), some (.p (frD (lh t r))), none, none] = .ok (rs.map lrD) := by
   have ct := aFk (lrD r) (rs.map lrD)
   simp only [iV, mSl, mPt, aN6, aD, mC, List.getElem?_cons_succ, List.getElem?_cons_zero, Res.bind, Ev.c, gH, List.map_cons, ct, aFe]
  refine (aQ (eO e1)).trans ((aQ ((mF hit).trans hlp)).trans ?_)
  rfl
theorem yL (K : PySem.W.Frag) (c : Cls) {rs : List Rw} {t : Int × Int} (h0 : rs ≠ []) (hl : rs.length <= 1000) (ht : Good 900 t) (hz : ∀ r ∈ rs, Sz 100 r.1 /\ Good 900 r.2) : bV K c [.p (.list (rs.map lrD)), .p (frD t)] = .ok (.p (frD (zR rs t))) := cC (a := (rs, t)) aJ2 ⟨h0, hl, ht, hz⟩
theorem aMv (p : Rw) : PyData.canLay0 (lrD p) = true := by simp [lrD, frD, PyData.canLay0, PyData.canLayAll0]
theorem aL1 (p : Rw) : PyData.depth (lrD p) <= 9 := by simp [lrD, frD, PyData.depth, PyData.depthAll]
theorem aHb (ps : List Rw) : SeqAt.shaped (.list (ps.map lrD)) = true := aCx lrD aMv aL1 ps
def eLL (a : List Rw × List Rw) : List L := [.p (.list (a.1.map lrD)), .p (.list (a.2.map lrD))]
theorem aJs (a b : List Rw × List Rw) (h : eLL a = eLL b) : a = b := by
 unfold eLL at h
 injection h with h1 h2
 injection h2 with h2 _
 injection h1 with h1
 injection h1 with h1
 injection h2 with h2
 injection h2 with h2
 exact Prod.ext (aN4 h1) (aN4 h2)
noncomputable def b7 (K : PySem.W.Frag) (c : Cls) : List L -> Res L := mOf eLL (fun a => a.1 = a.2 /\ ∀ r ∈ a.1, FR.Fr r.2 /\ Sz 8000 r.2.2) fun _ => .ok (.p (.bool true))
noncomputable def eS (K : PySem.W.Frag) (c : Cls) : MS := (kF (mOr (gY (bY (mUn (lN K (.type "tuple")) (aD 2)))) (mOr (gY (bY (aL 1 (a8 K c) (aB (aH ixE (aD 2) (mC (.int 0))) aT)))) (gY (bY (aL 1 (aV K c) (aB (aH ixE (aD 2) (mC (.int 1))) aT)))))) (eP (mC (.bool false))) fE)
noncomputable def gK (K : PySem.W.Frag) (c : Cls) : MS := (cI (kF (mOr (gY (bY (mUn (lN K (.type "list")) (aD 0)))) (bY (aH (eqE true) (aD 0) (aD 1)))) (eP (mC (.bool false))) fE) (cI (uG (iV (aD 0)) (aM 2) (eS K c)) (eP (mC (.bool true)))))
theorem aAw (K : PySem.W.Frag) (c : Cls) (hk : gA K c) (A B : Option L) : ∀ (rs : List Rw) (r : Option L), (∀ r ∈ rs, FR.Fr r.2 /\ Sz 8000 r.2.2) -> ∃ q, dP (aM 2) (eS K c) (rs.map lrD) [A, B, r] = some (.nx [A, B, q])
 | [], r, _ => ⟨r, rfl⟩
 | x :: rs, r, h => by
  obtain ⟨q, ih⟩ := aAw K c hk A B rs (some (.p (lrD x))) fun y hy => h y (.tail _ hy)
  have l := aAh K c (h x (.head _)).1 (h x (.head _)).2
  have w := kJ K c x.1
  have i1 : lN K (.type "tuple") (.p (lrD x)) = .ok (.p (.bool true)) := by simp [lN, dat, lrD, tyD, hk.tt]
  have t : (mOr (gY (bY (mUn (lN K (.type "tuple")) (aD 2)))) (mOr (gY (bY (aL 1 (a8 K c) (aB (aH ixE (aD 2) (mC (.int 0))) aT)))) (gY (bY (aL 1 (aV K c) (aB (aH ixE (aD 2) (mC (.int 1))) aT)))))) [A, B, some (.p (lrD x))] = .ok false := by
   ktr_call 3 ⟨mOr, gY, bY, mUn, aH, aL, aB, aT, aD, mC, fK, dX, mV, Res.bind, Ev.c, i1, jY, kQ, w, l, nE, cR, Bool.not_true⟩
  refine ⟨q, ?_⟩
  rw [List.map_cons]
  unfold dP
  simp only [aM, List.set_cons_succ, List.set_cons_zero]
  rw [show eS K c [A, B, some (.p (lrD x))] = some (.nx [A, B, some (.p (lrD x))]) from uA t]
  exact ih
theorem oY (K : PySem.W.Frag) (c : Cls) (hk : gA K c) : ∀ ls, b7 K c ls = .bad \/ e9 3 (gK K c) ls = b7 K c ls := cD fun a h => by
 obtain ⟨rs, ds⟩ := a
 obtain ⟨e, hz⟩ := h
 dsimp only at e hz ⊢
 subst e
 have i1 : lN K (.type "list") (.p (.list (rs.map lrD))) = .ok (.p (.bool true)) := by simp [lN, dat, tyD, hk.ll]
 have i2 : eqE true (.p (.list (rs.map lrD))) (.p (.list (rs.map lrD))) = .ok (.p (.bool false)) := jF rfl rfl (aHb _) true
 obtain ⟨q, hlp⟩ := aAw K c hk (some (.p (.list (rs.map lrD)))) (some (.p (.list (rs.map lrD)))) rs none hz
 refine bZ ?_
 rw [show bG 3 (eLL (rs, rs)) = [some (.p (.list (rs.map lrD))), some (.p (.list (rs.map lrD))), none] from rfl]
 have t1 : (mOr (gY (bY (mUn (lN K (.type "list")) (aD 0)))) (bY (aH (eqE true) (aD 0) (aD 1)))) [some (.p (.list (rs.map lrD))), some (.p (.list (rs.map lrD))), none] = .ok false := by
  ktr_call 3 ⟨mOr, gY, bY, mUn, aH, aD, Res.bind, Ev.c, i1, i2, cR, Bool.not_true⟩
 unfold gK
 exact (aQ (uA t1)).trans ((aQ ((mF (ds := rs.map lrD) rfl).trans hlp)).trans (fU rfl))
theorem aM8 (K : PySem.W.Frag) (c : Cls) {rs : List Rw} (hz : ∀ r ∈ rs, FR.Fr r.2 /\ Sz 8000 r.2.2) : b7 K c [.p (.list (rs.map lrD)), .p (.list (rs.map lrD))] = .ok (.p (.bool true)) := cC (a := (rs, rs)) aJs ⟨rfl, hz⟩
def eR2 (a : Rw × Rw) : List L := [.p (lrD a.1), .p (lrD a.2)]
theorem aAz (a b : Rw × Rw) (h : eR2 a = eR2 b) : a = b := by
 unfold eR2 at h
 injection h with h1 h2
 injection h2 with h2 _
 injection h1 with h1
 injection h2 with h2
 exact Prod.ext (lrI h1) (lrI h2)
def plc (a b : Rw) : Int × Int := FR.mk (a.2.1 * b.2.2 - b.2.1 * a.2.2) (a.2.2 * b.2.2 * (b.1 - a.1))
noncomputable def bO (K : PySem.W.Frag) (c : Cls) : List L -> Res L := mOf eR2 (fun a => a.1.1 < a.2.1 /\ Sz 100 a.1.1 /\ Sz 100 a.2.1 /\ Good 300 a.1.2 /\ Good 300 a.2.2) fun a => .ok (.p (frD (plc a.1 a.2)))
noncomputable def iR (K : PySem.W.Frag) (c : Cls) : MS := (cI (dO 2 (aH ixE (aD 0) (mC (.int 1)))) (cI (dO 3 (aH ixE (aD 1) (mC (.int 1)))) (eP (aL 2 (aW K c) (aB (aH mX (aH kG (aH ixE (aD 2) (mC (.int 0))) (aH ixE (aD 3) (mC (.int 1)))) (aH kG (aH ixE (aD 3) (mC (.int 0))) (aH ixE (aD 2) (mC (.int 1))))) (aB (aH kG (aH kG (aH ixE (aD 2) (mC (.int 1))) (aH ixE (aD 3) (mC (.int 1)))) (aH mX (aH ixE (aD 1) (mC (.int 0))) (aH ixE (aD 0) (mC (.int 0))))) aT))))))
theorem sA {a b : Rw} (h : a.1 < b.1) (h1 : 1 <= a.2.2) (h2 : 1 <= b.2.2) : 1 <= a.2.2 * b.2.2 * (b.1 - a.1) := b9 (b9 h1 h2) (by omega)
theorem wF {a b : Rw} (h : a.1 < b.1) (z1 : Sz 100 a.1) (z2 : Sz 100 b.1) (g1 : Good 300 a.2) (g2 : Good 300 b.2) : Good 800 (plc a b) := by
 refine fQ ?_ ?_ (by have := sA h g1.1 g2.1; omega)
 ·exact (N.Sz.subM (Sz.mul g1.2.1 g2.2.2) (Sz.mul g2.2.1 g1.2.2)).mono (by decide)
 ·exact (Sz.mul (Sz.mul g1.2.2 g2.2.2) (N.Sz.subM z2 z1)).mono (by decide)
theorem qO (K : PySem.W.Frag) (c : Cls) : ∀ ls, bO K c ls = .bad \/ e9 4 (iR K c) ls = bO K c ls := cD fun x h => by
 obtain ⟨a, b⟩ := x
 obtain ⟨h, z1, z2, g1, g2⟩ := h
 dsimp only at h z1 z2 g1 g2 ⊢
 have ne := sA h g1.1 g2.1
 have bz : Sz 8000 (a.2.2 * b.2.2 * (b.1 - a.1)) := (Sz.mul (Sz.mul g1.2.2 g2.2.2) (N.Sz.subM z2 z1)).mono (by decide)
 have l := pO K c (t := a.2.1 * b.2.2 - b.2.1 * a.2.2) (b := a.2.2 * b.2.2 * (b.1 - a.1)) (by omega) bz
 have q1 : CMulW a.2.1 b.2.2 := ⟨g1.2.1.mono (by decide), g2.2.2.mono (by decide)⟩
 have q2 : CMulW b.2.1 a.2.2 := ⟨g2.2.1.mono (by decide), g1.2.2.mono (by decide)⟩
 have q3 : CMulW a.2.2 b.2.2 := ⟨g1.2.2.mono (by decide), g2.2.2.mono (by decide)⟩
 have q4 : CMulW (a.2.2 * b.2.2) (b.1 - a.1) := ⟨(Sz.mul g1.2.2 g2.2.2).mono (by decide), (N.Sz.subM z2 z1).mono (by decide)⟩
 refine bZ ?_
 rw [show bG 4 (eR2 (a, b)) = [some (.p (lrD a)), some (.p (lrD b)), none, none] from rfl]
 unfold iR
 refine (aQ (eO (d := frD a.2) ?_)).trans ((aQ (eO (d := frD b.2) ?_)).trans (fU ?_))
 ·ktr_call 2 ⟨kQ⟩
 ·ktr_call 2 ⟨kQ⟩
 ·ktr_call 11 ⟨jY, l⟩
  rfl
theorem rJ (K : PySem.W.Frag) (c : Cls) {a b : Rw} (h : a.1 < b.1) (z1 : Sz 100 a.1) (z2 : Sz 100 b.1) (g1 : Good 300 a.2) (g2 : Good 300 b.2) : bO K c [.p (lrD a), .p (lrD b)] = .ok (.p (frD (plc a b))) := cC (a := (a, b)) aAz ⟨h, z1, z2, g1, g2⟩
def jP (rs : List Rw) : Prop := rs.Pairwise fun a b => a.1 < b.1
theorem uU {fs rs : List Rw} (h : fs.Sublist rs) : jP rs -> rs.filter (fun r => decide (r.1 ∈ fs.map (·.1))) = fs := by
 induction h with
 | slnil => intro _; rfl
 | @cons l1 l2 a h ih =>
  intro hr
  obtain ⟨h1, h2⟩ := List.pairwise_cons.mp hr
  rw [List.filter_cons_of_neg, ih h2]
  intro z
  obtain ⟨x, hx, e⟩ := List.mem_map.mp (of_decide_eq_true z)
  have := h1 x (h.subset hx)
  omega
 | @cons_cons l1 l2 a h ih =>
  intro hr
  obtain ⟨h1, h2⟩ := List.pairwise_cons.mp hr
  rw [List.filter_cons_of_pos (by simp)]
  congr 1
  refine Eq.trans (List.filter_congr fun x hx => ?_) (ih h2)
  have := h1 x hx
  rw [decide_eq_decide, List.map_cons, List.mem_cons]
  constructor
  ·rintro (z | z)
   ·omega
   ·exact z
  ·exact .inr
structure Fac (F : Int) (rs : List Rw) : Prop where
 p : 1 <= F
 b : ∀ r ∈ rs, 1 <= r.2.2 /\ r.2.2 ∣ F
theorem aCm {x : Int × Int} {F : Int} (hF : 1 <= F) (hx : 1 <= x.2) (hd : x.2 ∣ F) : AF x (wI x F, F) := by
 obtain ⟨k, rfl⟩ := hd
 refine ⟨hx, hF, ?_⟩
 show x.1 * (x.2 * k) = x.1 * (x.2 * k).fdiv x.2 * x.2
 rw [Int.mul_fdiv_cancel_left _ (by omega)]
 ac_rfl
theorem x6 {rs : List Rw} (h : ∀ r ∈ rs, 1 <= r.2.2) : Fac (rM rs) rs := by
 have gen : ∀ (hs : List (Int × Int)) (c : Int), 1 <= c -> (∀ h ∈ hs, 1 <= h.2) -> 1 <= hs.foldl (fun c h => cbS c h.2) c /\ c ∣ hs.foldl (fun c h => cbS c h.2) c /\ ∀ h ∈ hs, h.2 ∣ hs.foldl (fun c h => cbS c h.2) c := by
  intro hs
  induction hs with
  | nil => intro c h1 _; exact ⟨h1, Int.dvd_refl _, fun _ z => nomatch z⟩
  | cons x hs ih =>
   intro c h1 hh
   obtain ⟨a1, a2, a3⟩ := aAk h1 (hh x (.head _))
   obtain ⟨b1, b2, b3⟩ := ih (cbS c x.2) a1 fun y hy => hh y (.tail _ hy)
   rw [List.foldl_cons]
   refine ⟨b1, Int.dvd_trans a2 b2, fun y hy => ?_⟩
   rcases List.mem_cons.mp hy with z | z
   ·rw [z]; exact Int.dvd_trans a3 b2
   ·exact b3 y z
 obtain ⟨a, _, d⟩ := gen (rs.map (·.2)) 1 (Int.le_refl 1) fun x hx => by
  obtain ⟨r, hr, rfl⟩ := List.mem_map.mp hx
  exact h r hr
 exact ⟨a, fun r hr => ⟨h r hr, d _ (List.mem_map.mpr ⟨r, hr, rfl⟩)⟩⟩
structure Thin (F : Int) (rs fs : List Rw) : Prop where
 sub : fs.Sublist rs
 hd : fs.head? = rs.head?
 ls : fs.getLast? = rs.getLast?
 conv : pH (fs.map (ptL F))
 left : ∀ e ∈ iY (fs.map (ptL F)), ∀ q ∈ rs, 0 <= a7 e.1 e.2 (ptL F q)
theorem oV {rs : List Rw} (h0 : rs ≠ []) (hr : jP rs) : Thin (rM rs) rs (gJ rs) := by
 have fall : xZ (rs.map (ptL (rM rs))) := by
  unfold xZ
  rw [List.pairwise_map]
  exact hr
 obtain ⟨p, ps, e⟩ : ∃ p ps, (rs.map (ptL (rM rs))).reverse = p :: ps := by
  cases h : (rs.map (ptL (rM rs))).reverse with
  | nil =>
   rw [List.reverse_eq_nil_iff, List.map_eq_nil_iff] at h
   exact absurd h h0
  | cons p ps => exact ⟨p, ps, rfl⟩
 have er : (p :: ps).reverse = rs.map (ptL (rM rs)) := by rw [<- e, List.reverse_reverse]
 have ch := vW (p := p) (ps := ps) (by rw [er]; exact fall)
 rw [er, <- e] at ch
 obtain ⟨fs, hs, ef⟩ := List.sublist_map_iff.mp ch.sub
 have et : gJ rs = fs := by
  unfold gJ aI7
  rw [<- uU hs hr]
  refine List.filter_congr fun x _ => ?_
  rw [decide_eq_decide, ef, List.mem_map, List.mem_map]
  constructor
  ·rintro ⟨y, hy, e2⟩
   obtain ⟨z, hz, rfl⟩ := List.mem_map.mp (List.mem_reverse.mp hy)
   exact ⟨z, hz, e2⟩
  ·rintro ⟨z, hz, e2⟩
   exact ⟨ptL (rM rs) z, List.mem_reverse.mpr (List.mem_map.mpr ⟨z, hz, rfl⟩), e2⟩
 rw [et]
 have hm := ch.hd
 have lm := ch.ls
 rw [ef] at hm lm
 rw [List.head?_map, List.head?_map] at hm
 rw [List.getLast?_map, List.getLast?_map] at lm
 have key : ∀ {a b : Option Rw}, (∀ x ∈ a, x ∈ rs) -> (∀ x ∈ b, x ∈ rs) -> a.map (ptL (rM rs)) = b.map (ptL (rM rs)) -> a = b := by
  intro a b ha hb h
  cases a with
  | none =>
   cases b with
   | none => rfl
   | some y => cases h
  | some x =>
   cases b with
   | none => cases h
   | some y =>
    have h := Option.some.inj h
    have e1 : x.1 = y.1 := congrArg (fun q : Q2 => q.1) h
    have hx := ha x rfl
    have hy := hb y rfl
    congr 1
    have uniq : ∀ {l : List Rw}, jP l -> ∀ {x y : Rw}, x ∈ l -> y ∈ l -> x.1 = y.1 -> x = y := by
     intro l
     induction l with
     | nil => intro _ x y hx; cases hx
     | cons z l ih =>
      intro hl x y hx hy e
      obtain ⟨h1, h2⟩ := List.pairwise_cons.mp hl
      rcases List.mem_cons.mp hx with u | u <;> rcases List.mem_cons.mp hy with v | v
      ·rw [u, v]
      ·have := h1 y v; rw [u] at e; omega
      ·have := h1 x u; rw [v] at e; omega
      ·exact ih h2 u v e
    exact uniq hr hx hy e1
 refine ⟨hs, key (fun x hx => hs.subset (List.mem_of_head? hx)) (fun x hx => List.mem_of_head? hx) hm, key (fun x hx => hs.subset (List.mem_of_getLast? hx)) (fun x hx => List.mem_of_getLast? hx) lm, ?_, ?_⟩
 ·rw [<- ef]; exact ch.conv
 ·rw [<- ef]
  exact fun e he q hq => ch.left e he _ (List.mem_map.mpr ⟨q, hq, rfl⟩)
theorem qT {g : Rw -> Q2} : ∀ {fs : List Rw} {i : Nat} {a b : Rw}, fs[i]? = some a -> fs[i + 1]? = some b -> (g b, g a) ∈ iY (fs.map g)
 | [], _, _, _, h, _ => by cases h
 | [x], i, _, _, _, h => by
  rw [List.getElem?_cons_succ] at h
  cases h
 | x :: y :: fs, 0, a, b, h1, h2 => by
  cases h1
  cases h2
  exact .head _
 | x :: y :: fs, i + 1, a, b, h1, h2 => .tail _ (qT (fs := y :: fs) (i := i) h1 h2)
theorem vH {g : Rw -> Q2} : ∀ {fs : List Rw} {i : Nat} {a b d : Rw}, pH (fs.map g) -> fs[i]? = some a -> fs[i + 1]? = some b -> fs[i + 2]? = some d -> 0 < a7 (g d) (g b) (g a)
 | [], _, _, _, _, _, h, _, _ => by cases h
 | [x], i, _, _, _, _, _, h, _ => by
  rw [List.getElem?_cons_succ] at h
  cases h
 | [x, y], i, _, _, _, _, _, _, h => by
  rw [List.getElem?_cons_succ, List.getElem?_cons_succ] at h
  cases h
 | x :: y :: z :: fs, 0, a, b, d, hc, h1, h2, h3 => by
  cases h1
  cases h2
  cases h3
  exact hc.1
 | x :: y :: z :: fs, i + 1, a, b, d, hc, h1, h2, h3 => vH (fs := y :: z :: fs) (i := i) hc.2 h1 h2 h3
def vF (F : Int) (t : Int × Int) (r : Rw) : Int := r.1 * t.1 * F + wI r.2 F * t.2
theorem aNe {F : Int} {t : Int × Int} {r : Rw} (hF : 1 <= F) (ht : 1 <= t.2) (hb : 1 <= r.2.2) (hd : r.2.2 ∣ F) : AF (lh t r) (vF F t r, t.2 * F) := aKu (aDh (AF.refl ht)) (aCm hF hb hd)
theorem jU {t : Int × Int} {r : Rw} (ht : 1 <= t.2) (hb : 1 <= r.2.2) : FR.Fr (lh t r) := aLm (aDh (i := r.1) (AF.refl ht)).a hb
theorem aNr {F : Int} {t : Int × Int} {q a : Rw} {rs : List Rw} (hf : Fac F rs) (ht : 1 <= t.2) (hq : q ∈ rs) (ha : a ∈ rs) : leF (lh t q) (lh t a) ↔ vF F t q <= vF F t a := by
 have a1 := aNe hf.p ht (hf.b q hq).1 (hf.b q hq).2
 have a2 := aNe hf.p ht (hf.b a ha).1 (hf.b a ha).2
 have e := yV a2 a1
 have hD : 0 < t.2 * F := by have := b9 ht hf.p; omega
 constructor
 ·intro l
  have : ltF (lh t a) (lh t q) = false := decide_eq_false (by unfold leF at l; omega)
  rw [this] at e
  have := of_decide_eq_false e.symm
  dsimp only at this
  exact Int.le_of_mul_le_mul_right (Int.not_lt.mp this) hD
 ·intro l
  refine v8 ?_
  rw [e]
  exact decide_eq_false (Int.not_lt.mpr (Int.mul_le_mul_of_nonneg_right l (Int.le_of_lt hD)))
theorem xF {F : Int} {a b : Rw} {rs : List Rw} (hf : Fac F rs) (ha : a ∈ rs) (hb : b ∈ rs) (h : a.1 < b.1) : AF (plc a b) (wI a.2 F - wI b.2 F, F * (b.1 - a.1)) := by
 have e1 := (aCm hf.p (hf.b a ha).1 (hf.b a ha).2).e
 have e2 := (aCm hf.p (hf.b b hb).1 (hf.b b hb).2).e
 dsimp only at e1 e2
 refine yW (sA h (hf.b a ha).1 (hf.b b hb).1) (b9 hf.p (by omega)) ?_
 dsimp only
 grind
theorem place_lt {F : Int} {a b d : Rw} {rs : List Rw} (hf : Fac F rs) (ha : a ∈ rs) (hb : b ∈ rs) (hd : d ∈ rs) (h1 : a.1 < b.1) (h2 : b.1 < d.1) (t : 0 < a7 (ptL F d) (ptL F b) (ptL F a)) : ltF (plc a b) (plc b d) = true := by
 rw [yV (xF hf ha hb h1) (xF hf hb hd h2)]
 refine decide_eq_true ?_
 dsimp only
 unfold a7 ptL at t
 dsimp only at t
 have := Int.mul_pos (show 0 < F by have := hf.p; omega) t
 generalize wI a.2 F = A at *
 generalize wI b.2 F = B at *
 generalize wI d.2 F = D at *
 have k : (B - D) * (F * (b.1 - a.1)) - (A - B) * (F * (d.1 - b.1)) = F * ((b.1 - d.1) * (A - D) - (B - D) * (a.1 - d.1)) := by grind
 omega
structure IsT (rs : List Rw) (t h : Int × Int) : Prop where
 at' : ∃ r ∈ rs, lh t r = h
 le : ∀ r ∈ rs, leF (lh t r) h
theorem vM {rs : List Rw} {t : Int × Int} (h0 : rs ≠ []) (ht : 1 <= t.2) (hb : ∀ r ∈ rs, 1 <= r.2.2) : IsT rs t (zR rs t) := by
 have hh : rs.headD (0, (0, 1)) ∈ rs := head_mem _ h0
 refine ⟨?_, fun r hr => ?_⟩
 ·rcases N.xI (rs.map (lh t)) (lh t (rs.headD (0, (0, 1)))) with z | z
  ·exact ⟨_, hh, z.symm⟩
  ·obtain ⟨r, hr, e⟩ := List.mem_map.mp z
   exact ⟨r, hr, e⟩
 ·exact (aA7 (rs.map (lh t)) (lh t (rs.headD (0, (0, 1)))) (jU ht (hb _ hh)).pos (fun x hx => by
   obtain ⟨r, hr, rfl⟩ := List.mem_map.mp hx
   exact (jU ht (hb r hr)).pos)).2.1 _ (List.mem_map.mpr ⟨r, hr, rfl⟩)
theorem around : ∀ {fs : List Rw} {x y : Rw} {q : Int}, fs.head? = some x -> fs.getLast? = some y -> x.1 <= q -> q <= y.1 -> (∃ z, fs = [z]) \/ ∃ (i : Nat) (a b : Rw), fs[i]? = some a /\ fs[i + 1]? = some b /\ a.1 <= q /\ q <= b.1
 | [], _, _, _, h, _, _, _ => by cases h
 | [z], _, _, _, _, _, _, _ => .inl ⟨z, rfl⟩
 | a :: b :: fs, x, y, q, h1, h2, h3, h4 => by
  cases h1
  by_cases hq : q <= b.1
  ·exact .inr ⟨0, a, b, rfl, rfl, h3, hq⟩
  ·rw [List.getLast?_cons_cons] at h2
   rcases around (fs := b :: fs) (x := b) rfl h2 (show b.1 <= q by omega) h4 with ⟨z, e⟩ | ⟨i, u, v, e1, e2, e3, e4⟩
   ·rw [e] at h2
    have hz : z = y := Option.some.inj h2
    injection e with eb _
    rw [<- hz, <- eb] at h4
    omega
   ·exact .inr ⟨i + 1, u, v, e1, e2, e3, e4⟩
theorem rO : ∀ {rs : List Rw} {x : Rw}, jP rs -> rs.head? = some x -> ∀ q ∈ rs, x.1 <= q.1
 | [], _, _, h, _, _ => by cases h
 | a :: rs, x, hr, h, q, hq => by
  cases h
  rcases List.mem_cons.mp hq with z | z
  ·rw [z]; exact Int.le_refl _
  ·exact Int.le_of_lt ((List.pairwise_cons.mp hr).1 q z)
theorem n9 : ∀ {rs : List Rw} {y : Rw}, jP rs -> rs.getLast? = some y -> ∀ q ∈ rs, q.1 <= y.1
 | [], _, _, h, _, _ => by cases h
 | [a], _, _, h, q, hq => by
  cases h
  rw [List.mem_singleton.mp hq]
  exact Int.le_refl _
 | a :: b :: rs, y, hr, h, q, hq => by
  rw [List.getLast?_cons_cons] at h
  obtain ⟨h1, h2⟩ := List.pairwise_cons.mp hr
  rcases List.mem_cons.mp hq with z | z
  ·rw [z]
   exact Int.le_of_lt (h1 y (List.mem_of_getLast? h))
  ·exact n9 h2 h q z
theorem lK : ∀ {fs : List Rw} {i : Nat} {a b : Rw}, jP fs -> fs[i]? = some a -> fs[i + 1]? = some b -> a.1 < b.1
 | [], _, _, _, _, h, _ => by cases h
 | x :: fs, 0, a, b, hr, h1, h2 => by
  cases h1
  exact (List.pairwise_cons.mp hr).1 b (List.mem_of_getElem? h2)
 | x :: fs, i + 1, a, b, hr, h1, h2 => lK (fs := fs) (i := i) (List.pairwise_cons.mp hr).2 h1 h2
theorem aFs {F : Int} {rs fs : List Rw} {t : Int × Int} (hf : Fac F rs) (h0 : rs ≠ []) (hr : jP rs) (th : Thin F rs fs) (ht : 1 <= t.2) : zR fs t = zR rs t := by
 have hb : ∀ r ∈ rs, 1 <= r.2.2 := fun r h => (hf.b r h).1
 have hfb : ∀ r ∈ fs, 1 <= r.2.2 := fun r h => hb r (th.sub.subset h)
 have rf : jP fs := List.Pairwise.sublist th.sub hr
 obtain ⟨x, ex⟩ : ∃ x, rs.head? = some x := by
  cases rs with
  | nil => exact absurd rfl h0
  | cons x r => exact ⟨x, rfl⟩
 obtain ⟨y, ey⟩ : ∃ y, rs.getLast? = some y := by
  cases e : rs.getLast? with
  | none => exact absurd (List.getLast?_eq_none_iff.mp e) h0
  | some y => exact ⟨y, rfl⟩
 have f0 : fs ≠ [] := fun z => by
  have := th.hd
  rw [z, ex] at this
  cases this
 have cov : ∀ q ∈ rs, ∃ a ∈ fs, leF (lh t q) (lh t a) := fun q hq => by
  rcases around (fs := fs) (q := q.1) (th.hd.trans ex) (th.ls.trans ey) (rO hr ex q hq) (n9 hr ey q hq) with ⟨z, e⟩ | ⟨i, a, b, e1, e2, e3, e4⟩
  ·have hx := th.hd
   have hy := th.ls
   rw [e, ex] at hx
   rw [e, ey] at hy
   have hx : z = x := Option.some.inj hx
   have hy : z = y := Option.some.inj hy
   have l1 := rO hr ex q hq
   have l2 := n9 hr ey q hq
   have : q.1 = z.1 := by rw [hx]; rw [<- hy, hx] at l2; omega
   have hz : z ∈ rs := by rw [hx]; exact List.mem_of_head? ex
   have uq : q = z := by
    have gen : ∀ {l : List Rw}, jP l -> ∀ {x y : Rw}, x ∈ l -> y ∈ l -> x.1 = y.1 -> x = y := by
     intro l
     induction l with
     | nil => intro _ x y hx; cases hx
     | cons z l ih =>
      intro hl x y hx hy e
      obtain ⟨h1, h2⟩ := List.pairwise_cons.mp hl
      rcases List.mem_cons.mp hx with u | u <;> rcases List.mem_cons.mp hy with v | v
      ·rw [u, v]
      ·have := h1 y v; rw [u] at e; omega
      ·have := h1 x u; rw [v] at e; omega
      ·exact ih h2 u v e
    exact gen hr hq hz this
   exact ⟨z, by rw [e]; exact .head _, by rw [uq]; exact iA _⟩
  ·have ha : a ∈ fs := List.mem_of_getElem? e1
   have hb' : b ∈ fs := List.mem_of_getElem? e2
   have lt := lK rf e1 e2
   have tn := th.left _ (qT (g := ptL F) e1 e2) q hq
   have k : vF F t q <= vF F t a \/ vF F t q <= vF F t b := by
    unfold a7 ptL at tn
    dsimp only at tn
    unfold vF
    generalize wI a.2 F = A at *
    generalize wI b.2 F = B at *
    generalize wI q.2 F = Q at *
    by_cases z1 : q.1 * t.1 * F + Q * t.2 <= a.1 * t.1 * F + A * t.2
    ·exact .inl z1
    ·by_cases z2 : q.1 * t.1 * F + Q * t.2 <= b.1 * t.1 * F + B * t.2
     ·exact .inr z2
     ·exfalso
      have n1 := Int.mul_nonneg (show 0 <= b.1 - q.1 by omega) (show 0 <= (q.1 * t.1 * F + Q * t.2) - (a.1 * t.1 * F + A * t.2) by omega)
      have n2 := Int.mul_nonneg (show 0 <= q.1 - a.1 by omega) (show 0 <= (q.1 * t.1 * F + Q * t.2) - (b.1 * t.1 * F + B * t.2) by omega)
      have n3 := Int.mul_nonneg (show 0 <= t.2 by omega) tn
      have kk : (b.1 - q.1) * ((q.1 * t.1 * F + Q * t.2) - (a.1 * t.1 * F + A * t.2)) + (q.1 - a.1) * ((q.1 * t.1 * F + Q * t.2) - (b.1 * t.1 * F + B * t.2)) = -(t.2 * ((a.1 - b.1) * (Q - B) - (A - B) * (q.1 - b.1))) := by grind
      have s1 : (b.1 - q.1) * ((q.1 * t.1 * F + Q * t.2) - (a.1 * t.1 * F + A * t.2)) = 0 := by omega
      have s2 : (q.1 - a.1) * ((q.1 * t.1 * F + Q * t.2) - (b.1 * t.1 * F + B * t.2)) = 0 := by omega
      have u1 : b.1 - q.1 = 0 := by
       rcases Int.mul_eq_zero.mp s1 with w | w
       ·exact w
       ·omega
      have u2 : q.1 - a.1 = 0 := by
       rcases Int.mul_eq_zero.mp s2 with w | w
       ·exact w
       ·omega
      omega
   rcases k with k | k
   ·exact ⟨a, ha, (aNr hf ht hq (th.sub.subset ha)).mpr k⟩
   ·exact ⟨b, hb', (aNr hf ht hq (th.sub.subset hb')).mpr k⟩
 have t1 := vM f0 ht hfb
 have t2 := vM h0 ht hb
 obtain ⟨r1, h1, e1⟩ := t1.at'
 obtain ⟨r2, h2, e2⟩ := t2.at'
 refine wL (by rw [<- e1]; exact jU ht (hfb r1 h1)) (by rw [<- e2]; exact jU ht (hb r2 h2)) ?_ ?_
 ·rw [<- e1]; exact t2.le r1 (th.sub.subset h1)
 ·obtain ⟨a, ha, l⟩ := cov r2 h2
  rw [<- e2]
  exact i8 (jU ht (hb r2 h2)).pos (jU ht (hfb a ha)).pos (by rw [<- e1]; exact (jU ht (hfb r1 h1)).pos) l (t1.le a ha)
def GRl (r : Rw) : Prop := Sz 100 r.1 /\ FR.Fr r.2 /\ Sz 300 r.2.1 /\ Sz 20 r.2.2
theorem GRl.pos {r : Rw} (h : GRl r) : 1 <= r.2.2 := h.2.1.pos
def k8 (r : Rw) : List Rw -> List Rw
 | k1 :: k2 :: s => if ltF (plc k2 k1) (plc k1 r) = true then k1 :: k2 :: s else k8 r (k2 :: s)
 | s => s
def nM (s : List Rw) (r : Rw) : List Rw := r :: k8 r s
def y4 (rs : List Rw) : List Rw := rs.foldl nM []
def uM (rs : List Rw) : List Rw := (y4 rs).reverse
def Dn (l : List Rw) : Prop := l.Pairwise fun a b => b.1 < a.1
theorem fP (r : Rw) : ∀ s : List Rw, k8 r s <:+ s
 | [] => by unfold k8; exact List.suffix_refl _
 | [a] => by unfold k8; exact List.suffix_refl _
 | k1 :: k2 :: s => by
  unfold k8
  split
  ·exact List.suffix_refl _
  ·exact (fP r (k2 :: s)).trans (List.suffix_cons _ _)
theorem v7 {s : List Rw} {r : Rw} (h : Dn (r :: s)) : Dn (nM s r) := by
 obtain ⟨h1, h2⟩ := List.pairwise_cons.mp h
 have suf := fP r s
 exact List.pairwise_cons.mpr ⟨fun k hk => h1 k (suf.subset hk), List.Pairwise.sublist suf.sublist h2⟩
theorem GRl.g3 {r : Rw} (h : GRl r) : Good 300 r.2 := ⟨h.pos, h.2.2.1, h.2.2.2.mono (by decide)⟩
noncomputable def dW (K : PySem.W.Frag) (c : Cls) : List L -> Res L := mOf eLs (fun rs => rs.length <= 1000 /\ jP rs /\ ∀ r ∈ rs, GRl r) fun rs => .ok (.o (.list ((uM rs).map lrD)))
noncomputable def cF (K : PySem.W.Frag) (c : Cls) : En -> Res Bool := (wU (bY (aH gtE (aN jT (aB (aD 1) aT)) (mC (.int 1)))) (gY (bY (aL 2 (aR K c) (aB (aL 2 (bO K c) (aB (aH ixE (aD 1) (mUn kO (mC (.int 2)))) (aB (aH ixE (aD 1) (mUn kO (mC (.int 1)))) aT))) (aB (aL 2 (bO K c) (aB (aH ixE (aD 1) (mUn kO (mC (.int 1)))) (aB (aD 2) aT))) aT))))))
noncomputable def dR (K : PySem.W.Frag) (c : Cls) : MS := (aMk 1)
noncomputable def eU (K : PySem.W.Frag) (c : Cls) : MS := (cI (jX (cF K c) (dR K c)) (fF 1 (aD 2)))
noncomputable def kC (K : PySem.W.Frag) (c : Cls) : MS := (cI (dO 1 (aN iN aT)) (cI (uG (iV (aD 0)) (aM 2) (eU K c)) (eP (aD 1))))
theorem aI3 (K : PySem.W.Frag) (c : Cls) (Z : Option L) {p : Rw} (gp : GRl p) : ∀ (n : Nat) (s : List Rw), s.length <= n -> Dn (p :: s) -> (∀ k ∈ s, GRl k) -> mWh (cF K c) (dR K c) (n + 1) [Z, some (.o (.list (s.reverse.map lrD))), some (.p (lrD p))] = some (.nx [Z, some (.o (.list ((k8 p s).reverse.map lrD))), some (.p (lrD p))]) := by
 have hlen : ∀ s : List Rw, jT [.b (.list (s.reverse.map lrD))] = .ok (.p (.int (s.length : Nat))) := fun s => by simp [jT, gP]
 have neg2 : kO (.p (.int 2)) = .ok (.p (.int (-2))) := rfl
 have neg1 : kO (.p (.int 1)) = .ok (.p (.int (-1))) := rfl
 have t1 : ∀ s : List Rw, bY (aH gtE (aN jT (aB (aD 1) aT)) (mC (.int 1))) [Z, some (.o (.list (s.reverse.map lrD))), some (.p (lrD p))] = .ok (decide ((1 : Int) < (s.length : Nat))) := fun s => by
  ktr_call 3 ⟨bY, aH, aN, aB, aT, aD, mC, Res.bind, Ev.c, hlen, fM, cR⟩
 have short : ∀ (n : Nat) (s : List Rw), s.length <= 1 -> mWh (cF K c) (dR K c) (n + 1) [Z, some (.o (.list (s.reverse.map lrD))), some (.p (lrD p))] = some (.nx [Z, some (.o (.list (s.reverse.map lrD))), some (.p (lrD p))]) := fun n s hs => by
  have t : cF K c [Z, some (.o (.list (s.reverse.map lrD))), some (.p (lrD p))] = .ok false := by
   unfold cF wU
   rw [t1 s, decide_eq_false (by omega)]
   rfl
  unfold mWh
  rw [t]
 intro n
 induction n with
 | zero =>
  intro s hs _ _
  have e : s = [] := List.length_eq_zero_iff.mp (by omega)
  subst e
  rw [show k8 p [] = [] from by unfold k8; rfl]
  exact short 0 [] (by decide)
 | succ n ih =>
  intro s hs hd hg
  match s, hs, hd, hg with
  | [], _, _, _ =>
   rw [show k8 p [] = [] from by unfold k8; rfl]
   exact short _ [] (by decide)
  | [a], _, _, _ =>
   rw [show k8 p [a] = [a] from by unfold k8; rfl]
   exact short _ [a] (Nat.le_refl _)
  | k1 :: k2 :: r, hs, hd, hg =>
   have er : (k1 :: k2 :: r).reverse.map lrD = (r.reverse.map lrD) ++ [lrD k2, lrD k1] := by simp
   have i2 : ixE (.b (.list ((r.reverse.map lrD) ++ [lrD k2, lrD k1]))) (.p (.int (-2))) = .ok (.p (lrD k2)) := by simp only [ixE, gP, aMp]
   have i1 : ixE (.b (.list ((r.reverse.map lrD) ++ [lrD k2, lrD k1]))) (.p (.int (-1))) = .ok (.p (lrD k1)) := by simp only [ixE, gP, aMa]
   obtain ⟨hd1, hd2⟩ := List.pairwise_cons.mp hd
   have l1 : k1.1 < p.1 := hd1 k1 (.head _)
   have l2 : k2.1 < k1.1 := (List.pairwise_cons.mp hd2).1 k2 (.head _)
   have g1 := hg k1 (.head _)
   have g2 := hg k2 (.tail _ (.head _))
   have p1 := rJ K c l2 g2.1 g1.1 g2.g3 g1.g3
   have p2 := rJ K c l1 g1.1 gp.1 g1.g3 gp.g3
   have q1 := wF l2 g2.1 g1.1 g2.g3 g1.g3
   have q2 := wF l1 g1.1 gp.1 g1.g3 gp.g3
   have bo := kL K c (q1.mono (show 800 <= 2000 by decide)).fsz (q2.mono (show 800 <= 2000 by decide)).fsz
   have t2 : (gY (bY (aL 2 (aR K c) (aB (aL 2 (bO K c) (aB (aH ixE (aD 1) (mUn kO (mC (.int 2)))) (aB (aH ixE (aD 1) (mUn kO (mC (.int 1)))) aT))) (aB (aL 2 (bO K c) (aB (aH ixE (aD 1) (mUn kO (mC (.int 1)))) (aB (aD 2) aT))) aT))))) [Z, some (.o (.list ((k1 :: k2 :: r).reverse.map lrD))), some (.p (lrD p))] = .ok (!ltF (plc k2 k1) (plc k1 p)) := by
    rw [er]
    ktr_call 3 ⟨gY, bY, aH, aL, aB, aT, aD, mUn, mC, Res.bind, Ev.c, neg2, neg1, i2, i1, fK, dX, mV, p1, p2, bo, nE, cR⟩
   have t : cF K c [Z, some (.o (.list ((k1 :: k2 :: r).reverse.map lrD))), some (.p (lrD p))] = .ok (!ltF (plc k2 k1) (plc k1 p)) := by
    unfold cF wU
    rw [t1, decide_eq_true (by simp only [List.length_cons]; omega), qS]
    exact t2
   cases h : ltF (plc k2 k1) (plc k1 p) with
   | false =>
    rw [h, Bool.not_false] at t
    have hp : dR K c [Z, some (.o (.list ((k1 :: k2 :: r).reverse.map lrD))), some (.p (lrD p))] = some (.nx [Z, some (.o (.list ((k2 :: r).reverse.map lrD))), some (.p (lrD p))]) := by
     have ne : (k1 :: k2 :: r).reverse.map lrD ≠ [] := by simp
     have dl : ((k1 :: k2 :: r).reverse.map lrD).dropLast = (k2 :: r).reverse.map lrD := by
      rw [List.reverse_cons, List.map_append]
      exact List.dropLast_concat
     unfold dR aMk aAs
     simp only [List.getElem?_cons_succ, List.getElem?_cons_zero]
     rw [if_neg ne, dl]
     rfl
    have e : k8 p (k1 :: k2 :: r) = k8 p (k2 :: r) := by
     show (if ltF (plc k2 k1) (plc k1 p) = true then k1 :: k2 :: r else k8 p (k2 :: r)) = _
     rw [h]
     rfl
    rw [e]
    unfold mWh
    rw [t]
    dsimp only
    rw [hp]
    exact ih (k2 :: r) (by simp only [List.length_cons] at hs ⊢; omega) (List.pairwise_cons.mpr ⟨fun k hk => hd1 k (.tail _ hk), (List.pairwise_cons.mp hd2).2⟩) fun k hk => hg k (.tail _ hk)
   | true =>
    rw [h, Bool.not_true] at t
    have e : k8 p (k1 :: k2 :: r) = k1 :: k2 :: r := by
     show (if ltF (plc k2 k1) (plc k1 p) = true then k1 :: k2 :: r else k8 p (k2 :: r)) = _
     rw [h]
     rfl
    rw [e]
    unfold mWh
    rw [t]
theorem r8 (K : PySem.W.Frag) (c : Cls) (Z : Option L) : ∀ (ps s : List Rw) (r : Option L), s.length + ps.length <= 2000 -> Dn s -> jP ps -> (∀ k ∈ s, ∀ p ∈ ps, k.1 < p.1) -> (∀ k ∈ s, GRl k) -> (∀ p ∈ ps, GRl p) -> ∃ r', dP (aM 2) (eU K c) (ps.map lrD) [Z, some (.o (.list (s.reverse.map lrD))), r] = some (.nx [Z, some (.o (.list ((ps.foldl nM s).reverse.map lrD))), r'])
 | [], s, r, _, _, _, _, _, _ => ⟨r, rfl⟩
 | p :: ps, s, r, hl, hd, hr, hlt, hs, hp => by
  rw [List.length_cons] at hl
  have gp := hp p (.head _)
  obtain ⟨r1, r2⟩ := List.pairwise_cons.mp hr
  have dn : Dn (p :: s) := List.pairwise_cons.mpr ⟨fun k hk => hlt k hk p (.head _), hd⟩
  have w := aI3 K c Z gp (List.length s) s (Nat.le_refl _) dn hs
  have w := kM w
  have suf := fP p s
  have ll : (k8 p s).length <= s.length := suf.sublist.length_le
  have hb : eU K c [Z, some (.o (.list (s.reverse.map lrD))), some (.p (lrD p))] = some (.nx [Z, some (.o (.list ((nM s p).reverse.map lrD))), some (.p (lrD p))]) := by
   unfold eU
   refine (aQ w).trans ?_
   unfold fF
   simp only [List.set_cons_succ, List.set_cons_zero, List.getElem?_cons_succ, List.getElem?_cons_zero, aD, Ev.c]
   rw [if_pos (by rw [List.length_map, List.length_reverse]; omega)]
   show some (Out.nx [Z, some (.o (.list ((k8 p s).reverse.map lrD ++ [lrD p]))), some (.p (lrD p))]) = _
   unfold nM
   rw [List.reverse_cons, List.map_append]
   rfl
  obtain ⟨r', ih⟩ := r8 K c Z ps (nM s p) (some (.p (lrD p))) (by show (k8 p s).length + 1 + ps.length <= 2000; omega) (v7 dn) r2 (fun k hk q hq => by
   rcases List.mem_cons.mp hk with z | z
   ·rw [z]; exact r1 q hq
   ·exact hlt k (suf.subset z) q (.tail _ hq)) (fun k hk => by
   rcases List.mem_cons.mp hk with z | z
   ·rw [z]; exact gp
   ·exact hs k (suf.subset z)) fun q hq => hp q (.tail _ hq)
  refine ⟨r', ?_⟩
  rw [List.map_cons]
  unfold dP
  simp only [aM, List.set_cons_succ, List.set_cons_zero]
  rw [hb]
  exact ih
theorem tW (K : PySem.W.Frag) (c : Cls) : ∀ ls, dW K c ls = .bad \/ e9 3 (kC K c) ls = dW K c ls := cD fun rs h => by
 obtain ⟨hl, hr, hg⟩ := h
 obtain ⟨r', hlp⟩ := r8 K c (some (.p (.list (rs.map lrD)))) rs [] none (by rw [List.length_nil]; omega) List.Pairwise.nil hr (fun _ h => nomatch h) (fun _ h => nomatch h) hg
 refine bZ ?_
 rw [show bG 3 (eLs rs) = [some (.p (.list (rs.map lrD))), none, none] from rfl]
 unfold kC
 refine (aQ (j7 (d := .list []) rfl)).trans ((aQ ((mF (ds := rs.map lrD) rfl).trans hlp)).trans ?_)
 rfl
theorem yN (K : PySem.W.Frag) (c : Cls) {rs : List Rw} (h1 : rs.length <= 1000) (h2 : jP rs) (h3 : ∀ r ∈ rs, GRl r) : dW K c [.p (.list (rs.map lrD))] = .ok (.o (.list ((uM rs).map lrD))) := cC (a := rs) pW ⟨h1, h2, h3⟩
theorem iS : ∀ {l : List Rw}, jP l -> ∀ {x y : Rw}, x ∈ l -> y ∈ l -> x.1 = y.1 -> x = y
 | [], _, x, _, hx, _, _ => nomatch hx
 | z :: l, hl, x, y, hx, hy, e => by
  obtain ⟨h1, h2⟩ := List.pairwise_cons.mp hl
  rcases List.mem_cons.mp hx with u | u <;> rcases List.mem_cons.mp hy with v | v
  ·rw [u, v]
  ·have := h1 y v; rw [u] at e; omega
  ·have := h1 x u; rw [v] at e; omega
  ·exact iS h2 u v e
structure TI (F : Int) (rs fs : List Rw) : Prop where
 sub : fs.Sublist rs
 hd : fs.head? = rs.head?
 ls : fs.getLast? = rs.getLast?
 conv : ∀ (i : Nat) (a b d : Rw), fs[i]? = some a -> fs[i + 1]? = some b -> fs[i + 2]? = some d -> 0 < a7 (ptL F d) (ptL F b) (ptL F a)
 left : ∀ (i : Nat) (a b : Rw), fs[i]? = some a -> fs[i + 1]? = some b -> ∀ q ∈ rs, 0 <= a7 (ptL F b) (ptL F a) (ptL F q)
theorem Thin.ti {F : Int} {rs fs : List Rw} (t : Thin F rs fs) : TI F rs fs := ⟨t.sub, t.hd, t.ls, fun i a b d h1 h2 h3 => vH (g := ptL F) t.conv h1 h2 h3, fun i a b h1 h2 q hq => t.left _ (qT (g := ptL F) h1 h2) q hq⟩
theorem four {p r s a b : Q2} (hp : p.1 < r.1) (hs : r.1 < s.1) (ha : a.1 < r.1) (hb : r.1 < b.1) (c : 0 < a7 s r p) (l1 : 0 <= a7 r p a) (l2 : 0 <= a7 s r b) (g : 0 <= a7 b a r) : False := by
 have k : (r.1 - p.1) * (s.1 - r.1) * a7 b a r = -((r.1 - a.1) * (b.1 - r.1) * a7 s r p + (s.1 - r.1) * (b.1 - r.1) * a7 r p a + (r.1 - p.1) * (r.1 - a.1) * a7 s r b) := by
  unfold a7
  grind
 have w : ∀ {x y : Int}, 0 < x -> 0 < y -> 0 < x * y := fun hx hy => Int.mul_pos hx hy
 have n1 := Int.mul_nonneg (Int.le_of_lt (w (show 0 < r.1 - p.1 by omega) (show 0 < s.1 - r.1 by omega))) g
 have n2 := w (w (show 0 < r.1 - a.1 by omega) (show 0 < b.1 - r.1 by omega)) c
 have n3 := Int.mul_nonneg (Int.le_of_lt (w (show 0 < s.1 - r.1 by omega) (show 0 < b.1 - r.1 by omega))) l1
 have n4 := Int.mul_nonneg (Int.le_of_lt (w (show 0 < r.1 - p.1 by omega) (show 0 < r.1 - a.1 by omega))) l2
 omega
theorem aHh {F : Int} {rs fs gs : List Rw} (hR : jP rs) (t1 : TI F rs fs) (t2 : TI F rs gs) : ∀ r ∈ fs, r ∈ gs := by
 intro r hr
 by_cases hg : r ∈ gs
 ·exact hg
 exfalso
 have hrs := t1.sub.subset hr
 obtain ⟨x, ex⟩ : ∃ x, rs.head? = some x := by
  cases rs with
  | nil => exact nomatch hrs
  | cons x l => exact ⟨x, rfl⟩
 obtain ⟨y, ey⟩ : ∃ y, rs.getLast? = some y := by
  cases e : rs.getLast? with
  | none => rw [List.getLast?_eq_none_iff.mp e] at hrs; exact nomatch hrs
  | some y => exact ⟨y, rfl⟩
 have r1 := rO hR ex r hrs
 have r2 := n9 hR ey r hrs
 rcases around (fs := gs) (q := r.1) (t2.hd.trans ex) (t2.ls.trans ey) r1 r2 with ⟨z, e⟩ | ⟨i, a, b, e1, e2, e3, e4⟩
 ·have hx := t2.hd
  have hy := t2.ls
  rw [e, ex] at hx
  rw [e, ey] at hy
  have hx : z = x := Option.some.inj hx
  have hy : z = y := Option.some.inj hy
  have hz : z ∈ rs := t2.sub.subset (by rw [e]; exact .head _)
  have : r.1 = z.1 := by
   rw [<- hx] at r1
   rw [<- hy] at r2
   omega
  have := iS hR hrs hz this
  exact hg (by rw [this, e]; exact .head _)
 ·have ma : a ∈ gs := List.mem_of_getElem? e1
  have mb : b ∈ gs := List.mem_of_getElem? e2
  have na : a.1 ≠ r.1 := fun z => hg (by rw [<- iS hR (t2.sub.subset ma) hrs z]; exact ma)
  have nb : b.1 ≠ r.1 := fun z => hg (by rw [<- iS hR (t2.sub.subset mb) hrs z]; exact mb)
  have rf : jP fs := List.Pairwise.sublist t1.sub hR
  obtain ⟨j, hj⟩ := List.getElem?_of_mem hr
  have jl : j < fs.length := (List.getElem?_eq_some_iff.mp hj).1
  cases j with
  | zero =>
   have : fs.head? = some r := by rw [List.head?_eq_getElem?]; exact hj
   rw [t1.hd, ex] at this
   have e : x = r := Option.some.inj this
   have := rO hR ex a (t2.sub.subset ma)
   rw [e] at this
   omega
  | succ k =>
   obtain ⟨p, hp⟩ : ∃ p, fs[k]? = some p := ⟨_, List.getElem?_eq_getElem (by omega)⟩
   obtain ⟨s, hs⟩ : ∃ s, fs[k + 2]? = some s := by
    by_cases w : k + 2 < fs.length
    ·exact ⟨_, List.getElem?_eq_getElem w⟩
    ·exfalso
     have : fs.getLast? = some r := by
      rw [List.getLast?_eq_getElem?, show fs.length - 1 = k + 1 by omega]
      exact hj
     rw [t1.ls, ey] at this
     have e : y = r := Option.some.inj this
     have := n9 hR ey b (t2.sub.subset mb)
     rw [e] at this
     omega
   exact four (p := ptL F p) (r := ptL F r) (s := ptL F s) (a := ptL F a) (b := ptL F b) (lK rf hp hj) (lK rf hj hs) (show a.1 < r.1 by omega) (show r.1 < b.1 by omega) (t1.conv k p r s hp hj hs) (t1.left k p r hp hj a (t2.sub.subset ma)) (t1.left (k + 1) r s hj hs b (t2.sub.subset mb)) (t2.left i a b e1 e2 r hrs)
theorem aPp {F : Int} {rs fs gs : List Rw} (hR : jP rs) (t1 : TI F rs fs) (t2 : TI F rs gs) : fs = gs := by
 rw [<- uU t1.sub hR, <- uU t2.sub hR]
 have key : ∀ r : Rw, r.1 ∈ fs.map (·.1) ↔ r.1 ∈ gs.map (·.1) := fun r => by
  rw [List.mem_map, List.mem_map]
  exact ⟨fun ⟨q, h, e⟩ => ⟨q, aHh hR t1 t2 q h, e⟩, fun ⟨q, h, e⟩ => ⟨q, aHh hR t2 t1 q h, e⟩⟩
 refine List.filter_congr fun r _ => ?_
 exact decide_eq_decide.mpr (key r)
def mu (F : Int) (r : Rw) : Q2 := (-r.1, wI r.2 F)
theorem vS (F : Int) (a b d : Rw) : a7 (mu F a) (mu F b) (mu F d) = a7 (ptL F d) (ptL F b) (ptL F a) := by
 unfold a7 mu ptL
 dsimp only
 grind
theorem aDu (a b d : Q2) : a7 a b d = a7 b d a := by
 unfold a7
 grind
theorem aCl {F : Int} {a b d : Rw} {rs : List Rw} (hf : Fac F rs) (ha : a ∈ rs) (hb : b ∈ rs) (hd : d ∈ rs) (h1 : a.1 < b.1) (h2 : b.1 < d.1) : ltF (plc a b) (plc b d) = decide (0 < a7 (mu F a) (mu F b) (mu F d)) := by
 rw [yV (xF hf ha hb h1) (xF hf hb hd h2), vS]
 unfold ltF
 refine decide_eq_decide.mpr ?_
 unfold a7 ptL
 dsimp only
 generalize wI a.2 F = A at *
 generalize wI b.2 F = B at *
 generalize wI d.2 F = D at *
 have k : (B - D) * (F * (b.1 - a.1)) - (A - B) * (F * (d.1 - b.1)) = F * ((b.1 - d.1) * (A - D) - (B - D) * (a.1 - d.1)) := by grind
 have p := hf.p
 constructor
 ·intro h
  exact Int.pos_of_mul_pos_right (a := F) (by omega) (by omega)
 ·intro h
  have := Int.mul_pos (show 0 < F by omega) h
  omega
theorem aGv {F : Int} {rs : List Rw} (hf : Fac F rs) {r : Rw} (hr : r ∈ rs) : ∀ {s : List Rw}, (∀ k ∈ s, k ∈ rs) -> Dn (r :: s) -> (k8 r s).map (mu F) = fL (mu F r) (s.map (mu F))
 | [], _, _ => by unfold k8 fL; rfl
 | [a], _, _ => by unfold k8 fL; rfl
 | k1 :: k2 :: s, hs, hd => by
  obtain ⟨h1, h2⟩ := List.pairwise_cons.mp hd
  obtain ⟨h3, h4⟩ := List.pairwise_cons.mp h2
  have pi := aCl hf (hs k2 (.tail _ (.head _))) (hs k1 (.head _)) hr (h3 k2 (.head _)) (h1 k1 (.head _))
  have ih := aGv hf hr (s := k2 :: s) (fun k hk => hs k (.tail _ hk)) (List.pairwise_cons.mpr ⟨fun k hk => h1 k (.tail _ hk), h4⟩)
  have e1 : k8 r (k1 :: k2 :: s) = if ltF (plc k2 k1) (plc k1 r) = true then k1 :: k2 :: s else k8 r (k2 :: s) := by
   conv => lhs; unfold k8
  have e2 : fL (mu F r) ((k1 :: k2 :: s).map (mu F)) = if a7 (mu F k2) (mu F k1) (mu F r) <= 0 then fL (mu F r) ((k2 :: s).map (mu F)) else (k1 :: k2 :: s).map (mu F) := by
   rw [List.map_cons, List.map_cons]
   conv => lhs; unfold fL
  rw [e1, e2, pi]
  by_cases z : 0 < a7 (mu F k2) (mu F k1) (mu F r)
  ·rw [decide_eq_true z, if_pos rfl, if_neg (by omega)]
  ·rw [decide_eq_false z, if_neg (by decide), if_pos (by omega)]
   exact ih
theorem aAo {F : Int} {rs : List Rw} (hf : Fac F rs) : ∀ (ps s : List Rw), (∀ k ∈ s, k ∈ rs) -> (∀ p ∈ ps, p ∈ rs) -> Dn s -> jP ps -> (∀ k ∈ s, ∀ p ∈ ps, k.1 < p.1) -> (ps.foldl nM s).map (mu F) = (ps.map (mu F)).foldl pushS (s.map (mu F))
 | [], s, _, _, _, _, _ => rfl
 | p :: ps, s, hs, hp, hd, hr, hlt => by
  obtain ⟨r1, r2⟩ := List.pairwise_cons.mp hr
  have dn : Dn (p :: s) := List.pairwise_cons.mpr ⟨fun k hk => hlt k hk p (.head _), hd⟩
  have suf := fP p s
  have ih := aAo hf ps (nM s p) (fun k hk => by
   rcases List.mem_cons.mp hk with z | z
   ·rw [z]; exact hp p (.head _)
   ·exact hs k (suf.subset z)) (fun q hq => hp q (.tail _ hq)) (v7 dn) r2 (fun k hk q hq => by
   rcases List.mem_cons.mp hk with z | z
   ·rw [z]; exact r1 q hq
   ·exact hlt k (suf.subset z) q (.tail _ hq))
  rw [List.foldl_cons, List.map_cons, List.foldl_cons, ih]
  congr 1
  unfold nM pushS
  rw [List.map_cons, aGv hf (hp p (.head _)) hs dn]
theorem aCe : ∀ (ps s : List Rw), (ps.foldl nM s).Sublist (ps.reverse ++ s)
 | [], s => List.Sublist.refl _
 | p :: ps, s => by
  rw [List.foldl_cons, List.reverse_cons, List.append_assoc]
  refine (aCe ps (nM s p)).trans (List.Sublist.append_left ?_ _)
  exact ((fP p s).sublist).cons₂ p
theorem aBx (rs : List Rw) : (uM rs).Sublist rs := by
 have := aCe rs []
 rw [List.append_nil] at this
 have := this.reverse
 rw [List.reverse_reverse] at this
 exact this
theorem rY {s : List Rw} {i : Nat} {a : Rw} (h : s.reverse[i]? = some a) : i < s.length /\ s[s.length - 1 - i]? = some a := by
 have hl := (List.getElem?_eq_some_iff.mp h).1
 rw [List.length_reverse] at hl
 rw [List.getElem?_reverse hl] at h
 exact ⟨hl, h⟩
theorem oN {F : Int} {rs : List Rw} (hR : jP rs) {x y : Option Rw} (hx : ∀ a, x = some a -> a ∈ rs) (hy : ∀ a, y = some a -> a ∈ rs) (h : x.map (mu F) = y.map (mu F)) : x = y := by
 cases x with
 | none => cases y with
  | none => rfl
  | some b => cases h
 | some a => cases y with
  | none => cases h
  | some b =>
   have h : mu F a = mu F b := Option.some.inj h
   have : a.1 = b.1 := by
    have := congrArg Prod.fst h
    unfold mu at this
    dsimp only at this
    omega
   rw [iS hR (hx a rfl) (hy b rfl) this]
theorem aFl {rs : List Rw} (h0 : rs ≠ []) (hR : jP rs) (hb : ∀ r ∈ rs, 1 <= r.2.2) : TI (rM rs) rs (uM rs) := by
 have hf := x6 hb
 generalize rM rs = F at *
 have hm : (y4 rs).map (mu F) = lM (rs.map (mu F)) := aAo hf rs [] (fun _ h => nomatch h) (fun _ h => h) List.Pairwise.nil hR (fun _ h => nomatch h)
 have hfall : xZ (rs.map (mu F)).reverse := by
  unfold xZ
  rw [List.pairwise_reverse, List.pairwise_map]
  exact hR.imp fun h => by
   unfold mu
   dsimp only
   omega
 have ch : ChI (rs.map (mu F)).reverse ((y4 rs).map (mu F)) := by
  rw [hm]
  cases rs with
  | nil => exact absurd rfl h0
  | cons x xs => exact vW hfall
 have sb := aBx rs
 have sb' : ∀ a ∈ y4 rs, a ∈ rs := fun a ha => sb.subset (List.mem_reverse.mpr ha)
 refine ⟨sb, ?_, ?_, fun i a b d h1 h2 h3 => ?_, fun i a b h1 h2 q hq => ?_⟩
 ·have := ch.ls
  rw [List.getLast?_map, List.getLast?_reverse, List.head?_map] at this
  unfold uM
  rw [List.head?_reverse]
  exact oN hR (fun a e => sb' a (List.mem_of_getLast? e)) (fun a e => List.mem_of_head? e) this
 ·have := ch.hd
  rw [List.head?_map, List.head?_reverse, List.getLast?_map] at this
  unfold uM
  rw [List.getLast?_reverse]
  exact oN hR (fun a e => sb' a (List.mem_of_head? e)) (fun a e => List.mem_of_getLast? e) this
 ·obtain ⟨l1, e1⟩ := rY h1
  obtain ⟨l2, e2⟩ := rY h2
  obtain ⟨l3, e3⟩ := rY h3
  have := vH (g := mu F) (i := (y4 rs).length - 1 - (i + 2)) ch.conv e3 (by rw [show (y4 rs).length - 1 - (i + 2) + 1 = (y4 rs).length - 1 - (i + 1) by omega]; exact e2) (by rw [show (y4 rs).length - 1 - (i + 2) + 2 = (y4 rs).length - 1 - i by omega]; exact e1)
  rw [vS] at this
  exact this
 ·obtain ⟨l1, e1⟩ := rY h1
  obtain ⟨l2, e2⟩ := rY h2
  have := ch.left _ (qT (g := mu F) (i := (y4 rs).length - 1 - (i + 1)) e2 (by rw [show (y4 rs).length - 1 - (i + 1) + 1 = (y4 rs).length - 1 - i by omega]; exact e1)) (mu F q) (List.mem_reverse.mpr (List.mem_map.mpr ⟨q, hq, rfl⟩))
  dsimp only at this
  rw [vS, aDu] at this
  exact this
theorem zN {rs : List Rw} (h0 : rs ≠ []) (hR : jP rs) (hb : ∀ r ∈ rs, 1 <= r.2.2) : uM rs = gJ rs := aPp hR (aFl h0 hR hb) (oV h0 hR).ti
abbrev Bd := (Int × Int) × Int
def bdD (b : Bd) : D := .tuple [frD b.1, .int b.2]
theorem bdI {a b : Bd} (h : bdD a = bdD b) : a = b := by
 unfold bdD at h
 injection h with h
 injection h with h1 h2
 injection h2 with h2 _
 injection h2 with h2
 exact Prod.ext (frI h1) h2
def ubs (l : Rw) (b : Bd) : Rw := (l.1 + b.2, hM l.2 (hT b.2 b.1))
def unb : Rw -> List Bd -> List Rw
 | l, [] => [l]
 | l, b :: bs => l :: unb (ubs l b) bs
def bb (a b : Rw) : Bd := (hO (hM a.2 b.2) (b.1 - a.1, 1), b.1 - a.1)
def bbs : List Rw -> List Bd
 | a :: b :: r => bb a b :: bbs (b :: r)
 | _ => []
theorem aN2 {x x' y y' : Int × Int} (h : AF x x') (g : AF y y') : AF (hM x y) (x'.1 * y'.2 - y'.1 * x'.2, x'.2 * y'.2) := by
 obtain ⟨a, b, e⟩ := h
 obtain ⟨a2, b2, e2⟩ := g
 refine yW (b9 a a2) (b9 b b2) ?_
 show (x.1 * y.2 - y.1 * x.2) * (x'.2 * y'.2) = (x'.1 * y'.2 - y'.1 * x'.2) * (x.2 * y.2)
 grind
theorem aP7 {x x' : Int × Int} {w : Int} (hw : 1 <= w) (h : AF x x') : AF (hO x (w, 1)) (x'.1, x'.2 * w) := by
 obtain ⟨a, b, e⟩ := h
 refine yW (b9 a hw) (b9 b hw) ?_
 show x.1 * 1 * (x'.2 * w) = x'.1 * (x.2 * w)
 grind
theorem aJr {x y : Int × Int} (hx : 1 <= x.2) (hy : 1 <= y.2) : FR.Fr (hM x y) := tD (b9 hx hy)
theorem wQ {l : Rw} {b : Bd} (hl : 1 <= l.2.2) (hb : 1 <= b.1.2) : 1 <= (ubs l b).2.2 := (aJr hl (aDh (i := b.2) (AF.refl hb)).a).pos
theorem aMf {l : Rw} {b : Bd} (hl : 1 <= l.2.2) (hb : 1 <= b.1.2) : AF (ubs l b).2 (l.2.1 * b.1.2 - b.2 * b.1.1 * l.2.2, l.2.2 * b.1.2) := aN2 (AF.refl hl) (aDh (AF.refl hb))
theorem aK9 (l : Rw) (J : List Bd) : unb l J ≠ [] := by cases J <;> exact fun z => nomatch z
theorem aGr (l : Rw) (J : List Bd) : ∃ r, unb l J = l :: r := by cases J <;> exact ⟨_, rfl⟩
structure Rb (J : List Bd) : Prop where
 s : J.Pairwise fun a b => ltF a.1 b.1 = true
 f : ∀ b ∈ J, FR.Fr b.1 /\ 1 <= b.2
theorem Rb.tail {b : Bd} {J : List Bd} (h : Rb (b :: J)) : Rb J := ⟨(List.pairwise_cons.mp h.s).2, fun a ha => h.f a (.tail _ ha)⟩
theorem aAl : ∀ {J : List Bd} {l : Rw}, 1 <= l.2.2 -> Rb J -> ∀ r ∈ unb l J, 1 <= r.2.2
 | [], l, hl, _, r, hr => by rw [List.mem_singleton.mp hr]; exact hl
 | b :: J, l, hl, h, r, hr => by
  rcases List.mem_cons.mp hr with rfl | hr
  ·exact hl
  ·exact aAl (wQ hl (h.f b (.head _)).1.pos) h.tail r hr
theorem aG6 {x y : Int × Int} (h : ltF x y = true) : ltF y x = false := by
 have := of_decide_eq_true h
 exact decide_eq_false (by omega)
theorem aK6 {x y : Int × Int} (hx : FR.Fr x) (hy : FR.Fr y) (h1 : ltF x y = false) (h2 : x ≠ y) : ltF y x = true := by
 have a := of_decide_eq_false h1
 refine decide_eq_true ?_
 rcases Int.lt_trichotomy (x.1 * y.2) (y.1 * x.2) with z | z | z
 ·exact absurd z a
 ·exact absurd (aGe hx hy (AF.refl hx.pos) (AF.refl hy.pos) z) h2
 ·exact z
theorem aMj {x y z : Int × Int} (hx : 1 <= x.2) (hy : 1 <= y.2) (hz : 1 <= z.2) (h1 : ltF x y = true) (h2 : ltF y z = true) : ltF x z = true := by
 have a := of_decide_eq_true h1
 have b := of_decide_eq_true h2
 refine decide_eq_true ?_
 have e1 := Int.mul_lt_mul_of_pos_right a (show 0 < z.2 by omega)
 have e2 := Int.mul_lt_mul_of_pos_right b (show 0 < x.2 by omega)
 have e3 : x.1 * z.2 * y.2 < z.1 * x.2 * y.2 := by grind
 exact Int.lt_of_mul_lt_mul_right e3 (by omega)
theorem xK {α : Type} {Q : α -> α -> Prop} (as : ∀ a b, Q a b -> ¬ Q b a) : ∀ {a b : List α}, a.Pairwise Q -> b.Pairwise Q -> (∀ x, x ∈ a ↔ x ∈ b) -> a = b
 | [], [], _, _, _ => rfl
 | [], y :: b, _, _, h => absurd ((h y).mpr (.head _)) (fun z => nomatch z)
 | x :: a, [], _, _, h => absurd ((h x).mp (.head _)) (fun z => nomatch z)
 | x :: a, y :: b, ha, hb, h => by
  obtain ⟨a1, a2⟩ := List.pairwise_cons.mp ha
  obtain ⟨b1, b2⟩ := List.pairwise_cons.mp hb
  have e : x = y := by
   rcases List.mem_cons.mp ((h x).mp (.head _)) with e | e
   ·exact e
   ·rcases List.mem_cons.mp ((h y).mpr (.head _)) with e' | e'
    ·exact e'.symm
    ·exact absurd (a1 y e') (as _ _ (b1 x e))
  subst e
  rw [xK as a2 b2 fun z => ⟨fun hz => ?_, fun hz => ?_⟩]
  ·rcases List.mem_cons.mp ((h z).mp (.tail _ hz)) with rfl | e
   ·exact absurd (a1 z hz) (as _ _ (a1 z hz))
   ·exact e
  ·rcases List.mem_cons.mp ((h z).mpr (.tail _ hz)) with rfl | e
   ·exact absurd (b1 z hz) (as _ _ (b1 z hz))
   ·exact e
def tot (bs : List Bd) (p : Int × Int) : Int := (bs.map fun b => if b.1 = p then b.2 else 0).sum
theorem aHy (a b : List Bd) (p : Int × Int) : tot (a ++ b) p = tot a p + tot b p := by unfold tot; rw [List.map_append, List.sum_append_int]
structure Can (bs J : List Bd) : Prop where
 s : J.Pairwise fun a b => ltF a.1 b.1 = true
 w : ∀ b ∈ J, b.2 = tot bs b.1
 m : ∀ p, (∃ b ∈ bs, b.1 = p) ↔ ∃ b ∈ J, b.1 = p
theorem aEd {bs cs J J' : List Bd} (h : Can bs J) (k : Can cs J') (ht : ∀ p, tot bs p = tot cs p) (hm : ∀ p, (∃ b ∈ bs, b.1 = p) ↔ ∃ b ∈ cs, b.1 = p) : J = J' := by
 refine xK (Q := fun a b : Bd => ltF a.1 b.1 = true) (fun a b e z => by rw [aG6 e] at z; cases z) h.s k.s fun x => ⟨fun hx => ?_, fun hx => ?_⟩
 ·obtain ⟨y, hy, e⟩ := (k.m x.1).mp ((hm x.1).mp ((h.m x.1).mpr ⟨x, hx, rfl⟩))
  have : x = y := Prod.ext e.symm (by rw [h.w x hx, k.w y hy, e]; exact ht _)
  rw [this]; exact hy
 ·obtain ⟨y, hy, e⟩ := (h.m x.1).mp ((hm x.1).mpr ((k.m x.1).mpr ⟨x, hx, rfl⟩))
  have : x = y := Prod.ext e.symm (by rw [k.w x hx, h.w y hy, e]; exact (ht _).symm)
  rw [this]; exact hy
def FrB (bs : List Bd) : Prop := ∀ b ∈ bs, FR.Fr b.1 /\ 1 <= b.2
theorem aGq {J : List Bd} (hs : J.Pairwise (fun a b => ltF a.1 b.1 = true)) : ∀ x ∈ J, tot J x.1 = x.2 := by
 induction J with
 | nil => intro x hx; cases hx
 | cons a J ih =>
  obtain ⟨s1, s2⟩ := List.pairwise_cons.mp hs
  have et : ∀ p, tot (a :: J) p = (if a.1 = p then a.2 else 0) + tot J p := fun p => by unfold tot; rw [List.map_cons, List.sum_cons]
  have z0 : ∀ {K : List Bd} {p : Int × Int}, (∀ x ∈ K, x.1 ≠ p) -> tot K p = 0 := by
   intro K p hK
   induction K with
   | nil => rfl
   | cons y K ihK =>
    have := ihK fun x hx => hK x (.tail _ hx)
    unfold tot at this ⊢
    rw [List.map_cons, List.sum_cons, this, if_neg (hK y (.head _))]; rfl
  have ne : ∀ x ∈ J, x.1 ≠ a.1 := fun x hx z => by have := s1 x hx; rw [z] at this; have q := aG6 this; rw [this] at q; cases q
  intro x hx
  rw [et]
  rcases List.mem_cons.mp hx with rfl | hx
  ·rw [if_pos rfl, z0 ne, Int.add_zero]
  ·rw [if_neg fun z => ne x hx z.symm, ih s2 x hx, Int.zero_add]
theorem aF9 {K : List Bd} {p : Int × Int} (hK : ¬ ∃ x ∈ K, x.1 = p) : tot K p = 0 := by
 induction K with
 | nil => rfl
 | cons y K ih =>
  have := ih fun ⟨x, hx, e⟩ => hK ⟨x, .tail _ hx, e⟩
  unfold tot at this ⊢
  rw [List.map_cons, List.sum_cons, this, if_neg fun e => hK ⟨y, .head _, e⟩]; rfl
abbrev Mw := List ((Int × Int) × Int)
def y3 (m : Mw) (b : Bd) : Mw := rQ m b.1 ((fC m b.1).getD 0 + b.2)
def wts (bs : List Bd) : Mw := bs.foldl y3 []
theorem aG7 : ∀ (cs bs : List Bd) (m : Mw), (m.map (·.1)).Nodup -> (∀ p, fC m p = if (∃ b ∈ bs, b.1 = p) then some (tot bs p) else none) -> (∀ p, p ∈ m.map (·.1) ↔ ∃ b ∈ bs, b.1 = p) ->
  ((cs.foldl y3 m).map (·.1)).Nodup /\ (∀ p, fC (cs.foldl y3 m) p = if (∃ b ∈ bs ++ cs, b.1 = p) then some (tot (bs ++ cs) p) else none) /\ (∀ p, p ∈ (cs.foldl y3 m).map (·.1) ↔ ∃ b ∈ bs ++ cs, b.1 = p)
 | [], bs, m, h1, h2, h3 => by rw [List.append_nil]; exact ⟨h1, h2, h3⟩
 | c :: cs, bs, m, h1, h2, h3 => by
  have eb : ∀ p, tot [c] p = if c.1 = p then c.2 else 0 := fun p => by show (if c.1 = p then c.2 else 0) + 0 = _; omega
  have ex : ∀ p, (∃ b ∈ bs ++ [c], b.1 = p) ↔ (∃ b ∈ bs, b.1 = p) \/ c.1 = p := fun p => by
   constructor
   ·rintro ⟨b, hb, e⟩
    rcases List.mem_append.mp hb with hb | hb
    ·exact .inl ⟨b, hb, e⟩
    ·rw [List.mem_singleton.mp hb] at e; exact .inr e
   ·rintro (⟨b, hb, e⟩ | e)
    ·exact ⟨b, List.mem_append_left _ hb, e⟩
    ·exact ⟨c, List.mem_append_right _ (.head _), e⟩
  have := aG7 cs (bs ++ [c]) (y3 m c) (aC1 h1 _ _) (fun p => ?_) fun p => ?_
  ·rw [List.append_assoc] at this
   exact this
  ·unfold y3
   rw [tY, aHy, eb]
   by_cases z : p = c.1
   ·subst z
    rw [if_pos rfl, if_pos ((ex _).mpr (.inr rfl)), if_pos rfl, h2]
    split
    ·rfl
    ·rename_i q; rw [aF9 q]; rfl
   ·rw [if_neg z, h2]
    by_cases q : ∃ b ∈ bs, b.1 = p
    ·rw [if_pos q, if_pos ((ex _).mpr (.inl q)), if_neg fun e => z e.symm, Int.add_zero]
    ·rw [if_neg q, if_neg fun y => ((ex _).mp y).elim q fun e => z e.symm]
  ·rw [ex]
   unfold y3
   have key : p ∈ (rQ m c.1 ((fC m c.1).getD 0 + c.2)).map (·.1) ↔ p ∈ m.map (·.1) \/ p = c.1 := by
    unfold rQ
    split
    ·rename_i q
     rw [kU]
     refine ⟨.inl, fun y => y.elim id fun e => ?_⟩
     subst e
     rw [h3]
     rw [h2] at q
     split at q
     ·assumption
     ·cases q
    ·rw [List.map_append, List.mem_append]
     simp
   rw [key, h3]
   exact or_congr Iff.rfl ⟨Eq.symm, Eq.symm⟩
theorem aHl (bs : List Bd) : ((wts bs).map (·.1)).Nodup /\ (∀ p, fC (wts bs) p = if (∃ b ∈ bs, b.1 = p) then some (tot bs p) else none) /\ (∀ p, p ∈ (wts bs).map (·.1) ↔ ∃ b ∈ bs, b.1 = p) := by
 have := aG7 bs [] [] .nil (fun p => by rw [if_neg fun ⟨b, hb, _⟩ => nomatch hb]; rfl) fun p => ⟨(fun z => nomatch z), fun ⟨b, hb, _⟩ => nomatch hb⟩
 rw [List.nil_append] at this
 exact this
def wk (xs : List (Int × Int)) (x : Int × Int) : List Int := [wI x (cb xs)]
def l6 (xs : List (Int × Int)) : List (Int × Int) := (sG (xs.map (wk xs))).map fun k => xs.getD ((xs.map (wk xs)).idxOf k) (0, 1)
theorem aL8 {xs : List (Int × Int)} (h : ∀ x ∈ xs, 1 <= x.2) : 1 <= cb xs /\ ∀ x ∈ xs, x.2 ∣ cb xs := by
 have f := x6 (rs := xs.map fun x => ((0 : Int), x)) (fun r hr => by obtain ⟨x, hx, rfl⟩ := List.mem_map.mp hr; exact h x hx)
 have e : rM (xs.map fun x => ((0 : Int), x)) = cb xs := by unfold rM; rw [List.map_map]; congr 1; exact List.map_id' _
 rw [e] at f
 exact ⟨f.p, fun x hx => (f.b (0, x) (List.mem_map.mpr ⟨x, hx, rfl⟩)).2⟩
theorem aJb {xs : List (Int × Int)} (h : ∀ x ∈ xs, 1 <= x.2) {x y : Int × Int} (hx : x ∈ xs) (hy : y ∈ xs) : ltF x y = true ↔ wI x (cb xs) < wI y (cb xs) := by
 obtain ⟨c1, c2⟩ := aL8 h
 rw [yV (aCm c1 (h x hx) (c2 x hx)) (aCm c1 (h y hy) (c2 y hy))]
 unfold ltF
 rw [decide_eq_true_iff]
 exact ⟨fun z => Int.lt_of_mul_lt_mul_right z (by omega), fun z => Int.mul_lt_mul_of_pos_right z (by omega)⟩
theorem aLi {xs : List (Int × Int)} (h : ∀ x ∈ xs, FR.Fr x) (nd : xs.Nodup) : (xs.map (wk xs)).Nodup := by
 have h1 : ∀ x ∈ xs, 1 <= x.2 := fun x hx => (h x hx).pos
 unfold List.Nodup
 rw [List.pairwise_map]
 refine List.Pairwise.imp_of_mem (fun {x y} hx hy ne e => ?_) nd
 have e : wI x (cb xs) = wI y (cb xs) := by unfold wk at e; injection e
 have a : ltF x y = false := Bool.eq_false_iff.mpr fun z => by have := (aJb h1 hx hy).mp z; omega
 have b := (aJb h1 hy hx).mp (aK6 (h x hx) (h y hy) a ne)
 omega
theorem mR {xs : List (Int × Int)} (nd : (xs.map (wk xs)).Nodup) {x : Int × Int} (hx : x ∈ xs) : xs.getD ((xs.map (wk xs)).idxOf (wk xs x)) (0, 1) = x := by
 obtain ⟨i, hi, rfl⟩ := List.mem_iff_getElem.mp hx
 have : (xs.map (wk xs)).idxOf (wk xs xs[i]) = i := by
  have := nd.idxOf_getElem i (by rw [List.length_map]; exact hi)
  rwa [List.getElem_map] at this
 rw [this]
 simp [hi]
theorem aGb {xs : List (Int × Int)} (h : ∀ x ∈ xs, FR.Fr x) (nd : xs.Nodup) : (l6 xs).Pairwise (fun a b => ltF a b = true) /\ ∀ x, x ∈ l6 xs ↔ x ∈ xs := by
 have h1 : ∀ x ∈ xs, 1 <= x.2 := fun x hx => (h x hx).pos
 have n := aLi h nd
 have pm := gU (xs.map (wk xs))
 have mem : ∀ k ∈ sG (xs.map (wk xs)), ∃ x ∈ xs, k = wk xs x := fun k hk => by
  obtain ⟨x, hx, e⟩ := List.mem_map.mp (pm.mem_iff.mp hk)
  exact ⟨x, hx, e.symm⟩
 constructor
 ·unfold l6
  rw [List.pairwise_map]
  have n2 : (sG (xs.map (wk xs))).Nodup := pm.nodup_iff.mpr n
  have both := List.Pairwise.and (iT (xs.map (wk xs))) n2
  refine List.Pairwise.imp_of_mem (fun {a b} ha hb z => ?_) both
  obtain ⟨x, hx, rfl⟩ := mem a ha
  obtain ⟨y, hy, rfl⟩ := mem b hb
  rw [mR n hx, mR n hy]
  refine (aJb h1 hx hy).mpr ?_
  obtain ⟨z1, z2⟩ := z
  have z1 : HT.lexLt (wk xs y) (wk xs x) = false := z1
  unfold wk at z1 z2
  rw [HT.fN] at z1
  by_cases e : wI y (cb xs) = wI x (cb xs)
  ·exact absurd (by rw [e]) z2
  ·rw [if_neg e] at z1
   have := of_decide_eq_false z1
   omega
 ·intro x
  unfold l6
  rw [List.mem_map]
  constructor
  ·rintro ⟨k, hk, rfl⟩
   obtain ⟨y, hy, rfl⟩ := mem k hk
   rw [mR n hy]; exact hy
  ·intro hx
   exact ⟨wk xs x, pm.mem_iff.mpr (List.mem_map.mpr ⟨x, hx, rfl⟩), mR n hx⟩
def prJ (bs : List Bd) : List Bd := (l6 ((wts bs).map (·.1))).map fun p => (p, (fC (wts bs) p).getD 0)
theorem aKq {bs : List Bd} (f : FrB bs) : Can bs (prJ bs) := by
 obtain ⟨w1, w2, w3⟩ := aHl bs
 have hf : ∀ x ∈ (wts bs).map (·.1), FR.Fr x := fun x hx => by
  obtain ⟨b, hb, e⟩ := (w3 x).mp hx
  rw [<- e]; exact (f b hb).1
 obtain ⟨r1, r2⟩ := aGb hf w1
 refine ⟨by unfold prJ; rw [List.pairwise_map]; exact r1, fun b hb => ?_, fun p => ?_⟩
 ·obtain ⟨p, hp, rfl⟩ := List.mem_map.mp hb
  have := (w3 p).mp ((r2 p).mp hp)
  dsimp only
  rw [w2, if_pos this]
  rfl
 ·rw [<- w3, <- r2]
  unfold prJ
  constructor
  ·intro hp
   exact ⟨_, List.mem_map.mpr ⟨p, hp, rfl⟩, rfl⟩
  ·rintro ⟨b, hb, e⟩
   obtain ⟨q, hq, rfl⟩ := List.mem_map.mp hb
   rw [<- e]; exact hq
theorem aMt (b : Bd) : ixE (.p (bdD b)) (.p (.int 0)) = .ok (.p (frD b.1)) := jD _ _
theorem aMu (b : Bd) : ixE (.p (bdD b)) (.p (.int 1)) = .ok (.p (.int b.2)) := jN _ _ _
def GR2 (a b : Rw) : Prop := a.1 < b.1 /\ Sz 100 a.1 /\ Sz 100 b.1 /\ Good 300 a.2 /\ Good 300 b.2
noncomputable def cG (K : PySem.W.Frag) (c : Cls) : List L -> Res L := mOf eR2 (fun a => GR2 a.1 a.2) fun a => .ok (.p (bdD (bb a.1 a.2)))
noncomputable def gI (K : PySem.W.Frag) (c : Cls) : MS := (cI (dO 2 (aH mX (aH ixE (aD 1) (mC (.int 0))) (aH ixE (aD 0) (mC (.int 0))))) (eP (aN dI (aB (aL 2 (nB K c) (aB (aL 2 (gO K c) (aB (aH ixE (aD 0) (mC (.int 1))) (aB (aH ixE (aD 1) (mC (.int 1))) aT))) (aB (aN dI (aB (aD 2) (aB (mC (.int 1)) aT))) aT))) (aB (aD 2) aT)))))
theorem nC (K : PySem.W.Frag) (c : Cls) : ∀ ls, cG K c ls = .bad \/ e9 3 (gI K c) ls = cG K c ls := cD fun x h => by
 obtain ⟨a, b⟩ := x
 obtain ⟨h, z1, z2, g1, g2⟩ := h
 dsimp only at h z1 z2 g1 g2 ⊢
 have ne : a.2.2 * b.2.2 ≠ 0 := by have := b9 g1.1 g2.1; omega
 have gm : Good 700 (hM a.2 b.2) := fQ ((N.Sz.subM (Sz.mul g1.2.1 g2.2.2) (Sz.mul g2.2.1 g1.2.2)).mono (by decide)) ((Sz.mul g1.2.2 g2.2.2).mono (by decide)) ne
 have ov := aGc K c (x := hM a.2 b.2) (y := (b.1 - a.1, 1)) (gm.mono (by decide)).fsz ⟨(N.Sz.subM z2 z1).mono (by decide), aBl⟩ (by have := b9 gm.1 (show 1 <= b.1 - a.1 by omega); show (hM a.2 b.2).2 * (b.1 - a.1) ≠ 0; omega)
 refine bZ ?_
 rw [show bG 3 (eR2 (a, b)) = [some (.p (lrD a)), some (.p (lrD b)), none] from rfl]
 unfold gI
 exact (aQ (eO (bP rfl rfl (jY b) |> fun z => bP z (bP rfl rfl (jY a)) (pJ _ _)))).trans (fU (aA2 (fV (b := frD (b.1 - a.1, 1)) (fV (bP rfl rfl (kQ a)) (bP rfl rfl (kQ b)) (pI K c g1 g2 (by decide) (by decide))) (aA2 rfl rfl) ov) rfl))
theorem aMi (K : PySem.W.Frag) (c : Cls) {a b : Rw} (h : GR2 a b) : cG K c [.p (lrD a), .p (lrD b)] = .ok (.p (bdD (bb a b))) := cC (a := (a, b)) aAz h
theorem kX : ∀ fs : List Rw, bbs fs = (List.range (fs.length - 1)).map fun k => bb (fs.getD k (0, (0, 1))) (fs.getD (k + 1) (0, (0, 1)))
 | [] => rfl
 | [a] => rfl
 | a :: b :: r => by
  unfold bbs
  rw [kX (b :: r), show (a :: b :: r).length - 1 = (b :: r).length - 1 + 1 by simp, List.range_succ_eq_map, List.map_cons, List.map_map]
  rfl
def bsD (fs : List Rw) : D := .tuple [.int (fs.headD (0, (0, 1))).1, frD (fs.headD (0, (0, 1))).2, .list ((bbs fs).map bdD)]
noncomputable def iF (K : PySem.W.Frag) (c : Cls) : List L -> Res L := mOf eLs (fun rs => GLs rs /\ rs ≠ [] /\ jP rs) fun rs => .ok (.p (bsD (gJ rs)))
noncomputable def k7 (K : PySem.W.Frag) (c : Cls) : En -> Res Ev := (aL 2 (cG K c) (aB (aH ixE (aD 1) (aH mX (aD 0) (mC (.int 1)))) (aB (aH ixE (aD 1) (aD 0)) aT)))
noncomputable def vP (K : PySem.W.Frag) (c : Cls) : MS := (cI (dO 1 (aL 1 (bL K c) (aB (aD 0) aT))) (fun en => (cI (dO 2 (jR 1 [1] (aEn vR (aB (mC (.int 1)) (aB (aN jT (aB (aD 1) aT)) aT))) (aM 0) mS (k7 K c))) (fun en => (eP (aN dI (aB (aH ixE (aH ixE (aD 1) (mC (.int 0))) (mC (.int 0))) (aB (aH ixE (aH ixE (aD 1) (mC (.int 0))) (mC (.int 1))) (aB (aD 2) aT))))) (frz 2 en))) (frz 1 en)))
theorem wZ {rs : List Rw} (h0 : rs ≠ []) (hr : jP rs) : ∃ x r, gJ rs = x :: r := by
 have := (oV h0 hr).hd
 cases e : gJ rs with
 | nil => rw [e] at this; cases rs with
  | nil => exact absurd rfl h0
  | cons _ _ => cases this
 | cons x r => exact ⟨x, r, rfl⟩
theorem aA0 {r : Rw} (h : Sz 100 r.1 /\ 1 <= r.2.2 /\ Sz 300 r.2.1 /\ Sz 20 r.2.2) : Good 300 r.2 := ⟨h.2.1, h.2.2.1, h.2.2.2.mono (by decide)⟩
theorem aG4 {n : Nat} (h : n <= 1000) : vR [.p (.int 1), .p (.int (n : Int))] = .ok (yZ 1 (n - 1)) := by
 unfold vR
 dsimp only
 rw [if_pos ⟨by decide, by decide, by omega, by omega⟩, show ((n : Int) - 1).toNat = n - 1 by omega]
theorem aDl (K : PySem.W.Frag) (c : Cls) : ∀ ls, iF K c ls = .bad \/ e9 3 (vP K c) ls = iF K c ls := cD fun rs h => by
 obtain ⟨h1, h0, hr⟩ := h
 obtain ⟨x, r, er⟩ := wZ h0 hr
 have sub := (oV h0 hr).sub
 have rise : jP (gJ rs) := List.Pairwise.sublist sub hr
 have gl : ∀ q ∈ gJ rs, Sz 100 q.1 /\ 1 <= q.2.2 /\ Sz 300 q.2.1 /\ Sz 20 q.2.2 := fun q hq => h1.2 q (sub.subset hq)
 have ll : (gJ rs).length <= 200 := Nat.le_trans sub.length_le h1.1
 have l1 := aC9 K c h1
 refine bZ ?_
 rw [show bG 3 (eLs rs) = [some (.p (.list (rs.map lrD))), none, none] from rfl]
 unfold vP
 refine (aQ (j7 (j3 rfl rfl l1))).trans ?_
 generalize gJ rs = fs at *
 refine s9 (i := 1) (e1 := [some (.p (.list (rs.map lrD))), some (.p (.list (fs.map lrD))), none]) rfl ?_
 have cm : jR 1 [1] (aEn vR (aB (mC (.int 1)) (aB (aN jT (aB (aD 1) aT)) aT))) (aM 0) mS (k7 K c) [some (.p (.list (rs.map lrD))), some (.p (.list (fs.map lrD))), none] = .ok (.f (.list ((bbs fs).map bdD))) := by
  rw [kX, List.map_map]
  refine nO (ds := yZ 1 (fs.length - 1)) (itA (dG rfl (dG (aFw (ds := fs.map lrD) rfl rfl) rfl)) (by rw [List.length_map]; exact aG4 (by omega))) (by unfold yZ; rw [List.length_map, List.length_range]; omega) (yB _ _ fun k hk => ?_)
  have b1 : k < fs.length := by omega
  have b2 : k + 1 < fs.length := by omega
  have e1 : fs[k]? = some (fs.getD k (0, (0, 1))) := by simp [List.getD, b1]
  have e2 : fs[k + 1]? = some (fs.getD (k + 1) (0, (0, 1))) := by simp [List.getD, b2]
  have m1 := List.mem_of_getElem? e1
  have m2 := List.mem_of_getElem? e2
  have ok := aMi K c (a := fs.getD k (0, (0, 1))) (b := fs.getD (k + 1) (0, (0, 1))) ⟨lK rise e1 e2, (gl _ m1).1, (gl _ m2).1, aA0 (gl _ m1), aA0 (gl _ m2)⟩
  have he : k7 K c [some (.p (.int (1 + (k : Int)))), some (.p (.list (fs.map lrD)))] = .ok (.p (bdD (bb (fs.getD k (0, (0, 1))) (fs.getD (k + 1) (0, (0, 1)))))) :=
   fV (bP rfl (bP rfl rfl (pJ _ _)) (pP (xs := fs) (enc := lrD) (d := (0, (0, 1))) rfl b1 (by omega))) (bP rfl rfl (pP (xs := fs) (enc := lrD) (d := (0, (0, 1))) rfl b2 (by omega))) ok
  unfold cA
  ktr_call 3 ⟨aM, mS, uK, aFc, List.replicate, List.cons_append, List.nil_append, he, Ev.c⟩
  rfl
 refine (aQ (j7 cm)).trans ?_
 refine s9 (i := 2) (e1 := [some (.p (.list (rs.map lrD))), some (.p (.list (fs.map lrD))), some (.p (.list ((bbs fs).map bdD)))]) rfl ?_
 subst er
 have i0 : ixE (.p (.list ((x :: r).map lrD))) (.p (.int 0)) = .ok (.p (lrD x)) := pP (xs := x :: r) (enc := lrD) (d := x) (k := 0) rfl (by simp) rfl
 exact fU (aPv (bP (bP rfl rfl i0) rfl (jY x)) (bP (bP rfl rfl i0) rfl (kQ x)) rfl)
theorem aD7 (K : PySem.W.Frag) (c : Cls) {rs : List Rw} (h : GLs rs) (h0 : rs ≠ []) (hr : jP rs) : iF K c [.p (.list (rs.map lrD))] = .ok (.p (bsD (gJ rs))) := cC (a := rs) pW ⟨h, h0, hr⟩
def eBs (bs : List Bd) : List L := [.p (.list (bs.map bdD))]
theorem aPr {a b : List Bd} (h : a.map bdD = b.map bdD) : a = b := List.map_inj_right (fun _ _ e => bdI e) |>.mp h
theorem aHw (a b : List Bd) (h : eBs a = eBs b) : a = b := by
 unfold eBs at h
 injection h with h _
 injection h with h
 injection h with h
 exact aPr h
noncomputable def bN (K : PySem.W.Frag) (c : Cls) : List L -> Res L := mOf eBs (fun bs => bs.length <= 1000) fun bs => .ok (.o (.dict (encM slD PyData.int (wts bs))))
noncomputable def cY (K : PySem.W.Frag) (c : Cls) : MS := (sH 1 (aD 2) (aH gR (wG (aD 1) (aD 2) (mC (.int 0))) (aD 3)))
noncomputable def eI (K : PySem.W.Frag) (c : Cls) : MS := (cI (dO 1 mDT) (cI (uG (iV (aD 0)) (d8 2 (aX (aM 2) (aX (aM 3) eA))) (cY K c)) (eP (aD 1))))
theorem aD1 (m : Mw) (b : Bd) : (y3 m b).length <= m.length + 1 := by
 unfold y3 rQ
 split
 ·have := congrArg List.length (kU b.1 ((fC m b.1).getD 0 + b.2) m)
  rw [List.length_map, List.length_map] at this
  omega
 ·simp
theorem aQe (K : PySem.W.Frag) (c : Cls) (Z : Option L) (m : Mw) (b : Bd) (h : m.length <= 5000) : cY K c [Z, some (.o (.dict (encM slD PyData.int m))), some (.p (frD b.1)), some (.p (.int b.2))] = some (.nx [Z, some (.o (.dict (encM slD PyData.int (y3 m b)))), some (.p (frD b.1)), some (.p (.int b.2))]) := by
 have dl : nV (encM slD PyData.int m) (frD b.1) = some ((fC m b.1).map PyData.int) := xD m b.1
 have g : sO (.b (.dict (encM slD PyData.int m))) (.p (frD b.1)) (.p (.int 0)) = .ok (.p (.int ((fC m b.1).getD 0))) := by
  unfold sO
  dsimp only [kB]
  rw [dl]
  cases fC m b.1 <;> rfl
 exact aHz (kvs := encM slD PyData.int m) rfl (bP (aH7 rfl rfl rfl (kvs := encM slD PyData.int m) rfl g) rfl (aG9 _ _)) rfl (aH2 m b.1 ((fC m b.1).getD 0 + b.2) (by omega))
theorem aB6 (K : PySem.W.Frag) (c : Cls) (Z : Option L) : ∀ (bs : List Bd) (m : Mw) (r2 r3 : Option L), m.length + bs.length <= 5000 -> ∃ q2 q3, dP (d8 2 (aX (aM 2) (aX (aM 3) eA))) (cY K c) (bs.map bdD) [Z, some (.o (.dict (encM slD PyData.int m))), r2, r3] = some (.nx [Z, some (.o (.dict (encM slD PyData.int (bs.foldl y3 m)))), q2, q3])
 | [], m, r2, r3, _ => ⟨r2, r3, rfl⟩
 | b :: bs, m, r2, r3, h => by
  rw [List.length_cons] at h
  have hl := aD1 m b
  obtain ⟨q2, q3, ih⟩ := aB6 K c Z bs (y3 m b) (some (.p (frD b.1))) (some (.p (.int b.2))) (by omega)
  exact ⟨q2, q3, (aBg rfl (aQe K c Z m b (by omega))).trans ih⟩
theorem kE (K : PySem.W.Frag) (c : Cls) : ∀ ls, bN K c ls = .bad \/ e9 4 (eI K c) ls = bN K c ls := cD fun bs h => by
 obtain ⟨q2, q3, lp⟩ := aB6 K c (some (.p (.list (bs.map bdD)))) bs [] none none (by simp only [List.length_nil]; omega)
 refine bZ ?_
 rw [show bG 4 (eBs bs) = [some (.p (.list (bs.map bdD))), none, none, none] from rfl]
 unfold eI
 exact (aQ (j7 (d := .dict []) rfl)).trans ((aQ ((mF (itL rfl)).trans lp)).trans rfl)
theorem aNv (K : PySem.W.Frag) (c : Cls) {bs : List Bd} (h : bs.length <= 1000) : bN K c [.p (.list (bs.map bdD))] = .ok (.o (.dict (encM slD PyData.int (wts bs)))) := cC (a := bs) aHw h
structure RP (xs : List (Int × Int)) : Prop where
 l : xs.length < 64
 n : xs.Nodup
 f : ∀ x ∈ xs, FR.Fr x /\ Sz 200 x.1 /\ Sz 200 x.2
noncomputable def iE (K : PySem.W.Frag) (c : Cls) : List L -> Res L := mOf eFs RP fun xs => .ok (.o (.list ((l6 xs).map frD)))
noncomputable def iC (K : PySem.W.Frag) (c : Cls) : En -> Res Ev := (aL 2 (gZ K c) (aB (aD 0) (aB (aD 1) aT)))
noncomputable def qZ (K : PySem.W.Frag) (c : Cls) : MS := (cI (dO 1 (aL 1 (bB K c) (aB (aD 0) aT))) (eP (aN8 false [1] (aD 0) (iC K c))))
theorem aO7 {xs : List (Int × Int)} (h : RP xs) : CbP xs /\ Sz 41000 (cb xs) := by
 have hl := h.l
 have g : ∀ x ∈ xs, 1 <= x.2 /\ Sz 200 x.2 := fun x hx => ⟨(h.f x hx).1.pos, (h.f x hx).2.2⟩
 exact ⟨⟨200, by decide, by omega, g⟩, (aH0 xs 1 1 (Int.le_refl 1) (show Sz 1 (1 : Int) by unfold Sz; decide) g).2.2.2.mono (by omega)⟩
theorem yR {xs : List (Int × Int)} : aAd (xs.map (wk xs)) (xs.map frD) = (l6 xs).map frD := by
 unfold aAd l6
 rw [List.map_map]
 refine List.map_congr_left fun k hk => ?_
 have hm := (gU (xs.map (wk xs))).mem_iff.mp hk
 have hi := List.idxOf_lt_length_of_mem hm
 rw [List.length_map] at hi
 show (xs.map frD).getD ((xs.map (wk xs)).idxOf k) .none = frD (xs.getD ((xs.map (wk xs)).idxOf k) (0, 1))
 generalize (xs.map (wk xs)).idxOf k = i at *
 simp [List.getD, hi]
theorem zD (K : PySem.W.Frag) (c : Cls) : ∀ ls, iE K c ls = .bad \/ e9 2 (qZ K c) ls = iE K c ls := cD fun xs h => by
 obtain ⟨h1, h2⟩ := aO7 h
 refine bZ ?_
 rw [show bG 2 (eFs xs) = [some (.p (.list (xs.map frD))), none] from rfl]
 unfold qZ
 refine (aQ (eO (j3 rfl rfl (zT K c h1)))).trans (aHr ?_)
 have mk : aF0 (aKx [1] (iC K c) [some (.p (.list (xs.map frD))), some (.p (.int (cb xs)))]) (xs.map frD) = some (xs.map fun x => .int (wI x (cb xs))) := by
  refine wD xs fun x hx => ?_
  obtain ⟨f, z1, z2⟩ := h.f x hx
  have he : iC K c [some (.p (frD x)), some (.p (.int (cb xs)))] = .ok (.p (.int (wI x (cb xs)))) := fV rfl rfl (pU K c ⟨f.pos, z1.mono (by decide), z2.mono (by decide)⟩ h2)
  unfold aKx
  ktr_call 3 ⟨uK, aFc, he, Ev.c⟩
 have kb : yF false (xs.map fun x => PyData.int (wI x (cb xs))) = some (xs.map (wk xs)) := by
  have e : (xs.map fun x => PyData.int (wI x (cb xs))) = (xs.map fun x => wI x (cb xs)).map PyData.int := by rw [List.map_map]; rfl
  unfold yF
  rw [if_neg Bool.false_ne_true, e, nD]
  dsimp only
  rw [List.map_map]
  rfl
 have kr : aN1 false (aKx [1] (iC K c) [some (.p (.list (xs.map frD))), some (.p (.int (cb xs)))]) (xs.map frD) = .ok (.f (.list ((l6 xs).map frD))) := by
  unfold aN1
  rw [if_pos (by rw [List.length_map]; exact h.l), mk]
  dsimp only
  rw [kb]
  dsimp only
  rw [if_pos (aLi (fun x hx => (h.f x hx).1) h.n), yR]
 exact kr
theorem aBy (K : PySem.W.Frag) (c : Cls) {xs : List (Int × Int)} (h : RP xs) : iE K c [.p (.list (xs.map frD))] = .ok (.o (.list ((l6 xs).map frD))) := cC (a := xs) zG h
def eUB (a : Rw × List Bd) : List L := [.p (.int a.1.1), .p (frD a.1.2), .p (.list (a.2.map bdD))]
theorem aKp (a b : Rw × List Bd) (h : eUB a = eUB b) : a = b := by
 unfold eUB at h
 injection h with h1 h
 injection h with h2 h
 injection h with h3 _
 injection h1 with h1
 injection h1 with h1
 injection h2 with h2
 injection h3 with h3
 injection h3 with h3
 exact Prod.ext (Prod.ext h1 (frI h2)) (aPr h3)
theorem aFj {J : List Bd} (h : Rb J) : Can J J := ⟨h.s, fun b hb => (aGq h.s b hb).symm, fun p => Iff.rfl⟩
theorem aD4 {J : List Bd} (h : Rb J) : prJ J = J := aEd (aKq h.f) (aFj h) (fun _ => rfl) fun _ => Iff.rfl
structure GBs (J : List Bd) : Prop where
 l : J.length <= 60
 r : Rb J
 b : ∀ b ∈ J, Sz 200 b.1.1 /\ Sz 200 b.1.2 /\ Sz 100 b.2
theorem GBs.good {J : List Bd} (h : GBs J) {b : Bd} (hb : b ∈ J) : Good 300 b.1 := ⟨(h.r.f b hb).1.pos, (h.b b hb).1.mono (by decide), (h.b b hb).2.1.mono (by decide)⟩
structure UP (a : Rw × List Bd) : Prop where
 j : GBs a.2
 h : ∀ r ∈ unb a.1 a.2, Good 300 r.2
noncomputable def fX (K : PySem.W.Frag) (c : Cls) : List L -> Res L := mOf eUB UP fun a => .ok (.o (.list ((unb a.1 a.2).map lrD)))
noncomputable def hU (K : PySem.W.Frag) (c : Cls) : MS := (cI (dO 6 (aH lC (aD 3) (aD 5))) (cI (dO 7 (aH ixE (aD 4) (mUn kO (mC (.int 1))))) (fF 4 (aN dI (aB (aH gR (aH ixE (aD 7) (mC (.int 0))) (aD 6)) (aB (aL 2 (gO K c) (aB (aH ixE (aD 7) (mC (.int 1))) (aB (aL 2 (i7 K c) (aB (aN dI (aB (aD 6) (aB (mC (.int 1)) aT))) (aB (aD 5) aT))) aT))) aT))))))
noncomputable def qV (K : PySem.W.Frag) (c : Cls) : MS := (cI (dO 3 (aL 1 (bN K c) (aB (aD 2) aT))) (cI (dO 4 (aN iN (aB (aN dI (aB (aD 0) (aB (aD 1) aT))) aT))) (cI (uG (iV (aL 1 (iE K c) (aB (aN nH (aB (aD 3) aT)) aT))) (aM 5) (hU K c)) (eP (aD 4)))))
theorem aQh (K : PySem.W.Frag) (c : Cls) (Z1 Z2 Z3 : Option L) (m : Mw) {acc : List Rw} {l : Rw} {b : Bd} {r6 r7 : Option L} (hl : acc.length <= 1000) (ha : fC m b.1 = some b.2) (g : Good 300 l.2) (k : Good 300 b.1) (w : Sz 100 b.2) :
  hU K c [Z1, Z2, Z3, some (.o (.dict (encM slD PyData.int m))), some (.o (.list ((acc ++ [l]).map lrD))), some (.p (frD b.1)), r6, r7] = some (.nx [Z1, Z2, Z3, some (.o (.dict (encM slD PyData.int m))), some (.o (.list ((acc ++ [l] ++ [ubs l b]).map lrD))), some (.p (frD b.1)), some (.p (.int b.2)), some (.p (lrD l))]) := by
 have dl : nV (encM slD PyData.int m) (frD b.1) = some ((fC m b.1).map PyData.int) := xD m b.1
 have g1 : lC (.b (.dict (encM slD PyData.int m))) (.p (frD b.1)) = .ok (.p (.int b.2)) := by
  unfold lC
  dsimp only [kB]
  rw [dl, ha]
  rfl
 have il : ixE (.b (.list ((acc ++ [l]).map lrD))) (.p (.int (-1))) = .ok (.p (lrD l)) := aKi (ys := acc.map lrD) (by show some ((acc ++ [l]).map lrD) = _; rw [List.map_append]; rfl)
 have gt : Good 500 (hT b.2 b.1) := fQ ((Sz.mul w k.2.1).mono (by decide)) (by rw [Int.one_mul]; exact k.2.2.mono (by decide)) (by have := k.1; omega)
 have tm := yJ K c (w.mono (show 100 <= 2000 by decide)) k (by decide)
 have mn := pI K c g gt (by decide) (by decide)
 unfold hU
 refine (aQ (eO (bP rfl rfl g1))).trans ((aQ (eO (bP rfl (y := .p (.int (-1))) rfl il))).trans ?_)
 refine (aHf (ds := (acc ++ [l]).map lrD) (d := lrD (ubs l b)) rfl (aA2 (bP (bP rfl rfl (jY l)) rfl (aG9 _ _)) (fV (bP rfl rfl (kQ l)) (fV (aA2 rfl rfl) rfl tm) mn)) (by rw [List.length_map, List.length_append, List.length_singleton]; omega)).trans ?_
 rw [List.map_append (l₂ := [ubs l b])]
 rfl
theorem zF (K : PySem.W.Frag) (c : Cls) (Z1 Z2 Z3 : Option L) (m : Mw) : ∀ (J : List Bd) (acc : List Rw) (l : Rw) (r5 r6 r7 : Option L), acc.length + J.length <= 200 -> (∀ b ∈ J, fC m b.1 = some b.2 /\ Good 300 b.1 /\ Sz 100 b.2) -> (∀ r ∈ unb l J, Good 300 r.2) ->
  ∃ q5 q6 q7, dP (aM 5) (hU K c) (J.map fun b => frD b.1) [Z1, Z2, Z3, some (.o (.dict (encM slD PyData.int m))), some (.o (.list ((acc ++ [l]).map lrD))), r5, r6, r7] = some (.nx [Z1, Z2, Z3, some (.o (.dict (encM slD PyData.int m))), some (.o (.list ((acc ++ unb l J).map lrD))), q5, q6, q7])
 | [], acc, l, r5, r6, r7, _, _, _ => ⟨r5, r6, r7, rfl⟩
 | b :: J, acc, l, r5, r6, r7, hl, hJ, hg => by
  obtain ⟨h1, h2, h3⟩ := hJ b (.head _)
  rw [List.length_cons] at hl
  obtain ⟨q5, q6, q7, ih⟩ := zF K c Z1 Z2 Z3 m J (acc ++ [l]) (ubs l b) (some (.p (frD b.1))) (some (.p (.int b.2))) (some (.p (lrD l))) (by rw [List.length_append, List.length_singleton]; omega) (fun a ha => hJ a (.tail _ ha)) fun r hr => hg r (.tail _ hr)
  refine ⟨q5, q6, q7, (aBg rfl (aQh K c Z1 Z2 Z3 m (by omega) h1 (hg l (.head _)) h2 h3)).trans ?_⟩
  rw [ih, List.append_assoc]
  rfl
theorem aKk (m : Mw) : nH [.b (.dict (encM slD PyData.int m))] = .ok (.f (.list ((m.map (·.1)).map frD))) := by
 have kd : p0 ((encM slD PyData.int m).map (·.1)) = some (kys m) := by rw [aDo]; exact uB _
 have ne : ((kys m).all fun k => !k.isEmpty) = true := List.all_eq_true.mpr fun k hk => by
  unfold kys at hk
  obtain ⟨p, _, rfl⟩ := List.mem_map.mp hk
  rfl
 unfold nH
 dsimp only [kB]
 rw [if_pos (by rw [aDf]), kd]
 dsimp only
 rw [if_pos ne]
 unfold kys
 rw [List.map_map, List.map_map]
 rfl
theorem aAf (K : PySem.W.Frag) (c : Cls) : ∀ ls, fX K c ls = .bad \/ e9 8 (qV K c) ls = fX K c ls := cD fun a h => by
 obtain ⟨l, bs⟩ := a
 obtain ⟨gb, hg⟩ := h
 dsimp only at gb hg ⊢
 have hl := gb.l
 obtain ⟨w1, w2, w3⟩ := aHl bs
 have el : (prJ bs).length = ((wts bs).map (·.1)).length := by
  unfold prJ l6
  rw [List.length_map, List.length_map, (gU _).length_eq, List.length_map]
 have ep : (prJ bs).map (fun b => frD b.1) = (l6 ((wts bs).map (·.1))).map frD := by unfold prJ; rw [List.map_map]; rfl
 rw [aD4 gb.r] at el ep
 have rp : RP ((wts bs).map (·.1)) := by
  refine ⟨by omega, w1, fun x hx => ?_⟩
  obtain ⟨b, hb', rfl⟩ := (w3 x).mp hx
  exact ⟨(gb.r.f b hb').1, (gb.b b hb').1, (gb.b b hb').2.1⟩
 obtain ⟨q5, q6, q7, lp⟩ := zF K c (some (.p (.int l.1))) (some (.p (frD l.2))) (some (.p (.list (bs.map bdD)))) (wts bs) bs [] l none none none (by simp only [List.length_nil]; omega) (fun b hb => ⟨by rw [w2, if_pos ⟨b, hb, rfl⟩, aGq gb.r.s b hb], gb.good hb, (gb.b b hb).2.2⟩) hg
 rw [ep] at lp
 refine bZ ?_
 rw [show bG 8 (eUB (l, bs)) = [some (.p (.int l.1)), some (.p (frD l.2)), some (.p (.list (bs.map bdD))), none, none, none, none, none] from rfl]
 unfold qV
 refine (aQ (j7 (j3 rfl rfl (aNv K c (by omega))))).trans ((aQ (j7 (d := .list [lrD l]) (aQj (aA2 rfl rfl)))).trans ((aQ ((mF (itL (j3 (lP (dG rfl rfl) (aKk (wts bs))) rfl (aBy K c rp)))).trans lp)).trans rfl))
theorem aAi (K : PySem.W.Frag) (c : Cls) {l : Rw} {bs : List Bd} (h : UP (l, bs)) : fX K c [.p (.int l.1), .p (frD l.2), .p (.list (bs.map bdD))] = .ok (.o (.list ((unb l bs).map lrD))) := cC (a := (l, bs)) aKp h
theorem wV {a b : Rw} (h : a.1 < b.1) (h1 : 1 <= a.2.2) (h2 : 1 <= b.2.2) : bb a b = (plc a b, b.1 - a.1) := by
 have w : 1 <= b.1 - a.1 := by omega
 have e := aP7 w (aN2 (AF.refl h1) (AF.refl h2))
 have p := b9 (b9 h1 h2) w
 refine Prod.ext (aGe (tD (b9 (aJr h1 h2).pos w)) (tD p) e (yW (y := (a.2.1 * b.2.2 - b.2.1 * a.2.2, a.2.2 * b.2.2 * (b.1 - a.1))) p p rfl) rfl) rfl
theorem aOl {a b : Rw} (h : a.1 < b.1) (h1 : 1 <= a.2.2) (h2 : FR.Fr b.2) : ubs a (bb a b) = b := by
 have w : 1 <= b.1 - a.1 := by omega
 have o := aP7 w (aN2 (AF.refl h1) (AF.refl h2.pos))
 have e : (bb a b).2 = b.1 - a.1 := rfl
 refine Prod.ext (show a.1 + (b.1 - a.1) = b.1 by omega) ?_
 refine aGe (aJr h1 (aDh (i := (bb a b).2) (AF.refl o.a)).a) h2 (aN2 (AF.refl h1) (aDh (i := (bb a b).2) o)) (AF.refl h2.pos) ?_
 rw [e]
 dsimp only
 grind
theorem aC7 : ∀ {r : List Rw} {a : Rw}, jP (a :: r) -> (∀ x ∈ a :: r, FR.Fr x.2) -> unb a (bbs (a :: r)) = a :: r
 | [], a, _, _ => rfl
 | b :: r, a, hr, hf => by
  obtain ⟨h1, h2⟩ := List.pairwise_cons.mp hr
  have ih := aC7 h2 fun x hx => hf x (.tail _ hx)
  show a :: unb (ubs a (bb a b)) (bbs (b :: r)) = _
  rw [aOl (h1 b (.head _)) (hf a (.head _)).pos (hf b (.tail _ (.head _))), ih]
theorem zH : ∀ (r : List Rw) (a : Rw), (bbs (a :: r)).length = r.length
 | [], a => rfl
 | b :: r, a => by show (bbs (b :: r)).length + 1 = _; rw [zH r b]; rfl
theorem aAa : ∀ {fs : List Rw} {x : Bd}, x ∈ bbs fs -> ∃ a b, a ∈ fs /\ b ∈ fs /\ (jP fs -> a.1 < b.1) /\ x = bb a b
 | [], _, h => nomatch h
 | [_], _, h => nomatch h
 | a :: b :: r, x, h => by
  rcases List.mem_cons.mp h with rfl | h
  ·exact ⟨a, b, .head _, .tail _ (.head _), fun hr => (List.pairwise_cons.mp hr).1 b (.head _), rfl⟩
  ·obtain ⟨u, v, h1, h2, h3, e⟩ := aAa h
   exact ⟨u, v, .tail _ h1, .tail _ h2, fun hr => h3 (List.pairwise_cons.mp hr).2, e⟩
theorem aG8 {F : Int} {rs : List Rw} (hf : Fac F rs) : ∀ {fs : List Rw}, (∀ r ∈ fs, r ∈ rs) -> jP fs -> pH (fs.map (ptL F)) -> Rb (bbs fs)
 | [], _, _, _ => ⟨.nil, fun b hb => nomatch hb⟩
 | [_], _, _, _ => ⟨.nil, fun b hb => nomatch hb⟩
 | a :: b :: r, hm, hr, hc => by
  obtain ⟨r1, r2⟩ := List.pairwise_cons.mp hr
  have ha := hm a (.head _)
  have hb := hm b (.tail _ (.head _))
  have lt := r1 b (.head _)
  have ih := aG8 hf (fs := b :: r) (fun x hx => hm x (.tail _ hx)) r2 (oD (List.suffix_cons _ _) hc)
  have eb := wV lt (hf.b a ha).1 (hf.b b hb).1
  have fb : FR.Fr (bb a b).1 := by rw [eb]; exact tD (sA lt (hf.b a ha).1 (hf.b b hb).1)
  have wb : 1 <= (bb a b).2 := show 1 <= b.1 - a.1 by omega
  refine ⟨List.pairwise_cons.mpr ⟨?_, ih.s⟩, fun x hx => ?_⟩
  ·match r, hm, r2, hc, ih with
   | [], _, _, _, _ => exact fun x hx => nomatch hx
   | d :: r, hm, r2, hc, ih =>
    have hd := hm d (.tail _ (.tail _ (.head _)))
    have l2 := (List.pairwise_cons.mp r2).1 d (.head _)
    have ed := wV l2 (hf.b b hb).1 (hf.b d hd).1
    have t := place_lt hf ha hb hd lt l2 hc.1
    have t : ltF (bb a b).1 (bb b d).1 = true := by rw [eb, ed]; exact t
    intro x hx
    rcases List.mem_cons.mp hx with rfl | hx
    ·exact t
    ·have q := (List.pairwise_cons.mp ih.s).1 x hx
     exact aMj fb.pos (ih.f _ (.head _)).1.pos (ih.f x (.tail _ hx)).1.pos t q
  ·rcases List.mem_cons.mp hx with rfl | hx
   ·exact ⟨fb, wb⟩
   ·exact ih.f x hx
theorem aIa {t : Int × Int} {l : Rw} (ht : 1 <= t.2) (hl : 1 <= l.2.2) : AF (lh t l) (l.1 * t.1 * l.2.2 + l.2.1 * t.2, t.2 * l.2.2) := by
 have := aKu (aDh (i := l.1) (AF.refl ht)) (AF.refl hl)
 exact this
def aPo (t h : Int × Int) (b : Bd) : Int × Int := hP h (FR.mk (b.2 * (hP t (-b.1.1, b.1.2)).1) (1 * (hP t (-b.1.1, b.1.2)).2))
theorem aKn {t : Int × Int} {l : Rw} {b : Bd} (ht : 1 <= t.2) (hl : 1 <= l.2.2) (hb : 1 <= b.1.2) : aPo t (lh t l) b = lh t (ubs l b) := by
 have u := aMf (l := l) (b := b) hl hb
 have up := wQ (l := l) (b := b) hl hb
 have a0 : AF (hP t (-b.1.1, b.1.2)) (t.1 * b.1.2 + -b.1.1 * t.2, t.2 * b.1.2) := aKu (AF.refl ht) (AF.refl (x := (-b.1.1, b.1.2)) hb)
 have a1 := aDh (i := b.2) a0
 have a2 := aKu (aIa ht hl) a1
 have a3 := aKu (aDh (i := (ubs l b).1) (AF.refl ht)) u
 have e : (ubs l b).1 = l.1 + b.2 := rfl
 refine aGe (aLm (aIa ht hl).a a1.a) (jU ht up) a2 a3 ?_
 rw [e]
 dsimp only
 grind
theorem aNn {t : Int × Int} {l : Rw} {b : Bd} (ht : 1 <= t.2) (hl : 1 <= l.2.2) (hb : 1 <= b.1.2) (hw : 1 <= b.2) : (ltF b.1 t = true -> leF (lh t l) (lh t (ubs l b))) /\ (ltF b.1 t = false -> leF (lh t (ubs l b)) (lh t l)) := by
 have u := aMf (l := l) (b := b) hl hb
 have a1 := aIa ht hl
 have a2 := aKu (aDh (i := (ubs l b).1) (AF.refl ht)) u
 have e : (ubs l b).1 = l.1 + b.2 := rfl
 rw [e] at a2
 have a2 : AF (lh t (ubs l b)) _ := a2
 have P : 0 < b.2 * (t.2 * l.2.2 * l.2.2) := Int.mul_pos (by omega) (Int.mul_pos (Int.mul_pos (by omega) (by omega)) (by omega))
 constructor
 ·intro h
  have h := of_decide_eq_true h
  refine v8 ?_
  rw [yV a2 a1]
  refine decide_eq_false ?_
  dsimp only
  have q := Int.mul_pos P (show 0 < t.1 * b.1.2 - b.1.1 * t.2 by omega)
  have k : ((l.1 + b.2) * t.1 * (l.2.2 * b.1.2) + (l.2.1 * b.1.2 - b.2 * b.1.1 * l.2.2) * t.2) * (t.2 * l.2.2) - (l.1 * t.1 * l.2.2 + l.2.1 * t.2) * (t.2 * (l.2.2 * b.1.2)) = b.2 * (t.2 * l.2.2 * l.2.2) * (t.1 * b.1.2 - b.1.1 * t.2) := by grind
  omega
 ·intro h
  have h := of_decide_eq_false h
  refine v8 ?_
  rw [yV a1 a2]
  refine decide_eq_false ?_
  dsimp only
  have q := Int.mul_nonneg (Int.le_of_lt P) (show 0 <= b.1.1 * t.2 - t.1 * b.1.2 by omega)
  have k : (l.1 * t.1 * l.2.2 + l.2.1 * t.2) * (t.2 * (l.2.2 * b.1.2)) - ((l.1 + b.2) * t.1 * (l.2.2 * b.1.2) + (l.2.1 * b.1.2 - b.2 * b.1.1 * l.2.2) * t.2) * (t.2 * l.2.2) = b.2 * (t.2 * l.2.2 * l.2.2) * (b.1.1 * t.2 - t.1 * b.1.2) := by grind
  omega
theorem aA5 {t : Int × Int} (ht : 1 <= t.2) : ∀ {J : List Bd} {l : Rw}, 1 <= l.2.2 -> Rb J -> (∀ b ∈ J, ltF b.1 t = false) -> ∀ r ∈ unb l J, leF (lh t r) (lh t l)
 | [], l, _, _, _, r, hr => by rw [List.mem_singleton.mp hr]; exact iA _
 | b :: J, l, hl, rb, h, r, hr => by
  obtain ⟨f, w⟩ := rb.f b (.head _)
  have p := wQ (l := l) (b := b) hl f.pos
  rcases List.mem_cons.mp hr with rfl | hr
  ·exact iA _
  ·have ih := aA5 ht p rb.tail (fun a ha => h a (.tail _ ha)) r hr
   exact i8 (jU ht (aAl p rb.tail r hr)).pos (jU ht p).pos (jU ht hl).pos ih ((aNn ht hl f.pos w).2 (h b (.head _)))
theorem aD2 {rs : List Rw} {t h h' : Int × Int} (ht : 1 <= t.2) (hb : ∀ r ∈ rs, 1 <= r.2.2) (a : IsT rs t h) (b : IsT rs t h') : h = h' := by
 obtain ⟨r1, m1, e1⟩ := a.at'
 obtain ⟨r2, m2, e2⟩ := b.at'
 refine wL (by rw [<- e1]; exact jU ht (hb r1 m1)) (by rw [<- e2]; exact jU ht (hb r2 m2)) ?_ ?_
 ·rw [<- e1]; exact b.le r1 m1
 ·rw [<- e2]; exact a.le r2 m2
theorem aIz {fs : List Rw} {k : Nat} (h : k + 1 < fs.length) : (bbs fs).take (k + 1) = (bbs fs).take k ++ [bb (fs.getD k (0, (0, 1))) (fs.getD (k + 1) (0, (0, 1)))] := by
 have e : (bbs fs)[k]? = some (bb (fs.getD k (0, (0, 1))) (fs.getD (k + 1) (0, (0, 1)))) := by
  rw [kX, List.getElem?_map, List.getElem?_range (by omega)]
  rfl
 rw [List.take_add_one, e]
 rfl
theorem pV {fs : List Rw} : (bbs fs).length = fs.length - 1 := by rw [kX, List.length_map, List.length_range]
noncomputable def dA (K : PySem.W.Frag) (c : Cls) : List L -> Res L := mOf eLs (fun fs => fs.length <= 200 /\ jP fs /\ ∀ r ∈ fs, GRl r) fun fs => .ok (.o (.list ((bbs fs).map bdD)))
noncomputable def jA (K : PySem.W.Frag) (c : Cls) : MS := (fF 1 (aN dI (aB (aL 2 (bO K c) (aB (aH ixE (aD 0) (aH mX (aD 2) (mC (.int 1)))) (aB (aH ixE (aD 0) (aD 2)) aT))) (aB (aH mX (aH ixE (aH ixE (aD 0) (aD 2)) (mC (.int 0))) (aH ixE (aH ixE (aD 0) (aH mX (aD 2) (mC (.int 1)))) (mC (.int 0)))) aT))))
noncomputable def i9 (K : PySem.W.Frag) (c : Cls) : MS := (cI (dO 1 (aN iN aT)) (cI (uG (aEn vR (aB (mC (.int 1)) (aB (aN jT (aB (aD 0) aT)) aT))) (aM 2) (jA K c)) (eP (aD 1))))
theorem rN (K : PySem.W.Frag) (c : Cls) : ∀ ls, dA K c ls = .bad \/ e9 3 (i9 K c) ls = dA K c ls := cD fun fs h => by
 obtain ⟨hl, hr, hg⟩ := h
 obtain ⟨e', ⟨q2, rfl⟩, lp⟩ := xO (tg := aM 2) (f := jA K c) (fun j e => ∃ q2, e = [some (.p (.list (fs.map lrD))), some (.o (.list (((bbs fs).take j).map bdD))), q2]) (yZ 1 (fs.length - 1)) 0 [some (.p (.list (fs.map lrD))), some (.o (.list [])), none] ⟨none, rfl⟩ (by
  rintro k d e hd ⟨q2, rfl⟩
  obtain ⟨hk, rfl⟩ := aIm _ _ _ _ hd
  have b1 : k < fs.length := by omega
  have b2 : k + 1 < fs.length := by omega
  have e1 : fs[k]? = some (fs.getD k (0, (0, 1))) := by simp [List.getD, b1]
  have e2 : fs[k + 1]? = some (fs.getD (k + 1) (0, (0, 1))) := by simp [List.getD, b2]
  have g1 := hg _ (List.mem_of_getElem? e1)
  have g2 := hg _ (List.mem_of_getElem? e2)
  have lt := lK hr e1 e2
  have pl := rJ K c lt g1.1 g2.1 g1.g3 g2.g3
  have eb := wV lt g1.pos g2.pos
  have i1 : ixE (.p (.list (fs.map lrD))) (.p (.int (1 + (k : Int) - 1))) = .ok (.p (lrD (fs.getD k (0, (0, 1))))) := pP (xs := fs) (enc := lrD) rfl b1 (by omega)
  have i2 : ixE (.p (.list (fs.map lrD))) (.p (.int (1 + (k : Int)))) = .ok (.p (lrD (fs.getD (k + 1) (0, (0, 1))))) := pP (xs := fs) (enc := lrD) rfl b2 (by omega)
  refine ⟨_, [some (.p (.list (fs.map lrD))), some (.o (.list (((bbs fs).take (0 + k + 1)).map bdD))), some (.p (.int (1 + (k : Int))))], rfl, ?_, _, rfl⟩
  rw [Nat.zero_add, aIz b2, List.map_append, eb]
  exact aHf (ds := ((bbs fs).take k).map bdD) rfl (aA2 (fV (bP rfl (bP rfl rfl (pJ _ _)) i1) (bP rfl rfl i2) pl) (bP (bP (bP rfl rfl i2) rfl (jY _)) (bP (bP rfl (bP rfl rfl (pJ _ _)) i1) rfl (jY _)) (pJ _ _))) (by rw [List.length_map, List.length_take]; omega))
 have el : (yZ 1 (fs.length - 1)).length = fs.length - 1 := by unfold yZ; rw [List.length_map, List.length_range]
 rw [el, Nat.zero_add, <- pV, List.take_length] at lp
 refine bZ ?_
 rw [show bG 3 (eLs fs) = [some (.p (.list (fs.map lrD))), none, none] from rfl]
 unfold i9
 exact (aQ (j7 (d := .list []) rfl)).trans ((aQ ((mF (itA (dG rfl (dG (aFw (ds := fs.map lrD) rfl rfl) rfl)) (by rw [List.length_map, pV]; exact aG4 (by omega)))).trans lp)).trans rfl)
theorem aBn (K : PySem.W.Frag) (c : Cls) {fs : List Rw} (h : fs.length <= 200) (hr : jP fs) (hg : ∀ r ∈ fs, GRl r) : dA K c [.p (.list (fs.map lrD))] = .ok (.o (.list ((bbs fs).map bdD))) := cC (a := fs) pW ⟨h, hr, hg⟩
def ubD (a : Rw × List Bd) : D := .tuple [.int a.1.1, frD a.1.2, .list (a.2.map bdD)]
theorem ubI {a b : Rw × List Bd} (h : ubD a = ubD b) : a = b := by
 unfold ubD at h
 injection h with h
 injection h with h1 h
 injection h with h2 h
 injection h with h3 _
 injection h1 with h1
 injection h3 with h3
 exact Prod.ext (Prod.ext h1 (frI h2)) (aPr h3)
def eB2 (a : Rw × List Bd) : List L := [.p (ubD a), .p (ubD a)]
theorem aI2 (a b : Rw × List Bd) (h : eB2 a = eB2 b) : a = b := by
 unfold eB2 at h
 injection h with h _
 injection h with h
 exact ubI h
def FrZ (x : Int × Int) : Prop := FR.Fr x /\ Sz 8000 x.2
noncomputable def bX (K : PySem.W.Frag) (c : Cls) : List L -> Res L := mOf eB2 (fun a => FrZ a.1.2 /\ ∀ b ∈ a.2, FrZ b.1) fun _ => .ok (.p (.bool true))
noncomputable def gF (K : PySem.W.Frag) (c : Cls) : MS := (kF (mOr (gY (bY (mUn (lN K (.type "tuple")) (aD 2)))) (mOr (gY (bY (aL 1 (aV K c) (aB (aH ixE (aD 2) (mC (.int 0))) aT)))) (gY (bY (aL 1 (a8 K c) (aB (aH ixE (aD 2) (mC (.int 1))) aT)))))) (eP (mC (.bool false))) fE)
noncomputable def fT (K : PySem.W.Frag) (c : Cls) : MS := (cI (kF (mOr (gY (bY (mUn (lN K (.type "tuple")) (aD 0)))) (mOr (bY (aH (eqE true) (aN jT (aB (aD 0) aT)) (mC (.int 3)))) (bY (aH (eqE true) (aD 0) (aD 1))))) (eP (mC (.bool false))) fE) (cI (kF (mOr (gY (bY (aL 1 (a8 K c) (aB (aH ixE (aD 0) (mC (.int 0))) aT)))) (mOr (gY (bY (aL 1 (aV K c) (aB (aH ixE (aD 0) (mC (.int 1))) aT)))) (gY (bY (mUn (lN K (.type "list")) (aH ixE (aD 0) (mC (.int 2)))))))) (eP (mC (.bool false))) fE) (cI (uG (iV (aH ixE (aD 0) (mC (.int 2)))) (aM 2) (gF K c)) (eP (mC (.bool true))))))
theorem aCr (K : PySem.W.Frag) (c : Cls) (hk : gA K c) (A B : Option L) : ∀ (bs : List Bd) (r : Option L), (∀ b ∈ bs, FrZ b.1) -> ∃ q, dP (aM 2) (gF K c) (bs.map bdD) [A, B, r] = some (.nx [A, B, q])
 | [], r, _ => ⟨r, rfl⟩
 | b :: bs, r, h => by
  obtain ⟨q, ih⟩ := aCr K c hk A B bs (some (.p (bdD b))) fun y hy => h y (.tail _ hy)
  obtain ⟨f, z⟩ := h b (.head _)
  have i1 : lN K (.type "tuple") (.p (bdD b)) = .ok (.p (.bool true)) := by simp [lN, dat, bdD, tyD, hk.tt]
  exact ⟨q, (aBg rfl (uA (aGi (rG (kA (aN7 rfl i1))) (aGi (rG (kA (j3 (bP rfl rfl (aMt b)) rfl (aAh K c f z)))) (rG (kA (j3 (bP rfl rfl (aMu b)) rfl (kJ K c b.2)))))))).trans ih⟩
theorem aNy (b : Bd) : PyData.canLay0 (bdD b) = true := by simp [bdD, frD, PyData.canLay0, PyData.canLayAll0]
theorem aGx (b : Bd) : PyData.depth (bdD b) <= 9 := by simp [bdD, frD, PyData.depth, PyData.depthAll]
theorem aOn (a : Rw × List Bd) : SeqAt.shaped (ubD a) = true := by
 have h := aCx bdD aNy aGx a.2
 have h1 := (Bool.and_eq_true_iff.mp h).1
 have h2 : PyData.depthAll (a.2.map bdD) <= 9 := by
  generalize a.2 = l
  induction l with
  | nil => exact Nat.zero_le _
  | cons b l ih => rw [List.map_cons, PyData.depthAll]; exact Nat.max_le.mpr ⟨aGx b, ih⟩
 have h1 : PyData.canLayAll0 (a.2.map bdD) = true := by simpa [PyData.canLay0] using h1
 simp [ubD, frD, SeqAt.shaped, PyData.canLay0, PyData.canLayAll0, h1, PyData.depth, PyData.depthAll]
 omega
theorem l9 (K : PySem.W.Frag) (c : Cls) (hk : gA K c) : ∀ ls, bX K c ls = .bad \/ e9 3 (fT K c) ls = bX K c ls := cD fun a h => by
 obtain ⟨l, bs⟩ := a
 obtain ⟨⟨f, z⟩, hb⟩ := h
 dsimp only at f z hb ⊢
 obtain ⟨q, lp⟩ := aCr K c hk (some (.p (ubD (l, bs)))) (some (.p (ubD (l, bs)))) bs none hb
 have i1 : lN K (.type "tuple") (.p (ubD (l, bs))) = .ok (.p (.bool true)) := by simp [lN, dat, ubD, tyD, hk.tt]
 have i2 : lN K (.type "list") (.p (.list (bs.map bdD))) = .ok (.p (.bool true)) := by simp [lN, dat, tyD, hk.ll]
 have i3 : eqE true (.p (ubD (l, bs))) (.p (ubD (l, bs))) = .ok (.p (.bool false)) := jF rfl rfl (aOn _) true
 have x0 : ixE (.p (ubD (l, bs))) (.p (.int 0)) = .ok (.p (.int l.1)) := jD _ _
 have x1 : ixE (.p (ubD (l, bs))) (.p (.int 1)) = .ok (.p (frD l.2)) := jN _ _ _
 have x2 : ixE (.p (ubD (l, bs))) (.p (.int 2)) = .ok (.p (.list (bs.map bdD))) := nR _ _ _ _
 have e3 : eqE true (.p (.int ((3 : Nat) : Int))) (.p (.int 3)) = .ok (.p (.bool false)) := jF rfl rfl (iM _) true
 refine bZ ?_
 rw [show bG 3 (eB2 (l, bs)) = [some (.p (ubD (l, bs))), some (.p (ubD (l, bs))), none] from rfl]
 unfold fT
 refine (aQ (uA (aGi (rG (kA (aN7 rfl i1))) (aGi (kA (bP (aFw (ds := [.int l.1, frD l.2, .list (bs.map bdD)]) rfl rfl) rfl e3)) (kA (bP rfl rfl i3)))))).trans ?_
 refine (aQ (uA (aGi (rG (kA (j3 (bP rfl rfl x0) rfl (kJ K c l.1)))) (aGi (rG (kA (j3 (bP rfl rfl x1) rfl (aAh K c f z)))) (rG (kA (aN7 (bP rfl rfl x2) i2))))))).trans ?_
 exact (aQ ((mF (itL (bP rfl rfl x2))).trans lp)).trans rfl
theorem aL4 (K : PySem.W.Frag) (c : Cls) {l : Rw} {bs : List Bd} (h : FrZ l.2) (hb : ∀ b ∈ bs, FrZ b.1) : bX K c [.p (ubD (l, bs)), .p (ubD (l, bs))] = .ok (.p (.bool true)) := cC (a := (l, bs)) aI2 ⟨h, hb⟩
def eAU (a : (Rw × List Bd) × (Int × Int)) : List L := [.p (ubD a.1), .p (frD a.2)]
theorem aIi (a b : (Rw × List Bd) × (Int × Int)) (h : eAU a = eAU b) : a = b := by
 unfold eAU at h
 injection h with h1 h
 injection h with h2 _
 injection h1 with h1
 injection h2 with h2
 exact Prod.ext (ubI h1) (frI h2)
structure AUP (a : (Rw × List Bd) × (Int × Int)) : Prop where
 j : GBs a.1.2
 h : ∀ r ∈ unb a.1.1 a.1.2, GRl r
 t : Good 300 a.2
noncomputable def bM (K : PySem.W.Frag) (c : Cls) : List L -> Res L := mOf eAU AUP fun a => .ok (.p (frD (zR (unb a.1.1 a.1.2) a.2)))
noncomputable def cB (K : PySem.W.Frag) (c : Cls) : MS := (kF (bY (aL 2 (aR K c) (aB (aD 3) (aB (aD 1) aT)))) (dO 2 (aL 2 (bR K c) (aB (aD 2) (aB (aL 2 (bI K c) (aB (aN dI (aB (aD 4) (aB (mC (.int 1)) aT))) (aB (aL 2 (bR K c) (aB (aD 1) (aB (aN dI (aB (mUn kO (aH ixE (aD 3) (mC (.int 0)))) (aB (aH ixE (aD 3) (mC (.int 1))) aT))) aT))) aT))) aT)))) fE)
noncomputable def fR (K : PySem.W.Frag) (c : Cls) : MS := (cI (dO 2 (aL 2 (bR K c) (aB (aL 2 (bI K c) (aB (aN dI (aB (aH ixE (aD 0) (mC (.int 0))) (aB (mC (.int 1)) aT))) (aB (aD 1) aT))) (aB (aH ixE (aD 0) (mC (.int 1))) aT)))) (cI (uG (iV (aH ixE (aD 0) (mC (.int 2)))) (d8 2 (aX (aM 3) (aX (aM 4) eA))) (cB K c)) (eP (aD 2))))
theorem aDw {t : Int × Int} {l : Rw} (g : GRl l) (k : Good 300 t) : Good 800 (lh t l) := by
 have gt : Good 450 (hT l.1 t) := fQ ((Sz.mul g.1 k.2.1).mono (by decide)) (by rw [Int.one_mul]; exact k.2.2.mono (by decide)) (by have := k.1; omega)
 exact fQ ((N.Sz.addM (Sz.mul gt.2.1 g.g3.2.2) (Sz.mul g.2.2.1 gt.2.2)).mono (by decide)) ((Sz.mul gt.2.2 g.g3.2.2).mono (by decide)) (by have := b9 gt.1 g.pos; omega)
theorem aP6 (K : PySem.W.Frag) (c : Cls) (Z R2 R4 : Option L) {t : Int × Int} {b : Bd} (ht : Good 300 t) (hb : Good 300 b.1) : bY (aL 2 (aR K c) (aB (aD 3) (aB (aD 1) aT))) [Z, some (.p (frD t)), R2, some (.p (frD b.1)), R4] = .ok (ltF b.1 t) :=
 kA (fV rfl rfl (kL K c (hb.mono (show 300 <= 2000 by decide)).fsz (ht.mono (show 300 <= 2000 by decide)).fsz))
theorem aQl (K : PySem.W.Frag) (c : Cls) (Z : Option L) {t x y u v : Int × Int} {b : Bd} (t1 : bY (aL 2 (aR K c) (aB (aD 3) (aB (aD 1) aT))) [Z, some (.p (frD t)), some (.p (frD x)), some (.p (frD b.1)), some (.p (.int b.2))] = .ok true) (s1 : bR K c [.p (frD t), .p (frD (-b.1.1, b.1.2))] = .ok (.p (frD u))) (s2 : bI K c [.p (.tuple [.int b.2, .int 1]), .p (frD u)] = .ok (.p (frD v))) (s3 : bR K c [.p (frD x), .p (frD v)] = .ok (.p (frD y))) :
  cB K c [Z, some (.p (frD t)), some (.p (frD x)), some (.p (frD b.1)), some (.p (.int b.2))] = some (.nx [Z, some (.p (frD t)), some (.p (frD y)), some (.p (frD b.1)), some (.p (.int b.2))]) := by
 have y0 : ixE (.p (frD b.1)) (.p (.int 0)) = .ok (.p (.int b.1.1)) := jD _ _
 have y1 : ixE (.p (frD b.1)) (.p (.int 1)) = .ok (.p (.int b.1.2)) := jN _ _ _
 have ng : kO (.p (.int b.1.1)) = .ok (.p (.int (-b.1.1))) := rfl
 have x1 : ∀ en : En, en = [Z, some (.p (frD t)), some (.p (frD x)), some (.p (frD b.1)), some (.p (.int b.2))] -> aL 2 (bR K c) (aB (aD 1) (aB (aN dI (aB (mUn kO (aH ixE (aD 3) (mC (.int 0)))) (aB (aH ixE (aD 3) (mC (.int 1))) aT))) aT)) en = .ok (.p (frD u)) := fun en e => by
  subst e
  exact fV (a := frD t) (b := frD (-b.1.1, b.1.2)) rfl (aA2 (a := .int (-b.1.1)) (b := .int b.1.2) (aN7 (bP rfl rfl y0) ng) (bP rfl rfl y1)) s1
 have x2 := x1 _ rfl
 unfold cB
 refine (aB0 t1).trans ?_
 exact eO (d := frD y) (fV (a := frD x) (b := frD v) rfl (fV (a := .tuple [.int b.2, .int 1]) (b := frD u) (aA2 (a := .int b.2) (b := .int 1) rfl rfl) x2 s2) s3)
theorem aAb (K : PySem.W.Frag) (c : Cls) (Z R2 : Option L) {t : Int × Int} (ht : Good 300 t) : ∀ (J : List Bd) (r3 r4 : Option L), (∀ b ∈ J, Good 300 b.1 /\ ltF b.1 t = false) -> ∃ q3 q4, dP (d8 2 (aX (aM 3) (aX (aM 4) eA))) (cB K c) (J.map bdD) [Z, some (.p (frD t)), R2, r3, r4] = some (.nx [Z, some (.p (frD t)), R2, q3, q4])
 | [], r3, r4, _ => ⟨r3, r4, rfl⟩
 | b :: J, r3, r4, h => by
  obtain ⟨g, e⟩ := h b (.head _)
  obtain ⟨q3, q4, ih⟩ := aAb K c Z R2 ht J (some (.p (frD b.1))) (some (.p (.int b.2))) fun a ha => h a (.tail _ ha)
  have t1 := aP6 K c Z R2 (some (.p (.int b.2))) ht g
  rw [e] at t1
  exact ⟨q3, q4, (aBg rfl (uA t1)).trans ih⟩
theorem aCf (K : PySem.W.Frag) (c : Cls) (Z : Option L) {t : Int × Int} (ht : Good 300 t) : ∀ (J : List Bd) (l : Rw) (r3 r4 : Option L), Rb J -> (∀ b ∈ J, Good 300 b.1 /\ Sz 100 b.2) -> (∀ r ∈ unb l J, GRl r) -> ∃ h q3 q4, IsT (unb l J) t h /\ dP (d8 2 (aX (aM 3) (aX (aM 4) eA))) (cB K c) (J.map bdD) [Z, some (.p (frD t)), some (.p (frD (lh t l))), r3, r4] = some (.nx [Z, some (.p (frD t)), some (.p (frD h)), q3, q4])
 | [], l, r3, r4, _, _, _ => ⟨lh t l, r3, r4, ⟨⟨l, .head _, rfl⟩, fun r hr => by rw [List.mem_singleton.mp hr]; exact iA _⟩, rfl⟩
 | b :: J, l, r3, r4, rb, hb, hg => by
  obtain ⟨g, w⟩ := hb b (.head _)
  obtain ⟨f, w1⟩ := rb.f b (.head _)
  have gl := hg l (.head _)
  have p := wQ (l := l) (b := b) gl.pos f.pos
  have t1 := aP6 K c Z (some (.p (frD (lh t l)))) (some (.p (.int b.2))) ht g
  have up := aNn (t := t) (l := l) (b := b) ht.1 gl.pos f.pos w1
  cases e : ltF b.1 t with
  | true =>
   rw [e] at t1
   obtain ⟨h, q3, q4, is, ih⟩ := aCf K c Z ht J (ubs l b) (some (.p (frD b.1))) (some (.p (.int b.2))) rb.tail (fun a ha => hb a (.tail _ ha)) fun r hr => hg r (.tail _ hr)
   have gn : Good 300 ((-b.1.1, b.1.2) : Int × Int) := ⟨g.1, L2.Sz.neg g.2.1, g.2.2⟩
   have s1 := qR K c (x := t) (y := (-b.1.1, b.1.2)) ht gn (by decide) (by decide)
   have g1 : Good 700 (hP t (-b.1.1, b.1.2)) := fQ ((N.Sz.addM (Sz.mul ht.2.1 gn.2.2) (Sz.mul gn.2.1 ht.2.2)).mono (by decide)) ((Sz.mul ht.2.2 gn.2.2).mono (by decide)) (by have := b9 ht.1 gn.1; omega)
   have s2 := qN K c (i := b.2) (w.mono (by decide)) g1 (by decide)
   have g2 : Good 900 (FR.mk (b.2 * (hP t (-b.1.1, b.1.2)).1) (1 * (hP t (-b.1.1, b.1.2)).2)) := fQ ((Sz.mul w g1.2.1).mono (by decide)) (by rw [Int.one_mul]; exact g1.2.2.mono (by decide)) (by have := g1.1; omega)
   have s3 := qR K c (aDw gl ht) g2 (by decide) (by decide)
   rw [show hP (lh t l) (FR.mk (b.2 * (hP t (-b.1.1, b.1.2)).1) (1 * (hP t (-b.1.1, b.1.2)).2)) = lh t (ubs l b) from aKn ht.1 gl.pos f.pos] at s3
   have body := aQl K c Z t1 s1 s2 s3
   obtain ⟨r', er⟩ := aGr (ubs l b) J
   have hm : ubs l b ∈ unb (ubs l b) J := by rw [er]; exact .head _
   obtain ⟨r0, m0, e0⟩ := is.at'
   have hp : 1 <= h.2 := by rw [<- e0]; exact (jU ht.1 (hg r0 (.tail _ m0)).pos).pos
   refine ⟨h, q3, q4, ⟨⟨r0, .tail _ m0, e0⟩, fun r hr => ?_⟩, (aBg rfl body).trans ih⟩
   rcases List.mem_cons.mp hr with rfl | hr
   ·exact i8 (jU ht.1 gl.pos).pos (jU ht.1 p).pos hp (up.1 e) (is.le _ hm)
   ·exact is.le r hr
  | false =>
   have al : ∀ a ∈ b :: J, ltF a.1 t = false := fun a ha => by
    rcases List.mem_cons.mp ha with rfl | ha
    ·exact e
    ·cases q : ltF a.1 t with
     | false => rfl
     | true =>
      have := aMj f.pos (rb.f a (.tail _ ha)).1.pos ht.1 ((List.pairwise_cons.mp rb.s).1 a ha) q
      rw [e] at this
      cases this
   obtain ⟨q3, q4, ih⟩ := aAb K c Z (some (.p (frD (lh t l)))) ht (b :: J) r3 r4 fun a ha => ⟨(hb a ha).1, al a ha⟩
   exact ⟨lh t l, q3, q4, ⟨⟨l, .head _, rfl⟩, aA5 ht.1 gl.pos rb al⟩, ih⟩
theorem mD (K : PySem.W.Frag) (c : Cls) : ∀ ls, bM K c ls = .bad \/ e9 5 (fR K c) ls = bM K c ls := cD fun a h => by
 obtain ⟨⟨l, J⟩, t⟩ := a
 obtain ⟨gb, hg, ht⟩ := h
 dsimp only at gb hg ht ⊢
 have gl : GRl l := hg l (by obtain ⟨r, e⟩ := aGr l J; rw [e]; exact .head _)
 obtain ⟨h, q3, q4, is, lp⟩ := aCf K c (some (.p (ubD (l, J)))) ht J l none none gb.r (fun b hb => ⟨gb.good hb, (gb.b b hb).2.2⟩) hg
 have hp : ∀ r ∈ unb l J, 1 <= r.2.2 := fun r hr => (hg r hr).pos
 have eh : h = zR (unb l J) t := aD2 ht.1 hp is (vM (aK9 l J) ht.1 hp)
 subst eh
 have x0 : ixE (.p (ubD (l, J))) (.p (.int 0)) = .ok (.p (.int l.1)) := jD _ _
 have x1 : ixE (.p (ubD (l, J))) (.p (.int 1)) = .ok (.p (frD l.2)) := jN _ _ _
 have x2 : ixE (.p (ubD (l, J))) (.p (.int 2)) = .ok (.p (.list (J.map bdD))) := nR _ _ _ _
 have s2 := qN K c (i := l.1) (gl.1.mono (by decide)) ht (by decide)
 have gt : Good 450 (hT l.1 t) := fQ ((Sz.mul gl.1 ht.2.1).mono (by decide)) (by rw [Int.one_mul]; exact ht.2.2.mono (by decide)) (by have := ht.1; omega)
 have s3 : bR K c [.p (frD (hT l.1 t)), .p (frD l.2)] = .ok (.p (frD (lh t l))) := qR K c gt gl.g3 (by decide) (by decide)
 refine bZ ?_
 rw [show bG 5 (eAU ((l, J), t)) = [some (.p (ubD (l, J))), some (.p (frD t)), none, none, none] from rfl]
 unfold fR
 exact (aQ (eO (fV (fV (b := frD t) (aA2 (bP rfl rfl x0) rfl) rfl s2) (bP rfl rfl x1) s3))).trans ((aQ ((mF (itL (bP rfl rfl x2))).trans lp)).trans rfl)
theorem aEc (K : PySem.W.Frag) (c : Cls) {l : Rw} {J : List Bd} {t : Int × Int} (h : AUP ((l, J), t)) : bM K c [.p (ubD (l, J)), .p (frD t)] = .ok (.p (frD (zR (unb l J) t))) := cC (a := ((l, J), t)) aIi h
theorem aIx {r : Nat} {fi : En -> Res (List D)} {fc : En -> Res Bool} {f : En -> Option En} {en : En} {ds : List D} (h : fi en = .ok ds) (hc : ∀ d ∈ ds, ∀ x, fc ((en.set r x).set r (some (.p d))) = .ok false) (hr : r < en.length) (hf : ∀ x, ∃ o, f (en.set r x) = some o) : ∃ o, kFor r fi fc f en = some o := by
 unfold kFor
 rw [h]
 dsimp only
 obtain ⟨x, e⟩ := xA hc hr
 rw [e]
 exact hf x
theorem gz {r : Rw} (h : GRw r) : Sz 100 r.1 := h.1.mono (by decide)
theorem g9 {r : Rw} (h : GRw r) : Good 900 r.2 := h.2.good.mono (by decide)
theorem grl {r : Rw} (h : GRw r) : GRl r := ⟨gz h, h.2.f, h.2.t.mono (by decide), h.2.b.mono (by decide)⟩
theorem aJa {α : Type} (f : α -> D) (xs : List α) (l u : Option Int) : ∃ ys : List α, cutD (xs.map f) l u = ys.map f /\ (∀ y ∈ ys, y ∈ xs) /\ ys.length <= xs.length := by
 refine ⟨(xs.drop (HT.sIx xs.length 0 l)).take (HT.sIx xs.length xs.length u - HT.sIx xs.length 0 l), ?_, fun y hy => List.mem_of_mem_drop (List.mem_of_mem_take hy), ?_⟩
 ·unfold M.cutD
  rw [List.length_map, List.map_take, List.map_drop]
 ·rw [List.length_take, List.length_drop]
  omega
theorem aOg {a b : Rw} (h : a.1 < b.1) (ga : GRw a) (gb : GRw b) : Sz 200 (bb a b).1.1 /\ Sz 200 (bb a b).1.2 /\ Sz 100 (bb a b).2 := by
 rw [wV h ga.2.f.pos gb.2.f.pos]
 have g : Good 200 (plc a b) := fQ ((N.Sz.subM (Sz.mul ga.2.t gb.2.b) (Sz.mul gb.2.t ga.2.b)).mono (by decide)) ((Sz.mul (Sz.mul ga.2.b gb.2.b) (N.Sz.subM gb.1 ga.1)).mono (by decide)) (by have := sA h ga.2.f.pos gb.2.f.pos; omega)
 exact ⟨g.2.1, g.2.2, (N.Sz.subM gb.1 ga.1).mono (by decide)⟩
theorem aNm (xs : List Rw) : lfA (xs.map lrD) = true := aCz lrD (fun r => by simp [lrD, frD, lfD, lfA]) _
structure Q16 (ln fs : List Rw) (x : Rw) (J : List Bd) : Prop where
 n0 : ln ≠ []
 nl : ln.length <= 41
 ng : ∀ r ∈ ln, GRw r
 nr : jP ln
 ft : fs = gJ ln
 fx : ∃ r, fs = x :: r
 lx : ∃ r, ln = x :: r
 jb : J = bbs fs
 ub : unb x J = fs
 gb : GBs J
 jl : J.length < ln.length
theorem q16 {ln : List Rw} (n0 : ln ≠ []) (nl : ln.length <= 41) (ng : ∀ r ∈ ln, GRw r) (nr : jP ln) : ∃ x J, Q16 ln (gJ ln) x J := by
 obtain ⟨x, r, er⟩ := wZ n0 nr
 have th := oV n0 nr
 have sub := th.sub
 have rise : jP (gJ ln) := List.Pairwise.sublist sub nr
 have hb : ∀ r ∈ ln, 1 <= r.2.2 := fun r hr => (ng r hr).2.f.pos
 have lx : ∃ r', ln = x :: r' := by
  have h := th.hd
  rw [er] at h
  cases ln with
  | nil => exact absurd rfl n0
  | cons y l => exact ⟨l, by rw [Option.some.inj h]⟩
 have sl := sub.length_le
 have bl := zH r x
 rw [<- er] at bl
 have el : (gJ ln).length = r.length + 1 := by rw [er]; rfl
 refine ⟨x, bbs (gJ ln), n0, nl, ng, nr, rfl, ⟨r, er⟩, lx, rfl, ?_, ⟨by omega, aG8 (x6 hb) (fun q hq => sub.subset hq) rise th.conv, fun b hb' => ?_⟩, by omega⟩
 ·rw [er] at rise ⊢
  exact aC7 rise fun q hq => (ng q (sub.subset (by rw [er]; exact hq))).2.f
 ·obtain ⟨u, v, h1, h2, h3, e⟩ := aAa hb'
  rw [e]
  exact aOg (h3 rise) (ng u (sub.subset h1)) (ng v (sub.subset h2))
noncomputable def qG (K : PySem.W.Frag) (c : Cls) : En -> Res Ev := (aD 0)
noncomputable def aEq (K : PySem.W.Frag) (c : Cls) : MS := (cI (dO 1 (aL 1 (dC K c) (aB (aH gR (aL 1 (cZ K c) (aB (mSl (aD 0) (mPt (mC (.int 1))) (mPt (mC (.int 41)))) aT)) (aN iN (aB (aN dI (aB (aH mX (aH mQ (aL 2 (bH K c) (aB (aD 0) (aB (mC (.int 0)) aT))) (mC (.int 5))) (mC (.int 2))) (aB (aN dI (aB (mC (.int 0)) (aB (mC (.int 1)) aT))) aT))) aT))) aT))) (fun en => (cI (dO 2 (aL 1 (dW K c) (aB (aD 1) aT))) (fun en => (cI (dO 3 (aN dI (aB (aH ixE (aH ixE (aD 1) (mC (.int 0))) (mC (.int 0))) (aB (aH ixE (aH ixE (aD 1) (mC (.int 0))) (mC (.int 1))) (aB (aL 1 (dA K c) (aB (aD 2) aT)) aT))))) (cI (dO 4 (aN listE (aB (aD 1) aT))) (fun en => (aCg 5 4 [6, 7, 8] (aL 1 (iF K c) (aB (aD 4) aT)) (kIf (mOr (gY (bY (aL 2 (bX K c) (aB (aD 5) (aB (aD 3) aT))))) (bY (aH (eqE true) (aD 4) (aD 1)))) (aIs 6 (aH mQ (aL 2 (bH K c) (aB (aD 0) (aB (mC (.int 1)) aT))) (aN (aLy fun i j => if j > i then j else i) (aB (mC (.int 1)) (aB (aN jT (aB (aH ixE (aD 3) (mC (.int 2))) aT)) aT)))) (kFor 7 (iV (aH gR (aN iN (aB (aL 2 (bJ K c) (aB (aL 2 (bH K c) (aB (aD 0) (aB (mC (.int 0)) aT))) (aB (mC (.int 40)) aT))) aT)) (jR 2 [] (iV (mSl (aH ixE (aD 3) (mC (.int 2))) (mPt (aD 6)) (mPt (aH gR (aD 6) (mC (.int 8)))))) (d8 2 (aX (aM 0) (aX (aM 1) eA))) mS (qG K c)))) (bY (aH (eqE true) (aL 2 (bM K c) (aB (aD 5) (aB (aD 7) aT))) (aL 2 (bV K c) (aB (aD 1) (aB (aD 7) aT))))) (aIs 8 (aL 3 (fX K c) (aB (aH ixE (aD 5) (mC (.int 0))) (aB (aH ixE (aD 5) (mC (.int 1))) (aB (aH ixE (aD 5) (mC (.int 2))) aT)))) (kIf (mOr (gY (bY (aL 2 (b7 K c) (aB (aD 8) (aB (aD 2) aT))))) (bY (aH (eqE true) (aD 8) (aL 1 (bL K c) (aB (aD 4) aT))))) some))))) (eP (aL 2 (bX K c) (aB (aL 1 (iF K c) (aB (aD 4) aT)) (aB (aD 3) aT))))) (frz 4 en)))) (frz 2 en))) (frz 1 en)))
noncomputable def yG (K : PySem.W.Frag) (c : Cls) (ls : List L) : Res L := e9 9 (aEq K c) ls
theorem aL5 (K : PySem.W.Frag) (c : Cls) : ∀ ls, yG K c ls = .bad \/ e9 9 (aEq K c) ls = yG K c ls := fun _ => .inr rfl
theorem aMd (K : PySem.W.Frag) (c : Cls) (hk : gA K c) (ns : List Int) (hn : ns.length <= 63) : yG K c [.p (.list (ns.map .int))] = .ok (.p (.bool true)) := by
 have c0 := zP K c ns 0
 have c1 := zP K c ns 1
 generalize ns.getD 0 0 = x0 at c0
 generalize ns.getD 1 0 = x1 at c1
 obtain ⟨cs, ecs, lcs⟩ := aK0 ns 1 41
 obtain ⟨rs, gr, rl, hro⟩ := aJt K c cs (by omega)
 have m5 := dU (a := x0) (b := 5) (by decide)
 have d5 : (5 : Int) ≠ 0 := by decide
 have gl : ∀ r ∈ rs ++ [((x0.fmod 5 - 2, (0, 1)) : Rw)], GRw r := fun r hr => by
  rcases List.mem_append.mp hr with z | z
  ·exact gr r z
  ·rw [List.mem_singleton.mp z]
   exact ⟨by unfold Sz; dsimp only; omega, aG2 (by unfold Sz; decide)⟩
 obtain ⟨ln, n0, nl, ng, nr, hln⟩ := aJf K c (rs ++ [((x0.fmod 5 - 2, (0, 1)) : Rw)]) (by simp) (by rw [List.length_append, List.length_singleton]; omega) gl
 rw [List.length_append, List.length_singleton] at nl
 have ha : gR (.p (.list (rs.map lrD))) (.p (.list [.tuple [.int (x0.fmod 5 - 2), .tuple [.int 0, .int 1]]])) = .ok (.f (.list ((rs ++ [((x0.fmod 5 - 2, (0, 1)) : Rw)]).map lrD))) := by
  unfold gR
  dsimp only [gH]
  rw [if_pos (by rw [List.length_map]; show rs.length + 1 <= 100000; omega), List.map_append]
  rfl
 obtain ⟨x, J, q⟩ := q16 n0 (by omega) ng nr
 have hb : ∀ r ∈ ln, 1 <= r.2.2 := fun r hr => (ng r hr).2.f.pos
 have GL : GLs ln := ⟨by omega, fun r hr => ⟨gz (ng r hr), hb r hr, (ng r hr).2.t.mono (by decide), (ng r hr).2.b.mono (by decide)⟩⟩
 have tk := yN K c (show ln.length <= 1000 by omega) nr fun r hr => grl (ng r hr)
 rw [zN n0 nr hb] at tk
 have lt := aC9 K c GL
 have bo := aD7 K c GL n0 nr
 have th := oV n0 nr
 have tp := fun t (ht : 1 <= t.2) => aFs (t := t) (x6 hb) n0 nr th ht
 have sub := th.sub
 generalize gJ ln = fs at *
 obtain ⟨_, _, _, _, _, ⟨r, er⟩, ⟨r', er'⟩, jb, ub, gb, jl⟩ := q
 have rise : jP fs := List.Pairwise.sublist sub nr
 have gf : ∀ r ∈ fs, GRw r := fun r hr => ng r (sub.subset hr)
 have sl := sub.length_le
 have lb := aBn K c (show fs.length <= 200 by omega) rise fun r hr => grl (gf r hr)
 have bo : iF K c [.p (.list (ln.map lrD))] = .ok (.p (ubD (x, J))) := by rw [bo, jb, er]; rfl
 rw [<- jb] at lb
 have gx : GRw x := gf x (by rw [er]; exact .head _)
 have fz : ∀ y : Int × Int, Good 300 y -> FR.Fr y -> FrZ y := fun y h1 h2 => ⟨h2, h1.2.2.mono (by decide)⟩
 have ib := aL4 K c (l := x) (bs := J) (fz _ (gx.2.good.mono (by decide)) gx.2.f) fun b hb' => fz _ (gb.good hb') (gb.r.f b hb').1
 have un := aAi K c (l := x) (bs := J) ⟨gb, fun r hr => by dsimp only at hr; rw [ub] at hr; exact (grl (gf r hr)).g3⟩
 rw [ub] at un
 have il := aM8 K c (rs := fs) fun r hr => ⟨(gf r hr).2.f, (gf r hr).2.b.mono (by decide)⟩
 have eql : ∀ xs : List Rw, eqE true (.p (.list (xs.map lrD))) (.p (.list (xs.map lrD))) = .ok (.p (.bool false)) := fun xs => jF rfl rfl (aHb _) true
 have eqr : ∀ y : Int × Int, eqE true (.p (frD y)) (.p (frD y)) = .ok (.p (.bool false)) := fun y => jF rfl rfl (aNl y) true
 have i0 : ixE (.p (.list (ln.map lrD))) (.p (.int 0)) = .ok (.p (lrD x)) := by rw [er']; exact pP (xs := x :: r') (enc := lrD) (d := x) (k := 0) rfl (by simp) rfl
 have y0 : ixE (.p (ubD (x, J))) (.p (.int 0)) = .ok (.p (.int x.1)) := jD _ _
 have y1 : ixE (.p (ubD (x, J))) (.p (.int 1)) = .ok (.p (frD x.2)) := jN _ _ _
 have y2 : ixE (.p (ubD (x, J))) (.p (.int 2)) = .ok (.p (.list (J.map bdD))) := nR _ _ _ _
 obtain ⟨t0, gt0, et0⟩ := tM K c x0 (k := 40) (by decide) (by decide)
 have au : ∀ t : Int × Int, Good 300 t -> bM K c [.p (ubD (x, J)), .p (frD t)] = .ok (.p (frD (zR ln t))) := fun t ht => by
  rw [aEc K c ⟨gb, fun r hr => by dsimp only at hr; rw [ub] at hr; exact grl (gf r hr), ht⟩, ub, tp t ht.1]
 have hi : ∀ t : Int × Int, Good 300 t -> bV K c [.p (.list (ln.map lrD)), .p (frD t)] = .ok (.p (frD (zR ln t))) := fun t ht => yL K c n0 (by omega) (ht.mono (by decide)) fun r hr => ⟨gz (ng r hr), g9 (ng r hr)⟩
 have jm : J.length <= 60 := gb.l
 unfold yG
 refine bZ ?_
 rw [show bG 9 [.p (.list (ns.map .int))] = [some (.p (.list (ns.map .int))), none, none, none, none, none, none, none, none] from rfl]
 unfold aEq
 refine (aQ (j7 (j3 (bP (j3 (aP3 (ds := ns.map .int) (l := some 1) (u := some 41) rfl rfl rfl) (by show Ev.p (.list (cutD (ns.map .int) (some ((1 : Nat) : Int)) (some ((41 : Nat) : Int)))) = _; rw [ecs]) hro) (lP (dG (aA2 (bP (bP (fV rfl rfl c0) rfl (nI d5)) rfl (pJ _ _)) (aA2 rfl rfl)) rfl) rfl) ha) rfl hln))).trans ?_
 refine s9 (i := 1) (e1 := [some (.p (.list (ns.map .int))), some (.p (.list (ln.map lrD))), none, none, none, none, none, none, none]) rfl ?_
 refine (aQ (j7 (j3 rfl rfl tk))).trans ?_
 refine s9 (i := 2) (e1 := [some (.p (.list (ns.map .int))), some (.p (.list (ln.map lrD))), some (.p (.list (fs.map lrD))), none, none, none, none, none, none]) rfl ?_
 refine (aQ (eO (d := ubD (x, J)) (aPv (bP (bP rfl rfl i0) rfl (jY x)) (bP (bP rfl rfl i0) rfl (kQ x)) (j3 rfl rfl lb)))).trans ?_
 refine (aQ (j7 (d := .list (ln.map lrD)) rfl)).trans ?_
 refine s9 (i := 4) (e1 := [some (.p (.list (ns.map .int))), some (.p (.list (ln.map lrD))), some (.p (.list (fs.map lrD))), some (.p (ubD (x, J))), some (.p (.list (ln.map lrD))), none, none, none, none]) rfl ?_
 refine (aH4 (es := ln.map lrD) (a := .int x.1) (b := frD x.2) (xs := J.map bdD) rfl (j3 rfl rfl bo) ⟨aNm ln, .inl (by rw [List.length_map, List.length_map]; omega), ?_⟩).trans (fU (fV (j3 rfl rfl bo) rfl ib))
 obtain ⟨f0, ef0, lf0, hf0⟩ : ∃ f0 : Int, f0 = x1.fmod (if ((J.map bdD).length : Int) > 1 then ((J.map bdD).length : Int) else 1) /\ 0 <= f0 /\ (if ((J.map bdD).length : Int) > 1 then ((J.map bdD).length : Int) else 1) ≠ 0 := ⟨_, rfl, (dU (by split <;> omega)).1, by split <;> omega⟩
 obtain ⟨ys, ey, my, ly⟩ := aJa bdD J (some f0) (some (f0 + 8))
 have cm : jR 2 [] (iV (mSl (aH ixE (aD 3) (mC (.int 2))) (mPt (aD 6)) (mPt (aH gR (aD 6) (mC (.int 8)))))) (d8 2 (aX (aM 0) (aX (aM 1) eA))) mS (qG K c) [some (.p (.list (ns.map .int))), some (.p (.list (ln.map lrD))), some (.p (.list (fs.map lrD))), some (.p (ubD (x, J))), some (.p (.list (ln.map lrD))), some (.p (ubD (x, J))), some (.p (.int f0)), none, none] = .ok (.f (.list (ys.map fun b => frD b.1))) := by
  refine nO (ds := ys.map bdD) (itL (aP3 (ds := J.map bdD) (l := some f0) (u := some (f0 + 8)) (bP rfl rfl y2) rfl rfl) (by rw [ey]; rfl)) (by rw [List.length_map]; omega) (g8 ys fun b _ => rfl)
 have ad : gR (.p (.list [frD t0])) (.p (.list (ys.map fun b => frD b.1))) = .ok (.f (.list (frD t0 :: ys.map fun b => frD b.1))) := by
  unfold gR
  dsimp only [gH]
  rw [if_pos (by rw [List.length_map]; show 1 + ys.length <= 100000; omega)]
  rfl
 have at' : ∀ d ∈ frD t0 :: ys.map (fun b => frD b.1), ∃ t, d = frD t /\ Good 300 t := fun d hd => by
  rcases List.mem_cons.mp hd with rfl | hd
  ·exact ⟨t0, rfl, gt0.good.mono (by decide)⟩
  ·obtain ⟨b, hb', rfl⟩ := List.mem_map.mp hd
   exact ⟨b.1, rfl, gb.good (my b hb')⟩
 obtain ⟨en', hen⟩ := aIx (r := 7) (f := (aIs 8 (aL 3 (fX K c) (aB (aH ixE (aD 5) (mC (.int 0))) (aB (aH ixE (aD 5) (mC (.int 1))) (aB (aH ixE (aD 5) (mC (.int 2))) aT)))) (kIf (mOr (gY (bY (aL 2 (b7 K c) (aB (aD 8) (aB (aD 2) aT))))) (bY (aH (eqE true) (aD 8) (aL 1 (bL K c) (aB (aD 4) aT))))) some))) (fc := (bY (aH (eqE true) (aL 2 (bM K c) (aB (aD 5) (aB (aD 7) aT))) (aL 2 (bV K c) (aB (aD 1) (aB (aD 7) aT)))))) (fi := (iV (aH gR (aN iN (aB (aL 2 (bJ K c) (aB (aL 2 (bH K c) (aB (aD 0) (aB (mC (.int 0)) aT))) (aB (mC (.int 40)) aT))) aT)) (jR 2 [] (iV (mSl (aH ixE (aD 3) (mC (.int 2))) (mPt (aD 6)) (mPt (aH gR (aD 6) (mC (.int 8)))))) (d8 2 (aX (aM 0) (aX (aM 1) eA))) mS (qG K c))))) (en := [some (.p (.list (ns.map .int))), some (.p (.list (ln.map lrD))), some (.p (.list (fs.map lrD))), some (.p (ubD (x, J))), some (.p (.list (ln.map lrD))), some (.p (ubD (x, J))), some (.p (.int f0)), none, none]) (ds := frD t0 :: ys.map fun b => frD b.1) (itL (bP (lP (dG (fV (fV rfl rfl c0) rfl et0) rfl) rfl) cm ad)) (fun d hd z => by
  obtain ⟨t, rfl, gt⟩ := at' d hd
  exact kA (bP (fV rfl rfl (au t gt)) (fV rfl rfl (hi t gt)) (eqr _))) (show 7 < 9 by decide) (fun z => ⟨_, (aBd (d := .list (fs.map lrD)) (aKg (dG (bP rfl rfl y0) (dG (bP rfl rfl y1) (dG (bP rfl rfl y2) rfl))) rfl rfl un) rfl).trans (aGs (aGi (rG (kA (fV rfl rfl il))) (kA (bP rfl (j3 rfl rfl lt) (eql _)))))⟩)
 refine ⟨en', (aGs (aGi (rG (kA (fV rfl rfl ib))) (kA (bP rfl rfl (eql _))))).trans ((aBd (d := .int f0) (r := .p (.int f0)) (bP (fV rfl rfl c1) (lP (dG rfl (dG (aFw (ds := J.map bdD) (bP rfl rfl y2) rfl) rfl)) rfl) ?_) rfl).trans hen)⟩
 rw [ef0]
 exact nI hf0
section
variable {P : Program} {w : World} {K : PySem.W.Frag} {mg : Str -> Option Value} {base : Heap}
theorem sc_turn : aY ["start", "middle", "end", "along", "across"] ["start", "middle", "end"] (aJ v9) := ⟨rfl, rfl, rfl, by decide +kernel, rfl, by decide +kernel, by decide +kernel⟩
theorem aKm {c : Cls} (Df : Def K mg "turn" ["start", "middle", "end"] v9) (B : Blt mg) (C : iP mg c) (O : iO mg base c) (hk : gA K c) : Cal P w K mg base 1 "turn" 3 (lW K c) := by
 refine jO (k := 0) Df sc_turn rfl (fun f cdv A outer s H E hr => ⟨y9 K c, ?_, aJn K c⟩)
 exact (aG (a9 (i := 3) sc_turn.nd rfl (Or.inl rfl) (aU bS cO aI (aU eL eN aZ (aO (dv 1) aC (fun _ _ => rfl)) (aO (dv 0) aC (fun _ _ => rfl))) (aU eL eN aZ (aO (dv 2) aC (fun _ _ => rfl)) (aO (dv 0) aC (fun _ _ => rfl))))) (aG (a9 (i := 4) sc_turn.nd rfl (Or.inl rfl) (aU bS cO aI (aU eL eN aZ (aO (dv 1) aC (fun _ _ => rfl)) (aO (dv 0) aC (fun _ _ => rfl))) (aU eL eN aZ (aO (dv 2) aC (fun _ _ => rfl)) (aO (dv 0) aC (fun _ _ => rfl))))) (aK (bA (aU eL eN aZ (dv 3) (dv 4))))))
theorem oX : aY ["_law_a", "_law_b"] ["_law_a", "_law_b"] (aJ eZ) := ⟨rfl, rfl, rfl, by decide +kernel, rfl, by decide +kernel, by decide +kernel⟩
theorem nQ {c : Cls} (Df : Def K mg "_law_product" ["_law_a", "_law_b"] eZ) (B : Blt mg) (C : iP mg c) (O : iO mg base c) (hk : gA K c) (c__law_lowest : Cal P w K mg base 1 "_law_lowest" 2 (aW K c)) : Cal P w K mg base 2 "_law_product" 2 (bI K c) := by
 refine jO (k := 1) Df oX rfl (fun f cdv A outer s H E hr => ⟨gL K c, ?_, oC K c⟩)
 exact (aK (bA (aE c__law_lowest hr bC (aA (aU bS cO aI (aO (dv 0) aC (fun _ _ => rfl)) (aO (dv 1) aC (fun _ _ => rfl))) (aA (aU bS cO aI (aO (dv 0) aC (fun _ _ => rfl)) (aO (dv 1) aC (fun _ _ => rfl))) aF)))))
theorem sc_law : aY ["_law_script", "_law_line_here", "_law_kept", "_law_due", "_law_handed", "_law_found", "_law_first", "_law_t", "_law_told"] ["_law_script"] (aJ rX) := ⟨rfl, rfl, rfl, by decide +kernel, rfl, by decide +kernel, by decide +kernel⟩
theorem aLs {c : Cls} {f : Addr} {fd : FuncData} (F : Fun K "law" "law" rX f fd) (B : Blt mg) (C : iP mg c) (O : iO mg base c) (hk : gA K c) (c_bends : Cal P w K mg base 5 "bends" 1 (iF K c)) (c__law_is_bends : Cal P w K mg base 3 "_law_is_bends" 2 (bX K c)) (c__law_is_line : Cal P w K mg base 3 "_law_is_line" 2 (b7 K c)) (c_line_thinned : Cal P w K mg base 3 "line_thinned" 1 (bL K c)) (c_unbent : Cal P w K mg base 7 "unbent" 3 (fX K c)) (c__law_number : Cal P w K mg base 2 "_law_number" 2 (bJ K c)) (c__law_cell_at : Cal P w K mg base 1 "_law_cell_at" 2 (bH K c)) (c__law_added_up : Cal P w K mg base 3 "_law_added_up" 2 (bM K c)) (c__law_highest : Cal P w K mg base 4 "_law_highest" 2 (bV K c)) (c__law_bends : Cal P w K mg base 3 "_law_bends" 1 (dA K c)) (c__law_thin : Cal P w K mg base 3 "_law_thin" 1 (dW K c)) (c__law_line : Cal P w K mg base 2 "_law_line" 1 (dC K c)) (c__law_rows : Cal P w K mg base 3 "_law_rows" 1 (cZ K c)) : FnOk P w K mg base (CXr P w) 8 f fd ["_law_script"] (spM K 1 (yG K c)) := by
 refine fnM (k := 7) F sc_law rfl (fun cdv A outer s H E hr => ⟨aEq K c, ?_, aL5 K c⟩)
 exact (aG (a9 (i := 1) sc_law.nd rfl (Or.inl rfl) (aE c__law_line hr bC (aA (aU cK dZ cN (aE c__law_rows hr bC (aA (aIr (dv 0) (oR aC) (oR aC)) aF)) (nY (aA (d3 (aA (aU eL eN aZ (aU dN fG aI (aE c__law_cell_at hr bC (aA (dv 0) (aA aC aF))) aC) aC) (aA (d3 (aA aC (aA aC aF))) aF))) aF))) aF))) (iU 1 (aG (a9 (i := 2) sc_law.nd rfl (Or.inl rfl) (aE c__law_thin hr bC (aA (dv 1) aF))) (iU 2 (aG (a9 (i := 3) sc_law.nd rfl (Or.inl rfl) (d3 (aA (aO (aO (dv 1) aC (fun _ _ => rfl)) aC (fun _ _ => rfl)) (aA (aO (aO (dv 1) aC (fun _ _ => rfl)) aC (fun _ _ => rfl)) (aA (aE c__law_bends hr bC (aA (dv 2) aF)) aF))))) (aG (a9 (i := 4) sc_law.nd rfl (Or.inl rfl) (oF sE aJj aE7 rfl B.list_ nJ (aA (dv 1) aF))) (iU 4 (aEj (i := 5) (k := 4) (ks := [6, 7, 8]) (by decide) sc_law.nd rfl (Or.inl rfl) (aE c_bends hr bC (aA (dv 4) aF)) (aLb (DW.t (j5 (fB (d4 (aE c__law_is_bends hr bC (aA (dv 5) (aA (dv 3) aF))))) (kW (dY (kH (u64 hr)) kT gG (dv 4) (dv 1) (dH _))))) (aK (bA nK)) (aGu (i := 6) sc_law.nd rfl (Or.inl rfl) (aU dN fG aI (aE c__law_cell_at hr bC (aA (dv 0) (aA aC aF))) (cW (aAr rfl) aKz aHs rfl B.max_ aLf (aA aC (aA (cW cQ lQ jC rfl B.len_ PySem.boot_len (aA (aO (dv 3) aC (fun _ _ => rfl)) aF)) aF)))) (aL6 (r := 7) PassesOwn.leaving rfl (dB (aU cK dZ cN (nY (aA (aE c__law_number hr bC (aA (aE c__law_cell_at hr bC (aA (dv 0) (aA aC aF))) (aA aC aF))) aF)) (oM (xs := ["_law_place_here", "_law_weight"]) (ys := []) (js := []) (cl := []) rfl (dB (aIr (aO (dv 3) aC (fun _ _ => rfl)) (oR (dv 6)) (oR (aU cK dZ cN (dv 6) aC)))) (vN (ys := []) (js := []) rfl (fun _ h => nomatch h) eG (by decide +kernel) (by decide +kernel)) eG (by decide +kernel) rfl (by decide +kernel) rfl (by decide) (fun C s₀ H₀ ex pn => (lY (n := 2) rfl (cH (bQ (i := 0) (show (["_law_place_here", "_law_weight"] : List Str).Nodup by decide +kernel) rfl (Or.inl rfl)) (cH (bQ (i := 1) (show (["_law_place_here", "_law_weight"] : List Str).Nodup by decide +kernel) rfl (Or.inl rfl)) jE)))) (fun C s₀ H₀ ex pn => lG) (fun C s₀ H₀ ex pn => (dv 0))))) sc_law.nd rfl (Or.inl rfl) (dY (kH (u64 hr)) kT gG (aE c__law_added_up hr bC (aA (dv 5) (aA (dv 7) aF))) (aE c__law_highest hr bC (aA (dv 1) (aA (dv 7) aF))) (dH _)) (aK (bA nK)) (aGu (i := 8) sc_law.nd rfl (Or.inl rfl) (aE c_unbent hr bC (aA (aO (dv 5) aC (fun _ _ => rfl)) (aA (aO (dv 5) aC (fun _ _ => rfl)) (aA (aO (dv 5) aC (fun _ _ => rfl)) aF)))) (aLb (DW.t (j5 (fB (d4 (aE c__law_is_line hr bC (aA (dv 8) (aA (dv 2) aF))))) (kW (dY (kH (u64 hr)) kT gG (dv 8) (aE c_line_thinned hr bC (aA (dv 4) aF)) (dH _))))) (aK (bA nK)) aM7))))) (iZ (aA4 PySem.F.plainAttrs_list PySem.F.slot_list_clear PySem.F.type_list_clear aB7 (aMs aPy (pv 5) aHm (fun _ _ => rfl)))) (aK (bA (aE c__law_is_bends hr bC (aA (aE c_bends hr bC (aA (dv 4) aF)) (aA (dv 3) aF)))))))))))))
end
section
variable {P : Program} {w : World} {K : PySem.W.Frag} {mg : Str -> Option Value} {base : Heap}
theorem sc_line_thinned : aY ["line", "factor", "points", "kept"] ["line"] (aJ eW) := ⟨rfl, rfl, rfl, by decide +kernel, rfl, by decide +kernel, by decide +kernel⟩
theorem oP {c : Cls} (Df : Def K mg "line_thinned" ["line"] eW) (B : Blt mg) (C : iP mg c) (O : iO mg base c) (hk : gA K c) (c_chain : Cal P w K mg base 2 "chain" 1 (hZ K c)) (c_whole : Cal P w K mg base 1 "whole" 2 (gZ K c)) (c_common_bottom : Cal P w K mg base 2 "common_bottom" 1 (bB K c)) : Cal P w K mg base 3 "line_thinned" 1 (bL K c) := by
 refine jO (k := 2) Df sc_line_thinned rfl (fun f cdv A outer s H E hr => ⟨jV K c, ?_, nG K c⟩)
 exact (aG (a9 (i := 1) sc_line_thinned.nd rfl (Or.inr rfl) (aE c_common_bottom hr bC (aA (oM (xs := ["slope", "height"]) (ys := []) (js := []) (cl := []) rfl (dB (dv 0)) (vN (ys := []) (js := []) rfl (fun _ h => nomatch h) eG (by decide +kernel) (by decide +kernel)) eG (by decide +kernel) rfl (by decide +kernel) rfl (by decide) (fun C s₀ H₀ ex pn => (lY (n := 2) rfl (cH (bQ (i := 0) (show (["slope", "height"] : List Str).Nodup by decide +kernel) rfl (Or.inl rfl)) (cH (bQ (i := 1) (show (["slope", "height"] : List Str).Nodup by decide +kernel) rfl (Or.inl rfl)) jE)))) (fun C s₀ H₀ ex pn => lG) (fun C s₀ H₀ ex pn => (dv 1))) aF))) (aG (zU (i := 2) sc_line_thinned.nd rfl (Or.inl rfl) (xs := ["slope", "height"]) (ys := ["factor"]) (js := [1]) (cl := [("factor", s.heap.objs.size + 1)]) rfl (dB (dv 0)) (vN (ys := ["factor"]) (js := [1]) rfl (List.forall_mem_cons.mpr ⟨rfl, (fun _ h => nomatch h)⟩) (fW ⟨rfl, .inl rfl, .inl rfl, rfl, rfl⟩ eG) (by decide +kernel) (by decide +kernel)) (fW ⟨rfl, .inl rfl, .inl rfl, rfl, rfl⟩ eG) (by decide +kernel) rfl (by decide +kernel) rfl (by decide) (fun C s₀ H₀ ex pn => (lY (n := 2) rfl (cH (bQ (i := 0) (show (["slope", "height", "factor"] : List Str).Nodup by decide +kernel) rfl (Or.inl rfl)) (cH (bQ (i := 1) (show (["slope", "height", "factor"] : List Str).Nodup by decide +kernel) rfl (Or.inl rfl)) jE)))) (fun C s₀ H₀ ex pn => lG) (fun C s₀ H₀ ex pn => (d3 (aA (dv 0) (aA (aE c_whole hr aJd (aA (dv 1) (aA (dv 2) aF))) aF))))) (iU 2 (aG (a9 (i := 3) sc_line_thinned.nd rfl (Or.inr rfl) (oM (xs := ["slope", "height"]) (ys := []) (js := []) (cl := []) rfl (dB (aE c_chain hr bC (aA (yE rfl rfl B.list_ rfl B.reversed_ (dv 2)) aF))) (vN (ys := []) (js := []) rfl (fun _ h => nomatch h) eG (by decide +kernel) (by decide +kernel)) eG (by decide +kernel) rfl (by decide +kernel) rfl (by decide) (fun C s₀ H₀ ex pn => (lY (n := 2) rfl (cH (bQ (i := 0) (show (["slope", "height"] : List Str).Nodup by decide +kernel) rfl (Or.inl rfl)) (cH (bQ (i := 1) (show (["slope", "height"] : List Str).Nodup by decide +kernel) rfl (Or.inl rfl)) jE)))) (fun C s₀ H₀ ex pn => lG) (fun C s₀ H₀ ex pn => (dv 0)))) (iU 3 (aK (bA (oM (xs := ["row"]) (ys := ["kept"]) (js := [3]) (cl := [("kept", s.heap.objs.size + 1 + 1)]) rfl (dB (dv 0)) (vN (ys := ["kept"]) (js := [3]) rfl (List.forall_mem_cons.mpr ⟨rfl, (fun _ h => nomatch h)⟩) (fW ⟨rfl, .inl rfl, .inl rfl, rfl, rfl⟩ eG) (by decide +kernel) (by decide +kernel)) (fW ⟨rfl, .inl rfl, .inl rfl, rfl, rfl⟩ eG) (by decide +kernel) rfl (by decide +kernel) rfl (by decide) (fun C s₀ H₀ ex pn => (bQ (i := 0) (show (["row", "kept"] : List Str).Nodup by decide +kernel) rfl (Or.inl rfl))) (fun C s₀ H₀ ex pn => (aH3 (dY (aL2 rfl) aOu aK4 (aO (dv 0) aC (fun _ _ => rfl)) (dv 1) (by with_unfolding_all rfl)))) (fun C s₀ H₀ ex pn => (dv 0))))))))))
theorem qE : aY ["_law_found"] ["_law_found"] (aJ fZ) := ⟨rfl, rfl, rfl, by decide +kernel, rfl, by decide +kernel, by decide +kernel⟩
theorem p9 {c : Cls} (Df : Def K mg "_law_whole" ["_law_found"] fZ) (B : Blt mg) (C : iP mg c) (O : iO mg base c) (hk : gA K c) : Cal P w K mg base 1 "_law_whole" 1 (a8 K c) := by
 refine jO (k := 0) Df qE rfl (fun f cdv A outer s H E hr => ⟨i6 K c, ?_, rH K c hk⟩)
 exact (aK (bA (aGw (lX (cv := .type "int") rfl B.isinstance_ (.inl ⟨_, rfl⟩) rfl (dv 0) (i4 (v := .ty "int") rfl B.int_ aLe rfl)) (aG1 (aLx (lX (cv := .type "bool") rfl B.isinstance_ (.inl ⟨_, rfl⟩) rfl (dv 0) (i4 (v := .ty "bool") rfl B.bool_ aKh rfl)))))))
theorem oT : aY ["_law_script", "_law_k"] ["_law_script", "_law_k"] (aJ e8) := ⟨rfl, rfl, rfl, by decide +kernel, rfl, by decide +kernel, by decide +kernel⟩
theorem nL {c : Cls} (Df : Def K mg "_law_cell_at" ["_law_script", "_law_k"] e8) (B : Blt mg) (C : iP mg c) (O : iO mg base c) (hk : gA K c) : Cal P w K mg base 1 "_law_cell_at" 2 (bH K c) := by
 refine jO (k := 0) Df oT rfl (fun f cdv A outer s H E hr => ⟨gM K c, ?_, n6 K c⟩)
 exact (aG (jQ (dY aFn lT aZ (dv 1) (cW cQ lQ jC rfl B.len_ PySem.boot_len (aA (dv 0) aF)) (dH _)) (aK (bA (aO (dv 0) (dv 1) (fun _ _ => rfl)))) dJ) (aK (bA aC)))
theorem sc__law_mix : aY ["_law_cell", "_law_k", "_law_blend"] ["_law_cell", "_law_k"] (aJ jI) := ⟨rfl, rfl, rfl, by decide +kernel, rfl, by decide +kernel, by decide +kernel⟩
theorem u6 {c : Cls} (Df : Def K mg "_law_mix" ["_law_cell", "_law_k"] jI) (B : Blt mg) (C : iP mg c) (O : iO mg base c) (hk : gA K c) : Cal P w K mg base 1 "_law_mix" 2 (bF K c) := by
 refine jO (k := 0) Df sc__law_mix rfl (fun f cdv A outer s H E hr => ⟨jG K c, ?_, u5 K c⟩)
 exact (aG (a9 (i := 2) sc__law_mix.nd rfl (Or.inl rfl) (aU cK dZ cN (aU cK dZ cN (aU bS cO aI (aU dN fG aI (dv 0) (aU uF sU aI aC aC)) (aU cK dZ cN (aU bS cO aI aC (dv 1)) aC)) (aU bS cO aI (aU bS cO aI aC (dv 1)) (dv 1))) (dv 1))) (aK (bA (aU dN fG aI (aU bS cO aI (aU dN fG aI (dv 2) aC) aC) aC))))
theorem sc__law_lowest : aY ["_law_top", "_law_bottom", "_law_one", "_law_other", "_law_rest"] ["_law_top", "_law_bottom"] (aJ fI) := ⟨rfl, rfl, rfl, by decide +kernel, rfl, by decide +kernel, by decide +kernel⟩
theorem o4 {c : Cls} (Df : Def K mg "_law_lowest" ["_law_top", "_law_bottom"] fI) (B : Blt mg) (C : iP mg c) (O : iO mg base c) (hk : gA K c) : Cal P w K mg base 1 "_law_lowest" 2 (aW K c) := by
 refine jO (k := 0) Df sc__law_lowest rfl (fun f cdv A outer s H E hr => ⟨g6 K c, ?_, o3 K c⟩)
 exact (aG (a9 (i := 2) sc__law_lowest.nd rfl (Or.inl rfl) (cW mW x4 qJ rfl B.abs_ wO (aA (dv 0) aF))) (aG (a9 (i := 3) sc__law_lowest.nd rfl (Or.inl rfl) (cW mW x4 qJ rfl B.abs_ wO (aA (dv 1) aF))) (aG (mH PassesOwn.leaving (dY (kH (u64 hr)) kT gG (dv 3) aC (dH _)) (aG (a9 (i := 4) sc__law_lowest.nd rfl (Or.inl rfl) (aU dN fG aI (dv 2) (dv 3))) (aG (a9 (i := 2) sc__law_lowest.nd rfl (Or.inl rfl) (dv 3)) (aK (a9 (i := 3) sc__law_lowest.nd rfl (Or.inl rfl) (dv 4)))))) (aG (jQ (dY aFn lT aZ (dv 1) aC (dH _)) (aK (a9 (i := 2) sc__law_lowest.nd rfl (Or.inl rfl) (kN (dv 2)))) dJ) (aK (bA (d3 (aA (aU jK kZ aI (dv 0) (dv 2)) (aA (aU jK kZ aI (dv 1) (dv 2)) aF)))))))))
end
section
variable {P : Program} {w : World} {K : PySem.W.Frag} {mg : Str -> Option Value} {base : Heap}
theorem sc_common_bottom : aY ["numbers", "common", "number"] ["numbers"] (aJ eC) := ⟨rfl, rfl, rfl, by decide +kernel, rfl, by decide +kernel, by decide +kernel⟩
theorem mG {c : Cls} (Df : Def K mg "common_bottom" ["numbers"] eC) (B : Blt mg) (C : iP mg c) (O : iO mg base c) (hk : gA K c) (c_greatest_divisor : Cal P w K mg base 1 "greatest_divisor" 2 (a5 K c)) : Cal P w K mg base 2 "common_bottom" 1 (bB K c) := by
 refine jO (k := 1) Df sc_common_bottom rfl (fun f cdv A outer s H E hr => ⟨iX K c, ?_, l4 K c⟩)
 exact (aG (a9 (i := 1) sc_common_bottom.nd rfl (Or.inl rfl) aC) (aG (iJ PassesOwn.leaving rfl (dB (dv 0)) (bQ (i := 2) sc_common_bottom.nd rfl (Or.inl rfl)) (aK (a9 (i := 1) sc_common_bottom.nd rfl (Or.inl rfl) (aU jK kZ aI (aU bS cO aI (dv 1) (aO (dv 2) aC (fun _ _ => rfl))) (aE c_greatest_divisor hr bC (aA (dv 1) (aA (aO (dv 2) aC (fun _ _ => rfl)) aF))))))) (aK (bA (dv 1)))))
theorem sc_chain : aY ["points", "kept", "point"] ["points"] (aJ q0) := ⟨rfl, rfl, rfl, by decide +kernel, rfl, by decide +kernel, by decide +kernel⟩
theorem aGg {c : Cls} (Df : Def K mg "chain" ["points"] q0) (B : Blt mg) (C : iP mg c) (O : iO mg base c) (hk : gA K c) (c_turn : Cal P w K mg base 1 "turn" 3 (lW K c)) : Cal P w K mg base 2 "chain" 1 (hZ K c) := by
 refine jO (k := 1) Df sc_chain rfl (fun f cdv A outer s H E hr => ⟨uI K c, ?_, aF6 K c⟩)
 exact (aG (a9 (i := 1) sc_chain.nd rfl (Or.inl rfl) (nY aF)) (aG (iJ PassesOwn.leaving rfl (dB (dv 0)) (bQ (i := 2) sc_chain.nd rfl (Or.inl rfl)) (aG (mH PassesOwn.leaving (DW.t (aGo (dY aI1 lT aZ (cW cQ lQ jC rfl B.len_ PySem.boot_len (aA (dv 1) aF)) aC (dH _)) (aBa (dY aPd lT aZ (aE c_turn hr bC (aA (aO (dv 1) (kN aC) (fun _ _ => rfl)) (aA (aO (dv 1) (kN aC) (fun _ _ => rfl)) (aA (dv 2) aF)))) aC (dH _))))) (aK (aHo (i := 1) (iZ (aA4 PySem.F.plainAttrs_list PySem.F.slot_list_pop PySem.F.type_list_pop aHi (pv 1)))))) (aK (jB (i := 1) (dv 2) (fun t q => iZ (aBv PySem.F.plainAttrs_list PySem.F.slot_list_append PySem.F.type_list_append iQ (pv 1) (iB q lO))))))) (aK (bA (dv 1)))))
theorem uX : aY ["_law_a", "_law_b"] ["_law_a", "_law_b"] (aJ jM) := ⟨rfl, rfl, rfl, by decide +kernel, rfl, by decide +kernel, by decide +kernel⟩
theorem vQ {c : Cls} (Df : Def K mg "_law_sum" ["_law_a", "_law_b"] jM) (B : Blt mg) (C : iP mg c) (O : iO mg base c) (hk : gA K c) (c__law_lowest : Cal P w K mg base 1 "_law_lowest" 2 (aW K c)) : Cal P w K mg base 2 "_law_sum" 2 (bR K c) := by
 refine jO (k := 1) Df uX rfl (fun f cdv A outer s H E hr => ⟨lF K c, ?_, uW K c⟩)
 exact (aK (bA (aE c__law_lowest hr bC (aA (aU cK dZ cN (aU bS cO aI (aO (dv 0) aC (fun _ _ => rfl)) (aO (dv 1) aC (fun _ _ => rfl))) (aU bS cO aI (aO (dv 1) aC (fun _ _ => rfl)) (aO (dv 0) aC (fun _ _ => rfl)))) (aA (aU bS cO aI (aO (dv 0) aC (fun _ _ => rfl)) (aO (dv 1) aC (fun _ _ => rfl))) aF)))))
theorem sc__law_number : aY ["_law_cell", "_law_k", "_law_way"] ["_law_cell", "_law_k"] (aJ fH) := ⟨rfl, rfl, rfl, by decide +kernel, rfl, by decide +kernel, by decide +kernel⟩
theorem o5 {c : Cls} (Df : Def K mg "_law_number" ["_law_cell", "_law_k"] fH) (B : Blt mg) (C : iP mg c) (O : iO mg base c) (hk : gA K c) (c__law_mix : Cal P w K mg base 1 "_law_mix" 2 (bF K c)) (c__law_lowest : Cal P w K mg base 1 "_law_lowest" 2 (aW K c)) : Cal P w K mg base 2 "_law_number" 2 (bJ K c) := by
 refine jO (k := 1) Df sc__law_number rfl (fun f cdv A outer s H E hr => ⟨eK K c, ?_, o8 K c⟩)
 exact (aG (a9 (i := 2) sc__law_number.nd rfl (Or.inl rfl) (aU dN fG aI (aE c__law_mix hr bC (aA (dv 0) (aA (dv 1) aF))) aC)) (aG (jQ (dY (tU (u64 hr)) kT gG (dv 2) aC (dH _)) (aK (bA (aE c__law_lowest hr bC (aA (aU eL eN aZ (aU dN fG aI (aU cK dZ cN (aU n8 mY aI (dv 0) aC) (dv 1)) (aU cK dZ cN (aU n8 mY aI aC (aU uF sU aI aC aC)) aC)) (aU uF sU aI aC aC)) (aA (aU cK dZ cN aC (aU dN fG aI (aE c__law_mix hr bC (aA (dv 0) (aA (aU cK dZ cN (dv 1) aC) aF))) aC)) aF))))) dJ) (aG (jQ (dY (tU (u64 hr)) kT gG (dv 2) aC (dH _)) (aK (bA (aE c__law_lowest hr bC (aA (aU eL eN aZ (aU dN fG aI (aE c__law_mix hr bC (aA (dv 0) (aA (aU cK dZ cN (dv 1) aC) aF))) aC) aC) (aA (aU cK dZ cN aC (aU dN fG aI (aE c__law_mix hr bC (aA (dv 0) (aA (aU cK dZ cN (dv 1) aC) aF))) aC)) aF))))) dJ) (aK (bA (d3 (aA (aU eL eN aZ (aU dN fG aI (aE c__law_mix hr bC (aA (dv 0) (aA (aU cK dZ cN (dv 1) aC) aF))) aC) aC) (aA aC aF))))))))
theorem sc__law_is_line : aY ["_law_found", "_law_due", "_law_row"] ["_law_found", "_law_due"] (aJ eT) := ⟨rfl, rfl, rfl, by decide +kernel, rfl, by decide +kernel, by decide +kernel⟩
theorem nW {c : Cls} (Df : Def K mg "_law_is_line" ["_law_found", "_law_due"] eT) (B : Blt mg) (C : iP mg c) (O : iO mg base c) (hk : gA K c) (c__law_whole : Cal P w K mg base 1 "_law_whole" 1 (a8 K c)) (c__law_is_fraction : Cal P w K mg base 2 "_law_is_fraction" 1 (aV K c)) : Cal P w K mg base 3 "_law_is_line" 2 (b7 K c) := by
 refine jO (k := 2) Df sc__law_is_line rfl (fun f cdv A outer s H E hr => ⟨gK K c, ?_, oY K c hk⟩)
 exact (aG (jQ (DW.t (j5 (fB (d4 (lX (cv := .type "list") rfl B.isinstance_ (.inl ⟨_, rfl⟩) rfl (dv 0) (i4 (v := .ty "list") rfl B.list_ nJ rfl)))) (kW (dY (kH (u64 hr)) kT gG (dv 0) (dv 1) (dH _))))) (aK (bA nK)) dJ) (aG (iJ PassesOwn.leaving rfl (dB (dv 0)) (bQ (i := 2) sc__law_is_line.nd rfl (Or.inl rfl)) (aK (jQ (DW.t (j5 (fB (d4 (lX (cv := .type "tuple") rfl B.isinstance_ (.inl ⟨_, rfl⟩) rfl (dv 2) (i4 (v := .ty "tuple") rfl B.tuple_ mK rfl)))) (j5 (fB (d4 (aE c__law_whole hr bC (aA (aO (dv 2) aC (fun _ _ => rfl)) aF)))) (kW (fB (d4 (aE c__law_is_fraction hr bC (aA (aO (dv 2) aC (fun _ _ => rfl)) aF)))))))) (aK (bA nK)) dJ))) (aK (bA nK))))
end
section
variable {P : Program} {w : World} {K : PySem.W.Frag} {mg : Str -> Option Value} {base : Heap}
theorem sc_weights_by_place : aY ["rows", "weights", "place", "weight"] ["rows"] (aJ cV) := ⟨rfl, rfl, rfl, by decide +kernel, rfl, by decide +kernel, by decide +kernel⟩
theorem j9 {c : Cls} (Df : Def K mg "weights_by_place" ["rows"] cV) (B : Blt mg) (C : iP mg c) (O : iO mg base c) (hk : gA K c) : Cal P w K mg base 1 "weights_by_place" 1 (bN K c) := by
 refine jO (k := 0) Df sc_weights_by_place rfl (fun f cdv A outer s H E hr => ⟨eI K c, ?_, kE K c⟩)
 exact (aG (a9 (i := 1) sc_weights_by_place.nd rfl (Or.inl rfl) aDx) (aG (iJ PassesOwn.leaving rfl (dB (dv 0)) (lY (n := 2) rfl (cH (bQ (i := 2) sc_weights_by_place.nd rfl (Or.inl rfl)) (cH (bQ (i := 3) sc_weights_by_place.nd rfl (Or.inl rfl)) jE))) (aK (y6 (i := 1) (u1 hr) (pv 1) (dv 2) (aU cK dZ cN (aFz (u1 hr) (dv 1) (dv 2) aC ⟨rfl, rfl, rfl, rfl⟩) (dv 3)) rfl))) (aK (bA (dv 1)))))
theorem j6 : aY ["_law_found"] ["_law_found"] (aJ cU) := ⟨rfl, rfl, rfl, by decide +kernel, rfl, by decide +kernel, by decide +kernel⟩
theorem j4 {c : Cls} (Df : Def K mg "_law_is_fraction" ["_law_found"] cU) (B : Blt mg) (C : iP mg c) (O : iO mg base c) (hk : gA K c) (c__law_lowest : Cal P w K mg base 1 "_law_lowest" 2 (aW K c)) (c__law_whole : Cal P w K mg base 1 "_law_whole" 1 (a8 K c)) : Cal P w K mg base 2 "_law_is_fraction" 1 (aV K c) := by
 refine jO (k := 1) Df j6 rfl (fun f cdv A outer s H E hr => ⟨eB K c, ?_, jZ K c hk⟩)
 exact (aG (jQ (DW.t (j5 (fB (d4 (lX (cv := .type "tuple") rfl B.isinstance_ (.inl ⟨_, rfl⟩) rfl (dv 0) (i4 (v := .ty "tuple") rfl B.tuple_ mK rfl)))) (j5 (dY (kH (u64 hr)) kT gG (cW cQ lQ jC rfl B.len_ PySem.boot_len (aA (dv 0) aF)) aC (dH _)) (j5 (fB (d4 (aE c__law_whole hr bC (aA (aO (dv 0) aC (fun _ _ => rfl)) aF)))) (kW (fB (d4 (aE c__law_whole hr bC (aA (aO (dv 0) aC (fun _ _ => rfl)) aF))))))))) (aK (bA nK)) dJ) (aK (bA (aGw (aCv aI1 lT aZ (aO (dv 0) aC (fun _ _ => rfl)) aC (dH _)) (aG1 (aCv (tU (u64 hr)) kT gG (aE c__law_lowest hr bC (aA (aO (dv 0) aC (fun _ _ => rfl)) (aA (aO (dv 0) aC (fun _ _ => rfl)) aF))) (dv 0) (dH _)))))))
theorem rA : aY ["_law_row", "_law_t"] ["_law_row", "_law_t"] (aJ gB) := ⟨rfl, rfl, rfl, by decide +kernel, rfl, by decide +kernel, by decide +kernel⟩
theorem rD {c : Cls} (Df : Def K mg "_law_value" ["_law_row", "_law_t"] gB) (B : Blt mg) (C : iP mg c) (O : iO mg base c) (hk : gA K c) (c__law_sum : Cal P w K mg base 2 "_law_sum" 2 (bR K c)) (c__law_product : Cal P w K mg base 2 "_law_product" 2 (bI K c)) : Cal P w K mg base 3 "_law_value" 2 (b8 K c) := by
 refine jO (k := 2) Df rA rfl (fun f cdv A outer s H E hr => ⟨iW K c, ?_, pY K c⟩)
 exact (aK (bA (aE c__law_sum hr bC (aA (aE c__law_product hr bC (aA (d3 (aA (aO (dv 0) aC (fun _ _ => rfl)) (aA aC aF))) (aA (dv 1) aF))) (aA (aO (dv 0) aC (fun _ _ => rfl)) aF)))))
theorem sc__law_bends : aY ["_law_line_here", "_law_found", "_law_k"] ["_law_line_here"] (aJ gE) := ⟨rfl, rfl, rfl, by decide +kernel, rfl, by decide +kernel, by decide +kernel⟩
theorem qC {c : Cls} (Df : Def K mg "_law_bends" ["_law_line_here"] gE) (B : Blt mg) (C : iP mg c) (O : iO mg base c) (hk : gA K c) (c__law_place : Cal P w K mg base 2 "_law_place" 2 (bO K c)) : Cal P w K mg base 3 "_law_bends" 1 (dA K c) := by
 refine jO (k := 2) Df sc__law_bends rfl (fun f cdv A outer s H E hr => ⟨i9 K c, ?_, rN K c⟩)
 exact (aG (a9 (i := 1) sc__law_bends.nd rfl (Or.inl rfl) (nY aF)) (aG (iJ PassesOwn.leaving rfl (rV rfl B.range_ (aA aC (aA (cW cQ lQ jC rfl B.len_ PySem.boot_len (aA (dv 0) aF)) aF))) (bQ (i := 2) sc__law_bends.nd rfl (Or.inl rfl)) (aK (jB (i := 1) (d3 (aA (aE c__law_place hr bC (aA (aO (dv 0) (aU eL eN aZ (dv 2) aC) (fun _ _ => rfl)) (aA (aO (dv 0) (dv 2) (fun _ _ => rfl)) aF))) (aA (aU eL eN aZ (aO (aO (dv 0) (dv 2) (fun _ _ => rfl)) aC (fun _ _ => rfl)) (aO (aO (dv 0) (aU eL eN aZ (dv 2) aC) (fun _ _ => rfl)) aC (fun _ _ => rfl))) aF))) (fun t q => iZ (aBv PySem.F.plainAttrs_list PySem.F.slot_list_append PySem.F.type_list_append iQ (pv 1) (iB q lO)))))) (aK (bA (dv 1)))))
theorem sc__law_is_bends : aY ["_law_found", "_law_due", "_law_one"] ["_law_found", "_law_due"] (aJ eF) := ⟨rfl, rfl, rfl, by decide +kernel, rfl, by decide +kernel, by decide +kernel⟩
theorem mB {c : Cls} (Df : Def K mg "_law_is_bends" ["_law_found", "_law_due"] eF) (B : Blt mg) (C : iP mg c) (O : iO mg base c) (hk : gA K c) (c__law_is_fraction : Cal P w K mg base 2 "_law_is_fraction" 1 (aV K c)) (c__law_whole : Cal P w K mg base 1 "_law_whole" 1 (a8 K c)) : Cal P w K mg base 3 "_law_is_bends" 2 (bX K c) := by
 refine jO (k := 2) Df sc__law_is_bends rfl (fun f cdv A outer s H E hr => ⟨fT K c, ?_, l9 K c hk⟩)
 exact (aG (jQ (DW.t (j5 (fB (d4 (lX (cv := .type "tuple") rfl B.isinstance_ (.inl ⟨_, rfl⟩) rfl (dv 0) (i4 (v := .ty "tuple") rfl B.tuple_ mK rfl)))) (j5 (dY (kH (u64 hr)) kT gG (cW cQ lQ jC rfl B.len_ PySem.boot_len (aA (dv 0) aF)) aC (dH _)) (kW (dY (kH (u64 hr)) kT gG (dv 0) (dv 1) (dH _)))))) (aK (bA nK)) dJ) (aG (jQ (DW.t (j5 (fB (d4 (aE c__law_whole hr bC (aA (aO (dv 0) aC (fun _ _ => rfl)) aF)))) (j5 (fB (d4 (aE c__law_is_fraction hr bC (aA (aO (dv 0) aC (fun _ _ => rfl)) aF)))) (kW (fB (d4 (lX (cv := .type "list") rfl B.isinstance_ (.inl ⟨_, rfl⟩) rfl (aO (dv 0) aC (fun _ _ => rfl)) (i4 (v := .ty "list") rfl B.list_ nJ rfl)))))))) (aK (bA nK)) dJ) (aG (iJ PassesOwn.leaving rfl (dB (aO (dv 0) aC (fun _ _ => rfl))) (bQ (i := 2) sc__law_is_bends.nd rfl (Or.inl rfl)) (aK (jQ (DW.t (j5 (fB (d4 (lX (cv := .type "tuple") rfl B.isinstance_ (.inl ⟨_, rfl⟩) rfl (dv 2) (i4 (v := .ty "tuple") rfl B.tuple_ mK rfl)))) (j5 (fB (d4 (aE c__law_is_fraction hr bC (aA (aO (dv 2) aC (fun _ _ => rfl)) aF)))) (kW (fB (d4 (aE c__law_whole hr bC (aA (aO (dv 2) aC (fun _ _ => rfl)) aF)))))))) (aK (bA nK)) dJ))) (aK (bA nK)))))
end
section
variable {P : Program} {w : World} {K : PySem.W.Frag} {mg : Str -> Option Value} {base : Heap}
theorem aEu : aY ["a", "b"] ["a", "b"] (aJ qH) := ⟨rfl, rfl, rfl, by decide +kernel, rfl, by decide +kernel, by decide +kernel⟩
theorem aEg {c : Cls} (Df : Def K mg "minus" ["a", "b"] qH) (B : Blt mg) (C : iP mg c) (O : iO mg base c) (hk : gA K c) (c_fraction : Cal P w K mg base 2 "fraction" 2 (cL K c)) : Cal P w K mg base 3 "minus" 2 (gO K c) := by
 refine jO (k := 2) Df aEu rfl (fun f cdv A outer s H E hr => ⟨u7 K c, ?_, aE2 K c⟩)
 exact (aK (bA (aE c_fraction hr bC (aA (aU eL eN aZ (aU bS cO aI (aO (dv 0) aC (fun _ _ => rfl)) (aO (dv 1) aC (fun _ _ => rfl))) (aU bS cO aI (aO (dv 1) aC (fun _ _ => rfl)) (aO (dv 0) aC (fun _ _ => rfl)))) (aA (aU bS cO aI (aO (dv 0) aC (fun _ _ => rfl)) (aO (dv 1) aC (fun _ _ => rfl))) aF)))))
theorem sc_rising : aY ["numbers", "factor"] ["numbers"] (aJ mL) := ⟨rfl, rfl, rfl, by decide +kernel, rfl, by decide +kernel, by decide +kernel⟩
theorem zE {c : Cls} (La : aI9 K mg "rising") (Df : Def K mg "rising" ["numbers"] mL) (B : Blt mg) (C : iP mg c) (O : iO mg base c) (hk : gA K c) (c_whole : Cal P w K mg base 1 "whole" 2 (gZ K c)) (c_common_bottom : Cal P w K mg base 2 "common_bottom" 1 (bB K c)) : Cal P w K mg base 6 "rising" 1 (iE K c) := by
 refine aOt (k := 5) La Df sc_rising rfl (fun f cc PP A outer s H E htb hhd hr => ⟨qZ K c, ?_, zD K c⟩)
 exact (aG (a9 (i := 1) sc_rising.nd rfl (Or.inr rfl) (aE c_common_bottom hr bC (aA (dv 0) aF))) (aK (bA (aFh false (dv 0) (aKf (j := 1) (c := s.heap.objs.size + 1) rfl rfl rfl rfl rfl (by decide +kernel) rfl rfl rfl rfl (by decide +kernel)) htb hhd rfl rfl hr (fun _ _ _ _ => (aE c_whole (aO9 hr) aJd (aA (dv 0) (aA (dv 1) aF)))) rfl B.sorted_ tL (fun _ _ _ _ => rfl) rfl rfl))))
theorem sc__law_rows : aY ["_law_cells", "_law_rows_here", "_law_k", "_law_number_here", "_law_cell", "_law_slope"] ["_law_cells"] (aJ iD) := ⟨rfl, rfl, rfl, by decide +kernel, rfl, by decide +kernel, by decide +kernel⟩
theorem tO {c : Cls} (Df : Def K mg "_law_rows" ["_law_cells"] iD) (B : Blt mg) (C : iP mg c) (O : iO mg base c) (hk : gA K c) (c__law_number : Cal P w K mg base 2 "_law_number" 2 (bJ K c)) (c__law_mix : Cal P w K mg base 1 "_law_mix" 2 (bF K c)) : Cal P w K mg base 3 "_law_rows" 1 (cZ K c) := by
 refine jO (k := 2) Df sc__law_rows rfl (fun f cdv A outer s H E hr => ⟨hV K c, ?_, sL K c⟩)
 exact (aG (a9 (i := 1) sc__law_rows.nd rfl (Or.inl rfl) (nY aF)) (aG (iJ PassesOwn.leaving rfl (aJm rfl B.enumerate_ (aA (dv 0) aF)) (lY (n := 2) rfl (cH (bQ (i := 2) sc__law_rows.nd rfl (Or.inl rfl)) (cH (bQ (i := 3) sc__law_rows.nd rfl (Or.inl rfl)) jE))) (aG (a9 (i := 4) sc__law_rows.nd rfl (Or.inl rfl) (aU cK dZ cN (dv 3) (aU n8 mY aI aC (dv 2)))) (aG (a9 (i := 5) sc__law_rows.nd rfl (Or.inl rfl) (aU eL eN aZ (aU dN fG aI (aE c__law_mix hr bC (aA (dv 4) (aA aC aF))) aC) aC)) (aG (jQ (dY (tU (u64 hr)) kT gG (aU dN fG aI (aE c__law_mix hr bC (aA (dv 4) (aA aC aF))) aC) aC (dH _)) (aK (a9 (i := 5) sc__law_rows.nd rfl (Or.inl rfl) (aU eL eN aZ (aU dN fG aI (aU cK dZ cN (aU n8 mY aI (dv 4) aC) aC) (aU cK dZ cN (aU n8 mY aI aC (aU uF sU aI aC aC)) aC)) (aU uF sU aI aC aC)))) dJ) (aK (jB (i := 1) (d3 (aA (dv 5) (aA (aE c__law_number hr bC (aA (dv 4) (aA aC aF))) aF))) (fun t q => iZ (aBv PySem.F.plainAttrs_list PySem.F.slot_list_append PySem.F.type_list_append iQ (pv 1) (iB q lO))))))))) (aK (bA (dv 1)))))
theorem sc__law_highest : aY ["_law_line_here", "_law_t", "_law_found", "_law_row", "_law_here"] ["_law_line_here", "_law_t"] (aJ eY) := ⟨rfl, rfl, rfl, by decide +kernel, rfl, by decide +kernel, by decide +kernel⟩
theorem oE {c : Cls} (Df : Def K mg "_law_highest" ["_law_line_here", "_law_t"] eY) (B : Blt mg) (C : iP mg c) (O : iO mg base c) (hk : gA K c) (c__law_before : Cal P w K mg base 1 "_law_before" 2 (aR K c)) (c__law_value : Cal P w K mg base 3 "_law_value" 2 (b8 K c)) : Cal P w K mg base 4 "_law_highest" 2 (bV K c) := by
 refine jO (k := 3) Df sc__law_highest rfl (fun f cdv A outer s H E hr => ⟨gT K c, ?_, nA K c⟩)
 exact (aG (a9 (i := 2) sc__law_highest.nd rfl (Or.inl rfl) (aE c__law_value hr bC (aA (aO (dv 0) aC (fun _ _ => rfl)) (aA (dv 1) aF)))) (aG (iJ PassesOwn.leaving rfl (dB (aIr (dv 0) (oR aC) aIw)) (bQ (i := 3) sc__law_highest.nd rfl (Or.inl rfl)) (aG (a9 (i := 4) sc__law_highest.nd rfl (Or.inl rfl) (aE c__law_value hr bC (aA (dv 3) (aA (dv 1) aF)))) (aK (jQ (d4 (aE c__law_before hr bC (aA (dv 2) (aA (dv 4) aF)))) (aK (a9 (i := 2) sc__law_highest.nd rfl (Or.inl rfl) (dv 4))) dJ)))) (aK (bA (dv 2)))))
theorem sc__law_thin : aY ["_law_line_here", "_law_kept", "_law_row"] ["_law_line_here"] (aJ iG) := ⟨rfl, rfl, rfl, by decide +kernel, rfl, by decide +kernel, by decide +kernel⟩
theorem rS {c : Cls} (Df : Def K mg "_law_thin" ["_law_line_here"] iG) (B : Blt mg) (C : iP mg c) (O : iO mg base c) (hk : gA K c) (c__law_before : Cal P w K mg base 1 "_law_before" 2 (aR K c)) (c__law_place : Cal P w K mg base 2 "_law_place" 2 (bO K c)) : Cal P w K mg base 3 "_law_thin" 1 (dW K c) := by
 refine jO (k := 2) Df sc__law_thin rfl (fun f cdv A outer s H E hr => ⟨kC K c, ?_, tW K c⟩)
 exact (aG (a9 (i := 1) sc__law_thin.nd rfl (Or.inl rfl) (nY aF)) (aG (iJ PassesOwn.leaving rfl (dB (dv 0)) (bQ (i := 2) sc__law_thin.nd rfl (Or.inl rfl)) (aG (mH PassesOwn.leaving (DW.t (aGo (dY aI1 lT aZ (cW cQ lQ jC rfl B.len_ PySem.boot_len (aA (dv 1) aF)) aC (dH _)) (aBa (fB (d4 (aE c__law_before hr bC (aA (aE c__law_place hr bC (aA (aO (dv 1) (kN aC) (fun _ _ => rfl)) (aA (aO (dv 1) (kN aC) (fun _ _ => rfl)) aF))) (aA (aE c__law_place hr bC (aA (aO (dv 1) (kN aC) (fun _ _ => rfl)) (aA (dv 2) aF))) aF)))))))) (aK (aHo (i := 1) (iZ (aA4 PySem.F.plainAttrs_list PySem.F.slot_list_pop PySem.F.type_list_pop aHi (pv 1)))))) (aK (jB (i := 1) (dv 2) (fun t q => iZ (aBv PySem.F.plainAttrs_list PySem.F.slot_list_append PySem.F.type_list_append iQ (pv 1) (iB q lO))))))) (aK (bA (dv 1)))))
end
section
variable {P : Program} {w : World} {K : PySem.W.Frag} {mg : Str -> Option Value} {base : Heap}
theorem sc_greatest_divisor : aY ["a", "b", "larger", "smaller", "rest"] ["a", "b"] (aJ cX) := ⟨rfl, rfl, rfl, by decide +kernel, rfl, by decide +kernel, by decide +kernel⟩
theorem j8 {c : Cls} (Df : Def K mg "greatest_divisor" ["a", "b"] cX) (B : Blt mg) (C : iP mg c) (O : iO mg base c) (hk : gA K c) : Cal P w K mg base 1 "greatest_divisor" 2 (a5 K c) := by
 refine jO (k := 0) Df sc_greatest_divisor rfl (fun f cdv A outer s H E hr => ⟨fY K c, ?_, j0 K c⟩)
 exact (aG (a9 (i := 2) sc_greatest_divisor.nd rfl (Or.inl rfl) (cW mW x4 qJ rfl B.abs_ wO (aA (dv 0) aF))) (aG (a9 (i := 3) sc_greatest_divisor.nd rfl (Or.inl rfl) (cW mW x4 qJ rfl B.abs_ wO (aA (dv 1) aF))) (aG (mH PassesOwn.leaving (dY (kH (u64 hr)) kT gG (dv 3) aC (dH _)) (aG (a9 (i := 4) sc_greatest_divisor.nd rfl (Or.inl rfl) (aU dN fG aI (dv 2) (dv 3))) (aG (a9 (i := 2) sc_greatest_divisor.nd rfl (Or.inl rfl) (dv 3)) (aK (a9 (i := 3) sc_greatest_divisor.nd rfl (Or.inl rfl) (dv 4)))))) (aK (bA (dv 2))))))
theorem sc_fraction : aY ["top", "bottom", "divisor"] ["top", "bottom"] (aJ jJ) := ⟨rfl, rfl, rfl, by decide +kernel, rfl, by decide +kernel, by decide +kernel⟩
theorem vI {c : Cls} (Df : Def K mg "fraction" ["top", "bottom"] jJ) (B : Blt mg) (C : iP mg c) (O : iO mg base c) (hk : gA K c) (c_greatest_divisor : Cal P w K mg base 1 "greatest_divisor" 2 (a5 K c)) : Cal P w K mg base 2 "fraction" 2 (cL K c) := by
 refine jO (k := 1) Df sc_fraction rfl (fun f cdv A outer s H E hr => ⟨fO K c, ?_, vG K c⟩)
 exact (aG (jQ (dY (tU (u64 hr)) kT gG (dv 1) aC (dH _)) (aK (aEf aIg rfl rfl O.NoFraction PySem.F.excBase_ValueError (aA aM3 aF))) dJ) (aG (a9 (i := 2) sc_fraction.nd rfl (Or.inl rfl) (aE c_greatest_divisor hr bC (aA (dv 0) (aA (dv 1) aF)))) (aG (jQ (dY aFn lT aZ (dv 1) aC (dH _)) (aK (a9 (i := 2) sc_fraction.nd rfl (Or.inl rfl) (kN (dv 2)))) dJ) (aK (bA (d3 (aA (aU jK kZ aI (dv 0) (dv 2)) (aA (aU jK kZ aI (dv 1) (dv 2)) aF))))))))
theorem aEa : aY ["a", "b"] ["a", "b"] (aJ p7) := ⟨rfl, rfl, rfl, by decide +kernel, rfl, by decide +kernel, by decide +kernel⟩
theorem aFp {c : Cls} (Df : Def K mg "times" ["a", "b"] p7) (B : Blt mg) (C : iP mg c) (O : iO mg base c) (hk : gA K c) (c_fraction : Cal P w K mg base 2 "fraction" 2 (cL K c)) : Cal P w K mg base 3 "times" 2 (i7 K c) := by
 refine jO (k := 2) Df aEa rfl (fun f cdv A outer s H E hr => ⟨uR K c, ?_, aDr K c⟩)
 exact (aK (bA (aE c_fraction hr bC (aA (aU bS cO aI (aO (dv 0) aC (fun _ _ => rfl)) (aO (dv 1) aC (fun _ _ => rfl))) (aA (aU bS cO aI (aO (dv 0) aC (fun _ _ => rfl)) (aO (dv 1) aC (fun _ _ => rfl))) aF)))))
theorem aD8 : aY ["number", "factor"] ["number", "factor"] (aJ qL) := ⟨rfl, rfl, rfl, by decide +kernel, rfl, by decide +kernel, by decide +kernel⟩
theorem aEz {c : Cls} (Df : Def K mg "whole" ["number", "factor"] qL) (B : Blt mg) (C : iP mg c) (O : iO mg base c) (hk : gA K c) : Cal P w K mg base 1 "whole" 2 (gZ K c) := by
 refine jO (k := 0) Df aD8 rfl (fun f cdv A outer s H E hr => ⟨uV K c, ?_, aF2 K c⟩)
 exact (aK (bA (aU bS cO aI (aO (dv 0) aC (fun _ _ => rfl)) (aU jK kZ aI (dv 1) (aO (dv 0) aC (fun _ _ => rfl))))))
theorem sc_bends : aY ["line", "thin", "rows"] ["line"] (aJ p6) := ⟨rfl, rfl, rfl, by decide +kernel, rfl, by decide +kernel, by decide +kernel⟩
theorem aFv {c : Cls} (Df : Def K mg "bends" ["line"] p6) (B : Blt mg) (C : iP mg c) (O : iO mg base c) (hk : gA K c) (c_bend_between : Cal P w K mg base 4 "bend_between" 2 (cG K c)) (c_line_thinned : Cal P w K mg base 3 "line_thinned" 1 (bL K c)) : Cal P w K mg base 5 "bends" 1 (iF K c) := by
 refine jO (k := 4) Df sc_bends rfl (fun f cdv A outer s H E hr => ⟨vP K c, ?_, aDl K c⟩)
 exact (aG (a9 (i := 1) sc_bends.nd rfl (Or.inr rfl) (aE c_line_thinned hr bC (aA (dv 0) aF))) (iU 1 (aG (zU (i := 2) sc_bends.nd rfl (Or.inl rfl) (xs := ["k"]) (ys := ["thin"]) (js := [1]) (cl := [("thin", s.heap.objs.size + 1)]) rfl (rV rfl B.range_ (aA aC (aA (cW cQ lQ jC rfl B.len_ PySem.boot_len (aA (dv 1) aF)) aF))) (vN (ys := ["thin"]) (js := [1]) rfl (List.forall_mem_cons.mpr ⟨rfl, (fun _ h => nomatch h)⟩) (fW ⟨rfl, .inl rfl, .inl rfl, rfl, rfl⟩ eG) (by decide +kernel) (by decide +kernel)) (fW ⟨rfl, .inl rfl, .inl rfl, rfl, rfl⟩ eG) (by decide +kernel) rfl (by decide +kernel) rfl (by decide) (fun C s₀ H₀ ex pn => (bQ (i := 0) (show (["k", "thin"] : List Str).Nodup by decide +kernel) rfl (Or.inl rfl))) (fun C s₀ H₀ ex pn => lG) (fun C s₀ H₀ ex pn => (aE c_bend_between hr aJd (aA (aO (dv 1) (aU eL eN aZ (dv 0) aC) (fun _ _ => rfl)) (aA (aO (dv 1) (dv 0) (fun _ _ => rfl)) aF))))) (iU 2 (aK (bA (d3 (aA (aO (aO (dv 1) aC (fun _ _ => rfl)) aC (fun _ _ => rfl)) (aA (aO (aO (dv 1) aC (fun _ _ => rfl)) aC (fun _ _ => rfl)) (aA (dv 2) aF))))))))))
theorem sc__law_line : aY ["_law_rows_here", "_law_highest_here", "_law_slope", "_law_height"] ["_law_rows_here"] (aJ iH) := ⟨rfl, rfl, rfl, by decide +kernel, rfl, by decide +kernel, by decide +kernel⟩
theorem sN {c : Cls} (Df : Def K mg "_law_line" ["_law_rows_here"] iH) (B : Blt mg) (C : iP mg c) (O : iO mg base c) (hk : gA K c) (c__law_before : Cal P w K mg base 1 "_law_before" 2 (aR K c)) : Cal P w K mg base 2 "_law_line" 1 (dC K c) := by
 refine jO (k := 1) Df sc__law_line rfl (fun f cdv A outer s H E hr => ⟨hX K c, ?_, tN K c⟩)
 exact (aG (a9 (i := 1) sc__law_line.nd rfl (Or.inr rfl) aDv) (aG (iJ PassesOwn.leaving rfl (dB (dv 0)) (lY (n := 2) rfl (cH (bQ (i := 2) sc__law_line.nd rfl (Or.inl rfl)) (cH (bQ (i := 3) sc__law_line.nd rfl (Or.inl rfl)) jE))) (aK (jQ (DW.t (j5 (aCi (u1 hr) (dv 2) (dv 1)) (kW (d4 (aE c__law_before hr bC (aA (vA (u1 hr) (dv 1) (dv 2) (fun _ _ => rfl)) (aA (dv 3) aF))))))) (aK (y6 (i := 1) (u1 hr) (pv 1) (dv 2) (dv 3) rfl)) dJ))) (iU 1 (aK (bA (oM (xs := ["_law_slope"]) (ys := ["_law_highest_here"]) (js := [1]) (cl := [("_law_highest_here", s.heap.objs.size + 1)]) rfl (dB (cW (yM rfl) aF8 aAm rfl B.sorted_ tL (aA (oF (uD rfl) aGa aA8 rfl B.list_ nJ (aA (dv 1) aF)) aF))) (vN (ys := ["_law_highest_here"]) (js := [1]) rfl (List.forall_mem_cons.mpr ⟨rfl, (fun _ h => nomatch h)⟩) (fW ⟨rfl, .inl rfl, .inl rfl, rfl, rfl⟩ eG) (by decide +kernel) (by decide +kernel)) (fW ⟨rfl, .inl rfl, .inl rfl, rfl, rfl⟩ eG) (by decide +kernel) rfl (by decide +kernel) rfl (by decide) (fun C s₀ H₀ ex pn => (bQ (i := 0) (show (["_law_slope", "_law_highest_here"] : List Str).Nodup by decide +kernel) rfl (Or.inl rfl))) (fun C s₀ H₀ ex pn => lG) (fun C s₀ H₀ ex pn => (d3 (aA (dv 0) (aA (vA (u1 hr) (dv 1) (dv 0) (fun _ _ => rfl)) aF))))))))))
end
section
variable {P : Program} {w : World} {K : PySem.W.Frag} {mg : Str -> Option Value} {base : Heap}
theorem aKl : aY ["a", "b"] ["a", "b"] (aJ wM) := ⟨rfl, rfl, rfl, by decide +kernel, rfl, by decide +kernel, by decide +kernel⟩
theorem aJz {c : Cls} (Df : Def K mg "over" ["a", "b"] wM) (B : Blt mg) (C : iP mg c) (O : iO mg base c) (hk : gA K c) (c_fraction : Cal P w K mg base 2 "fraction" 2 (cL K c)) : Cal P w K mg base 3 "over" 2 (nB K c) := by
 refine jO (k := 2) Df aKl rfl (fun f cdv A outer s H E hr => ⟨aAv K c, ?_, aKe K c⟩)
 exact (aK (bA (aE c_fraction hr bC (aA (aU bS cO aI (aO (dv 0) aC (fun _ _ => rfl)) (aO (dv 1) aC (fun _ _ => rfl))) (aA (aU bS cO aI (aO (dv 0) aC (fun _ _ => rfl)) (aO (dv 1) aC (fun _ _ => rfl))) aF)))))
theorem sc_bend_between : aY ["row", "following", "weight"] ["row", "following"] (aJ eV) := ⟨rfl, rfl, rfl, by decide +kernel, rfl, by decide +kernel, by decide +kernel⟩
theorem mZ {c : Cls} (Df : Def K mg "bend_between" ["row", "following"] eV) (B : Blt mg) (C : iP mg c) (O : iO mg base c) (hk : gA K c) (c_over : Cal P w K mg base 3 "over" 2 (nB K c)) (c_minus : Cal P w K mg base 3 "minus" 2 (gO K c)) : Cal P w K mg base 4 "bend_between" 2 (cG K c) := by
 refine jO (k := 3) Df sc_bend_between rfl (fun f cdv A outer s H E hr => ⟨gI K c, ?_, nC K c⟩)
 exact (aG (a9 (i := 2) sc_bend_between.nd rfl (Or.inl rfl) (aU eL eN aZ (aO (dv 1) aC (fun _ _ => rfl)) (aO (dv 0) aC (fun _ _ => rfl)))) (aK (bA (d3 (aA (aE c_over hr bC (aA (aE c_minus hr bC (aA (aO (dv 0) aC (fun _ _ => rfl)) (aA (aO (dv 1) aC (fun _ _ => rfl)) aF))) (aA (d3 (aA (dv 2) (aA aC aF))) aF))) (aA (dv 2) aF))))))
theorem sc_unbent : aY ["slope", "height", "rows", "weights", "line", "place", "weight", "before"] ["slope", "height", "rows"] (aJ mO) := ⟨rfl, rfl, rfl, by decide +kernel, rfl, by decide +kernel, by decide +kernel⟩
theorem aBz {c : Cls} (Df : Def K mg "unbent" ["slope", "height", "rows"] mO) (B : Blt mg) (C : iP mg c) (O : iO mg base c) (hk : gA K c) (c_rising : Cal P w K mg base 6 "rising" 1 (iE K c)) (c_minus : Cal P w K mg base 3 "minus" 2 (gO K c)) (c_times : Cal P w K mg base 3 "times" 2 (i7 K c)) (c_weights_by_place : Cal P w K mg base 1 "weights_by_place" 1 (bN K c)) : Cal P w K mg base 7 "unbent" 3 (fX K c) := by
 refine jO (k := 6) Df sc_unbent rfl (fun f cdv A outer s H E hr => ⟨qV K c, ?_, aAf K c⟩)
 exact (aG (a9 (i := 3) sc_unbent.nd rfl (Or.inl rfl) (aE c_weights_by_place hr bC (aA (dv 2) aF))) (aG (a9 (i := 4) sc_unbent.nd rfl (Or.inl rfl) (nY (aA (d3 (aA (dv 0) (aA (dv 1) aF))) aF))) (aG (iJ PassesOwn.leaving rfl (dB (aE c_rising hr bC (aA (oF (tK rfl) aDk aBt rfl B.list_ nJ (aA (dv 3) aF)) aF))) (bQ (i := 5) sc_unbent.nd rfl (Or.inl rfl)) (aG (a9 (i := 6) sc_unbent.nd rfl (Or.inl rfl) (vA (u1 hr) (dv 3) (dv 5) (fun _ _ => rfl))) (aG (a9 (i := 7) sc_unbent.nd rfl (Or.inl rfl) (aO (dv 4) (kN aC) (fun _ _ => rfl))) (aK (jB (i := 4) (d3 (aA (aU cK dZ cN (aO (dv 7) aC (fun _ _ => rfl)) (dv 6)) (aA (aE c_minus hr bC (aA (aO (dv 7) aC (fun _ _ => rfl)) (aA (aE c_times hr bC (aA (d3 (aA (dv 6) (aA aC aF))) (aA (dv 5) aF))) aF))) aF))) (fun t q => iZ (aBv PySem.F.plainAttrs_list PySem.F.slot_list_append PySem.F.type_list_append iQ (pv 4) (iB q lO)))))))) (aK (bA (dv 4))))))
theorem oZ : aY ["_law_a", "_law_b"] ["_law_a", "_law_b"] (aJ fJ) := ⟨rfl, rfl, rfl, by decide +kernel, rfl, by decide +kernel, by decide +kernel⟩
theorem pG {c : Cls} (Df : Def K mg "_law_before" ["_law_a", "_law_b"] fJ) (B : Blt mg) (C : iP mg c) (O : iO mg base c) (hk : gA K c) : Cal P w K mg base 1 "_law_before" 2 (aR K c) := by
 refine jO (k := 0) Df oZ rfl (fun f cdv A outer s H E hr => ⟨iI K c, ?_, pC K c⟩)
 exact (aK (bA (aCv aFn lT aZ (aU bS cO aI (aO (dv 0) aC (fun _ _ => rfl)) (aO (dv 1) aC (fun _ _ => rfl))) (aU bS cO aI (aO (dv 1) aC (fun _ _ => rfl)) (aO (dv 0) aC (fun _ _ => rfl))) (dH _))))
theorem sc__law_place : aY ["_law_one", "_law_other", "_law_a", "_law_b"] ["_law_one", "_law_other"] (aJ gC) := ⟨rfl, rfl, rfl, by decide +kernel, rfl, by decide +kernel, by decide +kernel⟩
theorem qB {c : Cls} (Df : Def K mg "_law_place" ["_law_one", "_law_other"] gC) (B : Blt mg) (C : iP mg c) (O : iO mg base c) (hk : gA K c) (c__law_lowest : Cal P w K mg base 1 "_law_lowest" 2 (aW K c)) : Cal P w K mg base 2 "_law_place" 2 (bO K c) := by
 refine jO (k := 1) Df sc__law_place rfl (fun f cdv A outer s H E hr => ⟨iR K c, ?_, qO K c⟩)
 exact (aG (a9 (i := 2) sc__law_place.nd rfl (Or.inl rfl) (aO (dv 0) aC (fun _ _ => rfl))) (aG (a9 (i := 3) sc__law_place.nd rfl (Or.inl rfl) (aO (dv 1) aC (fun _ _ => rfl))) (aK (bA (aE c__law_lowest hr bC (aA (aU eL eN aZ (aU bS cO aI (aO (dv 2) aC (fun _ _ => rfl)) (aO (dv 3) aC (fun _ _ => rfl))) (aU bS cO aI (aO (dv 3) aC (fun _ _ => rfl)) (aO (dv 2) aC (fun _ _ => rfl)))) (aA (aU bS cO aI (aU bS cO aI (aO (dv 2) aC (fun _ _ => rfl)) (aO (dv 3) aC (fun _ _ => rfl))) (aU eL eN aZ (aO (dv 1) aC (fun _ _ => rfl)) (aO (dv 0) aC (fun _ _ => rfl)))) aF)))))))
theorem sc__law_added_up : aY ["_law_told", "_law_t", "_law_total", "_law_place_here", "_law_weight"] ["_law_told", "_law_t"] (aJ eM) := ⟨rfl, rfl, rfl, by decide +kernel, rfl, by decide +kernel, by decide +kernel⟩
theorem l7 {c : Cls} (Df : Def K mg "_law_added_up" ["_law_told", "_law_t"] eM) (B : Blt mg) (C : iP mg c) (O : iO mg base c) (hk : gA K c) (c__law_before : Cal P w K mg base 1 "_law_before" 2 (aR K c)) (c__law_sum : Cal P w K mg base 2 "_law_sum" 2 (bR K c)) (c__law_product : Cal P w K mg base 2 "_law_product" 2 (bI K c)) : Cal P w K mg base 3 "_law_added_up" 2 (bM K c) := by
 refine jO (k := 2) Df sc__law_added_up rfl (fun f cdv A outer s H E hr => ⟨fR K c, ?_, mD K c⟩)
 exact (aG (a9 (i := 2) sc__law_added_up.nd rfl (Or.inl rfl) (aE c__law_sum hr bC (aA (aE c__law_product hr bC (aA (d3 (aA (aO (dv 0) aC (fun _ _ => rfl)) (aA aC aF))) (aA (dv 1) aF))) (aA (aO (dv 0) aC (fun _ _ => rfl)) aF)))) (aG (iJ PassesOwn.leaving rfl (dB (aO (dv 0) aC (fun _ _ => rfl))) (lY (n := 2) rfl (cH (bQ (i := 3) sc__law_added_up.nd rfl (Or.inl rfl)) (cH (bQ (i := 4) sc__law_added_up.nd rfl (Or.inl rfl)) jE))) (aK (jQ (d4 (aE c__law_before hr bC (aA (dv 3) (aA (dv 1) aF)))) (aK (a9 (i := 2) sc__law_added_up.nd rfl (Or.inl rfl) (aE c__law_sum hr bC (aA (dv 2) (aA (aE c__law_product hr bC (aA (d3 (aA (dv 4) (aA aC aF))) (aA (aE c__law_sum hr bC (aA (dv 1) (aA (d3 (aA (kN (aO (dv 3) aC (fun _ _ => rfl))) (aA (aO (dv 3) aC (fun _ _ => rfl)) aF))) aF))) aF))) aF))))) dJ))) (aK (bA (dv 2)))))
end
theorem aK5 {K : PySem.W.Frag} {h₀ : Heap} {mg : Str -> Option Value} {x : Str} {C : Addr} {bmB : List Value} {newId : String} (X : K.In h₀) (G : h₀.Ns mainGlobals mg) (e : PySem.W.nsIn K mainGlobals x = some (some (.ref C))) (q : PySem.W.excIn K C bmB newId = true) : PyProof.Rows.OwnCls x C bmB newId mg h₀ := by
 refine ⟨PySem.W.mg_of X G e, ?_⟩
 unfold PySem.W.excIn at q
 split at q
 ·rename_i d1 cd1 sl1 ho1
  split at q
  ·rename_i C1 bm1 s0 s1 s2 s3 n1 s5 hm1 hs1
   simp only [Bool.and_eq_true, beq_iff_eq, Bool.not_eq_true'] at q
   obtain ⟨⟨⟨⟨⟨rfl, rfl⟩, hdl⟩, htl⟩, hnok⟩, hini⟩ := q
   obtain ⟨c1, c2, c3, c4, c5, c6, c7, c8, c9, c10, c11⟩ := cd1
   dsimp only at hm1 hdl hnok hini
   subst hm1 hdl
   obtain ⟨sll⟩ := sl1
   simp only at hs1
   subst hs1
   exact ⟨bm1, c4, c1, c5, c2, c6, c7, c8, c9, c10, d1, s0, s1, s2, s3, s5, _, X _ _ ho1, .of_isNs (PySem.W.isNs_of_in X hnok), PySem.W.nsMap_none_of_in X hnok hini, PySem.W.tail_of_in X htl⟩
  ·cases q
 ·cases q
theorem lH {α : Type} {us : List α} (h : us.length = 1) : ∃ a, us = [a] := List.length_eq_one_iff.mp h
theorem gS {α : Type} {us : List α} (h : us.length = 2) : ∃ a b, us = [a, b] := by
 cases us with
 | nil => cases h
 | cons a r => obtain ⟨b, rfl⟩ := lH (Nat.succ.inj h); exact ⟨a, b, rfl⟩
theorem aM0 {α : Type} {us : List α} (h : us.length = 3) : ∃ a b c, us = [a, b, c] := by
 cases us with
 | nil => cases h
 | cons a r => obtain ⟨b, c, rfl⟩ := gS (Nat.succ.inj h); exact ⟨a, b, c, rfl⟩
def aDe (K : PySem.W.Frag) : Bool := K.all fun p => match p.2.cls with
 | .type n => !(n == "list")
 | _ => true
theorem lookup_mem {a : Addr} {o : Obj} : ∀ {l : List (Addr × Obj)}, l.lookup a = some o -> (a, o) ∈ l
 | (k, v) :: r, h => by
  unfold List.lookup at h
  split at h
  ·rename_i z
   have e : a = k := by simpa using z
   cases h
   rw [e]
   exact .head _
  ·exact .tail _ (lookup_mem h)
theorem yQ {K : PySem.W.Frag} (h : aDe K = true) {a : Addr} {o : Obj} (e : K.lookup a = some o) (hc : o.cls = .type "list") : False := by
 have := List.all_eq_true.mp h (a, o) (lookup_mem e)
 dsimp only at this
 rw [hc] at this
 cases this
def aF3 : Sp := fun vs H Q _ => ∃ (a : Addr) (ns : List Int), vs = [.ref a] /\ Rd H a (.lst (ns.map V.int)) /\ ns.length <= 63 /\ ∀ H', Q (.bl true) H'
theorem t8 {K : PySem.W.Frag} {G : Hp} : ∀ ns : List Int, Reps K G (ns.map V.int) (ns.map PyData.int)
 | [] => .nil
 | i :: r => .cons (.int i) (t8 r)
theorem aLl {P : Program} {w : World} {K : PySem.W.Frag} {mg : Str -> Option Value} {base : Heap} {f : Addr} {fd : FuncData} {c : Cls} (hk : gA K c) (F : FnOk P w K mg base (CXr P w) 8 f fd ["_law_script"] (spM K 1 (yG K c))) : FnOk P w K mg base (CXr P w) 8 f fd ["_law_script"] aF3 :=
 F.imp fun vs H Q E h => by
  obtain ⟨a, ns, rfl, rd, hl, hq⟩ := h
  refine ⟨rfl, H, [.p (.list (ns.map .int))], Same.refl _, ⟨.lst rd (t8 ns), trivial⟩, ?_⟩
  rw [aMd K c hk ns hl]
  intro G' H' v st r
  cases r
  exact hq H'
structure FnAt (K : PySem.W.Frag) (x : Str) (st : Stmt) (f : Addr) (m : Value) (c : Addr) : Prop where
 a : PySem.W.nsIn K mainGlobals x = some (some (.ref f))
 l : K.lookup f = some ⟨.type "function", none, .func (PySem.W.fnOf x x (gQ st) (eJ st) (aJ st) .none .none .none m none (.ref c) .none), #[]⟩
 c : PySem.W.codeIn K (.ref c) x = true
 k : PySem.W.keepIn K (.ref f) = true
theorem FnAt.df {K : PySem.W.Frag} {h : Heap} {mg : Str -> Option Value} {x : Str} {st : Stmt} {f c : Addr} {m : Value} {ps : List Str} (A : FnAt K x st f m c) (X : K.In h) (G : h.Ns mainGlobals mg)
  (hb : ∀ (kV doc pm : Value) (an : Option Addr) (cdv ct : Value) (us : List Value), us.length = ps.length -> bindArgs (PySem.W.fnOf x x (gQ st) (eJ st) (aJ st) .none kV doc pm an cdv ct) ⟨us, []⟩ = pure (ps.zip us)) : Def K mg x ps st :=
 have F := aGy (st := st) A.l A.c A.k
 ⟨_, _, F, F.binds hb, A.k, PySem.W.mg_of X G A.a⟩
theorem aO4 {K : PySem.W.Frag} {h : Heap} {mg : Str -> Option Value} {x : Str} {st : Stmt} {f c T : Addr} {m : Value} (X : K.In h) (G : h.Ns mainGlobals mg) (A : FnAt K x st f m c) (e : ((tbs K).contains (c, T, x) && PySem.W.codeHdIn K c T) = true) : aI9 K mg x := by
 obtain ⟨e1, e2⟩ := Bool.and_eq_true_iff.mp e
 exact ⟨f, c, T, _, _, _, _, PySem.W.mg_of X G A.a, A.l, rfl, by simpa using e1, e2⟩
theorem all_mk {l : PySem.W.OpenLaw} {w : World} {K : PySem.W.Frag} {h : Heap} {mg : Str -> Option Value} {fa : Addr} {f1 c1 f2 c2 f3 c3 f4 c4 f5 c5 f6 c6 f7 c7 f8 c8 f9 c9 f10 c10 f11 c11 f12 c12 f13 c13 f14 c14 f15 c15 f16 c16 f17 c17 f18 c18 f19 c19 f20 c20 f21 c21 f22 c22 f23 c23 f24 c24 f25 c25 f26 c26 f27 c27 f28 c28 f29 c29 f30 c30 f31 c31 f32 c32 f33 c33 f34 c34 f35 c35 T14 CRoofError CNoFraction : Addr} (X : K.In h) (G : h.Ns mainGlobals mg) (hfa : mg "law" = some (.ref fa))
  {m1 m2 m3 m4 m5 m6 m7 m8 m9 m10 m11 m12 m13 m14 m15 m16 m17 m18 m19 m20 m21 m22 m23 m24 m25 m26 m27 m28 m29 m30 m31 m32 m33 m34 m35 : Value}
  (h1 : FnAt K "greatest_divisor" cX f1 m1 c1)
  (h2 : FnAt K "fraction" jJ f2 m2 c2)
  (h3 : FnAt K "minus" qH f3 m3 c3)
  (h4 : FnAt K "times" p7 f4 m4 c4)
  (h5 : FnAt K "over" wM f5 m5 c5)
  (h6 : FnAt K "common_bottom" eC f6 m6 c6)
  (h7 : FnAt K "whole" qL f7 m7 c7)
  (h8 : FnAt K "turn" v9 f8 m8 c8)
  (h9 : FnAt K "chain" q0 f9 m9 c9)
  (h10 : FnAt K "line_thinned" eW f10 m10 c10)
  (h11 : FnAt K "bend_between" eV f11 m11 c11)
  (h12 : FnAt K "bends" p6 f12 m12 c12)
  (h13 : FnAt K "weights_by_place" cV f13 m13 c13)
  (h14 : FnAt K "rising" mL f14 m14 c14)
  (h15 : FnAt K "unbent" mO f15 m15 c15)
  (h16 : FnAt K "_law_whole" fZ f16 m16 c16)
  (h17 : FnAt K "_law_cell_at" e8 f17 m17 c17)
  (h18 : FnAt K "_law_mix" jI f18 m18 c18)
  (h19 : FnAt K "_law_lowest" fI f19 m19 c19)
  (h20 : FnAt K "_law_sum" jM f20 m20 c20)
  (h21 : FnAt K "_law_product" eZ f21 m21 c21)
  (h22 : FnAt K "_law_before" fJ f22 m22 c22)
  (h23 : FnAt K "_law_is_fraction" cU f23 m23 c23)
  (h24 : FnAt K "_law_number" fH f24 m24 c24)
  (h25 : FnAt K "_law_rows" iD f25 m25 c25)
  (h26 : FnAt K "_law_line" iH f26 m26 c26)
  (h27 : FnAt K "_law_value" gB f27 m27 c27)
  (h28 : FnAt K "_law_highest" eY f28 m28 c28)
  (h29 : FnAt K "_law_is_line" eT f29 m29 c29)
  (h30 : FnAt K "_law_place" gC f30 m30 c30)
  (h31 : FnAt K "_law_thin" iG f31 m31 c31)
  (h32 : FnAt K "_law_bends" gE f32 m32 c32)
  (h33 : FnAt K "_law_is_bends" eF f33 m33 c33)
  (h34 : FnAt K "_law_added_up" eM f34 m34 c34)
  (h35 : FnAt K "law" rX f35 m35 c35)
  (l14 : ((tbs K).contains (c14, T14, "rising") && PySem.W.codeHdIn K c14 T14) = true)
  (z0 : PySem.W.nsIn K mainGlobals "abs" = some none)
  (z1 : PySem.W.nsIn K mainGlobals "bool" = some none)
  (z2 : PySem.W.nsIn K mainGlobals "enumerate" = some none)
  (z3 : PySem.W.nsIn K mainGlobals "int" = some none)
  (z4 : PySem.W.nsIn K mainGlobals "isinstance" = some none)
  (z5 : PySem.W.nsIn K mainGlobals "len" = some none)
  (z6 : PySem.W.nsIn K mainGlobals "list" = some none)
  (z7 : PySem.W.nsIn K mainGlobals "max" = some none)
  (z8 : PySem.W.nsIn K mainGlobals "range" = some none)
  (z9 : PySem.W.nsIn K mainGlobals "reversed" = some none)
  (z10 : PySem.W.nsIn K mainGlobals "sorted" = some none)
  (z11 : PySem.W.nsIn K mainGlobals "tuple" = some none)
  (nRoofError : PySem.W.nsIn K mainGlobals "RoofError" = some (some (.ref CRoofError)))
  (nNoFraction : PySem.W.nsIn K mainGlobals "NoFraction" = some (some (.ref CNoFraction)))
  (eNoFraction : PySem.W.excIn K CNoFraction [.type "ValueError", .type "Exception", .type "BaseException", .type "object"] "ValueError.__new__" = true)
  (xii : PySem.W.kitOne K (.type "int") (.type "int") = some true)
  (xib : PySem.W.kitOne K (.type "int") (.type "bool") = some false)
  (xtt : PySem.W.kitOne K (.type "tuple") (.type "tuple") = some true)
  (xll : PySem.W.kitOne K (.type "list") (.type "list") = some true)
  : ∃ fd : FuncData, (∀ (s : Shared) (v : Value), BindsTo s fd ⟨[v], []⟩ [("_law_script", v)]) /\ ∀ base : Heap, K.In base -> base.Ns mainGlobals mg -> FnOk l.prog w K mg base (CXr l.prog w) 8 fa fd ["_law_script"] aF3 := by
 have e := hfa.symm.trans (PySem.W.mg_of X G h35.a)
 cases e
 have D1 := h1.df (ps := ["a", "b"]) X G (fun _ _ _ _ _ _ us hl => by obtain ⟨_, _, rfl⟩ := gS hl; rfl)
 have D2 := h2.df (ps := ["top", "bottom"]) X G (fun _ _ _ _ _ _ us hl => by obtain ⟨_, _, rfl⟩ := gS hl; rfl)
 have D3 := h3.df (ps := ["a", "b"]) X G (fun _ _ _ _ _ _ us hl => by obtain ⟨_, _, rfl⟩ := gS hl; rfl)
 have D4 := h4.df (ps := ["a", "b"]) X G (fun _ _ _ _ _ _ us hl => by obtain ⟨_, _, rfl⟩ := gS hl; rfl)
 have D5 := h5.df (ps := ["a", "b"]) X G (fun _ _ _ _ _ _ us hl => by obtain ⟨_, _, rfl⟩ := gS hl; rfl)
 have D6 := h6.df (ps := ["numbers"]) X G (fun _ _ _ _ _ _ us hl => by obtain ⟨_, rfl⟩ := lH hl; rfl)
 have D7 := h7.df (ps := ["number", "factor"]) X G (fun _ _ _ _ _ _ us hl => by obtain ⟨_, _, rfl⟩ := gS hl; rfl)
 have D8 := h8.df (ps := ["start", "middle", "end"]) X G (fun _ _ _ _ _ _ us hl => by obtain ⟨_, _, _, rfl⟩ := aM0 hl; rfl)
 have D9 := h9.df (ps := ["points"]) X G (fun _ _ _ _ _ _ us hl => by obtain ⟨_, rfl⟩ := lH hl; rfl)
 have D10 := h10.df (ps := ["line"]) X G (fun _ _ _ _ _ _ us hl => by obtain ⟨_, rfl⟩ := lH hl; rfl)
 have D11 := h11.df (ps := ["row", "following"]) X G (fun _ _ _ _ _ _ us hl => by obtain ⟨_, _, rfl⟩ := gS hl; rfl)
 have D12 := h12.df (ps := ["line"]) X G (fun _ _ _ _ _ _ us hl => by obtain ⟨_, rfl⟩ := lH hl; rfl)
 have D13 := h13.df (ps := ["rows"]) X G (fun _ _ _ _ _ _ us hl => by obtain ⟨_, rfl⟩ := lH hl; rfl)
 have D14 := h14.df (ps := ["numbers"]) X G (fun _ _ _ _ _ _ us hl => by obtain ⟨_, rfl⟩ := lH hl; rfl)
 have D15 := h15.df (ps := ["slope", "height", "rows"]) X G (fun _ _ _ _ _ _ us hl => by obtain ⟨_, _, _, rfl⟩ := aM0 hl; rfl)
 have D16 := h16.df (ps := ["_law_found"]) X G (fun _ _ _ _ _ _ us hl => by obtain ⟨_, rfl⟩ := lH hl; rfl)
 have D17 := h17.df (ps := ["_law_script", "_law_k"]) X G (fun _ _ _ _ _ _ us hl => by obtain ⟨_, _, rfl⟩ := gS hl; rfl)
 have D18 := h18.df (ps := ["_law_cell", "_law_k"]) X G (fun _ _ _ _ _ _ us hl => by obtain ⟨_, _, rfl⟩ := gS hl; rfl)
 have D19 := h19.df (ps := ["_law_top", "_law_bottom"]) X G (fun _ _ _ _ _ _ us hl => by obtain ⟨_, _, rfl⟩ := gS hl; rfl)
 have D20 := h20.df (ps := ["_law_a", "_law_b"]) X G (fun _ _ _ _ _ _ us hl => by obtain ⟨_, _, rfl⟩ := gS hl; rfl)
 have D21 := h21.df (ps := ["_law_a", "_law_b"]) X G (fun _ _ _ _ _ _ us hl => by obtain ⟨_, _, rfl⟩ := gS hl; rfl)
 have D22 := h22.df (ps := ["_law_a", "_law_b"]) X G (fun _ _ _ _ _ _ us hl => by obtain ⟨_, _, rfl⟩ := gS hl; rfl)
 have D23 := h23.df (ps := ["_law_found"]) X G (fun _ _ _ _ _ _ us hl => by obtain ⟨_, rfl⟩ := lH hl; rfl)
 have D24 := h24.df (ps := ["_law_cell", "_law_k"]) X G (fun _ _ _ _ _ _ us hl => by obtain ⟨_, _, rfl⟩ := gS hl; rfl)
 have D25 := h25.df (ps := ["_law_cells"]) X G (fun _ _ _ _ _ _ us hl => by obtain ⟨_, rfl⟩ := lH hl; rfl)
 have D26 := h26.df (ps := ["_law_rows_here"]) X G (fun _ _ _ _ _ _ us hl => by obtain ⟨_, rfl⟩ := lH hl; rfl)
 have D27 := h27.df (ps := ["_law_row", "_law_t"]) X G (fun _ _ _ _ _ _ us hl => by obtain ⟨_, _, rfl⟩ := gS hl; rfl)
 have D28 := h28.df (ps := ["_law_line_here", "_law_t"]) X G (fun _ _ _ _ _ _ us hl => by obtain ⟨_, _, rfl⟩ := gS hl; rfl)
 have D29 := h29.df (ps := ["_law_found", "_law_due"]) X G (fun _ _ _ _ _ _ us hl => by obtain ⟨_, _, rfl⟩ := gS hl; rfl)
 have D30 := h30.df (ps := ["_law_one", "_law_other"]) X G (fun _ _ _ _ _ _ us hl => by obtain ⟨_, _, rfl⟩ := gS hl; rfl)
 have D31 := h31.df (ps := ["_law_line_here"]) X G (fun _ _ _ _ _ _ us hl => by obtain ⟨_, rfl⟩ := lH hl; rfl)
 have D32 := h32.df (ps := ["_law_line_here"]) X G (fun _ _ _ _ _ _ us hl => by obtain ⟨_, rfl⟩ := lH hl; rfl)
 have D33 := h33.df (ps := ["_law_found", "_law_due"]) X G (fun _ _ _ _ _ _ us hl => by obtain ⟨_, _, rfl⟩ := gS hl; rfl)
 have D34 := h34.df (ps := ["_law_told", "_law_t"]) X G (fun _ _ _ _ _ _ us hl => by obtain ⟨_, _, rfl⟩ := gS hl; rfl)
 have B : Blt mg := ⟨PySem.W.mg_none_of X G z0, PySem.W.mg_none_of X G z1, PySem.W.mg_none_of X G z2, PySem.W.mg_none_of X G z3, PySem.W.mg_none_of X G z4, PySem.W.mg_none_of X G z5, PySem.W.mg_none_of X G z6, PySem.W.mg_none_of X G z7, PySem.W.mg_none_of X G z8, PySem.W.mg_none_of X G z9, PySem.W.mg_none_of X G z10, PySem.W.mg_none_of X G z11⟩
 let c : Cls := ⟨CRoofError, CNoFraction⟩
 have C : iP mg c := ⟨PySem.W.mg_of X G nRoofError, PySem.W.mg_of X G nNoFraction⟩
 have hk : gA K c := ⟨xii, xib, xtt, xll⟩
 refine ⟨PySem.W.fnOf "law" "law" (gQ rX) (eJ rX) (aJ rX) .none .none .none m35 none (.ref c35) .none, fun s v => .of_eq rfl, fun base kb nb => ?_⟩
 have O : iO mg base c := ⟨aK5 kb nb nNoFraction eNoFraction⟩
 have G1 : Cal l.prog w K mg base 1 "greatest_divisor" 2 (a5 K c) := j8 D1 B C O hk
 have G7 : Cal l.prog w K mg base 1 "whole" 2 (gZ K c) := aEz D7 B C O hk
 have G8 : Cal l.prog w K mg base 1 "turn" 3 (lW K c) := aKm D8 B C O hk
 have G13 : Cal l.prog w K mg base 1 "weights_by_place" 1 (bN K c) := j9 D13 B C O hk
 have G16 : Cal l.prog w K mg base 1 "_law_whole" 1 (a8 K c) := p9 D16 B C O hk
 have G17 : Cal l.prog w K mg base 1 "_law_cell_at" 2 (bH K c) := nL D17 B C O hk
 have G18 : Cal l.prog w K mg base 1 "_law_mix" 2 (bF K c) := u6 D18 B C O hk
 have G19 : Cal l.prog w K mg base 1 "_law_lowest" 2 (aW K c) := o4 D19 B C O hk
 have G22 : Cal l.prog w K mg base 1 "_law_before" 2 (aR K c) := pG D22 B C O hk
 have G2 : Cal l.prog w K mg base 2 "fraction" 2 (cL K c) := vI D2 B C O hk G1
 have G6 : Cal l.prog w K mg base 2 "common_bottom" 1 (bB K c) := mG D6 B C O hk G1
 have G9 : Cal l.prog w K mg base 2 "chain" 1 (hZ K c) := aGg D9 B C O hk G8
 have G20 : Cal l.prog w K mg base 2 "_law_sum" 2 (bR K c) := vQ D20 B C O hk G19
 have G21 : Cal l.prog w K mg base 2 "_law_product" 2 (bI K c) := nQ D21 B C O hk G19
 have G23 : Cal l.prog w K mg base 2 "_law_is_fraction" 1 (aV K c) := j4 D23 B C O hk G19 G16
 have G24 : Cal l.prog w K mg base 2 "_law_number" 2 (bJ K c) := o5 D24 B C O hk G18 G19
 have G26 : Cal l.prog w K mg base 2 "_law_line" 1 (dC K c) := sN D26 B C O hk G22
 have G30 : Cal l.prog w K mg base 2 "_law_place" 2 (bO K c) := qB D30 B C O hk G19
 have G3 : Cal l.prog w K mg base 3 "minus" 2 (gO K c) := aEg D3 B C O hk G2
 have G4 : Cal l.prog w K mg base 3 "times" 2 (i7 K c) := aFp D4 B C O hk G2
 have G5 : Cal l.prog w K mg base 3 "over" 2 (nB K c) := aJz D5 B C O hk G2
 have G10 : Cal l.prog w K mg base 3 "line_thinned" 1 (bL K c) := oP D10 B C O hk G9 G7 G6
 have G25 : Cal l.prog w K mg base 3 "_law_rows" 1 (cZ K c) := tO D25 B C O hk G24 G18
 have G27 : Cal l.prog w K mg base 3 "_law_value" 2 (b8 K c) := rD D27 B C O hk G20 G21
 have G29 : Cal l.prog w K mg base 3 "_law_is_line" 2 (b7 K c) := nW D29 B C O hk G16 G23
 have G31 : Cal l.prog w K mg base 3 "_law_thin" 1 (dW K c) := rS D31 B C O hk G22 G30
 have G32 : Cal l.prog w K mg base 3 "_law_bends" 1 (dA K c) := qC D32 B C O hk G30
 have G33 : Cal l.prog w K mg base 3 "_law_is_bends" 2 (bX K c) := mB D33 B C O hk G23 G16
 have G34 : Cal l.prog w K mg base 3 "_law_added_up" 2 (bM K c) := l7 D34 B C O hk G22 G20 G21
 have G11 : Cal l.prog w K mg base 4 "bend_between" 2 (cG K c) := mZ D11 B C O hk G5 G3
 have G28 : Cal l.prog w K mg base 4 "_law_highest" 2 (bV K c) := oE D28 B C O hk G22 G27
 have G12 : Cal l.prog w K mg base 5 "bends" 1 (iF K c) := aFv D12 B C O hk G11 G10
 have G14 : Cal l.prog w K mg base 6 "rising" 1 (iE K c) := zE (aO4 X G h14 l14) D14 B C O hk G7 G6
 have G15 : Cal l.prog w K mg base 7 "unbent" 3 (fX K c) := aBz D15 B C O hk G14 G3 G4 G13
 exact aLl hk (aLs (aGy (st := rX) h35.l h35.c h35.k) B C O hk G12 G33 G29 G10 G15 G24 G17 G34 G28 G32 G31 G26 G25)
theorem walk {l : PySem.W.OpenLaw} {q : Program} {loose : List Str} {XP : (Str -> Option Value) -> Heap -> Prop} {YP : World -> Heap -> Prop} {d : DefRec} {K : Params -> PySem.W.Frag} (hn : l.most = some 63) (hdf : d.params.defaults = [])
  {ts : List Addr} (hY : ∀ (w : World) (h : Heap), YP w h -> (K w.params).In h /\ ∀ P ∈ ts, h.get? P = some (PySem.W.tabObj #[])) (hT : ∀ w : World, aIb (K w.params) ts = true) (hK : ∀ w : World, aDe (K w.params) = true)
  (F : ∀ (w : World) (mg : Str -> Option Value) (fa : Addr) (h : Heap), (K w.params).In h -> h.Ns mainGlobals mg -> mg d.name = some (.ref fa) ->
   ∃ fd : FuncData, (∀ (s : Shared) (u : Value), BindsTo s fd ⟨[u], []⟩ [("_law_script", u)]) /\ ∀ base : Heap, (K w.params).In base -> base.Ns mainGlobals mg -> FnOk l.prog w (K w.params) mg base (CXr l.prog w) 8 fa fd ["_law_script"] aF3) :
  PySem.W.WalkO q loose XP YP l.row.toRowW d [] (fun f vs => PySem.call f vs) :=
 L2.aIh (n := 63) (k := 8) (x := "_law_script") (CX := fun w => CXr l.prog w) (sp := fun _ => aF3) hn (by decide) hdf ⟨rfl, by decide, by decide⟩ hY hT F (fun w _ a ns hl _ hS => ⟨a, ns, rfl, hS.elim id (fun ⟨_, _, _, e, hc, _⟩ => (yQ (hK w) e hc).elim), hl, fun _ => rfl⟩) fun _ _ _ _ _ ⟨_, _, _, _, _, _, _, z⟩ => z
end My
namespace Hd
open PySem PySem.W PyProof.Rows L2 My
abbrev pr : Program := PySem.Challenge.pw_creasecurve_k16_bends_told
noncomputable def vs (s : String) (t : Nat) : Value := .str (Str.ofString s) t
noncomputable def en (P : Params) (s : String) (t : Nat) (v : Value) : DictEntry := ⟨PyData.keyHash P (Str.ofString s), .str (Str.ofString s) t, v⟩
noncomputable def fd (n q : String) (a : Arguments) (b : FuncBody) (s : Scope) (g : Nat) (c : List (Str × Nat)) (d k dc m : Value) (an : Option Nat) (co ct : Value) (bl : Nat) : FuncData := ⟨Str.ofString n, Str.ofString q, a, b, s, g, c, d, k, dc, m, an, co, ct, bl⟩
noncomputable def pE (e : DictEntry) : Obj -> Obj
 | ⟨c, d, .dict es n, s⟩ => ⟨c, d, .dict (es.push e) (n + 1), s⟩
 | o => o
noncomputable def rE (i : Nat) (v : Value) : Obj -> Obj
 | ⟨c, d, .dict es n, s⟩ => ⟨c, d, .dict (es.modify i fun e => ⟨e.hash, e.key, v⟩) n, s⟩
 | o => o
noncomputable def pF (vs : List Value) : Obj -> Obj
 | ⟨c, d, .fields xs, s⟩ => ⟨c, d, .fields (xs ++ vs.toArray), s⟩
 | o => o
noncomputable def tu (xs : List Value) : Obj := ⟨.type "tuple", none, .seq xs.toArray 0, #[]⟩
noncomputable def fl (xs : List Value) : Obj := ⟨.none, none, .fields xs.toArray, #[]⟩
noncomputable def fo (i : Nat) (nm : String) (g : Nat) (m co c : Value) : Obj := ⟨c, none, .func (fd nm nm (gQ (top i)) (.stmts (eJ (top i))) (aJ (top i)) g [] .none .none .none m none co .none 0), #[]⟩
noncomputable def co (nm : String) (t u l k a c : Nat) (v x : Value) (f : Nat) : Obj := ⟨.type "code", none, .fields #[vs nm t, vs nm (t + 1), vs "/claim/cut.py" (t + 2), .int l 0, .int k 0, .int 0 0, .int 0 0, .int 3 0, .ref a, .bool true, .int 181 0, .ref c, .none, v, x, .ref f, .int u 0, .int l 0, vs "/claim/cut.py" (u + 1)], #[]⟩
noncomputable def vL (t : Nat) : List String -> List Value
 | [] => []
 | s :: r => vs s t :: vL (t + 1) r
noncomputable def d7 (P : Params) (i : Nat) (nm : String) (m : Value) (l k : Nat) (vn : List String) (n t u : Nat) (T : BT) : BT := ((((((((T.set 3 (pE (en P nm (u + 2) (.ref (n + 6))))).set 12 (pF [.int l 0, .int 0 0, .ref (n + 5)])).ins n (tu [])).ins (n + 1) (fl [])).ins (n + 2) (tu (vL (t + 3) vn))).ins (n + 3) (tu [])).ins (n + 4) (fo i nm 0 .none .none .none)).ins (n + 5) (co nm t u l k n (n + 1) (.ref (n + 2)) (.ref (n + 3)) (n + 4))).ins (n + 6) (fo i nm 3 m (.ref (n + 5)) (.type "function"))
noncomputable def d5 (P : Params) (i : Nat) (nm : String) (m : Value) (l k n t u : Nat) (T : BT) : BT := ((((((T.set 3 (pE (en P nm (u + 2) (.ref (n + 4))))).set 12 (pF [.int l 0, .int 0 0, .ref (n + 3)])).ins n (tu [])).ins (n + 1) (fl [])).ins (n + 2) (fo i nm 0 .none .none .none)).ins (n + 3) (co nm t u l k n (n + 1) .none .none (n + 2))).ins (n + 4) (fo i nm 3 m (.ref (n + 3)) (.type "function"))
noncomputable def aIn : Env := { scope := pr.main.scope, locals := mainNs, globals := mainNs, cells := [], code := (.ref 13), frame := some 14 }
noncomputable def cE : Code := .body (behindTheImports pr) aIn
noncomputable def ol (P : Params) : List Obj := [boot_o_0 P, boot_o_1 P, boot_o_2 P, boot_o_3 P, boot_o_4 P, boot_o_5 P, boot_o_6 P, boot_o_7 P, boot_o_8 P, boot_o_9 P, boot_o_10 P, (⟨(.type "tuple"), none, (.seq #[] 0), #[]⟩ : Obj), (⟨.none, none, (.fields #[]), #[]⟩ : Obj), (⟨(.type "code"), none, (.fields #[(vs "<module>" 182), (vs "<module>" 183), (vs "/claim/cut.py" 184), (.int 1 0), (.int 0 0), (.int 0 0), (.int 0 0), (.int 0 0), (.ref 11), (.bool false), (.int 181 0), (.ref 12), .none, .none, .none, .none, (.int 185 0), (.int 1 0), (vs "/claim/cut.py" 186)]), #[]⟩ : Obj), (⟨(.type "frame"), none, .plain, #[(some (.ref 13)), (some (.ref 3)), (some (.ref 3)), none, (some (vs "__main__" 164)), none, (some (.ref 0))]⟩ : Obj)]
noncomputable def bt : Nat -> List Obj -> BT -> BT
 | _, [], T => T
 | i, o :: r, T => bt (i + 1) r (T.ins i o)
noncomputable def t0 (P : Params) : BT := bt 0 (ol P) .nil
noncomputable abbrev sT (t : Params -> BT) (n k : Nat) (w : World) (os : OsState) : SharedT := ⟨t w.params, n, {}, ⟨[]⟩, boot_drawn, k, os⟩
abbrev B : List Frame := [topFrame ⟨0, 0, 0, 0⟩]
theorem aKw (w : World) : (fun os => topGo treeTable pr w 11 (some (.ref 6)) 12 ⟨boot_heap w.params, ⟨[]⟩, boot_drawn, boot_toks, os⟩ (topStub pr)) = (fun os => some ((⟨⟨⟨ol w.params⟩, {}⟩, ⟨[]⟩, boot_drawn, 187, os⟩ : Shared), ⟨denote treeTable cE, cE, ⟨0, 0, 0, 0⟩, B⟩)) := by
 rw [PySem.W.Fast.te15667345088766844465, PySem.W.Fast.te14364793385576792824, PySem.W.Fast.te11892475500146522536]
 kernel_rfl
theorem aL9 (w : World) : (fun os => segRun treeTable pr w 11 (some (.ref 6)) 1 1 ⟨⟨⟨ol w.params⟩, {}⟩, ⟨[]⟩, boot_drawn, 187, os⟩ (blockOf (behindTheImports pr) aIn cE ⟨0, 0, 0, 0⟩ B)) = (fun os => some (.next, (sT t0 15 187 w os).abs, cE, ⟨0, 0, 0, 0⟩)) := by
 rw [PySem.W.Fast.te14374325043358763698, PySem.W.Fast.te14364793385576792824]
 kernel_rfl
noncomputable def t1 (P : Params) : BT :=
 (t0 P) |>
 (fun T => T.set 3 (rE 0 (vs "creasecurve.errors" 187))) |>
 (fun T => T.set 3 (pE (en P "RoofError" 206 (.ref 24)))) |>
 (fun T => T.set 12 (pF [(.int 2 0), (.int 0 0), (.ref 20)])) |>
 (fun T => T.ins 15 (tu [(.type "ValueError")])) |>
 (fun T => T.ins 16 ⟨(.type "builtin_function_or_method"), none, (.fields #[(.builtin "type.__prepare__"), (.type "type")]), #[]⟩) |>
 (fun T => T.ins 17 ⟨(.type "dict"), none, (.dict #[en P "__module__" 196 (vs "creasecurve.errors" 187), en P "__qualname__" 198 (vs "RoofError" 197), en P "__firstlineno__" 200 (.int 2 199), en P "__static_attributes__" 201 (.ref 22)] 4), #[]⟩) |>
 (fun T => T.ins 18 (tu [])) |>
 (fun T => T.ins 19 (fl [])) |>
 (fun T => T.ins 20 ⟨(.type "code"), none, (.fields #[(vs "RoofError" 191), (vs "RoofError" 192), (vs "/claim/cut.py" 193), (.int 2 0), (.int 0 0), (.int 0 0), (.int 0 0), (.int 0 0), (.ref 18), (.bool false), (.int 181 0), (.ref 19), .none, .none, .none, .none, (.int 194 0), (.int 2 0), (vs "/claim/cut.py" 195)]), #[]⟩) |>
 (fun T => T.ins 21 ⟨(.type "frame"), none, .plain, #[(some (.ref 20)), (some (.ref 3)), (some (.ref 17)), none, (some (vs "creasecurve.errors" 187)), none, (some (.ref 0))]⟩) |>
 (fun T => T.ins 22 (tu [])) |>
 (fun T => T.ins 23 ⟨(.type "dict"), none, (.dict #[en P "__module__" 196 (vs "creasecurve.errors" 187), en P "__firstlineno__" 200 (.int 2 199), en P "__static_attributes__" 201 (.ref 22), en P "__weakref__" 203 (.ref 25), en P "__doc__" 204 .none] 3), #[]⟩) |>
 (fun T => T.ins 24 ⟨(.type "type"), none, (.cls ⟨"RoofError", [(.type "ValueError")], [(.ref 24), (.type "ValueError"), (.type "Exception"), (.type "BaseException"), (.type "object")], 23, "RoofError", true, [], [], false, none, false⟩), #[(some (.ref 15)), none, (some (vs "RoofError" 189)), (some (vs "RoofError" 197)), (some (.builtin "ValueError.__new__")), (some (.bool true))]⟩) |>
 (fun T => T.ins 25 ⟨(.type "getset_descriptor"), none, (.fields #[(vs "__weakref__" 202), (.ref 24), (.builtin "ExceptionGroup.__weakref__"), .none]), #[]⟩) |>
 (fun T => T.ins 26 ⟨(.type "super"), none, (.fields #[(.ref 24), (.ref 24), (.ref 24)]), #[]⟩) |>
 (fun T => T.ins 27 ⟨(.type "builtin_function_or_method"), none, (.fields #[(.builtin "object.__init_subclass__"), (.ref 24)]), #[]⟩)
noncomputable def g0 : List Stmt := [top 0, top 1]
theorem hg0 (w : World) : (fun os => segRunT treeTable pr w 11 (some (.ref 6)) 1 196 (sT t0 15 187 w os) (piecesOf g0 aIn cE ⟨0, 0, 0, 0⟩ B)) = (fun os => some (.next, sT t1 28 207 w os, cE, ⟨2, 0, 3, 8⟩)) := by
 rw [PySem.W.Fast.te10110043849684766642, PySem.W.Fast.te14364793385576792824]
 kernel_rfl
noncomputable def t2 (P : Params) : BT :=
 (t1 P) |>
 (fun T => T.set 3 (pE (en P "NoFraction" 222 (.ref 37)))) |>
 (fun T => T.set 12 (pF [(.int 4 0), (.int 0 0), (.ref 33)])) |>
 (fun T => T.set 24 (fun _ => ⟨(.type "type"), none, (.cls ⟨"RoofError", [(.type "ValueError")], [(.ref 24), (.type "ValueError"), (.type "Exception"), (.type "BaseException"), (.type "object")], 23, "RoofError", true, [], [(.ref 37)], false, none, false⟩), #[(some (.ref 15)), none, (some (vs "RoofError" 189)), (some (vs "RoofError" 197)), (some (.builtin "ValueError.__new__")), (some (.bool true))]⟩)) |>
 (fun T => T.ins 28 (tu [(.ref 24)])) |>
 (fun T => T.ins 29 ⟨(.type "builtin_function_or_method"), none, (.fields #[(.builtin "type.__prepare__"), (.type "type")]), #[]⟩) |>
 (fun T => T.ins 30 ⟨(.type "dict"), none, (.dict #[en P "__module__" 214 (vs "creasecurve.errors" 187), en P "__qualname__" 216 (vs "NoFraction" 215), en P "__firstlineno__" 218 (.int 4 217), en P "__static_attributes__" 219 (.ref 35)] 4), #[]⟩) |>
 (fun T => T.ins 31 (tu [])) |>
 (fun T => T.ins 32 (fl [])) |>
 (fun T => T.ins 33 ⟨(.type "code"), none, (.fields #[(vs "NoFraction" 209), (vs "NoFraction" 210), (vs "/claim/cut.py" 211), (.int 4 0), (.int 0 0), (.int 0 0), (.int 0 0), (.int 0 0), (.ref 31), (.bool false), (.int 181 0), (.ref 32), .none, .none, .none, .none, (.int 212 0), (.int 4 0), (vs "/claim/cut.py" 213)]), #[]⟩) |>
 (fun T => T.ins 34 ⟨(.type "frame"), none, .plain, #[(some (.ref 33)), (some (.ref 3)), (some (.ref 30)), none, (some (vs "creasecurve.errors" 187)), none, (some (.ref 0))]⟩) |>
 (fun T => T.ins 35 (tu [])) |>
 (fun T => T.ins 36 ⟨(.type "dict"), none, (.dict #[en P "__module__" 214 (vs "creasecurve.errors" 187), en P "__firstlineno__" 218 (.int 4 217), en P "__static_attributes__" 219 (.ref 35), en P "__doc__" 220 .none] 2), #[]⟩) |>
 (fun T => T.ins 37 ⟨(.type "type"), none, (.cls ⟨"NoFraction", [(.ref 24)], [(.ref 37), (.ref 24), (.type "ValueError"), (.type "Exception"), (.type "BaseException"), (.type "object")], 36, "NoFraction", true, [], [], false, none, false⟩), #[(some (.ref 28)), none, (some (vs "NoFraction" 207)), (some (vs "NoFraction" 215)), (some (.builtin "ValueError.__new__")), (some (.bool true))]⟩) |>
 (fun T => T.ins 38 ⟨(.type "super"), none, (.fields #[(.ref 37), (.ref 37), (.ref 37)]), #[]⟩) |>
 (fun T => T.ins 39 ⟨(.type "builtin_function_or_method"), none, (.fields #[(.builtin "object.__init_subclass__"), (.ref 37)]), #[]⟩) |>
 (fun T => T.set 3 (rE 0 (vs "creasecurve.fractions" 223))) |>
 (d7 P 4 "greatest_divisor" (vs "creasecurve.fractions" 223) 7 2 ["a", "b", "larger", "smaller", "rest"] 40 225 233) |>
 (d7 P 5 "fraction" (vs "creasecurve.fractions" 223) 15 2 ["top", "bottom", "divisor"] 47 236 242) |>
 (d7 P 6 "minus" (vs "creasecurve.fractions" 223) 22 2 ["a", "b"] 54 245 250) |>
 (d7 P 7 "times" (vs "creasecurve.fractions" 223) 24 2 ["a", "b"] 61 253 258) |>
 (d7 P 8 "over" (vs "creasecurve.fractions" 223) 26 2 ["a", "b"] 68 261 266)
noncomputable def g1 : List Stmt := [top 2, top 3, top 4, top 5, top 6, top 7, top 8]
theorem hg1 (w : World) : (fun os => segRunT treeTable pr w 11 (some (.ref 6)) 1 377 (sT t1 28 207 w os) (piecesOf g1 aIn cE ⟨2, 0, 3, 8⟩ B)) = (fun os => some (.next, sT t2 75 269 w os, cE, ⟨26, 0, 27, 45⟩)) := by
 rw [PySem.W.Fast.te10110043849684766642, PySem.W.Fast.te14364793385576792824]
 kernel_rfl
noncomputable def t3 (P : Params) : BT :=
 (t2 P) |>
 (d7 P 9 "common_bottom" (vs "creasecurve.fractions" 223) 28 1 ["numbers", "common", "number"] 75 269 275) |>
 (d7 P 10 "whole" (vs "creasecurve.fractions" 223) 33 2 ["number", "factor"] 82 278 283) |>
 (fun T => T.set 3 (rE 0 (vs "creasecurve.hulls" 286))) |>
 (d7 P 12 "turn" (vs "creasecurve.hulls" 286) 36 3 ["start", "middle", "end", "along", "across"] 89 288 296) |>
 (d7 P 13 "chain" (vs "creasecurve.hulls" 286) 40 1 ["points", "kept", "point"] 96 299 305) |>
 (fun T => T.set 3 (rE 0 (vs "creasecurve.lines" 308))) |>
 (d5 P 15 "line_thinned" (vs "creasecurve.lines" 308) 48 1 103 310 313) |>
 (fun T => T.set 3 (rE 0 (vs "creasecurve.bends" 316))) |>
 (d7 P 17 "bend_between" (vs "creasecurve.bends" 316) 54 2 ["row", "following", "weight"] 108 318 324) |>
 (d5 P 18 "bends" (vs "creasecurve.bends" 316) 57 1 115 327 330) |>
 (d7 P 19 "weights_by_place" (vs "creasecurve.bends" 316) 61 1 ["rows", "weights", "place", "weight"] 120 333 340) |>
 (fun T => T.set 3 (pE (en P "rising" 350 (.ref 133)))) |>
 (fun T => T.set 12 (pF [(.int 66 0), (.int 0 0), (.ref 132)])) |>
 (fun T => T.ins 127 (tu [])) |>
 (fun T => T.ins 128 (fl [])) |>
 (fun T => T.ins 129 (tu [(vs "numbers" 346)])) |>
 (fun T => T.ins 130 (tu [(vs "factor" 347)])) |>
 (fun T => T.ins 131 ⟨.none, none, (.func (fd "rising" "rising" (gQ (top 20)) (.stmts (eJ (top 20))) (aJ (top 20)) 0 [] .none .none .none .none none .none .none 0)), #[]⟩) |>
 (fun T => T.ins 132 ⟨(.type "code"), none, (.fields #[(vs "rising" 343), (vs "rising" 344), (vs "/claim/cut.py" 345), (.int 66 0), (.int 1 0), (.int 0 0), (.int 0 0), (.int 3 0), (.ref 127), (.bool true), (.int 181 0), (.ref 128), .none, (.ref 129), (.ref 130), (.ref 131), (.int 348 0), (.int 66 0), (vs "/claim/cut.py" 349)]), #[]⟩) |>
 (fun T => T.ins 133 ⟨(.type "function"), none, (.func (fd "rising" "rising" (gQ (top 20)) (.stmts (eJ (top 20))) (aJ (top 20)) 3 [] .none .none .none (vs "creasecurve.bends" 316) none (.ref 132) .none 0)), #[]⟩) |>
 (d7 P 21 "unbent" (vs "creasecurve.bends" 316) 69 3 ["slope", "height", "rows", "weights", "line", "place", "weight", "before"] 134 351 362) |>
 (fun T => T.set 3 (rE 0 (vs "law_creasecurve_k16_bends_told" 365))) |>
 (d7 P 23 "_law_whole" (vs "law_creasecurve_k16_bends_told" 365) 78 1 ["_law_found"] 141 367 371)
noncomputable def g2 : List Stmt := [top 9, top 10, top 11, top 12, top 13, top 14, top 15, top 16, top 17, top 18, top 19, top 20, top 21, top 22, top 23]
theorem hg2 (w : World) : (fun os => segRunT treeTable pr w 11 (some (.ref 6)) 1 372 (sT t2 75 269 w os) (piecesOf g2 aIn cE ⟨26, 0, 27, 45⟩ B)) = (fun os => some (.next, sT t3 148 374 w os, cE, ⟨78, 0, 79, 77⟩)) := by
 rw [PySem.W.Fast.te10110043849684766642, PySem.W.Fast.te14364793385576792824]
 kernel_rfl
noncomputable def t4 (P : Params) : BT :=
 (t3 P) |>
 (d7 P 24 "_law_cell_at" (vs "law_creasecurve_k16_bends_told" 365) 80 2 ["_law_script", "_law_k"] 148 374 379) |>
 (d7 P 25 "_law_mix" (vs "law_creasecurve_k16_bends_told" 365) 84 2 ["_law_cell", "_law_k", "_law_blend"] 155 382 388) |>
 (d7 P 26 "_law_lowest" (vs "law_creasecurve_k16_bends_told" 365) 87 2 ["_law_top", "_law_bottom", "_law_one", "_law_other", "_law_rest"] 162 391 399) |>
 (d7 P 27 "_law_sum" (vs "law_creasecurve_k16_bends_told" 365) 97 2 ["_law_a", "_law_b"] 169 402 407) |>
 (d7 P 28 "_law_product" (vs "law_creasecurve_k16_bends_told" 365) 99 2 ["_law_a", "_law_b"] 176 410 415) |>
 (d7 P 29 "_law_before" (vs "law_creasecurve_k16_bends_told" 365) 101 2 ["_law_a", "_law_b"] 183 418 423) |>
 (d7 P 30 "_law_is_fraction" (vs "law_creasecurve_k16_bends_told" 365) 103 1 ["_law_found"] 190 426 430) |>
 (d7 P 31 "_law_number" (vs "law_creasecurve_k16_bends_told" 365) 107 2 ["_law_cell", "_law_k", "_law_way"] 197 433 439) |>
 (d7 P 32 "_law_rows" (vs "law_creasecurve_k16_bends_told" 365) 114 1 ["_law_cells", "_law_rows_here", "_law_k", "_law_number_here", "_law_cell", "_law_slope"] 204 442 451) |>
 (d5 P 33 "_law_line" (vs "law_creasecurve_k16_bends_told" 365) 123 1 211 454 457) |>
 (d7 P 34 "_law_value" (vs "law_creasecurve_k16_bends_told" 365) 129 2 ["_law_row", "_law_t"] 216 460 465) |>
 (d7 P 35 "_law_highest" (vs "law_creasecurve_k16_bends_told" 365) 131 2 ["_law_line_here", "_law_t", "_law_found", "_law_row", "_law_here"] 223 468 476) |>
 (d7 P 36 "_law_is_line" (vs "law_creasecurve_k16_bends_told" 365) 138 2 ["_law_found", "_law_due", "_law_row"] 230 479 485)
noncomputable def g3 : List Stmt := [top 24, top 25, top 26, top 27, top 28, top 29, top 30, top 31, top 32, top 33, top 34, top 35, top 36]
theorem hg3 (w : World) : (fun os => segRunT treeTable pr w 11 (some (.ref 6)) 1 399 (sT t3 148 374 w os) (piecesOf g3 aIn cE ⟨78, 0, 79, 77⟩ B)) = (fun os => some (.next, sT t4 237 488 w os, cE, ⟨138, 0, 144, 15⟩)) := by
 rw [PySem.W.Fast.te10110043849684766642, PySem.W.Fast.te14364793385576792824]
 kernel_rfl
noncomputable def t5 (P : Params) : BT :=
 (t4 P) |>
 (d7 P 37 "_law_place" (vs "law_creasecurve_k16_bends_told" 365) 145 2 ["_law_one", "_law_other", "_law_a", "_law_b"] 237 488 495) |>
 (d7 P 38 "_law_thin" (vs "law_creasecurve_k16_bends_told" 365) 149 1 ["_law_line_here", "_law_kept", "_law_row"] 244 498 504) |>
 (d7 P 39 "_law_bends" (vs "law_creasecurve_k16_bends_told" 365) 156 1 ["_law_line_here", "_law_found", "_law_k"] 251 507 513) |>
 (d7 P 40 "_law_joined" (vs "law_creasecurve_k16_bends_told" 365) 161 1 ["_law_rows_here", "_law_found", "_law_place_here", "_law_weight", "_law_at"] 258 516 524) |>
 (d7 P 41 "_law_unbent" (vs "law_creasecurve_k16_bends_told" 365) 172 3 ["_law_slope", "_law_height", "_law_rows_here", "_law_found", "_law_place_here", "_law_weight"] 265 527 536) |>
 (d7 P 42 "_law_is_bends" (vs "law_creasecurve_k16_bends_told" 365) 179 2 ["_law_found", "_law_due", "_law_one"] 272 539 545) |>
 (d7 P 43 "_law_added_up" (vs "law_creasecurve_k16_bends_told" 365) 188 2 ["_law_told", "_law_t", "_law_total", "_law_place_here", "_law_weight"] 279 548 556) |>
 (d5 P 44 "law" (vs "law_creasecurve_k16_bends_told" 365) 194 1 286 559 562)
noncomputable def g4 : List Stmt := [top 37, top 38, top 39, top 40, top 41, top 42, top 43, top 44]
theorem hg4 (w : World) : (fun os => segRunT treeTable pr w 11 (some (.ref 6)) 1 252 (sT t4 237 488 w os) (piecesOf g4 aIn cE ⟨138, 0, 144, 15⟩ B)) = (fun os => some (.next, sT t5 291 565 w os, cE, ⟨194, 0, 210, 54⟩)) := by
 rw [PySem.W.Fast.te10110043849684766642, PySem.W.Fast.te14364793385576792824]
 kernel_rfl
noncomputable def hF (P : Params) : Heap := absHeap (t5 P) 291 {}
theorem aPl (w : World) : (fun os => topRun treeTable pr w 11 (some (.ref 6)) 2 (sT t5 291 565 w os).abs ⟨doneF .next, cE, ⟨194, 0, 210, 54⟩, B⟩) = (fun os => some ((⟨hF w.params, ⟨[]⟩, boot_drawn, 565, os⟩ : Shared))) := by
 rw [PySem.W.Fast.te14082659384304107361, PySem.W.Fast.te14364793385576792824]
 kernel_rfl
theorem hb : behindTheImports pr = g0 ++ (g1 ++ (g2 ++ (g3 ++ (g4 ++ [])))) := by kernel_rfl
theorem aQn (w : World) (os : OsState) : topRun treeTable pr w 11 (some (.ref 6)) (12 + (1 + (196 + (377 + (372 + (399 + (252 + (2)))))))) ⟨boot_heap w.params, ⟨[]⟩, boot_drawn, boot_toks, os⟩ (topStub pr) = some ⟨hF w.params, ⟨[]⟩, boot_drawn, 565, os⟩ := go_top (congrFun (aKw w) os) (piece_block (congrFun (aL9 w) os) (by
 rw [hb]
 exact piece_app (segRun_of (congrFun (hg0 w) os)) (piece_app (segRun_of (congrFun (hg1 w) os)) (piece_app (segRun_of (congrFun (hg2 w) os)) (piece_app (segRun_of (congrFun (hg3 w) os)) (piece_app (segRun_of (congrFun (hg4 w) os)) (piece_nil (congrFun (aPl w) os))))))))
noncomputable def qv : Program := { pr with main := { pr.main with body := [top 1, top 2, top 4, top 5, top 6, top 7, top 8, top 9, top 10, top 12, top 13, top 15, top 17, top 18, top 19, top 20, top 21, top 23, top 24, top 25, top 26, top 27, top 28, top 29, top 30, top 31, top 32, top 33, top 34, top 35, top 36, top 37, top 38, top 39, top 40, top 41, top 42, top 43, top 44] } }
noncomputable def ks : List Nat := [3, 20, 23, 24, 33, 36, 37, 45, 46, 52, 53, 59, 60, 66, 67, 73, 74, 80, 81, 87, 88, 94, 95, 101, 102, 106, 107, 113, 114, 118, 119, 125, 126, 132, 133, 139, 140, 146, 147, 153, 154, 160, 161, 167, 168, 174, 175, 181, 182, 188, 189, 195, 196, 202, 203, 209, 210, 214, 215, 221, 222, 228, 229, 235, 236, 242, 243, 249, 250, 256, 257, 263, 264, 270, 271, 277, 278, 284, 285, 289, 290]
noncomputable def K (P : Params) : Frag := ks.map fun a => (a, ((t5 P).get a).getD default)
theorem ksE (P : Params) : ks = (K P).map (·.1) := by kernel_rfl
noncomputable abbrev hk : Hook := kmHook K ks ksE [128]
noncomputable abbrev xt : Shared -> Bool := fun s => xlAt qv [] s && recOk [] s
theorem aOm (w : World) : ((boot_heap w.params).isNs mainGlobals && (⟨[]⟩ : Array GenState).size == 0, (boot_heap w.params).objs.size, (boot_heap w.params).nsMap mainGlobals "__annotations__") = (true, 11, (some (.ref 6))) := by kernel_rfl
theorem aOo (w : World) : (fun os : OsState => (staticsOk (importedModules pr.main.body) (boot_heap w.params) (hF w.params) && namesBound pr (hF w.params) && gensDone ⟨hF w.params, ⟨[]⟩, boot_drawn, 565, os⟩ && laidKept (boot_heap w.params) (hF w.params))) = fun _ => true := by
 rw [PySem.W.Fast.te5923862056798008813]
 kernel_rfl
theorem aPi (w : World) : (fun os : OsState => openSeen qv [] (importedModules pr.main.body) xt true ⟨hF w.params, ⟨[]⟩, boot_drawn, 565, os⟩) = fun _ => openGood qv [] := by
 rw [PySem.W.Fast.te4187177175401517315, PySem.W.Fast.te5923862056798008813]
 kernel_rfl
theorem aPb (w : World) : (fun os : OsState => hk.obs ⟨hF w.params, ⟨[]⟩, boot_drawn, 565, os⟩) = fun _ => hk.val w := by kernel_rfl
theorem left : LeftO pr qv [] xt hk.obs hk.val 3308 := LeftO.of_pieces (boot_open (by kernel_rfl) (by decide) (fun _ => by kernel_rfl)) aOm aQn (by decide) fun w => funext fun os => looks_pair (congrFun (aOo w) os) (looks_pair (congrFun (aPi w) os) (congrFun (aPb w) os))
theorem h1 (w : World) : FnAt (K w.params) "greatest_divisor" cX 46 (vs "creasecurve.fractions" 223) 45 := by constructor <;> kernel_rfl
theorem h2 (w : World) : FnAt (K w.params) "fraction" jJ 53 (vs "creasecurve.fractions" 223) 52 := by constructor <;> kernel_rfl
theorem h3 (w : World) : FnAt (K w.params) "minus" qH 60 (vs "creasecurve.fractions" 223) 59 := by constructor <;> kernel_rfl
theorem h4 (w : World) : FnAt (K w.params) "times" p7 67 (vs "creasecurve.fractions" 223) 66 := by constructor <;> kernel_rfl
theorem h5 (w : World) : FnAt (K w.params) "over" wM 74 (vs "creasecurve.fractions" 223) 73 := by constructor <;> kernel_rfl
theorem h6 (w : World) : FnAt (K w.params) "common_bottom" eC 81 (vs "creasecurve.fractions" 223) 80 := by constructor <;> kernel_rfl
theorem h7 (w : World) : FnAt (K w.params) "whole" qL 88 (vs "creasecurve.fractions" 223) 87 := by constructor <;> kernel_rfl
theorem h8 (w : World) : FnAt (K w.params) "turn" v9 95 (vs "creasecurve.hulls" 286) 94 := by constructor <;> kernel_rfl
theorem h9 (w : World) : FnAt (K w.params) "chain" q0 102 (vs "creasecurve.hulls" 286) 101 := by constructor <;> kernel_rfl
theorem h10 (w : World) : FnAt (K w.params) "line_thinned" eW 107 (vs "creasecurve.lines" 308) 106 := by constructor <;> kernel_rfl
theorem h11 (w : World) : FnAt (K w.params) "bend_between" eV 114 (vs "creasecurve.bends" 316) 113 := by constructor <;> kernel_rfl
theorem h12 (w : World) : FnAt (K w.params) "bends" p6 119 (vs "creasecurve.bends" 316) 118 := by constructor <;> kernel_rfl
theorem h13 (w : World) : FnAt (K w.params) "weights_by_place" cV 126 (vs "creasecurve.bends" 316) 125 := by constructor <;> kernel_rfl
theorem h14 (w : World) : FnAt (K w.params) "rising" mL 133 (vs "creasecurve.bends" 316) 132 := by constructor <;> kernel_rfl
theorem h15 (w : World) : FnAt (K w.params) "unbent" mO 140 (vs "creasecurve.bends" 316) 139 := by constructor <;> kernel_rfl
theorem h16 (w : World) : FnAt (K w.params) "_law_whole" fZ 147 (vs "law_creasecurve_k16_bends_told" 365) 146 := by constructor <;> kernel_rfl
theorem h17 (w : World) : FnAt (K w.params) "_law_cell_at" e8 154 (vs "law_creasecurve_k16_bends_told" 365) 153 := by constructor <;> kernel_rfl
theorem h18 (w : World) : FnAt (K w.params) "_law_mix" jI 161 (vs "law_creasecurve_k16_bends_told" 365) 160 := by constructor <;> kernel_rfl
theorem h19 (w : World) : FnAt (K w.params) "_law_lowest" fI 168 (vs "law_creasecurve_k16_bends_told" 365) 167 := by constructor <;> kernel_rfl
theorem h20 (w : World) : FnAt (K w.params) "_law_sum" jM 175 (vs "law_creasecurve_k16_bends_told" 365) 174 := by constructor <;> kernel_rfl
theorem h21 (w : World) : FnAt (K w.params) "_law_product" eZ 182 (vs "law_creasecurve_k16_bends_told" 365) 181 := by constructor <;> kernel_rfl
theorem h22 (w : World) : FnAt (K w.params) "_law_before" fJ 189 (vs "law_creasecurve_k16_bends_told" 365) 188 := by constructor <;> kernel_rfl
theorem h23 (w : World) : FnAt (K w.params) "_law_is_fraction" cU 196 (vs "law_creasecurve_k16_bends_told" 365) 195 := by constructor <;> kernel_rfl
theorem h24 (w : World) : FnAt (K w.params) "_law_number" fH 203 (vs "law_creasecurve_k16_bends_told" 365) 202 := by constructor <;> kernel_rfl
theorem h25 (w : World) : FnAt (K w.params) "_law_rows" iD 210 (vs "law_creasecurve_k16_bends_told" 365) 209 := by constructor <;> kernel_rfl
theorem h26 (w : World) : FnAt (K w.params) "_law_line" iH 215 (vs "law_creasecurve_k16_bends_told" 365) 214 := by constructor <;> kernel_rfl
theorem h27 (w : World) : FnAt (K w.params) "_law_value" gB 222 (vs "law_creasecurve_k16_bends_told" 365) 221 := by constructor <;> kernel_rfl
theorem h28 (w : World) : FnAt (K w.params) "_law_highest" eY 229 (vs "law_creasecurve_k16_bends_told" 365) 228 := by constructor <;> kernel_rfl
theorem h29 (w : World) : FnAt (K w.params) "_law_is_line" eT 236 (vs "law_creasecurve_k16_bends_told" 365) 235 := by constructor <;> kernel_rfl
theorem h30 (w : World) : FnAt (K w.params) "_law_place" gC 243 (vs "law_creasecurve_k16_bends_told" 365) 242 := by constructor <;> kernel_rfl
theorem h31 (w : World) : FnAt (K w.params) "_law_thin" iG 250 (vs "law_creasecurve_k16_bends_told" 365) 249 := by constructor <;> kernel_rfl
theorem h32 (w : World) : FnAt (K w.params) "_law_bends" gE 257 (vs "law_creasecurve_k16_bends_told" 365) 256 := by constructor <;> kernel_rfl
theorem h33 (w : World) : FnAt (K w.params) "_law_is_bends" eF 278 (vs "law_creasecurve_k16_bends_told" 365) 277 := by constructor <;> kernel_rfl
theorem h34 (w : World) : FnAt (K w.params) "_law_added_up" eM 285 (vs "law_creasecurve_k16_bends_told" 365) 284 := by constructor <;> kernel_rfl
theorem h35 (w : World) : FnAt (K w.params) "law" rX 290 (vs "law_creasecurve_k16_bends_told" 365) 289 := by constructor <;> kernel_rfl
end Hd
open PySem PySem.W PyProof.Rows
theorem Hd.said : PySem.Challenge.rw_creasecurve_k16_bends_told.wellSaid = true := by kernel_rfl
set_option maxRecDepth 100000 in
set_option maxHeartbeats 0 in
theorem PySem.Challenge.cw_creasecurve_k16_bends_told_holds : PySem.Challenge.rw_creasecurve_k16_bends_told.Holds := by
 refine holds_law Hd.said fun said => ?_
 refine holds_open (q := Hd.qv) (Xt := Hd.xt) (XP := XL Hd.qv []) (YP := Hd.hk.says) (N := 3308) Hd.left Hd.hk.of Hd.hk.keeps (fun s e => xl_of s (Bool.and_eq_true_iff.mp e).1) XL.keeps (by rfl) (by rfl) (by rfl) (fun s e => recFacts_of (Bool.and_eq_true_iff.mp e).2) (by rfl) said (by decide +kernel) ⟨rfl, rfl, rfl, rfl, rfl, by decide +kernel⟩ ?hw ?hc
 case hw => w_witness2
 refine My.walk (l := PySem.Challenge.rw_creasecurve_k16_bends_told) rfl rfl (fun w h Y => ⟨PySem.W.km_in_of Y, PySem.W.km_tabs_of Y⟩) (fun w => by kernel_rfl) (fun w => by kernel_rfl) ?F
 case F =>
  intro w mg fa h KX G hmg
  exact My.all_mk (T14 := 128) (CRoofError := 24) (CNoFraction := 37) KX G hmg (Hd.h1 w) (Hd.h2 w) (Hd.h3 w) (Hd.h4 w) (Hd.h5 w) (Hd.h6 w) (Hd.h7 w) (Hd.h8 w) (Hd.h9 w) (Hd.h10 w) (Hd.h11 w) (Hd.h12 w) (Hd.h13 w) (Hd.h14 w) (Hd.h15 w) (Hd.h16 w) (Hd.h17 w) (Hd.h18 w) (Hd.h19 w) (Hd.h20 w) (Hd.h21 w) (Hd.h22 w) (Hd.h23 w) (Hd.h24 w) (Hd.h25 w) (Hd.h26 w) (Hd.h27 w) (Hd.h28 w) (Hd.h29 w) (Hd.h30 w) (Hd.h31 w) (Hd.h32 w) (Hd.h33 w) (Hd.h34 w) (Hd.h35 w) (by kernel_rfl) (by kernel_rfl) (by kernel_rfl) (by kernel_rfl) (by kernel_rfl) (by kernel_rfl) (by kernel_rfl) (by kernel_rfl) (by kernel_rfl) (by kernel_rfl) (by kernel_rfl) (by kernel_rfl) (by kernel_rfl) (by kernel_rfl) (by kernel_rfl) (by kernel_rfl) (by kernel_rfl) (by kernel_rfl) (by kernel_rfl) (by kernel_rfl)

import PyProof.Rows.All
import Wide.All
import OpenK.AllK
import Wide.FinOn
import Lean
import PyProof.EqAt
import PyProof.EqKinds
import PyProof.TupleCall
import PySem.Challenge.RW_creasecurve_k27_fields_at_points
set_option Elab.async false
set_option linter.all false
set_option maxRecDepth 100000
namespace L2
open PySem PySem.Spec PyProof.Rows
abbrev Key := Sum Int Str
def yH : Key -> Value -> Bool
 | .inl k, v => Value.isInt k v
 | .inr x, v => Value.isStrOf x v
def aN6 (w : World) : Key -> Int
 | .inl k => hashInt k
 | .inr x => hashStr w x
theorem dI : ∀ {k : Key} {v : Value}, yH k v = true -> (∃ i t, k = Sum.inl i /\ v = Value.int i t) \/ (∃ x t, k = Sum.inr x /\ v = Value.str x t)
 | .inl i, v, h => by
  obtain ⟨t, e⟩ := Value.isInt_shape (k := i) (v := v) h
  exact .inl ⟨i, t, rfl, e⟩
 | .inr x, v, h => by
  obtain ⟨t, e⟩ := Value.isStrOf_shape (x := x) (v := v) h
  exact .inr ⟨x, t, rfl, e⟩
theorem aB7 (i : Int) (t : Tok) : yH (.inl i) (.int i t) = true := by simp [yH, Value.isInt]
theorem aAb (x : Str) (t : Tok) : yH (.inr x) (.str x t) = true := by simp [yH, Value.isStrOf]
theorem aKf (a b : Int) : decide ((Sum.inl a : Key) = Sum.inl b) = (a == b) := by
 by_cases e : a = b
 ·subst e; simp
 ·have h : ¬ (Sum.inl a : Key) = Sum.inl b := fun q => e (Sum.inl.inj q)
  rw [decide_eq_false h]
  exact (beq_eq_false_iff_ne.mpr e).symm
theorem aKm (a b : Str) : decide ((Sum.inr a : Key) = Sum.inr b) = decide (a = b) := by
 by_cases e : a = b
 ·subst e; simp
 ·have h : ¬ (Sum.inr a : Key) = Sum.inr b := fun q => e (Sum.inr.inj q)
  rw [decide_eq_false h, decide_eq_false e]
theorem aLw (a : Int) (b : Str) : decide ((Sum.inl a : Key) = Sum.inr b) = false := decide_eq_false (fun q => nomatch q)
theorem aKe (a : Str) (b : Int) : decide ((Sum.inr a : Key) = Sum.inl b) = false := decide_eq_false (fun q => nomatch q)
def fB (prog : Program) (w : World) : PySem.KeyKind prog w Key where
 is := yH
 hash := aN6 w
 inj := fun v a b ha hb => by
  rcases dI ha with ⟨i, t, rfl, rfl⟩ | ⟨x, t, rfl, rfl⟩
  ·rcases dI hb with ⟨j, u, rfl, e⟩ | ⟨y, u, rfl, e⟩
   ·injection e with e1 _; rw [e1]
   ·exact nomatch e
  ·rcases dI hb with ⟨j, u, rfl, e⟩ | ⟨y, u, rfl, e⟩
   ·exact nomatch e
   ·injection e with e1 _; rw [e1]
 byValue := fun k v h => by
  rcases dI h with ⟨i, t, rfl, rfl⟩ | ⟨x, t, rfl, rfl⟩ <;> rfl
 pyHash := fun hv h => by
  rcases dI hv with ⟨i, t, rfl, rfl⟩ | ⟨x, t, rfl, rfl⟩
  ·exact wpAny_pyHash_int h
  ·exact wpAny_pyHash_str h
 eqBool := fun hu hv h => by
  rcases dI hu with ⟨i, t, rfl, rfl⟩ | ⟨x, t, rfl, rfl⟩
  ·rcases dI hv with ⟨j, u, rfl, rfl⟩ | ⟨y, u, rfl, rfl⟩
   ·rw [aKf] at h; exact wpAny_eqBool_int h
   ·rw [aLw] at h; exact SeqAt.EqAt.int_str i t y u _ _ _ _ h
  ·rcases dI hv with ⟨j, u, rfl, rfl⟩ | ⟨y, u, rfl, rfl⟩
   ·rw [aKe] at h; exact SeqAt.EqAt.str_int x t j u _ _ _ _ h
   ·rw [aKm] at h; exact wpAny_eqBool_str h
 «strs» := fun k x t v h => by
  rcases dI h with ⟨i, u, rfl, e⟩ | ⟨y, u, rfl, e⟩
  ·exact nomatch e
  ·injection e with e1 _
   subst e1
   cases v <;> rfl
theorem uH (prog : Program) (w : World) (i : Int) (t : Tok) : (fB prog w).is (.inl i) (.int i t) = true := aB7 i t
theorem t4 (prog : Program) (w : World) (x : Str) (t : Tok) : (fB prog w).is (.inr x) (.str x t) = true := aAb x t
inductive V where
 | non | bl (b : Bool) | int (i : Int) | str (x : Str) | byt (b : Array UInt8) | flt (b : UInt64) | ref (a : Addr) | ty (n : String)
 deriving DecidableEq
def RelV : V -> Value -> Prop
 | .non, u => u = Value.none
 | .bl b, u => u = Value.bool b
 | .int i, u => ∃ t, u = Value.int i t
 | .str x, u => ∃ t, u = Value.str x t
 | .byt b, u => ∃ t, u = Value.bytes b t
 | .flt b, u => ∃ t, u = Value.float b t
 | .ref a, u => u = Value.ref a
 | .ty n, u => u = Value.type n
abbrev Vals : List V -> List Value -> Prop := Paired RelV
theorem Vals.length {xs : List V} {us : List Value} (r : Vals xs us) : xs.length = us.length := Paired.length r
theorem Vals.get : ∀ {xs : List V} {us : List Value} {i : Nat} {x : V}, Vals xs us -> xs[i]? = some x -> ∃ u, us[i]? = some u /\ RelV x u
 | _, _, _, _, .nil, e => by simp at e
 | _, _, 0, _, .cons r _, e => by simp at e; subst e; exact ⟨_, rfl, r⟩
 | _, _, i + 1, x, .cons _ t, e => by
  obtain ⟨u, h1, h2⟩ := Vals.get (i := i) (x := x) t (by simpa using e)
  exact ⟨u, by simpa using h1, h2⟩
theorem Vals.append : ∀ {xs ys : List V} {us ws : List Value}, Vals xs us -> Vals ys ws -> Vals (xs ++ ys) (us ++ ws)
 | _, _, _, _, .nil, s => s
 | _, _, _, _, .cons r t, s => .cons r (Vals.append t s)
theorem Vals.take : ∀ {xs : List V} {us : List Value} (n : Nat), Vals xs us -> Vals (xs.take n) (us.take n)
 | _, _, 0, _ => .nil
 | _, _, _ + 1, .nil => .nil
 | _, _, n + 1, .cons r t => .cons r (Vals.take n t)
theorem Vals.drop : ∀ {xs : List V} {us : List Value} (n : Nat), Vals xs us -> Vals (xs.drop n) (us.drop n)
 | _, _, 0, r => r
 | _, _, _ + 1, .nil => .nil
 | _, _, n + 1, .cons _ t => Vals.drop n t
def RelO : Option V -> Option Value -> Prop
 | some v, some u => RelV v u
 | none, none => True
 | _, _ => False
def KV {κ : Type} : List (κ × V) -> List (κ × Value) -> Prop := Paired fun (p : κ × V) (q : κ × Value) => p.1 = q.1 /\ RelV p.2 q.2
def kV : Key -> V
 | .inl i => .int i
 | .inr x => .str x
inductive HO where
 /-- a list -/
 | lst (xs : List V)
 /-- a tuple (never changes) -/
 | tup (xs : List V)
 /-- a dict whose keys are ints and texts; one whose keys are tuples of ints and texts (the empty one is both) -/
 | dK (kvs : List (Key × V)) | dT (kvs : List (List Key × V))
 /-- a set of ints: its members, its size -/
 | set (S : Int -> Bool) (n : Nat)
 /-- an instance of the class at C, its dict at dx, its attributes -/
 | ins (C dx : Addr) (fs : List (Str × V))
 /-- the dict of the instance at x -/
 | own (x : Addr)
 /-- the dict of an exception -/
 | xd (fs : List (Str × V))
 /-- a bound method, f of x -/
 | met (f x : Addr)
 /-- a range object lo, lo + 1, .. below hi -/
 | rng (lo hi : Int)
 /-- a thing that is known to the object (the script; a dict while a loop walks it): read, never written while it is so -/
 | frz (o : Obj) (u : HO)
 /-- a code object's table -/
 | tbl (ps : Array Value)
 /-- any other thing, by what is true of its one object (a def of one's own: SetO a S n := HO.ext fun h => ..) -/
 | ext (φ : Heap -> Prop)
abbrev Hp := Addr -> Option HO
def upd (H : Hp) (a : Addr) (o : HO) : Hp := fun b => if b = a then some o else H b
theorem bQ {H : Hp} {a : Addr} {o : HO} : upd H a o a = some o := by unfold upd; rw [if_pos rfl]
theorem bJ {H : Hp} {a b : Addr} {o : HO} (h : b ≠ a) : upd H a o b = H b := by unfold upd; rw [if_neg h]
theorem aNu {H : Hp} {a b : Addr} {o u : HO} (h : H a = some o) (h' : H b = some u) (d : o ≠ u) : a ≠ b := by
 intro e; subst e; rw [h] at h'; exact d (Option.some.inj h')
theorem dC {H : Hp} {a b : Addr} {o : HO} (h : H a = some o) (h' : H b = none) : a ≠ b := by
 intro e; subst e; rw [h] at h'; cases h'
section
variable (P : Program) (w : World)
def ObjOk (H : Hp) (h : Heap) (a : Addr) : HO -> Prop
 | .lst xs => xs.length <= sizeLine /\ ∃ (its : List Value) (n : Nat), Vals xs its /\ h.get? a = some { cls := .type "list", data := .seq its.toArray n }
 | .tup xs => xs.length <= sizeLine /\ ∃ its : List Value, Vals xs its /\ IsTup h a its.toArray
 | .dK kvs => kvs.length <= sizeLine /\ (a == sysModules) = false /\ ∃ vs, KV kvs vs /\ h.DictOf (fB P w) a vs
 | .dT kvs => kvs.length <= sizeLine /\ (a == sysModules) = false /\ ∃ xs : List (List Key × Addr × Value),
   Paired (fun (p : List Key × V) (q : List Key × Addr × Value) => p.1 = q.1 /\ H q.2.1 = some (.tup (p.1.map kV)) /\ RelV p.2 q.2.2) kvs xs /\
   ∃ o es ep, h.get? a = some o /\ o.ExactDict /\ o.data = .dict es ep /\ es.toList = xs.map (entryOfKey (tupleKind (fB P w))) /\ (xs.map (·.1)).Nodup
 | .set S n => h.SetOf (intKind P w) a S n
 | .ins C dx fs => H dx = some (.own a) /\ fs.length <= 1000 /\ dx ≠ a /\ h.get? a = some (PySem.W.instObj C dx) /\
   ∃ mA, h.Ns1 dx mA /\ (∀ f, RelO (fs.lookup f) (mA f)) /\ PySem.Within mA (fs.map (·.1))
 | .own _ => ∃ o, h.get? a = some o
 | .xd fs => ∃ mA, h.Ns1 a mA /\ ∀ f, RelO (fs.lookup f) (mA f)
 | .rng lo hi => ∃ t u v, h.get? a = some { cls := .type "range", data := .fields #[.int lo t, .int hi u, .int 1 v] }
 | .frz o u => h.get? a = some o /\ ObjOk H h a u
 | .tbl ps => h.get? a = some { cls := .none, data := .fields ps }
 | .met f x => h.get? a = some (PySem.W.methodObj (.ref f) (.ref x))
 | .ext φ => φ h /\ (∃ o, h.get? a = some o) /\ ∀ h1 h2 : Heap, φ h1 -> (∀ o, h1.get? a = some o -> h2.get? a = some o) -> φ h2
def HOk (H : Hp) (h : Heap) : Prop := ∀ a o, H a = some o -> ObjOk P w H h a o
end
section
variable {P : Program} {w : World} {H H' : Hp} {h h' : Heap} {a : Addr} {o : HO}
theorem ObjOk.lt (x : ObjOk P w H h a o) : a < h.objs.size := by
 cases o with
 | lst xs => obtain ⟨_, _, _, _, e⟩ := x; exact Heap.lt_size e
 | tup xs => obtain ⟨_, _, _, p⟩ := x; exact p.lt
 | dK kvs => obtain ⟨_, _, _, _, o, _, _, e, _⟩ := x; exact Heap.lt_size e
 | dT kvs => obtain ⟨_, _, _, _, o, _, _, e, _⟩ := x; exact Heap.lt_size e
 | set S n => obtain ⟨o, _, _, _, e, _⟩ := x; exact Heap.lt_size e
 | ins C dx fs => obtain ⟨_, _, _, e, _⟩ := x; exact Heap.lt_size e
 | own y => obtain ⟨_, e⟩ := x; exact Heap.lt_size e
 | xd fs => obtain ⟨_, ⟨_, _, _, e, _⟩, _⟩ := x; exact Heap.lt_size e
 | rng lo hi => obtain ⟨_, _, _, e⟩ := x; exact Heap.lt_size e
 | frz ob u => obtain ⟨e, _⟩ := x; exact Heap.lt_size e
 | tbl ps => exact Heap.lt_size (show h.get? a = some _ from x)
 | met f y => exact Heap.lt_size (show h.get? a = some _ from x)
 | ext φ => obtain ⟨_, ⟨_, e⟩, _⟩ := x; exact Heap.lt_size e
theorem Paired.mapP {α β : Type} {F G : α -> β -> Prop} : ∀ {l₁ : List α} {l₂ : List β}, Paired F l₁ l₂ -> (∀ a b, F a b -> G a b) -> Paired G l₁ l₂
 | _, _, .nil, _ => .nil
 | _, _, .cons r t, f => .cons (f _ _ r) (Paired.mapP t f)
theorem ObjOk.stay (x : ObjOk P w H h a o) (k : ∀ b u, (b = a \/ H b = some (.own a)) -> h.get? b = some u -> h'.get? b = some u)
  (ho : ∀ b, H b = some (.own a) -> H' b = some (.own a)) (ht : ∀ b xs, H b = some (.tup xs) -> H' b = some (.tup xs)) : ObjOk P w H' h' a o := by
 induction o with
 | lst xs => obtain ⟨z, its, n, r, e⟩ := x; exact ⟨z, its, n, r, k _ _ (.inl rfl) e⟩
 | tup xs => obtain ⟨z, its, r, ob, e, c⟩ := x; exact ⟨z, its, r, ob, k _ _ (.inl rfl) e, c⟩
 | dK kvs => obtain ⟨z, y, vs, r, ob, es, ep, e, c⟩ := x; exact ⟨z, y, vs, r, ob, es, ep, k _ _ (.inl rfl) e, c⟩
 | dT kvs =>
  obtain ⟨z, y, xs, r, ob, es, ep, e, c⟩ := x
  exact ⟨z, y, xs, Paired.mapP r fun p q z => ⟨z.1, ht _ _ z.2.1, z.2.2⟩, ob, es, ep, k _ _ (.inl rfl) e, c⟩
 | set S n => obtain ⟨ob, es, ep, t, e, c⟩ := x; exact ⟨ob, es, ep, t, k _ _ (.inl rfl) e, c⟩
 | ins C dx fs =>
  obtain ⟨d, z, ne, e, mA, ⟨od, es, ep, e2, c⟩, r⟩ := x
  exact ⟨ho _ d, z, ne, k _ _ (.inl rfl) e, mA, ⟨od, es, ep, k _ _ (.inr d) e2, c⟩, r⟩
 | own y => obtain ⟨ob, e⟩ := x; exact ⟨ob, k _ _ (.inl rfl) e⟩
 | xd fs => obtain ⟨mA, ⟨od, es, ep, e, c⟩, r⟩ := x; exact ⟨mA, ⟨od, es, ep, k _ _ (.inl rfl) e, c⟩, r⟩
 | rng lo hi => obtain ⟨t, u, v, e⟩ := x; exact ⟨t, u, v, k _ _ (.inl rfl) e⟩
 | frz ob u ih => obtain ⟨e, q⟩ := x; exact ⟨k _ _ (.inl rfl) e, ih q⟩
 | tbl ps =>
  have e : h.get? a = some { cls := .none, data := .fields ps } := x
  show h'.get? a = some { cls := .none, data := .fields ps }
  exact k a _ (.inl rfl) e
 | met f y =>
  have e : h.get? a = some (PySem.W.methodObj (.ref f) (.ref y)) := x
  show h'.get? a = some (PySem.W.methodObj (.ref f) (.ref y))
  exact k a _ (.inl rfl) e
 | ext φ => obtain ⟨p, ⟨o, e⟩, st⟩ := x; exact ⟨st _ _ p fun o q => k _ _ (.inl rfl) q, ⟨o, k _ _ (.inl rfl) e⟩, st⟩
theorem HOk.lt (x : HOk P w H h) (e : H a = some o) : a < h.objs.size := (x a o e).lt
theorem HOk.fresh (x : HOk P w H h) (e : h.objs.size <= a) : H a = none := by
 cases q : H a with
 | none => rfl
 | some u => exact absurd (Nat.lt_of_lt_of_le (x.lt q) e) (Nat.lt_irrefl _)
theorem HOk.kept (x : HOk P w H h) (k : ∀ b u, h.get? b = some u -> h'.get? b = some u) : HOk P w H h' := fun a o e =>
 (x a o e).stay (fun b u _ q => k b u q) (fun _ q => q) fun _ _ q => q
theorem HOk.laid (x : HOk P w H h) (k : ∀ b u, h.get? b = some u -> h'.get? b = some u) (hp : h.objs.size <= a) (new : ObjOk P w (upd H a o) h' a o) : HOk P w (upd H a o) h' := fun b u e => by
 have hn := x.fresh hp
 by_cases hb : b = a
 ·subst hb; rw [bQ] at e; cases e; exact new
 ·rw [bJ hb] at e
  exact (x b u e).stay (fun c v _ q => k c v q) (fun c q => by rw [bJ (dC q hn)]; exact q) fun c xs q => by rw [bJ (dC q hn)]; exact q
end
def Rd (H : Hp) (a : Addr) (u : HO) : Prop := H a = some u \/ ∃ o, H a = some (.frz o u)
theorem Rd.ok {P : Program} {w : World} {H : Hp} {h : Heap} {a : Addr} {u : HO} (r : Rd H a u) (x : HOk P w H h) : ObjOk P w H h a u := by
 rcases r with r | ⟨o, r⟩
 ·exact x a u r
 ·obtain ⟨_, q⟩ := x a _ r
  exact q
def Mut : Option HO -> Prop
 | some (.lst _) => True
 | some (.dK _) => True
 | some (.dT _) => True
 | some (.set _ _) => True
 | some (.ins _ _ _) => True
 | some (.ext _) => True
 | _ => False
section
variable {P : Program} {w : World} {H : Hp} {h h' : Heap} {x e : Addr} {o' : HO}
theorem HOk.write (ok : HOk P w H h) (mu : Mut (H x)) (he : e = x \/ H e = some (.own x)) (k : ∀ b u, b ≠ e -> h.get? b = some u -> h'.get? b = some u) (heo : ∃ u, h'.get? e = some u)
  (new : ObjOk P w (upd H x o') h' x o') : HOk P w (upd H x o') h' := fun b u q => by
 have nown : ∀ c y, H c = some (.own y) -> c ≠ x := fun c y r z => by subst z; rw [r] at mu; exact mu
 have ntup : ∀ c xs, H c = some (.tup xs) -> c ≠ x := fun c xs r z => by subst z; rw [r] at mu; exact mu
 by_cases hb : b = x
 ·subst hb; rw [bQ] at q; cases q; exact new
 ·rw [bJ hb] at q
  by_cases hbe : b = e
  ·have q' : H b = some (.own x) := by
    rcases he with z | z
    ·exact absurd (hbe.trans z) hb
    ·rw [hbe]; exact z
   rw [q] at q'; cases q'
   obtain ⟨v, hv⟩ := heo
   exact ⟨v, by rw [hbe]; exact hv⟩
  ·refine (ok b u q).stay (fun c v hc r => k c v ?_ r) (fun c r => by rw [bJ (nown c b r)]; exact r) fun c xs r => by rw [bJ (ntup c xs r)]; exact r
   rcases hc with rfl | hc
   ·exact hbe
   ·rintro rfl
    rcases he with z | z
    ·exact nown c b hc z
    ·rw [hc] at z; cases z; exact hb rfl
end
structure Un (fs ex : List Addr) (H H' : Hp) (h h' : Heap) : Prop where
 keep : ∀ b o, h.get? b = some o -> H b = none -> b ∉ fs -> b ∉ ex -> h'.get? b = some o
 slot : ∀ b o, h.get? b = some o -> H b = none -> b ∈ fs -> b ∉ ex -> ∃ sl, h'.get? b = some { o with slots := sl }
 free : ∀ b o, h.get? b = some o -> H b = none -> b ∉ ex -> H' b = none
 there : ∀ b o, h.get? b = some o -> b ∉ ex -> ∃ o', h'.get? b = some o'
 tups : ∀ b xs, H b = some (.tup xs) -> H' b = some (.tup xs)
 frzs : ∀ b o u, H b = some (.frz o u) -> H' b = some (.frz o u)
 tbls : ∀ b ps, H b = some (.tbl ps) -> ∃ more, H' b = some (.tbl (ps ++ more))
section
variable {fs fs' ex ex' : List Addr} {H H1 H2 : Hp} {h h1 h2 h' : Heap} {a x e : Addr} {o : HO}
theorem Un.any (u : Un fs ex H H1 h h1) {b : Addr} {ob : Obj} (q : h.get? b = some ob) (n : H b = none) (hx : b ∉ ex) : ∃ sl, h1.get? b = some { ob with slots := sl } := by
 by_cases hb : b ∈ fs
 ·exact u.slot b ob q n hb hx
 ·exact ⟨ob.slots, u.keep b ob q n hb hx⟩
theorem Un.kept (k : ∀ b u, h.get? b = some u -> h'.get? b = some u) : Un fs ex H H h h' :=
 ⟨fun b ob q _ _ _ => k b ob q, fun b ob q _ _ _ => ⟨ob.slots, k b ob q⟩, fun _ _ _ n _ => n, fun b ob q _ => ⟨ob, k b ob q⟩, fun _ _ q => q, fun _ _ _ q => q, fun _ ps q => ⟨#[], by rw [q]; simp⟩⟩
theorem Un.refl : Un fs ex H H h h := Un.kept fun _ _ q => q
theorem Un.laid (k : ∀ b u, h.get? b = some u -> h'.get? b = some u) (hp : h.objs.size <= a) (hn : H a = none) : Un fs ex H (upd H a o) h h' where
 keep := fun b u q _ _ _ => k b u q
 slot := fun b u q _ _ _ => ⟨u.slots, k b u q⟩
 free := fun b u q n _ => by rw [bJ (Nat.ne_of_lt (Nat.lt_of_lt_of_le (Heap.lt_size q) hp))]; exact n
 there := fun b u q _ => ⟨u, k b u q⟩
 tups := fun b xs q => by rw [bJ (dC q hn)]; exact q
 frzs := fun b u xs q => by rw [bJ (dC q hn)]; exact q
 tbls := fun b ps q => ⟨#[], by rw [bJ (dC q hn), q]; simp⟩
theorem Un.write (mu : Mut (H x)) (he : e = x \/ H e = some (.own x)) (k : ∀ b u, b ≠ e -> h.get? b = some u -> h'.get? b = some u) (heo : ∃ u, h'.get? e = some u) : Un fs ex H (upd H x o) h h' := by
 have hx : ∀ b, H b = none -> b ≠ x := fun b n z => by subst z; rw [n] at mu; exact mu
 have hb : ∀ b, H b = none -> b ≠ e := fun b n z => by
  subst z
  rcases he with r | r
  ·exact hx b n r
  ·rw [n] at r; cases r
 have hm : ∀ b u, H b = some u -> ¬ Mut (some u) -> b ≠ x := fun b u q nm z => by subst z; rw [q] at mu; exact nm mu
 refine ⟨fun b u q n _ _ => k b u (hb b n) q, fun b u q n _ _ => ⟨u.slots, k b u (hb b n) q⟩, fun b u q n _ => by rw [bJ (hx b n)]; exact n, fun b u q _ => ?_,
  fun b xs q => by rw [bJ (hm b _ q fun z => z)]; exact q, fun b u xs q => by rw [bJ (hm b _ q fun z => z)]; exact q, fun b ps q => ⟨#[], by rw [bJ (hm b _ q fun z => z), q]; simp⟩⟩
 by_cases hbe : b = e
 ·subst hbe; exact heo
 ·exact ⟨u, k b u hbe q⟩
end
def trk (h : Heap) (H : Hp) : List Addr := (List.range h.objs.size).filter fun a => (H a).isSome
def aDt (h : Heap) (H : Hp) : Heap := PySem.W.hideAll h (trk h H)
theorem aCf (h : Heap) (H : Hp) : (aDt h H).objs.size = h.objs.size := PySem.W.hideAll_size _ _
theorem aFf {h : Heap} {H : Hp} {b : Addr} {o : Obj} (e : h.get? b = some o) (n : H b = none) : (aDt h H).get? b = some o :=
 PySem.W.hideAll_get _ e fun hm => by
  have q : (H b).isSome = true := (List.mem_filter.mp hm).2
  rw [n] at q; simp at q
theorem aIs {h : Heap} {H : Hp} {b : Addr} {o : Obj} (e : (aDt h H).get? b = some o) : h.get? b = some o /\ H b = none := by
 have e' : h.get? b = some o := PySem.W.of_hideAll (trk h H) e
 refine ⟨e', ?_⟩
 cases q : H b with
 | none => rfl
 | some x =>
  have hm : b ∈ trk h H := List.mem_filter.mpr ⟨List.mem_range.mpr (Heap.lt_size e'), by simp [q]⟩
  have z : (aDt h H).get? b = none := PySem.W.hideAll_none (trk h H) hm
  rw [z] at e; cases e
def aI1 (g h : Heap) (L : Addr) : List (Addr × Obj) := (List.range h.objs.size).filterMap fun a => if a = L \/ (g.get? a).isSome = true then none else (h.get? a).map fun o => (a, o)
def rest (g h : Heap) (L d : Addr) : List (Addr × Obj) := (aI1 g h L).filter fun p => decide (p.1 ≠ d)
structure Mod (K : PySem.W.Frag) (mg : Str -> Option Value) (base : Heap) : Prop where
 kin : K.In base
 glob : base.Ns mainGlobals mg
 blt : ∃ mb, base.Ns builtinsNs mb /\ ∀ x : Str, x ≠ "__name__" -> mb x = bootBuiltins x
 nolimit : base.NoLimit
structure Cx where
 prog : Program
 w : World
 K : PySem.W.Frag
 mg : Str -> Option Value
 base : Heap
 A : Around
 N : List Str
 s₀ : Shared
 H₀ : Hp
 env : Env
 outer : List Env
 stack : List Env
 ex : List Addr
 fn : Str -> Bool
 calm : Bool
 pn : List (Addr × Obj)
 xe : Value -> Shared -> Prop
def frs (l : List Env) : List Addr := l.filterMap (·.frame)
abbrev Cx.fs (X : Cx) : List Addr := frs X.outer
def Vis (sc : Scope) (x : Str) : Prop := sc.names.lookup x = some .local \/ sc.names.lookup x = some .cell \/ sc.names.lookup x = some .free
def Loc (sc : Scope) (x : Str) : Prop := sc.names.lookup x = some .local \/ sc.names.lookup x = some .cell
def Look (env : Env) (h : Heap) (m : Str -> Option Value) (x : Str) (u : Value) : Prop :=
 (env.kindOf x = some .local /\ m x = some u) \/ ((env.kindOf x = some .cell \/ env.kindOf x = some .free) /\ ∃ c, env.cells.lookup x = some c /\ h.IsCell c (some u))
structure Cx.Ok (X : Cx) : Prop where
 mod : Mod X.K X.mg X.base
 kind : X.env.scope.kind = .function
 glob : X.env.globals = mainGlobals
 blt : X.env.builtins = builtinsNs
 above : X.s₀.heap.objs.size <= X.env.locals
 inj : ∀ x y c, X.env.cells.lookup x = some c -> X.env.cells.lookup y = some c -> x = y
 has : ∀ x, (X.env.kindOf x = some .cell \/ X.env.kindOf x = some .free) -> ∃ c, X.env.cells.lookup x = some c
 cab : ∀ x c, X.fn x = true -> X.env.cells.lookup x = some c -> X.s₀.heap.objs.size <= c
 hd : X.calm = true -> X.A.handled = none
 frames : X.A.frames = some X.stack
 stk : X.stack = X.outer \/ (X.stack = X.env :: X.outer /\ X.env.frame = some X.env.locals)
 exf : ∀ b ∈ X.ex, b ≠ X.env.locals /\ ∀ x c, X.env.cells.lookup x = some c -> c ≠ b
 bs : ∀ b o, X.base.get? b = some o -> X.s₀.heap.get? b = some o /\ X.H₀ b = none
 bsz : X.base.objs.size <= X.s₀.heap.objs.size
 noex : ∀ b o, X.base.get? b = some o -> b ∉ X.ex
 exfs : ∀ b ∈ X.ex, b ∉ X.fs
 funs : X.s₀.heap.FunFrames X.base X.outer
 frf : ∀ b ∈ X.fs, X.H₀ b = none
structure Inv (X : Cx) (pins : List (Addr × Obj)) (σ : List (Option V)) (H : Hp) (s : Shared) : Prop where
 ok : X.Ok
 os : s.os = X.s₀.os
 bare : AllBare s.gens
 base : Un X.fs X.ex X.H₀ H X.s₀.heap s.heap
 loc : ∃ m, s.heap.Ns X.env.locals m /\ ∀ (i : Nat) (x : Str) (v : V), X.N[i]? = some x -> σ[i]? = some (some v) -> Vis X.env.scope x -> ∃ u, RelV v u /\ Look X.env s.heap m x u
 cell : ∀ x c, X.env.cells.lookup x = some c -> ∃ v, s.heap.IsCell c v
 free : H X.env.locals = none
 freeC : ∀ x c, X.env.cells.lookup x = some c -> H c = none
 pin : ∀ p ∈ X.pn ++ pins, s.heap.get? p.1 = some p.2 /\ H p.1 = none /\ p.1 ≠ X.env.locals /\ p.1 ∉ X.fs /\ ∀ v, p.2.data ≠ .cell v
 hok : HOk X.prog X.w H s.heap
 len : σ.length = X.N.length
section
variable {X : Cx} {pins : List (Addr × Obj)} {σ : List (Option V)} {H H' : Hp} {s : Shared} {h' : Heap}
theorem Cx.Ok.nofr (ok : X.Ok) {b : Addr} {o : Obj} (e : X.base.get? b = some o) : b ∉ X.fs := fun hb => by
 have := (ok.funs.mem hb).1
 rw [e] at this; cases this
theorem Inv.bs (I : Inv X pins σ H s) : ∀ b o, X.base.get? b = some o -> s.heap.get? b = some o /\ H b = none := fun b o e =>
 ⟨I.base.keep b o (I.ok.bs b o e).1 (I.ok.bs b o e).2 (I.ok.nofr e) (I.ok.noex b o e), I.base.free b o (I.ok.bs b o e).1 (I.ok.bs b o e).2 (I.ok.noex b o e)⟩
theorem Inv.bk (I : Inv X pins σ H s) : ∀ b o, X.base.get? b = some o -> s.heap.get? b = some o := fun b o e => (I.bs b o e).1
theorem Inv.mod (I : Inv X pins σ H s) : Mod X.K X.mg X.base := I.ok.mod
theorem Inv.kIn (I : Inv X pins σ H s) : X.K.In s.heap := I.ok.mod.kin.keeps I.bk
theorem Inv.lt (I : Inv X pins σ H s) : X.env.locals < s.heap.objs.size := let ⟨_, hn, _⟩ := I.loc; hn.lt
theorem Inv.sz (I : Inv X pins σ H s) : X.s₀.heap.objs.size <= s.heap.objs.size := Nat.le_trans I.ok.above (Nat.le_of_lt I.lt)
theorem Inv.nofs (I : Inv X pins σ H s) {a : Addr} (h : s.heap.objs.size <= a) : a ∉ X.fs := fun hb => by
 obtain ⟨_, o, ho, _⟩ := I.ok.funs.mem hb
 exact absurd (Nat.lt_of_lt_of_le (Heap.lt_size ho) (Nat.le_trans I.sz h)) (Nat.lt_irrefl _)
theorem Inv.cne (I : Inv X pins σ H s) : ∀ x c, X.env.cells.lookup x = some c -> c ≠ X.env.locals := fun x c e z => by
 obtain ⟨v, o, ho, hd⟩ := I.cell x c e
 obtain ⟨m, ⟨o', es, ep, ho', hd', _⟩, _⟩ := I.loc
 rw [z, ho'] at ho; cases ho; rw [hd'] at hd; cases hd
theorem Inv.funs (I : Inv X pins σ H s) : s.heap.FunFrames X.base X.outer := by
 have all : ∀ (l : List Env), (∀ b ∈ frs l, b ∈ X.fs) -> X.s₀.heap.FunFrames X.base l -> s.heap.FunFrames X.base l := by
  intro l
  induction l with
  | nil => intro _ _; trivial
  | cons env r ih =>
   intro hs hl
   obtain ⟨hk, ⟨L, o, hf, hn, ho, hd⟩, hr⟩ := hl
   have hL : L ∈ X.fs := hs L (by unfold frs; rw [List.filterMap_cons, hf]; exact List.mem_cons_self)
   obtain ⟨sl, e⟩ := I.base.slot L o ho (I.ok.frf L hL) hL fun z => I.ok.exfs L z hL
   exact ⟨hk, ⟨L, _, hf, hn, e, hd⟩, ih (fun b hb => hs b (by unfold frs; rw [List.filterMap_cons, hf]; exact List.mem_cons_of_mem _ hb)) hr⟩
 exact all X.outer (fun _ hb => hb) I.ok.funs
theorem Inv.stack (I : Inv X pins σ H s) : s.heap.FunFrames X.base X.stack := by
 rcases I.ok.stk with e | ⟨e, hf⟩
 ·rw [e]; exact I.funs
 ·rw [e]
  obtain ⟨m, hn, _⟩ := I.loc
  refine .cons (by rw [I.ok.kind]; decide) hf hn ?_ I.funs
  exact Heap.get?_none_of_le (Nat.le_trans I.ok.bsz I.ok.above)
theorem Inv.stkSub (I : Inv X pins σ H s) : ∀ b ∈ frs X.stack, b ∈ X.env.locals :: X.fs := fun b hb => by
 rcases I.ok.stk with e | ⟨e, hf⟩
 ·rw [e] at hb; exact List.mem_cons_of_mem _ hb
 ·rw [e] at hb
  unfold frs at hb
  rw [List.filterMap_cons, hf] at hb
  exact hb
theorem Inv.stkFree (I : Inv X pins σ H s) : ∀ b ∈ frs X.stack, H b = none := fun b hb => by
 rcases List.mem_cons.mp (I.stkSub b hb) with e | hb
 ·rw [e]; exact I.free
 ·obtain ⟨_, o, ho, _⟩ := I.ok.funs.mem hb
  exact I.base.free b o ho (I.ok.frf b hb) fun z => I.ok.exfs b z hb
theorem Inv.step {g' : Array GenState} {t' : Nat} {d' : Drawn} {ch : List Addr} (I : Inv X pins σ H s)
  (hch : ∀ b ∈ ch, (b ∈ X.ex \/ X.s₀.heap.objs.size <= b) /\ b ≠ X.env.locals /\ (∀ x c, X.env.cells.lookup x = some c -> c ≠ b) /\ ∀ p ∈ X.pn ++ pins, p.1 ≠ b)
  (keep : ∀ b o, b ≠ X.env.locals -> b ∉ X.fs -> b ∉ ch -> s.heap.get? b = some o -> H b = none -> h'.get? b = some o)
  (slot : ∀ b o, b ≠ X.env.locals -> b ∈ X.fs -> b ∉ ch -> s.heap.get? b = some o -> H b = none -> ∃ sl, h'.get? b = some { o with slots := sl }) (free : ∀ b o, b ∉ ch -> s.heap.get? b = some o -> H b = none -> H' b = none)
  (there : ∀ b o, b ∉ ch -> s.heap.get? b = some o -> ∃ o', h'.get? b = some o')
  (tups : ∀ b xs, H b = some (.tup xs) -> H' b = some (.tup xs)) (frzs : ∀ b o u, H b = some (.frz o u) -> H' b = some (.frz o u)) (tbls : ∀ b ps, H b = some (.tbl ps) -> ∃ more, H' b = some (.tbl (ps ++ more)))
  (ns : ∀ m, s.heap.Ns X.env.locals m -> h'.Ns X.env.locals m) (hok : HOk X.prog X.w H' h') (hg : AllBare g') :
  Inv X pins σ H' { s with heap := h', gens := g', drawn := d', toks := t' } := by
 have neL : ∀ b o, X.s₀.heap.get? b = some o -> b ≠ X.env.locals := fun b o e => Nat.ne_of_lt (Nat.lt_of_lt_of_le (Heap.lt_size e) I.ok.above)
 have neC : ∀ b o, X.s₀.heap.get? b = some o -> b ∉ X.ex -> b ∉ ch := fun b o e hx hb => by
  rcases (hch b hb).1 with z | z
  ·exact hx z
  ·exact absurd (Nat.lt_of_lt_of_le (Heap.lt_size e) z) (Nat.lt_irrefl _)
 have cellK : ∀ x c, X.env.cells.lookup x = some c -> ∀ v, s.heap.IsCell c v -> h'.IsCell c v := fun x c e v ⟨o, ho, hd⟩ => by
  have nch : c ∉ ch := fun z => (hch c z).2.2.1 x c e rfl
  by_cases hc : c ∈ X.fs
  ·obtain ⟨sl, q⟩ := slot c o (I.cne x c e) hc nch ho (I.freeC x c e)
   exact ⟨_, q, hd⟩
  ·exact ⟨o, keep c o (I.cne x c e) hc nch ho (I.freeC x c e), hd⟩
 refine ⟨I.ok, I.os, hg, ⟨fun b o e n hb hx => ?_, fun b o e n hb hx => ?_, fun b o e n hx => ?_, fun b o e hx => ?_, fun b xs e => tups b xs (I.base.tups b xs e), fun b o xs e => frzs b o xs (I.base.frzs b o xs e), fun b ps e => ?_⟩, ?_, fun x c e => ?_, ?_, fun x c e => ?_, fun p hp => ?_, hok, I.len⟩
 ·exact keep b o (neL b o e) hb (neC b o e hx) (I.base.keep b o e n hb hx) (I.base.free b o e n hx)
 ·obtain ⟨sl, e1⟩ := I.base.slot b o e n hb hx
  obtain ⟨sl', e2⟩ := slot b _ (neL b o e) hb (neC b o e hx) e1 (I.base.free b o e n hx)
  exact ⟨sl', e2⟩
 ·obtain ⟨o', e1⟩ := I.base.there b o e hx
  exact free b o' (neC b o e hx) e1 (I.base.free b o e n hx)
 ·obtain ⟨o', e1⟩ := I.base.there b o e hx
  exact there b o' (neC b o e hx) e1
 ·obtain ⟨m1, e1⟩ := I.base.tbls b ps e
  obtain ⟨m2, e2⟩ := tbls b _ e1
  exact ⟨m1 ++ m2, by rw [e2, Array.append_assoc]⟩
 ·obtain ⟨m, hn, hl⟩ := I.loc
  refine ⟨m, ns m hn, fun i x v e1 e2 e3 => ?_⟩
  obtain ⟨u, r, l⟩ := hl i x v e1 e2 e3
  refine ⟨u, r, ?_⟩
  rcases l with l | ⟨k, c, e, z⟩
  ·exact .inl l
  ·exact .inr ⟨k, c, e, cellK x c e _ z⟩
 ·obtain ⟨v, z⟩ := I.cell x c e
  exact ⟨v, cellK x c e v z⟩
 ·obtain ⟨m, ⟨o, _, _, ho, _⟩, _⟩ := I.loc
  exact free _ o (fun z => (hch _ z).2.1 rfl) ho I.free
 ·obtain ⟨v, o, ho, hd⟩ := I.cell x c e
  exact free c o (fun z => (hch c z).2.2.1 x c e rfl) ho (I.freeC x c e)
 ·obtain ⟨e, n, ne, nf, d⟩ := I.pin p hp
  have nch : p.1 ∉ ch := fun z => (hch p.1 z).2.2.2 p hp rfl
  exact ⟨keep p.1 p.2 ne nf nch e n, free p.1 p.2 nch e n, ne, nf, d⟩
theorem Inv.un {t' : Nat} (I : Inv X pins σ H s) (u : Un X.fs [] H H' s.heap h') (hok : HOk X.prog X.w H' h') : Inv X pins σ H' { s with heap := h', toks := t' } := by
 obtain ⟨m, ⟨o, es, ep, ho, r⟩, _⟩ := id I.loc
 obtain ⟨sl, hL⟩ := u.any ho I.free (by simp)
 exact I.step (g' := s.gens) (d' := s.drawn) (ch := []) (fun _ z => nomatch z) (fun b o _ hb _ e n => u.keep b o e n hb (by simp)) (fun b o _ hb _ e n => u.slot b o e n hb (by simp)) (fun b o _ e n => u.free b o e n (by simp)) (fun b o _ e => u.there b o e (by simp)) u.tups u.frzs u.tbls (fun m' hm => by
  obtain ⟨o', es', ep', ho', r'⟩ := hm
  rw [ho] at ho'; cases ho'
  exact ⟨_, es', ep', hL, r'⟩) hok I.bare
theorem Inv.call {g' : Array GenState} {t' : Nat} {d' : Drawn} {ch : List Addr} (I : Inv X pins σ H s) (u : Un (frs X.stack) ch H H' s.heap h') (hok : HOk X.prog X.w H' h') (hg : AllBare g')
  (hch : ∀ b ∈ ch, (b ∈ X.ex \/ X.s₀.heap.objs.size <= b) /\ b ≠ X.env.locals /\ (∀ x c, X.env.cells.lookup x = some c -> c ≠ b) /\ ∀ p ∈ X.pn ++ pins, p.1 ≠ b) :
  Inv X pins σ H' { s with heap := h', gens := g', drawn := d', toks := t' } := by
 obtain ⟨m, ⟨o, es, ep, ho, r⟩, _⟩ := id I.loc
 obtain ⟨sl, hL⟩ := u.any ho I.free fun z => (hch _ z).2.1 rfl
 exact I.step (ch := ch) hch (fun b o hL hb hc e n => u.keep b o e n (fun z => (List.mem_cons.mp (I.stkSub b z)).elim hL hb) hc) (fun b o _ _ hc e n => u.any e n hc) (fun b o hc e n => u.free b o e n hc) (fun b o hc e => u.there b o e hc) u.tups u.frzs u.tbls (fun m' hm => by
  obtain ⟨o', es', ep', ho', r'⟩ := hm
  rw [ho] at ho'; cases ho'
  exact ⟨_, es', ep', hL, r'⟩) hok hg
theorem Inv.turned {t' : Nat} {it : Addr} (I : Inv X pins σ H s) (k : ∀ b o, b ≠ it -> s.heap.get? b = some o -> h'.get? b = some o) (hn : H it = none) (hL : it ≠ X.env.locals)
  (h1 : it ∈ X.ex \/ X.s₀.heap.objs.size <= it) (h2 : ∀ x c, X.env.cells.lookup x = some c -> c ≠ it) (h3 : ∀ p ∈ X.pn ++ pins, p.1 ≠ it) : Inv X pins σ H { s with heap := h', toks := t' } := by
 have nit : ∀ b u, H b = some u -> b ≠ it := fun b u e z => by rw [z, hn] at e; cases e
 refine I.step (g' := s.gens) (d' := s.drawn) (ch := [it]) (fun b hb => ?_) (fun b o _ _ hc e _ => k b o (fun z => hc (by simp [z])) e) (fun b o _ _ hc e _ => ⟨o.slots, k b o (fun z => hc (by simp [z])) e⟩) (fun _ _ _ _ n => n)
  (fun b o hc e => ⟨o, k b o (fun z => hc (by simp [z])) e⟩) (fun _ _ e => e) (fun _ _ _ e => e) (fun b ps e => ⟨#[], by rw [e]; simp⟩) (fun m hm => ?_) (fun b u e => ?_) I.bare
 ·have e : b = it := by simpa using hb
  subst e
  exact ⟨h1, hL, h2, h3⟩
 ·obtain ⟨o, es, ep, ho, r⟩ := hm
  exact ⟨o, es, ep, k _ o (Ne.symm hL) ho, r⟩
 ·refine (I.hok b u e).stay (fun c v hc q => k c v ?_ q) (fun _ q => q) fun _ _ q => q
  rcases hc with z | z
  ·rw [z]; exact nit b u e
  ·exact nit c _ z
theorem Inv.tok (I : Inv X pins σ H s) (t : Nat) : Inv X pins σ H { s with toks := t } := I.un (h' := s.heap) (t' := t) Un.refl I.hok
theorem Inv.kept {t' : Nat} (I : Inv X pins σ H s) (k : ∀ b u, s.heap.get? b = some u -> h'.get? b = some u) : Inv X pins σ H { s with heap := h', toks := t' } := I.un (Un.kept k) (I.hok.kept k)
theorem Inv.laid {a : Addr} {o : HO} {t' : Nat} (I : Inv X pins σ H s) (k : ∀ b u, s.heap.get? b = some u -> h'.get? b = some u) (hp : s.heap.objs.size <= a) (new : ObjOk X.prog X.w (upd H a o) h' a o) :
  Inv X pins σ (upd H a o) { s with heap := h', toks := t' } := I.un (Un.laid k hp (I.hok.fresh hp)) (I.hok.laid k hp new)
theorem Inv.write {x e : Addr} {o : HO} {t' : Nat} (I : Inv X pins σ H s) (mu : Mut (H x)) (he : e = x \/ H e = some (.own x)) (k : ∀ b u, b ≠ e -> s.heap.get? b = some u -> h'.get? b = some u) (heo : ∃ u, h'.get? e = some u)
  (new : ObjOk X.prog X.w (upd H x o) h' x o) : Inv X pins σ (upd H x o) { s with heap := h', toks := t' } := I.un (Un.write mu he k heo) (I.hok.write mu he k heo new)
theorem Inv.weak {σ' : List (Option V)} (I : Inv X pins σ H s) (hl : σ'.length = σ.length) (w : ∀ (i : Nat) v, σ'[i]? = some (some v) -> σ[i]? = some (some v)) : Inv X pins σ' H s :=
 ⟨I.ok, I.os, I.bare, I.base, let ⟨m, hn, hl'⟩ := I.loc; ⟨m, hn, fun i x v e1 e2 e3 => hl' i x v e1 (w i v e2) e3⟩, I.cell, I.free, I.freeC, I.pin, I.hok, hl.trans I.len⟩
theorem Inv.pins_of {pins' : List (Addr × Obj)} (I : Inv X pins σ H s) (h : ∀ p ∈ pins', s.heap.get? p.1 = some p.2 /\ H p.1 = none /\ p.1 ≠ X.env.locals /\ p.1 ∉ X.fs /\ ∀ v, p.2.data ≠ .cell v) : Inv X pins' σ H s :=
 ⟨I.ok, I.os, I.bare, I.base, I.loc, I.cell, I.free, I.freeC, fun p hp => (List.mem_append.mp hp).elim (fun z => I.pin p (List.mem_append_left _ z)) (h p), I.hok, I.len⟩
theorem xE {N : List Str} (hN : N.Nodup) {i j : Nat} {x : Str} (a : N[i]? = some x) (b : N[j]? = some x) : i = j := by
 obtain ⟨h1, e1⟩ := List.getElem?_eq_some_iff.mp a
 obtain ⟨h2, e2⟩ := List.getElem?_eq_some_iff.mp b
 exact (List.getElem_inj hN).mp (e1.trans e2.symm)
theorem y7 {M : Model} {A : Around} {E : Value -> Shared -> Prop} {i : Nat} {x : Str} {v : V} {u : Value} {Q : Unit -> Shared -> Prop} (I : Inv X pins σ H s) (hN : X.N.Nodup) (hi : X.N[i]? = some x) (hx : Loc X.env.scope x) (r : RelV v u)
  (h : ∀ s', Inv X pins (σ.set i (some v)) H s' -> (∃ a, Heap.SameBut a s.heap s'.heap /\ (a = X.env.locals \/ X.env.cells.lookup x = some a)) -> Q () s') (hf : X.fn x = true \/ X.env.scope.names.lookup x = some .local := by first | exact .inl rfl | exact .inr rfl | assumption) : wpAny M A (storeName X.env x u) Q E s := by
 obtain ⟨m, hn, hl⟩ := id I.loc
 have hcls : (X.env.scope.kind == .class || (X.env.scope.kind == .module && X.env.locals != X.env.globals)) = false := by rw [I.ok.kind]; rfl
 have hiσ : i < σ.length := by rw [I.len]; exact (List.getElem?_eq_some_iff.mp hi).1
 have cne := I.cne
 have tracked : ∀ {a : Addr} {h' : Heap}, (∃ o, s.heap.get? a = some o /\ H a = none) -> Heap.SameBut a s.heap h' -> HOk X.prog X.w H h' := fun {a h'} ha hs b ob e => by
  obtain ⟨_, _, hfree⟩ := ha
  refine (I.hok b ob e).stay (fun c w' hc q => (hs.2 c ?_).trans q) (fun _ q => q) fun _ _ q => q
  rintro rfl
  rcases hc with rfl | hc
  ·rw [hfree] at e; cases e
  ·rw [hfree] at hc; cases hc
 rcases hx with hk | hk
 ·refine wpAny_storeName_local hk hn (fun h' hn' hs => ?_) hcls
  obtain ⟨oL, _, _, hoL, _⟩ := id hn
  refine h _ ⟨I.ok, I.os, I.bare, ⟨fun b o e n hb hx => ?_, fun b o e n hb hx => ?_, I.base.free, fun b o e hx => ?_, I.base.tups, I.base.frzs, I.base.tbls⟩, ⟨_, hn', fun j y v' e1 e2 e3 => ?_⟩, fun y c e => ?_, I.free, I.freeC, fun p hp => ?_, tracked ⟨oL, hoL, I.free⟩ hs, by simpa using I.len⟩ ⟨_, hs, .inl rfl⟩
  ·exact (hs.2 b (Nat.ne_of_lt (Nat.lt_of_lt_of_le (Heap.lt_size e) I.ok.above))).trans (I.base.keep b o e n hb hx)
  ·obtain ⟨sl, e1⟩ := I.base.slot b o e n hb hx
   exact ⟨sl, (hs.2 b (Nat.ne_of_lt (Nat.lt_of_lt_of_le (Heap.lt_size e) I.ok.above))).trans e1⟩
  ·obtain ⟨o', e1⟩ := I.base.there b o e hx
   exact ⟨o', (hs.2 b (Nat.ne_of_lt (Nat.lt_of_lt_of_le (Heap.lt_size e) I.ok.above))).trans e1⟩
  ·by_cases hj : j = i
   ·subst hj
    rw [hi] at e1; cases e1
    rw [List.getElem?_set_self hiσ] at e2
    cases e2
    exact ⟨u, r, .inl ⟨hk, by simp⟩⟩
   ·rw [List.getElem?_set_ne (Ne.symm hj)] at e2
    obtain ⟨u', r', q⟩ := hl j y v' e1 e2 e3
    refine ⟨u', r', ?_⟩
    rcases q with ⟨k, e⟩ | ⟨k, c, e, z⟩
    ·refine .inl ⟨k, ?_⟩
     have : y ≠ x := fun e => hj (xE hN e1 (e ▸ hi))
     simp [this, e]
    ·exact .inr ⟨k, c, e, z.sameBut hs (cne y c e)⟩
  ·obtain ⟨w', z⟩ := I.cell y c e
   exact ⟨w', z.sameBut hs (cne y c e)⟩
  ·obtain ⟨e, n, ne, nf, d⟩ := I.pin p hp
   exact ⟨(hs.2 p.1 ne).trans e, n, ne, nf, d⟩
 ·have hfn : X.fn x = true := by
   rcases hf with z | z
   ·exact z
   ·rw [z] at hk; cases hk
  obtain ⟨c, hc⟩ := I.ok.has x (.inl hk)
  obtain ⟨w', z⟩ := I.cell x c hc
  refine wpAny_storeName_cell I.ok.kind hk hc z (fun h' hc' hs => ?_)
  obtain ⟨oc, hoc, hocd⟩ := id z
  refine h { s with heap := h' } ⟨I.ok, I.os, I.bare, ⟨fun b o e n hb hx => ?_, fun b o e n hb hx => ?_, I.base.free, fun b o e hx => ?_, I.base.tups, I.base.frzs, I.base.tbls⟩, ⟨m, hn.sameBut hs (Ne.symm (cne x c hc)), fun j y v' e1 e2 e3 => ?_⟩, fun y c' e => ?_, I.free, I.freeC, fun p hp => ?_, tracked ⟨oc, hoc, I.freeC x c hc⟩ hs, by simpa using I.len⟩ ⟨c, hs, .inr hc⟩
  ·exact (hs.2 b (Nat.ne_of_lt (Nat.lt_of_lt_of_le (Heap.lt_size e) (I.ok.cab x c hfn hc)))).trans (I.base.keep b o e n hb hx)
  ·obtain ⟨sl, e1⟩ := I.base.slot b o e n hb hx
   exact ⟨sl, (hs.2 b (Nat.ne_of_lt (Nat.lt_of_lt_of_le (Heap.lt_size e) (I.ok.cab x c hfn hc)))).trans e1⟩
  ·obtain ⟨o', e1⟩ := I.base.there b o e hx
   exact ⟨o', (hs.2 b (Nat.ne_of_lt (Nat.lt_of_lt_of_le (Heap.lt_size e) (I.ok.cab x c hfn hc)))).trans e1⟩
  ·by_cases hj : j = i
   ·subst hj
    rw [hi] at e1; cases e1
    rw [List.getElem?_set_self hiσ] at e2
    cases e2
    exact ⟨u, r, .inr ⟨.inl hk, c, hc, hc'⟩⟩
   ·rw [List.getElem?_set_ne (Ne.symm hj)] at e2
    obtain ⟨u', r', q⟩ := hl j y v' e1 e2 e3
    refine ⟨u', r', ?_⟩
    rcases q with q | ⟨k, c', e, z'⟩
    ·exact .inl q
    ·refine .inr ⟨k, c', e, z'.sameBut hs ?_⟩
     rintro rfl
     exact hj (xE hN e1 (I.ok.inj _ _ _ e hc ▸ hi))
  ·by_cases hcc : c' = c
   ·subst hcc; exact ⟨_, hc'⟩
   ·obtain ⟨w2, z2⟩ := I.cell y c' e
    exact ⟨w2, z2.sameBut hs hcc⟩
  ·obtain ⟨e, n, ne, nf, d⟩ := I.pin p hp
   refine ⟨(hs.2 p.1 ?_).trans e, n, ne, nf, d⟩
   intro q
   rw [q, hoc] at e
   have q' : oc = p.2 := Option.some.inj e
   exact d w' (by rw [<- q']; exact hocd)
theorem xN {M : Model} {A : Around} {E : Value -> Shared -> Prop} {i : Nat} {x : Str} {v : V} {u : Value} {Q : Unit -> Shared -> Prop} (I : Inv X pins σ H s) (hN : X.N.Nodup) (hi : X.N[i]? = some x) (hx : Loc X.env.scope x) (r : RelV v u)
  (h : ∀ s', Inv X pins (σ.set i (some v)) H s' -> Q () s') (hf : X.fn x = true \/ X.env.scope.names.lookup x = some .local := by first | exact .inl rfl | exact .inr rfl | assumption) : wpAny M A (storeName X.env x u) Q E s :=
 y7 I hN hi hx r (fun s' I' _ => h s' I') hf
theorem Inv.call' {s' : Shared} {ch : List Addr} (I : Inv X pins σ H s) (ho : s'.os = s.os) (u : Un (frs X.stack) ch H H' s.heap s'.heap) (hok : HOk X.prog X.w H' s'.heap) (hg : AllBare s'.gens)
  (hch : ∀ b ∈ ch, (b ∈ X.ex \/ X.s₀.heap.objs.size <= b) /\ b ≠ X.env.locals /\ (∀ x c, X.env.cells.lookup x = some c -> c ≠ b) /\ ∀ p ∈ X.pn ++ pins, p.1 ≠ b) : Inv X pins σ H' s' := by
 obtain ⟨h', g', d', t', o'⟩ := s'
 have e : o' = s.os := ho
 subst e
 exact I.call (g' := g') (t' := t') (d' := d') u hok hg hch
end
abbrev XK := Value -> Option Addr -> Hp -> Prop
abbrev St := List (Option V)
abbrev VK := V -> Hp -> Prop
abbrev TE := St -> Hp -> VK -> Prop
abbrev TT := St -> Hp -> (Bool -> Hp -> Prop) -> Prop
abbrev TA := St -> Hp -> (List V -> Hp -> Prop) -> Prop
structure Ends where
 nx : St -> Hp -> Prop
 rt : VK
 bk : St -> Hp -> Prop := fun _ _ => False
 ct : St -> Hp -> Prop := fun _ _ => False
abbrev TS := Ends -> St -> Hp -> Prop
def EP (X : Cx) (pins : List (Addr × Obj)) (σ : St) (Q : VK) (u : Value) (s' : Shared) : Prop := ∃ v H', Inv X pins σ H' s' /\ RelV v u /\ Q v H'
def TP (X : Cx) (pins : List (Addr × Obj)) (σ : St) (Q : Bool -> Hp -> Prop) (b : Bool) (s' : Shared) : Prop := ∃ H', Inv X pins σ H' s' /\ Q b H'
def AP (X : Cx) (pins : List (Addr × Obj)) (σ : St) (Q : List V -> Hp -> Prop) (us : List Value) (s' : Shared) : Prop := ∃ vs H', Inv X pins σ H' s' /\ Vals vs us /\ Q vs H'
def SP (X : Cx) (pins : List (Addr × Obj)) (D : Ends) (f : Flow) (s' : Shared) : Prop :=
 match f with
 | .next => ∃ σ' H', Inv X pins σ' H' s' /\ D.nx σ' H'
 | .brk => ∃ σ' H', Inv X pins σ' H' s' /\ D.bk σ' H'
 | .cont => ∃ σ' H', Inv X pins σ' H' s' /\ D.ct σ' H'
 | .ret u => ∃ v σ' H', Inv X pins σ' H' s' /\ RelV v u /\ D.rt v H'
def PE (X : Cx) (e : Expr) (t : TE) : Prop :=
 ∀ (pins : List (Addr × Obj)) (s : Shared) (σ : St) (H : Hp) (Q : VK), Inv X pins σ H s -> t σ H Q -> wpAny (model X.prog X.w) X.A (eval e X.env) (EP X pins σ Q) X.xe s
def PT (X : Cx) (e : Expr) (t : TT) : Prop :=
 ∀ (pins : List (Addr × Obj)) (s : Shared) (σ : St) (H : Hp) (Q : Bool -> Hp -> Prop), Inv X pins σ H s -> t σ H Q -> wpAny (model X.prog X.w) X.A (isTrue e X.env (eval e X.env)) (TP X pins σ Q) X.xe s
def PW (X : Cx) (e : Expr) (t : TT) : Prop :=
 ∀ (whole : Sem Value) (pins : List (Addr × Obj)) (s : Shared) (σ : St) (H : Hp) (Q : Bool -> Hp -> Prop), Inv X pins σ H s -> t σ H Q -> wpAny (model X.prog X.w) X.A (isTrue e X.env whole) (TP X pins σ Q) X.xe s
def PA (X : Cx) (es : List Expr) (t : TA) : Prop :=
 ∀ (pos : Pos) (pins : List (Addr × Obj)) (s : Shared) (σ : St) (H : Hp) (Q : List V -> Hp -> Prop), Inv X pins σ H s -> t σ H Q -> wpAny (model X.prog X.w) X.A (spliced (backTo pos (starEach es X.env))) (AP X pins σ Q) X.xe s
def PS (X : Cx) (st : Stmt) (t : TS) : Prop :=
 ∀ (pins : List (Addr × Obj)) (s : Shared) (σ : St) (H : Hp) (D : Ends), Inv X pins σ H s -> t D σ H -> wpAny (model X.prog X.w) X.A (exec st X.env) (SP X pins D) X.xe s
def PSs (X : Cx) (st : List Stmt) (t : TS) : Prop :=
 ∀ (pins : List (Addr × Obj)) (s : Shared) (σ : St) (H : Hp) (D : Ends), Inv X pins σ H s -> t D σ H -> wpAny (model X.prog X.w) X.A (execs st X.env) (SP X pins D) X.xe s
theorem thn {α : Type} {t : Sem α} {Q Q' : α -> Shared -> Prop} {M : Model} {A : Around} {E : Value -> Shared -> Prop} {s : Shared} (h : wpAny M A t Q E s) (hQ : ∀ a s, Q a s -> Q' a s) : wpAny M A t Q' E s := wpAny_mono h hQ fun _ _ x => x
section
variable {X : Cx}
def aJ7 (i : Nat) : TE := fun σ H Q => ∃ v, σ[i]? = some (some v) /\ Q v H
def tC (v : V) : TE := fun _ H Q => Q v H
theorem aGq {i : Nat} {x : Str} {pos : Pos} (hN : X.N[i]? = some x) (hv : Vis X.env.scope x) (hd : (x == ("__debug__" : Str)) = false := by decide) (hcd : (x == ("__classdict__" : Str)) = false := by decide) : PE X (.Name x pos) (aJ7 i) := by
 intro pins s σ H Q I h
 obtain ⟨v, e, h⟩ := h
 obtain ⟨m, hn, hl⟩ := I.loc
 obtain ⟨u, r, l⟩ := hl i x v hN e hv
 have fin : EP X pins σ Q u s := ⟨v, H, I, r, h⟩
 rcases l with ⟨hk, hm⟩ | ⟨hk, c, hc, hcell⟩
 ·exact wpAny_Name (wpAny_loadName_local I.ok.kind hk hn hm fin) hd
 ·rcases hk with hk | hk
  ·exact wpAny_Name (wpAny_loadName_cell I.ok.kind hk hc hcell fin) hd
  ·exact wpAny_Name (wpAny_loadName_free I.ok.kind hk hc hcell fin hcd) hd
theorem aLv {i j pos} : PE X (.Constant (.int i) j pos) (tC (.int i)) := fun _ _ _ H _ I h => wpAny_Constant_int ⟨.int i, H, I.tok _, ⟨_, rfl⟩, h⟩
theorem aOu {b j pos} : PE X (.Constant (.bool b) j pos) (tC (.bl b)) := fun _ _ _ H _ I h => Constant_bool ⟨.bl b, H, I, rfl, h⟩
theorem aLy {j pos} : PE X (.Constant .none j pos) (tC .non) := fun _ _ _ H _ I h => Constant_none ⟨.non, H, I, rfl, h⟩
def Gl (X : Cx) (x : Str) : Prop := X.env.kindOf x = some .globalImplicit
theorem aJv {E : Value -> Shared -> Prop} {pins : List (Addr × Obj)} {s : Shared} {σ : St} {H : Hp} {x : Str} {u : Value} {pos : Pos} {Q : Value -> Shared -> Prop} (I : Inv X pins σ H s) (hg : Gl X x) (hm : X.mg x = some u) (h : Q u s)
  (hd : (x == ("__debug__" : Str)) = false := by decide) : wpAny (model X.prog X.w) X.A (eval (.Name x pos) X.env) Q E s :=
 Calls.Name_function_global I.ok.kind hg (Calls.loadGlobal_global (by rw [I.ok.glob]; exact I.mod.glob.keeps I.bk) hm h) hd
theorem jJ {E : Value -> Shared -> Prop} {pins : List (Addr × Obj)} {s : Shared} {σ : St} {H : Hp} {x : Str} {u : Value} {pos : Pos} {Q : Value -> Shared -> Prop} (I : Inv X pins σ H s) (hg : Gl X x) (hm : X.mg x = none) (hv : bootBuiltins x = some u) (h : Q u s)
  (hn : x ≠ "__name__" := by decide) (hd : (x == ("__debug__" : Str)) = false := by decide) : wpAny (model X.prog X.w) X.A (eval (.Name x pos) X.env) Q E s := by
 obtain ⟨mb, h1, h2⟩ := I.mod.blt
 exact Calls.Name_function_global I.ok.kind hg (Calls.loadGlobal_builtin (by rw [I.ok.glob]; exact I.mod.glob.keeps I.bk) hm (by rw [I.ok.blt]; exact h1.keeps I.bk) ((h2 x hn).trans hv) h) hd
theorem qK {x : Str} {v : V} {u : Value} {pos : Pos} (hg : Gl X x) (hm : X.mg x = none) (hv : bootBuiltins x = some u) (r : RelV v u) (hn : x ≠ "__name__" := by decide) (hd : (x == ("__debug__" : Str)) = false := by decide) : PE X (.Name x pos) (tC v) :=
 fun _ _ _ H _ I h => jJ I hg hm hv ⟨v, H, I, r, h⟩ hn hd
variable {a b : Expr} {ta tb : TE} {pos : Pos}
def PC (X : Cx) (op : CmpOp) (a b : Expr) (t : TE) : Prop :=
 ∀ (pins : List (Addr × Obj)) (s : Shared) (σ : St) (H : Hp) (Q : VK), Inv X pins σ H s -> t σ H Q ->
  wpAny (model X.prog X.w) X.A (eval a X.env) (fun v s₁ => wpAny (model X.prog X.w) X.A (eval b X.env) (fun u s₂ => wpAny (model X.prog X.w) X.A (compareOp op v u) (EP X pins σ Q) X.xe s₂) X.xe s₁) X.xe s
theorem vM (b : Expr) {op : CmpOp} (h : op ≠ .In) (h2 : op ≠ .NotIn) : behindInMarks op b = false := by
 have e1 : (op == CmpOp.In) = false := by cases op <;> first | rfl | exact absurd rfl h
 have e2 : (op == CmpOp.NotIn) = false := by cases op <;> first | rfl | exact absurd rfl h2
 cases b <;> simp [behindInMarks, e1, e2]
def aPh (ta : TE) : TE := fun σ H Q => ta σ H fun x H1 => Q (.bl (decide (x = .non))) H1
def aMj (ta : TE) : TE := fun σ H Q => ta σ H fun x H1 => Q (.bl (!decide (x = .non))) H1
theorem RelV.none_iff {x : V} {v : Value} (r : RelV x v) : (v == Value.none) = decide (x = .non) := by
 cases x with
 | non => cases r; rfl
 | bl _ => cases r; rfl
 | int _ => obtain ⟨t, rfl⟩ := r; rfl
 | str _ => obtain ⟨t, rfl⟩ := r; rfl
 | byt _ => obtain ⟨t, rfl⟩ := r; rfl
 | flt _ => obtain ⟨t, rfl⟩ := r; rfl
 | ref _ => cases r; rfl
 | ty _ => cases r; rfl
theorem aF8 {j pos'} (ha : PE X a ta) : PC X .Is a (.Constant .none j pos') (aPh ta) := by
 intro pins s σ H Q I h
 refine thn (ha pins s σ H _ I h) fun v s1 ⟨x, H1, I1, r1, q1⟩ => ?_
 exact Constant_none (is_none_gen ⟨.bl _, H1, I1, by rw [r1.none_iff]; rfl, q1⟩)
theorem aJi {j pos'} (ha : PE X a ta) : PC X .IsNot a (.Constant .none j pos') (aMj ta) := by
 intro pins s σ H Q I h
 refine thn (ha pins s σ H _ I h) fun v s1 ⟨x, H1, I1, r1, q1⟩ => ?_
 exact Constant_none (isnot_none_gen ⟨.bl _, H1, I1, by rw [r1.none_iff]; rfl, q1⟩)
def tB (t : TE) : TT := fun σ H Q => t σ H fun x H1 => ∃ c, x = .bl c /\ Q c H1
theorem aKy {op : CmpOp} {t : TE} (h : PC X op a b t) (h1 : behindInMarks op b = false := by first | exact vM _ (by decide) (by decide) | rfl) : PE X (.Compare a [op] [b] pos) t := fun pins s σ H Q I hw => wpAny_Compare1 (h pins s σ H Q I hw) h1
theorem aBg {op : CmpOp} {t : TE} (h : PC X op a b t) (h1 : behindInMarks op b = false := by first | exact vM _ (by decide) (by decide) | rfl) : PT X (.Compare a [op] [b] pos) (tB t) := by
 intro pins s σ H Q I hw
 refine wpAny_isTrue_Compare1 (thn (h pins s σ H _ I hw) fun v s1 h1 => thn h1 fun u s2 h2 => thn h2 fun c s3 ⟨x, H1, I1, r1, q1⟩ => ?_) h1
 obtain ⟨d, rfl, q⟩ := q1
 cases r1
 exact wpAny_truthy_bool ⟨H1, I1, q⟩
theorem aL7 {e : Expr} {t : TE} (h : PE X e t) (he : ∀ whole, isTrue e X.env whole = (do let v <- whole; standAt e.pos; holding [v] (truthy v)) := by intro _; rfl) : PT X e (tB t) := by
 intro pins s σ H Q I hw
 refine isTrue_plain (thn (h pins s σ H _ I hw) fun v s1 ⟨x, H1, I1, r1, q1⟩ => ?_) (he _)
 obtain ⟨d, rfl, q⟩ := q1
 cases r1
 exact wpAny_truthy_bool ⟨H1, I1, q⟩
variable {tA tB' : TT} {rest : List Expr}
def aP2 (t u : TT) : TT := fun σ H Q => t σ H fun c H1 => if c = true then u σ H1 Q else Q false H1
def tOr (t u : TT) : TT := fun σ H Q => t σ H fun c H1 => if c = true then Q true H1 else u σ H1 Q
def aPv (t : TT) : TT := fun σ H Q => t σ H fun c H1 => Q (!c) H1
theorem aIe (ha : PT X a tA) : PW X (.BoolOp .And [a] pos) tA := by
 intro wh pins s σ H Q I h
 refine isTrue_and (thn (ha pins s σ H Q I h) fun c s1 e => ?_)
 cases c with
 | true => exact isTrue_and_nil e
 | false => exact e
theorem aL8 (ha : PT X a tA) : PW X (.BoolOp .Or [a] pos) tA := by
 intro wh pins s σ H Q I h
 refine isTrue_or (thn (ha pins s σ H Q I h) fun c s1 e => ?_)
 cases c with
 | false => exact isTrue_or_nil e
 | true => exact e
theorem aLt (ha : PT X a tA) (hb : PW X (.BoolOp .And (b :: rest) pos) tB') : PW X (.BoolOp .And (a :: b :: rest) pos) (aP2 tA tB') := by
 intro wh pins s σ H Q I h
 refine isTrue_and (thn (ha pins s σ H _ I h) fun c s1 ⟨H1, I1, q1⟩ => ?_)
 cases c with
 | true => exact hb wh pins s1 σ H1 Q I1 q1
 | false => exact ⟨H1, I1, q1⟩
theorem aNk (ha : PT X a tA) (hb : PW X (.BoolOp .Or (b :: rest) pos) tB') : PW X (.BoolOp .Or (a :: b :: rest) pos) (tOr tA tB') := by
 intro wh pins s σ H Q I h
 refine isTrue_or (thn (ha pins s σ H _ I h) fun c s1 ⟨H1, I1, q1⟩ => ?_)
 cases c with
 | true => exact ⟨H1, I1, q1⟩
 | false => exact hb wh pins s1 σ H1 Q I1 q1
theorem aKz (ha : PT X a tA) : PT X (.UnaryOp .Not a pos) (aPv tA) := by
 intro pins s σ H Q I h
 exact isTrue_not (ha pins s σ H (fun c H1 => Q (!c) H1) I h)
def aPa (ta tb : TE) : TE := fun σ H Q => ta σ H fun x H1 => ∃ c, x = .bl c /\ if c = true then tb σ H1 Q else Q (.bl false) H1
def aO4 (ta : TE) : TE := fun σ H Q => ta σ H fun x H1 => ∃ c, x = .bl c /\ Q (.bl (!c)) H1
theorem aK6 {op} {t : TE} (h : PE X a t) : PE X (.BoolOp op [a] pos) t := fun pins s σ H Q I hw => BoolOp_one (h pins s σ H Q I hw)
theorem aMw (ha : PE X a ta) (hb : PE X (.BoolOp .And (b :: rest) pos) tb) : PE X (.BoolOp .And (a :: b :: rest) pos) (aPa ta tb) := by
 intro pins s σ H Q I h
 refine BoolOp_and (thn (ha pins s σ H _ I h) fun v s1 ⟨x, H1, I1, r1, q1⟩ => ?_)
 obtain ⟨c, rfl, q1⟩ := q1
 cases r1
 refine wpAny_truthy_bool ?_
 cases c with
 | true => exact hb pins s1 σ H1 Q I1 q1
 | false => exact ⟨.bl false, H1, I1, rfl, q1⟩
theorem aK4 (ha : PE X a ta) : PE X (.UnaryOp .Not a pos) (aO4 ta) := by
 intro pins s σ H Q I h
 refine UnaryOp_ (thn (ha pins s σ H _ I h) fun v s1 ⟨x, H1, I1, r1, q1⟩ => ?_)
 obtain ⟨c, rfl, q1⟩ := q1
 cases r1
 exact not_of (wpAny_truthy_bool ⟨.bl (!c), H1, I1, rfl, q1⟩)
end
def SqL (K : PySem.W.Frag) (H : Hp) (a : Addr) (xs : List V) : Prop :=
 Rd H a (.lst xs) \/
  ∃ (o : Obj) (its : Array Value) (n : Nat), K.lookup a = some o /\ o.cls = .type "list" /\ o.dict = none /\ o.data = .seq its n /\ its.size <= sizeLine /\ Vals xs its.toList
def SqT (K : PySem.W.Frag) (H : Hp) (a : Addr) (xs : List V) : Prop :=
 Rd H a (.tup xs) \/
  ∃ (o : Obj) (its : Array Value) (n : Nat), K.lookup a = some o /\ o.cls = .type "tuple" /\ o.data = .seq its n /\ its.size <= sizeLine /\ Vals xs its.toList
def aQa : Value -> Option V
 | .none => some .non
 | .bool b => some (.bl b)
 | .int i _ => some (.int i)
 | .str x _ => some (.str x)
 | .bytes b _ => some (.byt b)
 | .float b _ => some (.flt b)
 | .ref a => some (.ref a)
 | .type n => some (.ty n)
 | _ => none
theorem RelV.abs {x : V} {u : Value} (r : RelV x u) : aQa u = some x := by
 cases x with
 | non => cases r; rfl
 | bl _ => cases r; rfl
 | int _ => obtain ⟨t, rfl⟩ := r; rfl
 | str _ => obtain ⟨t, rfl⟩ := r; rfl
 | byt _ => obtain ⟨t, rfl⟩ := r; rfl
 | flt _ => obtain ⟨t, rfl⟩ := r; rfl
 | ref _ => cases r; rfl
 | ty _ => cases r; rfl
theorem RelV.inj {x y : V} {u : Value} (r : RelV x u) (q : RelV y u) : x = y := Option.some.inj (r.abs.symm.trans q.abs)
theorem Vals.inj : ∀ {xs ys : List V} {us : List Value}, Vals xs us -> Vals ys us -> xs = ys
 | _, _, _, .nil, .nil => rfl
 | _, _, _, .cons r t, .cons r' t' => by rw [r.inj r', Vals.inj t t']
section
variable {X : Cx} {pins : List (Addr × Obj)} {σ : St} {H : Hp} {s : Shared} {a : Addr} {xs ys : List V}
theorem SqL.of {K : PySem.W.Frag} (h : H a = some (.lst xs)) : SqL K H a xs := .inl (.inl h)
theorem SqT.of {K : PySem.W.Frag} (h : H a = some (.tup xs)) : SqT K H a xs := .inl (.inl h)
theorem Inv.list (I : Inv X pins σ H s) (h : SqL X.K H a xs) : ∃ its : List Value, Vals xs its /\ PlainL s.heap a its.toArray /\ xs.length <= sizeLine := by
 rcases h with h | ⟨o, its, n, hk, hc, hd, hs, hz, r⟩
 ·obtain ⟨z, its, n, r, e⟩ := h.ok I.hok
  exact ⟨its, r, ⟨_, n, e, rfl, rfl, rfl⟩, z⟩
 ·refine ⟨its.toList, r, ⟨o, n, I.kIn a o hk, hc, hd, by simpa using hs⟩, ?_⟩
  have e := r.length
  simp only [Array.length_toList] at e
  omega
theorem Inv.tuple (I : Inv X pins σ H s) (h : SqT X.K H a xs) : ∃ its : List Value, Vals xs its /\ IsTup s.heap a its.toArray /\ xs.length <= sizeLine := by
 rcases h with h | ⟨o, its, n, hk, hc, hs, hz, r⟩
 ·obtain ⟨z, its, r, p⟩ := h.ok I.hok
  exact ⟨its, r, p, z⟩
 ·refine ⟨its.toList, r, ⟨o, I.kIn a o hk, hc, n, by simpa using hs⟩, ?_⟩
  have e := r.length
  simp only [Array.length_toList] at e
  omega
theorem Inv.list_inj (I : Inv X pins σ H s) (h : SqL X.K H a xs) (h' : SqL X.K H a ys) : xs = ys := by
 obtain ⟨its, r, ⟨o, n, e, _, _, d⟩, _⟩ := I.list h
 obtain ⟨its', r', ⟨o', n', e', _, _, d'⟩, _⟩ := I.list h'
 rw [e] at e'; cases e'
 rw [d] at d'
 injection d' with d1 _
 have : its = its' := by simpa using congrArg Array.toList d1
 subst this
 exact r.inj r'
end
section
variable {X : Cx} {pins : List (Addr × Obj)} {σ : St} {H : Hp} {s : Shared} {E : Value -> Shared -> Prop}
end
section
variable {X : Cx} {st : Stmt} {rest : List Stmt} {t u : TS} {e : Expr} {te : TE} {pos : Pos}
def aOx : TS := fun D σ H => D.nx σ H
def aPt (t u : TS) : TS := fun D σ H => t { D with nx := u D } σ H
theorem aIr : PSs X [] aOx := fun _ _ σ H _ I h => wpAny_execs_nil ⟨σ, H, I, h⟩
theorem aD4 (h1 : PS X st t) (h2 : PSs X rest u) : PSs X (st :: rest) (aPt t u) := by
 intro pins s σ H D I h
 refine wpAny_execs_cons (thn (h1 pins s σ H { D with nx := u D } I h) fun f s1 q => ?_)
 cases f with
 | next =>
  obtain ⟨σ', H', I', q⟩ := q
  exact h2 pins s1 σ' H' D I' q
 | ret v => exact q
 | brk => exact q
 | cont => exact q
theorem aJm (h1 : PS X st t) : PSs X [st] t := by
 intro pins s σ H D I h
 refine wpAny_execs_cons (thn (h1 pins s σ H D I h) fun f s1 q => ?_)
 cases f with
 | next => exact wpAny_execs_nil q
 | ret v => exact q
 | brk => exact q
 | cont => exact q
def aKq : TS := fun D σ H => D.bk σ H
theorem aE1 : PS X (.Break pos) aKq := fun _ _ σ H _ I h => wpAny_Break ⟨σ, H, I, h⟩
theorem Inv.quiet {pins : List (Addr × Obj)} {σ : St} {H : Hp} {s : Shared} (I : Inv X pins σ H s) : interactive X.env = false := by simp [interactive, I.ok.kind]
def aDw (te : TE) : TS := fun D σ H => te σ H fun _ H1 => D.nx σ H1
theorem nV (he : PE X e te) (hs : swapsWith e none pos.line X.env = pure false := by rfl) : PS X (.Expr e pos) (aDw te) := by
 intro pins s σ H D I h
 exact wpAny_Expr_any (thn (he pins s σ H _ I h) fun v s1 ⟨x, H1, I1, r1, q1⟩ => ⟨σ, H1, I1, q1⟩) I.quiet hs
def aP6 (te : TE) : TS := fun D σ H => te σ H D.rt
theorem aLp (he : PE X e te) : PS X (.Return (some e) pos) (aP6 te) := by
 intro pins s σ H D I h
 exact wpAny_Return_some (thn (he pins s σ H _ I h) fun v s1 ⟨x, H1, I1, r1, q1⟩ => ⟨x, σ, H1, I1, r1, q1⟩)
def aP4 (c : TT) (t u : TS) : TS := fun D σ H => c σ H fun b H1 => if b = true then t D σ H1 else u D σ H1
theorem aPc {c : Expr} {a b : List Stmt} {tc : TT} (hc : PT X c tc) (ha : PSs X a t) (hb : PSs X b u) : PS X (.If c a b pos) (aP4 tc t u) := by
 intro pins s σ H D I h
 refine wpAny_If (thn (hc pins s σ H _ I h) fun d s1 ⟨H1, I1, q1⟩ => ?_)
 cases d with
 | true => exact ha pins s1 σ H1 D I1 q1
 | false => exact hb pins s1 σ H1 D I1 q1
end
abbrev TG := V -> St -> Hp -> (St -> Hp -> Prop) -> Prop
abbrev TGs := List V -> St -> Hp -> (St -> Hp -> Prop) -> Prop
def PG (X : Cx) (target : Expr) (t : TG) : Prop :=
 ∀ (pins : List (Addr × Obj)) (s : Shared) (σ : St) (H : Hp) (v : V) (u : Value) (Q : St -> Hp -> Prop), Inv X pins σ H s -> RelV v u -> t v σ H Q ->
  wpAny (model X.prog X.w) X.A (assign target X.env u) (fun _ s' => ∃ σ' H', Inv X pins σ' H' s' /\ Q σ' H') X.xe s
def PGs (X : Cx) (ts : List Expr) (t : TGs) : Prop :=
 ∀ (pins : List (Addr × Obj)) (s : Shared) (σ : St) (H : Hp) (vs : List V) (us : List Value) (Q : St -> Hp -> Prop), Inv X pins σ H s -> Vals vs us -> t vs σ H Q ->
  wpAny (model X.prog X.w) X.A (assignInOrder ((assignEach ts X.env).map (·.2)) us) (fun _ s' => ∃ σ' H', Inv X pins σ' H' s' /\ Q σ' H') X.xe s
section
variable {X : Cx} {pos : Pos}
def aJy (i : Nat) : TG := fun v σ H Q => Q (σ.set i (some v)) H
theorem aCk {i : Nat} {x : Str} (hN : X.N.Nodup) (hi : X.N[i]? = some x) (hx : Loc X.env.scope x) (hf : X.fn x = true \/ X.env.scope.names.lookup x = some .local := by first | exact .inl rfl | exact .inr rfl | assumption) : PG X (.Name x pos) (aJy i) := by
 intro pins s σ H v u Q I r h
 exact wpAny_assign_Name (xN I hN hi hx r (fun s' I' => ⟨_, H, I', h⟩) hf)
def aQb : TGs := fun vs σ H Q => vs = [] /\ Q σ H
def aOi (t : TG) (u : TGs) : TGs := fun vs σ H Q => ∃ v r, vs = v :: r /\ t v σ H fun σ' H' => u r σ' H' Q
theorem aJ1 : PGs X [] aQb := by
 intro pins s σ H vs us Q I r h
 obtain ⟨e, h⟩ := h
 subst e
 cases r
 exact assignInOrder_nil ⟨σ, H, I, h⟩
theorem aDp {e : Expr} {es : List Expr} {t : TG} {u : TGs} (h1 : PG X e t) (h2 : PGs X es u)
  (hs : (assignEach (e :: es) X.env).map (·.2) = assign e X.env :: (assignEach es X.env).map (·.2) := by rfl) : PGs X (e :: es) (aOi t u) := by
 intro pins s σ H vs us Q I r h
 obtain ⟨v, vr, e1, h⟩ := h
 subst e1
 cases r with
 | cons r rr =>
  rw [hs]
  refine assignInOrder_cons (thn (h1 pins s σ H _ _ _ I r h) fun _ s1 ⟨σ1, H1, I1, q1⟩ => ?_)
  exact h2 pins s1 σ1 H1 _ _ Q I1 rr q1
def aP9 (K : PySem.W.Frag) (n : Nat) (t : TGs) : TG := fun v σ H Q => ∃ a xs, v = .ref a /\ SqT K H a xs /\ xs.length = n /\ t xs σ H Q
theorem aKb {es : List Expr} {k : Nat} {t : TGs} {n : Nat} (hc : X.calm = true) (h : PGs X es t)
  (hn : (assignEach es X.env).length = n := by rfl) (hst : (assignEach es X.env).findIdx? (·.1) = none := by rfl) : PG X (.Tuple es k pos) (aP9 X.K n t) := by
 intro pins s σ H v u Q I r hw
 obtain ⟨a, xs, e1, hq, hl, hw⟩ := hw
 subst e1
 cases r
 obtain ⟨its, rv, ht, hz⟩ := I.tuple hq
 refine assign_Tuple_tuple (I.ok.hd hc) ht (by simp [hn, <- hl, rv.length]) hst fun h' hx => ?_
 have I1 : Inv X pins σ H { s with heap := h' } := I.kept (t' := s.toks) fun b o e => hx b o (Nat.ne_of_lt (Heap.lt_size e)) e
 exact h pins _ σ H xs _ Q I1 (by simpa using rv) hw
def aPj (te : TE) (g : TG) : TS := fun D σ H => te σ H fun x H1 => g x σ H1 D.nx
theorem aM9 {i : Nat} {x : Str} {e : Expr} {te : TE} {pos' : Pos} (hN : X.N.Nodup) (hi : X.N[i]? = some x) (hx : Loc X.env.scope x) (he : PE X e te) (hs : swapsWith e (some (.Name x pos')) pos.line X.env = pure false := by rfl) (hf : X.fn x = true \/ X.env.scope.names.lookup x = some .local := by first | exact .inl rfl | exact .inr rfl | assumption) :
  PS X (.Assign [.Name x pos'] e pos) (aPj te (aJy i)) := by
 intro pins s σ H D I h
 refine wpAny_Assign_Name (thn (he pins s σ H _ I h) fun v s1 ⟨y, H1, I1, r1, q1⟩ => ?_) hs
 exact xN I1 hN hi hx r1 (fun s2 I2 => ⟨_, H1, I2, q1⟩) hf
end
section
variable {X : Cx} {pos : Pos}
def aKn (c : TT) (tb : TS) : TS := fun D σ H => ∃ W : Nat -> St -> Hp -> Prop, (∃ m, W m σ H) /\ ∀ m σ H, W m σ H ->
 c σ H fun b H1 => if b = true then ∃ N : St -> Hp -> Prop, (∀ σ' H', N σ' H' -> ∃ m', m' < m /\ W m' σ' H') /\ tb { D with nx := N, ct := N, bk := D.nx } σ H1 else D.nx σ H1
theorem aEz {c : Expr} {body : List Stmt} {tc : TT} {tb : TS} (hp : PassesOwn (model X.prog X.w) X.A X.env X.xe) (hc : PT X c tc) (hb : PSs X body tb) : PS X (.While c body [] pos) (aKn tc tb) := by
 intro pins s σ H D I h
 obtain ⟨W, ⟨m0, w0⟩, turn⟩ := h
 refine wpAny_While (codeAny_whileLoop (fun n s' => ∃ σ' H', Inv X pins σ' H' s' /\ W n σ' H') ?_ m0 ⟨σ, H, I, w0⟩)
 rintro n s1 ⟨σ1, H1, I1, w1⟩
 refine wpAny_passesOwn hp (thn (hc pins s1 σ1 H1 _ I1 (turn n σ1 H1 w1)) fun b s2 ⟨H2, I2, q2⟩ => ?_)
 cases b with
 | true =>
  obtain ⟨N, hN, q2⟩ := q2
  rw [if_pos rfl]
  refine wpAny_passesOwn hp (thn (hb pins s2 σ1 H2 _ I2 q2) fun f s3 q3 => ?_)
  cases f with
  | next =>
   obtain ⟨σ3, H3, I3, n3⟩ := q3
   obtain ⟨m', hm, w3⟩ := hN σ3 H3 n3
   exact ⟨m', hm, σ3, H3, I3, w3⟩
  | cont =>
   obtain ⟨σ3, H3, I3, n3⟩ := q3
   obtain ⟨m', hm, w3⟩ := hN σ3 H3 n3
   exact ⟨m', hm, σ3, H3, I3, w3⟩
  | brk => exact q3
  | ret v => exact q3
 | false =>
  rw [if_neg Bool.false_ne_true]
  exact wpAny_execs_nil ⟨σ1, H2, I2, q2⟩
end
structure It where
 go : Nat -> Hp -> Prop
 yld : Nat -> Hp -> V -> Hp -> Prop
 stop : Nat -> Hp -> Prop
def aDs (X : Cx) (pins : List (Addr × Obj)) (H : Hp) (b : Addr) : Prop :=
 H b = none /\ b ≠ X.env.locals /\ b ∉ X.fs /\ (b ∈ X.ex \/ X.s₀.heap.objs.size <= b) /\ (∀ x c, X.env.cells.lookup x = some c -> c ≠ b) /\ ∀ p ∈ X.pn ++ pins, p.1 ≠ b
theorem Inv.fpOk {X : Cx} {pins : List (Addr × Obj)} {σ : St} {H H' : Hp} {s : Shared} {b : Addr} (I : Inv X pins σ H s) (hb : s.heap.objs.size <= b) (hn : H' b = none) : aDs X pins H' b := by
 refine ⟨hn, Nat.ne_of_gt (Nat.lt_of_lt_of_le I.lt hb), I.nofs hb, .inr (Nat.le_trans I.sz hb), fun x c e z => ?_, fun p hp z => ?_⟩
 ·obtain ⟨v, q⟩ := I.cell x c e
  exact absurd (Nat.lt_of_lt_of_le q.lt (by rw [z]; exact hb)) (Nat.lt_irrefl _)
 ·exact absurd (Nat.lt_of_lt_of_le (Heap.lt_size (I.pin p hp).1) (by rw [z]; exact hb)) (Nat.lt_irrefl _)
structure Turn (P : Program) (w : World) (K : PySem.W.Frag) (tg : Expr) (J : It) (fp : List Addr) (it : Addr) (tn : Nat -> Heap -> Prop) : Prop where
 mem : it ∈ fp
 obj : ∀ i h, tn i h -> ∀ b ∈ fp, ∃ o, h.get? b = some o /\ ∀ v, o.data ≠ .cell v
 keep : ∀ i h h', tn i h -> (∀ b ∈ fp, ∀ o, h.get? b = some o -> h'.get? b = some o) -> tn i h'
 item : ∀ (X : Cx), X.prog = P -> X.w = w -> X.K = K -> X.calm = true -> ∀ (i : Nat) (pins : List (Addr × Obj)) (s : Shared) (σ : St) (H : Hp) (E : Value -> Shared -> Prop), Inv X pins σ H s -> (∀ b ∈ fp, aDs X pins H b) -> tn i s.heap -> J.go i H ->
  wpAny (model P w) X.A (pyNext (.ref it)) (fun r s1 => ∃ u, r = some u /\
   wpAny (model P w) X.A (letOwnedTupleGo tg (.ref it) u) (fun _ s2 => ∃ x H', Inv X pins σ H' s2 /\ RelV x u /\ J.yld i H x H' /\ tn (i + 1) s2.heap /\ ∀ b ∈ fp, H' b = none) E s1) E s
 done : ∀ (X : Cx), X.prog = P -> X.w = w -> X.K = K -> X.calm = true -> ∀ (i : Nat) (pins : List (Addr × Obj)) (s : Shared) (σ : St) (H : Hp) (E : Value -> Shared -> Prop), Inv X pins σ H s -> (∀ b ∈ fp, aDs X pins H b) -> tn i s.heap -> J.stop i H ->
  wpAny (model P w) X.A (pyNext (.ref it)) (fun r s1 => r = none /\ Inv X pins σ H s1) E s
 self : ∀ (A : Around) (i : Nat) (s : Shared) (Q : Value -> Shared -> Prop) (E : Value -> Shared -> Prop), tn i s.heap -> Q (.ref it) s -> wpAny (model P w) A (pyIter (.ref it)) Q E s
abbrev TI := St -> Hp -> (It -> Hp -> Prop) -> Prop
def PIE (X : Cx) (pins : List (Addr × Obj)) (σ : St) (tg : Expr) (R : It -> Hp -> Prop) (itv : Value) (s2 : Shared) : Prop :=
 ∃ (it : Addr) (fp : List Addr) (tn : Nat -> Heap -> Prop) (J : It) (H' : Hp), itv = .ref it /\ Inv X pins σ H' s2 /\ Turn X.prog X.w X.K tg J fp it tn /\ tn 0 s2.heap /\ (∀ b ∈ fp, aDs X pins H' b) /\ R J H'
def PI (X : Cx) (tg iter : Expr) (wi : TI) : Prop :=
 ∀ (pins : List (Addr × Obj)) (s : Shared) (σ : St) (H : Hp) (R : It -> Hp -> Prop), Inv X pins σ H s -> wi σ H R ->
  wpAny (model X.prog X.w) X.A (eval iter X.env) (fun v s1 => wpAny (model X.prog X.w) X.A (pyIter v) (PIE X pins σ tg R) X.xe s1) X.xe s
theorem aMe {M : Model} {A : Around} {E : Value -> Shared -> Prop} {s : Shared} {tg : Expr} {it : Addr} {u : Value} {o : Obj} {n : String} {vs : Array Value} {Q : Unit -> Shared -> Prop} (ho : s.heap.get? it = some o) (hc : o.cls = .type n) (hd : o.data = .fields vs)
  (hn : ["enumerate", "zip", "dict_itemiterator", "dict_reverseitemiterator", "odict_iterator", "itertools.zip_longest", "itertools.pairwise"].contains n = false) (hQ : Q () s) : wpAny M A (letOwnedTupleGo tg (.ref it) u) Q E s := by
 unfold letOwnedTupleGo
 cases tg <;> first
  | exact wpAny_pure hQ
  | (cases u <;> first
    | exact wpAny_pure hQ
    | (refine wpAny_bind (wpAny_load ho ?_)
       rw [hc, hd]
       show wpAny M A (if (["enumerate", "zip", "dict_itemiterator", "dict_reverseitemiterator", "odict_iterator", "itertools.zip_longest", "itertools.pairwise"].contains n && vs[0]? == some (rawInt _)) = true then _ else _) Q E s
       rw [if_neg (by intro h; rw [hn, Bool.false_and] at h; cases h)]
       exact wpAny_pure hQ))
def Itl (K : PySem.W.Frag) (a : Addr) : It :=
 ⟨fun i H => ∃ xs x, SqL K H a xs /\ xs[i]? = some x, fun i H x H' => H' = H /\ ∀ xs, SqL K H a xs -> xs[i]? = some x, fun i H => ∃ xs, SqL K H a xs /\ xs.length <= i⟩
def Itr (lo : Int) (n : Nat) : It := ⟨fun i _ => i < n, fun i H x H' => H' = H /\ x = .int (lo + i), fun i _ => n <= i⟩
theorem yS {P : Program} {w : World} {K : PySem.W.Frag} {tg : Expr} (a it : Addr) : Turn P w K tg (Itl K a) [it] it (fun i h => h.IsListIter it a i) where
 mem := by simp
 obj := fun i h st b hb => by
  have e : b = it := by simpa using hb
  subst e
  obtain ⟨o, e, c, d⟩ := st
  exact ⟨o, e, fun v z => by rw [d] at z; cases z⟩
 keep := fun i h h' st k => st.at fun o e => k it (by simp) o e
 item := by
  intro X hP hw hK hc i pins s σ H E I hf st hg
  subst hP hw hK
  obtain ⟨xs, x, hq, hx⟩ := hg
  obtain ⟨its, rv, p, hz⟩ := I.list hq
  obtain ⟨u, hu, ru⟩ := rv.get hx
  obtain ⟨f0, f1, f2, f3, f4, f5⟩ := hf it (by simp)
  refine wpAny_pyNext_list_item st p.isList (x := u) (by simpa using hu) fun h' st' sb => ?_
  have I1 : Inv X pins σ H { s with heap := h' } := I.turned (t' := s.toks) (fun b o hb e => (sb.2 b hb).trans e) f0 f1 f3 f4 f5
  obtain ⟨o, e, c, d⟩ := id st'
  exact ⟨u, rfl, aMe (s := { s with heap := h' }) e c d (by decide) ⟨x, H, I1, ru, ⟨rfl, fun ys hy => by rw [I.list_inj hy hq]; exact hx⟩, st', fun b hb => (hf b hb).1⟩⟩
 done := by
  intro X hP hw hK hc i pins s σ H E I hf st hg
  subst hP hw hK
  obtain ⟨xs, hq, hx⟩ := hg
  obtain ⟨its, rv, p, hz⟩ := I.list hq
  obtain ⟨f0, f1, f2, f3, f4, f5⟩ := hf it (by simp)
  have hl := rv.length
  exact wpAny_pyNext_list_end (I.ok.hd hc) st p.isList (by simp; omega) fun h' eb => ⟨rfl, I.turned (t' := s.toks) (fun b o hb e => eb b o hb e) f0 f1 f3 f4 f5⟩
 self := fun _ _ _ _ _ st h => wpAny_pyIter_listiter st h
theorem x6 {P : Program} {w : World} {K : PySem.W.Frag} {tg : Expr} (it : Addr) (lo : Int) (n : Nat) : Turn P w K tg (Itr lo n) [it] it (fun i h => IsRangeIter h it (lo + (i : Nat) * 1) ((n : Int) - (i : Nat)) 1) where
 mem := by simp
 obj := fun i h st b hb => by
  have e : b = it := by simpa using hb
  subst e
  exact ⟨_, st, fun v z => by
   have z' : Data.fields _ = Data.cell v := z
   cases z'⟩
 keep := fun i h h' st k => k it (by simp) _ st
 item := by
  intro X hP hw hK hc i pins s σ H E I hf st hg
  subst hP hw hK
  obtain ⟨f0, f1, f2, f3, f4, f5⟩ := hf it (by simp)
  have W := Walks.range (prog := X.prog) (w := X.w) (I.ok.hd hc) it lo 1 n
  refine W.item i s _ _ hg st fun v h' tk hv st' kk => ?_
  obtain ⟨t, rfl⟩ := hv
  have I1 : Inv X pins σ H { s with heap := h', toks := tk } := I.turned (fun b o hb e => kk b o (by simpa using hb) e) f0 f1 f3 f4 f5
  refine ⟨_, rfl, aMe (s := { s with heap := h', toks := tk }) (n := "range_iterator") st' rfl rfl (by decide) ⟨.int (lo + i), H, I1, ⟨t, ?_⟩, ⟨rfl, rfl⟩, st', fun b hb => (hf b hb).1⟩⟩
  rw [Int.mul_one]
 done := by
  intro X hP hw hK hc i pins s σ H E I hf st hg
  subst hP hw hK
  obtain ⟨f0, f1, f2, f3, f4, f5⟩ := hf it (by simp)
  exact wpAny_pyNext_range_end (I.ok.hd hc) st (by have : n <= i := hg; omega) fun h' eb => ⟨rfl, I.turned (t' := s.toks) (fun b o hb e => eb b o hb e) f0 f1 f3 f4 f5⟩
 self := fun _ _ _ _ _ st h => wpAny_pyIter_rangeiter st h
section
variable {X : Cx} {tg : Expr}
def aOh (K : PySem.W.Frag) (tl : TE) : TI := fun σ H R => tl σ H fun x H1 => ∃ a, x = .ref a /\ (∃ xs, SqL K H1 a xs) /\ R (Itl K a) H1
theorem aHs {l : Expr} {tl : TE} (hl : PE X l tl) : PI X tg l (aOh X.K tl) := by
 intro pins s σ H R I h
 refine thn (hl pins s σ H _ I h) fun v s1 ⟨x, H1, I1, r1, q1⟩ => ?_
 obtain ⟨a, e, ⟨xs, hq⟩, q⟩ := q1
 subst e
 cases r1
 obtain ⟨its, rv, p, hz⟩ := I1.list hq
 refine wpAny_pyIter_list p.isList ?_
 refine ⟨s1.heap.objs.size, [s1.heap.objs.size], _, _, H1, rfl, I1.kept (t' := s1.toks) fun b o e => Heap.get?_push_of_some _ e, yS a _, ⟨_, Heap.get?_push_size _ rfl, rfl, rfl⟩, fun b hb => ?_, q⟩
 have e : b = s1.heap.objs.size := by simpa using hb
 subst e
 exact I1.fpOk (Nat.le_refl _) (I1.hok.fresh (Nat.le_refl _))
theorem v8 {pins : List (Addr × Obj)} {σ : St} {H : Hp} {s : Shared} {R : It -> Hp -> Prop} {E : Value -> Shared -> Prop} {lo hi : Int} {t u v : Tok} {tk : Nat} (I : Inv X pins σ H s) (h1 : -(2 ^ 62) <= lo) (h2 : lo < 2 ^ 62) (h3 : -(2 ^ 62) <= hi) (h4 : hi < 2 ^ 62)
  (q : R (Itr lo (hi - lo).toNat) H) : wpAny (model X.prog X.w) X.A (pyIter (.ref s.heap.objs.size)) (PIE X pins σ tg R) E { s with heap := s.heap.push { cls := .type "range", data := .fields #[.int lo t, .int hi u, .int 1 v] }, toks := tk } := by
 refine wpAny_pyIter_range (IsRange.new ..) (small_one h1 h2 h3 h4) ?_
 have I1 : Inv X pins σ H { s with heap := s.heap.push { cls := .type "range", data := .fields #[.int lo t, .int hi u, .int 1 v] }, toks := tk } := I.kept fun b o e => Heap.get?_push_of_some _ e
 refine ⟨(s.heap.push { cls := .type "range", data := .fields #[.int lo t, .int hi u, .int 1 v] }).objs.size, [(s.heap.push { cls := .type "range", data := .fields #[.int lo t, .int hi u, .int 1 v] }).objs.size], _, _, H, rfl,
  I1.kept (t' := tk) fun b o e => Heap.get?_push_of_some _ e, x6 _ lo (hi - lo).toNat, ?_, fun b hb => ?_, q⟩
 ·have e1 : lo + ((0 : Nat) : Int) * 1 = lo := by simp
  have e2 : (((hi - lo).toNat : Nat) : Int) - ((0 : Nat) : Int) = Builtin.Range.rangeSize lo hi 1 := by rw [rangeSize_one]; split <;> omega
  show IsRangeIter _ _ (lo + ((0 : Nat) : Int) * 1) ((((hi - lo).toNat : Nat) : Int) - ((0 : Nat) : Int)) 1
  rw [e1, e2]
  exact Heap.get?_push_size _ rfl
 ·have e : b = (s.heap.push { cls := .type "range", data := .fields #[.int lo t, .int hi u, .int 1 v] }).objs.size := by simpa using hb
  subst e
  exact I1.fpOk (Nat.le_refl _) (I1.hok.fresh (Nat.le_refl _))
def aO7 (ta : TA) : TI := fun σ H R => ta σ H fun vs H1 => ∃ j : Int, vs = [.int j] /\ -(2 ^ 62) <= j /\ j < 2 ^ 62 /\ R (Itr 0 j.toNat) H1
def aOq (ta : TA) : TI := fun σ H R => ta σ H fun vs H1 => ∃ i j : Int, vs = [.int i, .int j] /\ (-(2 ^ 62) <= i /\ i < 2 ^ 62 /\ -(2 ^ 62) <= j /\ j < 2 ^ 62) /\ R (Itr i (j - i).toNat) H1
theorem zX {a : Expr} {ta : TA} {p pos : Pos} (hg : Gl X "range") (hm : X.mg "range" = none) (ha : PA X [a] ta) (hs : starEach [a] X.env = [(false, eval a X.env)] := by rfl) : PI X tg (.Call (.Name "range" p) [a] [] pos) (aO7 ta) := by
 intro pins s σ H R I h
 refine Call_ (jJ I hg hm boot_range (PyProof.Rows.callWith_type1 (thn (ha pos pins s σ H _ I h) fun us s1 ⟨vs, H1, I1, r1, q1⟩ => ?_) hs rfl))
 obtain ⟨j, e, q1, q2, q⟩ := q1
 subst e
 cases r1 with
 | cons r rr =>
  cases rr
  obtain ⟨t, rfl⟩ := r
  exact call_range_1 (v8 I1 (by omega) (by omega) q1 q2 (by simpa using q))
theorem aAj {a b : Expr} {ta : TA} {p pos : Pos} (hg : Gl X "range") (hm : X.mg "range" = none) (ha : PA X [a, b] ta) (hs : starEach [a, b] X.env = [(false, eval a X.env), (false, eval b X.env)] := by rfl) (hs2 : starEach [b] X.env = [(false, eval b X.env)] := by rfl) :
  PI X tg (.Call (.Name "range" p) [a, b] [] pos) (aOq ta) := by
 intro pins s σ H R I h
 refine Call_ (jJ I hg hm boot_range (PyProof.Rows.callWith_type1 (thn (ha pos pins s σ H _ I h) fun us s1 ⟨vs, H1, I1, r1, q1⟩ => ?_) (by rw [hs, hs2]) (by rw [hs2]; rfl)))
 obtain ⟨i, j, e, ⟨q1, q2, q3, q4⟩, q⟩ := q1
 subst e
 cases r1 with
 | cons r rr =>
  cases rr with
  | cons r' rr =>
   cases rr
   obtain ⟨t, rfl⟩ := r
   obtain ⟨t', rfl⟩ := r'
   exact call_range_2 (v8 I1 q1 q2 q3 q4 q)
def aPr (wi : TI) (g : TG) (tb : TS) : TS := fun D σ H => wi σ H fun J H1 => ∃ W : Nat -> Nat -> St -> Hp -> Prop, (∃ m, W 0 m σ H1) /\ ∀ i m σ H, W i m σ H ->
 (J.stop i H /\ D.nx σ H) \/ (J.go i H /\ ∃ N : St -> Hp -> Prop, (∀ σ' H', N σ' H' -> ∃ m', m' < m /\ W (i + 1) m' σ' H') /\ ∀ x H', J.yld i H x H' -> g x σ H' fun σ2 H2 => tb { D with nx := N, ct := N, bk := D.nx } σ2 H2)
def wM (fp : List Addr) (h : Heap) : List (Addr × Obj) := fp.filterMap fun b => (h.get? b).map fun o => (b, o)
theorem fD {fp : List Addr} {h : Heap} {b : Addr} {o : Obj} (hb : b ∈ fp) (e : h.get? b = some o) : (b, o) ∈ wM fp h := List.mem_filterMap.mpr ⟨b, hb, by rw [e]; rfl⟩
theorem aCj {fp : List Addr} {h : Heap} {p : Addr × Obj} (hp : p ∈ wM fp h) : p.1 ∈ fp /\ h.get? p.1 = some p.2 := by
 obtain ⟨b, hb, e⟩ := List.mem_filterMap.mp hp
 cases q : h.get? b with
 | none => rw [q] at e; cases e
 | some o =>
  rw [q] at e
  have e' : (b, o) = p := Option.some.inj e
  subst e'
  exact ⟨hb, q⟩
theorem Inv.pinned {pins : List (Addr × Obj)} {σ : St} {H : Hp} {s : Shared} {fp : List Addr} (I : Inv X pins σ H s) (hf : ∀ b ∈ fp, aDs X pins H b) (ho : ∀ b ∈ fp, ∃ o, s.heap.get? b = some o /\ ∀ v, o.data ≠ .cell v) : Inv X (pins ++ wM fp s.heap) σ H s :=
 I.pins_of fun p hp => (List.mem_append.mp hp).elim (fun z => I.pin p (List.mem_append_right _ z)) fun z => by
  obtain ⟨hb, e⟩ := aCj z
  obtain ⟨f0, f1, f2, _⟩ := hf p.1 hb
  obtain ⟨o, e', d⟩ := ho p.1 hb
  rw [e] at e'; cases e'
  exact ⟨e, f0, f1, f2, d⟩
theorem Inv.unpinned {pins pl : List (Addr × Obj)} {σ : St} {H : Hp} {s : Shared} (I : Inv X (pins ++ pl) σ H s) : Inv X pins σ H s := I.pins_of fun p hp => I.pin p (List.mem_append_right _ (List.mem_append_left _ hp))
theorem aKg {iter : Expr} {body : List Stmt} {wi : TI} {g : TG} {tb : TS} {pos : Pos} (hp : PassesOwn (model X.prog X.w) X.A X.env X.xe) (hc : X.calm = true) (hi : PI X tg iter wi) (hg : PG X tg g) (hb : PSs X body tb)
  (hs : ∀ x, foldedSetIterable iter X.env x = pure x := by intro _; rfl) : PS X (.For tg iter body [] pos) (aPr wi g tb) := by
 intro pins s σ H D I h
 refine wpAny_For (thn (hi pins s σ H _ I h) fun v s1 h1 => thn h1 fun itv s2 h2 => ?_) hs
 obtain ⟨it, fp, tn, J, H2, e, I2, T, st2, f2, W, ⟨m0, w0⟩, turn⟩ := h2
 subst e
 have stat : ∀ {H' : Hp}, (∀ b ∈ fp, H' b = none) -> ∀ b ∈ fp, aDs X pins H' b := fun hn b hb => ⟨hn b hb, (f2 b hb).2⟩
 refine codeAny_forLoop_any (fun n s' => ∃ i σ' H', Inv X pins σ' H' s' /\ tn i s'.heap /\ (∀ b ∈ fp, H' b = none) /\ W i n σ' H') ?_ m0 ⟨0, σ, H2, I2, st2, fun b hb => (f2 b hb).1, w0⟩
 rintro n s3 ⟨i, σ3, H3, I3, st3, fr3, w3⟩
 rcases turn i n σ3 H3 w3 with ⟨stop, qn⟩ | ⟨go, N, hN, step⟩
 ·refine wpAny_passesOwn hp (thn (T.done X rfl rfl rfl hc i pins s3 σ3 H3 X.xe I3 (stat fr3) st3 stop) fun r s4 ⟨hr, I4⟩ => ?_)
  subst hr
  exact wpAny_execs_nil ⟨σ3, H3, I4, qn⟩
 ·refine wpAny_passesOwn hp (thn (T.item X rfl rfl rfl hc i pins s3 σ3 H3 X.xe I3 (stat fr3) st3 go) fun r s4 ⟨u, hr, h4⟩ => ?_)
  subst hr
  refine wpAny_passesOwn hp (thn h4 fun _ s5 ⟨x, H5, I5, r5, y5, st5, fr5⟩ => ?_)
  have I5' := I5.pinned (stat fr5) (T.obj _ _ st5)
  refine wpAny_passesOwn hp (thn (hg _ s5 σ3 H5 x u _ I5' r5 (step x H5 y5)) fun _ s6 ⟨σ6, H6, I6, q6⟩ => ?_)
  refine wpAny_passesOwn hp (thn (hb _ s6 σ6 H6 _ I6 q6) fun f s7 q7 => ?_)
  have again : ∀ {σ7 : St} {H7 : Hp}, Inv X (pins ++ wM fp s5.heap) σ7 H7 s7 -> N σ7 H7 -> ∃ m, m < n /\ ∃ i σ' H', Inv X pins σ' H' s7 /\ tn i s7.heap /\ (∀ b ∈ fp, H' b = none) /\ W i m σ' H' := fun {σ7 H7} I7 n7 => by
   obtain ⟨m', hm, w7⟩ := hN σ7 H7 n7
   refine ⟨m', hm, i + 1, σ7, H7, I7.unpinned, T.keep _ _ _ st5 fun b hb o e => (I7.pin (b, o) (List.mem_append_right _ (List.mem_append_right _ (fD hb e)))).1, fun b hb => ?_, w7⟩
   obtain ⟨o, e, d⟩ := T.obj _ _ st5 b hb
   exact (I7.pin (b, o) (List.mem_append_right _ (List.mem_append_right _ (fD hb e)))).2.1
  cases f with
  | next => obtain ⟨σ7, H7, I7, n7⟩ := q7; exact again I7 n7
  | cont => obtain ⟨σ7, H7, I7, n7⟩ := q7; exact again I7 n7
  | brk => obtain ⟨σ7, H7, I7, q7⟩ := q7; exact ⟨σ7, H7, I7.unpinned, q7⟩
  | ret v => obtain ⟨x7, σ7, H7, I7, r7, q7⟩ := q7; exact ⟨x7, σ7, H7, I7.unpinned, r7, q7⟩
end
abbrev R2 := V -> V -> Hp -> VK -> Prop
def OpR (X : Cx) (f : Value -> Value -> Sem Value) (r : R2) : Prop :=
 ∀ (pins : List (Addr × Obj)) (s : Shared) (σ : St) (H : Hp) (x y : V) (v u : Value) (Q : VK), Inv X pins σ H s -> RelV x v -> RelV y u -> r x y H Q ->
  wpAny (model X.prog X.w) X.A (f v u) (EP X pins σ Q) X.xe s
def UnR (X : Cx) (f : Value -> Sem Value) (r : V -> Hp -> VK -> Prop) : Prop :=
 ∀ (pins : List (Addr × Obj)) (s : Shared) (σ : St) (H : Hp) (x : V) (v : Value) (Q : VK), Inv X pins σ H s -> RelV x v -> r x H Q ->
  wpAny (model X.prog X.w) X.A (f v) (EP X pins σ Q) X.xe s
def mG (X : Cx) (f : Value) (r : List V -> Hp -> VK -> Prop) : Prop :=
 ∀ (pins : List (Addr × Obj)) (s : Shared) (σ : St) (H : Hp) (xs : List V) (us : List Value) (Q : VK), Inv X pins σ H s -> Vals xs us -> r xs H Q ->
  wpAny (model X.prog X.w) X.A (call f us) (EP X pins σ Q) X.xe s
def tOp (r : R2) (ta tb : TE) : TE := fun σ H Q => ta σ H fun x H1 => tb σ H1 fun y H2 => r x y H2 Q
def tUn (r : V -> Hp -> VK -> Prop) (ta : TE) : TE := fun σ H Q => ta σ H fun x H1 => r x H1 Q
def rI (C : Int -> Int -> Prop) (g : Int -> Int -> V) : R2 := fun x y H Q => ∃ i j, x = .int i /\ y = .int j /\ C i j /\ Q (g i j) H
def rI0 (g : Int -> Int -> V) : R2 := fun x y H Q => ∃ i j, x = .int i /\ y = .int j /\ Q (g i j) H
def rU (g : Int -> V) : V -> Hp -> VK -> Prop := fun x H Q => ∃ i, x = .int i /\ Q (g i) H
section
variable {X : Cx} {a b c : Expr} {ta tb tc : TE} {pos : Pos}
theorem aOp (ha : PE X a ta) (hb : PE X b tb) {pins : List (Addr × Obj)} {s : Shared} {σ : St} {H : Hp} {R : V -> V -> Hp -> Prop} (I : Inv X pins σ H s)
  (h : ta σ H fun x H1 => tb σ H1 fun y H2 => R x y H2) {Q : Value -> Shared -> Prop} {f : Value -> Value -> Sem Value}
  (hf : ∀ v u s2 x y H2, Inv X pins σ H2 s2 -> RelV x v -> RelV y u -> R x y H2 -> wpAny (model X.prog X.w) X.A (f v u) Q X.xe s2) :
  wpAny (model X.prog X.w) X.A (eval a X.env) (fun v s₁ => wpAny (model X.prog X.w) X.A (eval b X.env) (fun u s₂ => wpAny (model X.prog X.w) X.A (f v u) Q X.xe s₂) X.xe s₁) X.xe s := by
 refine thn (ha pins s σ H _ I h) fun v s1 ⟨x, H1, I1, r1, q1⟩ => ?_
 refine thn (hb pins s1 σ H1 _ I1 q1) fun u s2 ⟨y, H2, I2, r2, q2⟩ => ?_
 exact hf v u s2 x y H2 I2 r1 r2 q2
theorem aN9 {op : Operator} {r : R2} (ho : OpR X (binaryOp op) r) (ha : PE X a ta) (hb : PE X b tb) : PE X (.BinOp a op b pos) (tOp r ta tb) := by
 intro pins s σ H Q I h
 exact wpAny_BinOp (aOp ha hb I h fun v u s2 x y H2 I2 rx ry q => ho pins s2 σ H2 x y v u Q I2 rx ry q)
theorem aOv {op : UnaryOp} {r : V -> Hp -> VK -> Prop} (ho : UnR X (unaryOp op) r) (ha : PE X a ta) : PE X (.UnaryOp op a pos) (tUn r ta) := by
 intro pins s σ H Q I h
 exact UnaryOp_ (thn (ha pins s σ H _ I h) fun v s1 ⟨x, H1, I1, r1, q1⟩ => ho pins s1 σ H1 x v Q I1 r1 q1)
theorem opI {f : Value -> Value -> Sem Value} {C : Int -> Int -> Prop} {g : Int -> Int -> Int}
  (rule : ∀ (i j : Int) (t u : Tok) (s : Shared) (Q : Value -> Shared -> Prop) (E : Value -> Shared -> Prop), C i j -> Q (.int (g i j) s.toks) { s with toks := s.toks + 1 } -> wpAny (model X.prog X.w) X.A (f (.int i t) (.int j u)) Q E s) :
  OpR X f (rI C fun i j => .int (g i j)) := by
 intro pins s σ H x y v u Q I rx ry h
 obtain ⟨i, j, rfl, rfl, hc, q⟩ := h
 obtain ⟨t, rfl⟩ := rx
 obtain ⟨t', rfl⟩ := ry
 exact rule i j t t' s _ _ hc ⟨.int (g i j), H, I.tok _, ⟨_, rfl⟩, q⟩
theorem aPf {f : Value -> Value -> Sem Value} {g : Int -> Int -> Int}
  (rule : ∀ (i j : Int) (t u : Tok) (s : Shared) (Q : Value -> Shared -> Prop) (E : Value -> Shared -> Prop), Q (.int (g i j) s.toks) { s with toks := s.toks + 1 } -> wpAny (model X.prog X.w) X.A (f (.int i t) (.int j u)) Q E s) :
  OpR X f (rI0 fun i j => .int (g i j)) := by
 intro pins s σ H x y v u Q I rx ry h
 obtain ⟨i, j, rfl, rfl, q⟩ := h
 obtain ⟨t, rfl⟩ := rx
 obtain ⟨t', rfl⟩ := ry
 exact rule i j t t' s _ _ ⟨.int (g i j), H, I.tok _, ⟨_, rfl⟩, q⟩
theorem aOn {f : Value -> Value -> Sem Value} {g : Int -> Int -> Bool}
  (rule : ∀ (i j : Int) (t u : Tok) (s : Shared) (Q : Value -> Shared -> Prop) (E : Value -> Shared -> Prop), Q (.bool (g i j)) s -> wpAny (model X.prog X.w) X.A (f (.int i t) (.int j u)) Q E s) :
  OpR X f (rI0 fun i j => .bl (g i j)) := by
 intro pins s σ H x y v u Q I rx ry h
 obtain ⟨i, j, rfl, rfl, q⟩ := h
 obtain ⟨t, rfl⟩ := rx
 obtain ⟨t', rfl⟩ := ry
 exact rule i j t t' s _ _ ⟨.bl (g i j), H, I, rfl, q⟩
def aDq (i j : Int) : Prop := 0 <= j /\ j <= 1000000 /\ i.natAbs < 2 ^ 64
def CMul (i j : Int) : Prop := (-(2 ^ 64) < i /\ i < 2 ^ 64) \/ (-(2 ^ 64) < j /\ j < 2 ^ 64)
theorem CMul.ok {i j : Int} (h : CMul i j) : IntMulOk i j := by
 rcases h with ⟨h1, h2⟩ | ⟨h1, h2⟩
 ·exact .of_left (intBits_le_64 h1 h2)
 ·exact .of_right (intBits_le_64 h1 h2)
theorem aK0 : OpR X (binaryOp .Add) (rI0 fun i j => .int (i + j)) := aPf fun _ _ _ _ _ _ _ q => add_int q
theorem cM : OpR X (binaryOp .Sub) (rI0 fun i j => .int (i - j)) := aPf fun _ _ _ _ _ _ _ q => sub_int q
theorem aY : OpR X (binaryOp .Mod) (rI (fun _ j => j ≠ 0) fun i j => .int (i.fmod j)) := opI fun _ _ _ _ _ _ _ hc q => mod_int' hc q
theorem iQ : OpR X (binaryOp .Pow) (rI aDq fun i j => .int (i ^ j.toNat)) := opI fun _ _ _ _ _ _ _ hc q => pow_int_small hc.1 hc.2.1 hc.2.2 q
theorem unI {f : Value -> Sem Value} {g : Int -> Int}
  (rule : ∀ (i : Int) (t : Tok) (s : Shared) (Q : Value -> Shared -> Prop) (E : Value -> Shared -> Prop), Q (.int (g i) s.toks) { s with toks := s.toks + 1 } -> wpAny (model X.prog X.w) X.A (f (.int i t)) Q E s) :
  UnR X f (rU fun i => .int (g i)) := by
 intro pins s σ H x v Q I rx h
 obtain ⟨i, rfl, q⟩ := h
 obtain ⟨t, rfl⟩ := rx
 exact rule i t s _ _ ⟨.int (g i), H, I.tok _, ⟨_, rfl⟩, q⟩
theorem aLs : UnR X (unaryOp .USub) (rU fun i => .int (-i)) := unI fun _ _ _ _ _ q => neg_int q
end
section
variable {X : Cx} {a b c : Expr} {ta tb tc : TE} {pos : Pos}
theorem aEf : OpR X (compareOp .Lt) (rI0 fun i j => .bl (decide (i < j))) := aOn fun _ _ _ _ _ _ _ q => lt_int q
theorem aNy : OpR X (compareOp .LtE) (rI0 fun i j => .bl (decide (i <= j))) := aOn fun _ _ _ _ _ _ _ q => le_int q
theorem aD2 : OpR X (compareOp .Gt) (rI0 fun i j => .bl (decide (j < i))) := aOn fun _ _ _ _ _ _ _ q => gt_int q
theorem OpR.or {f : Value -> Value -> Sem Value} {r r' : R2} (h : OpR X f r) (h' : OpR X f r') : OpR X f (fun x y H Q => r x y H Q \/ r' x y H Q) := by
 intro pins s σ H x y v u Q I rx ry q
 rcases q with q | q
 ·exact h pins s σ H x y v u Q I rx ry q
 ·exact h' pins s σ H x y v u Q I rx ry q
theorem cO (b : Expr) {op : CmpOp} (h : op ≠ .In := by decide) (h2 : op ≠ .NotIn := by decide) : behindInMarks op b = false := by
 have e1 : (op == CmpOp.In) = false := by cases op <;> first | rfl | exact absurd rfl h
 have e2 : (op == CmpOp.NotIn) = false := by cases op <;> first | rfl | exact absurd rfl h2
 cases b <;> simp [behindInMarks, e1, e2]
theorem aHg {op : CmpOp} {r : R2} (ho : OpR X (compareOp op) r) (ha : PE X a ta) (hb : PE X b tb) (hm : behindInMarks op b = false) : PE X (.Compare a [op] [b] pos) (tOp r ta tb) := by
 intro pins s σ H Q I h
 exact wpAny_Compare1 (aOp ha hb I h fun v u s2 x y H2 I2 rx ry q => ho pins s2 σ H2 x y v u Q I2 rx ry q) hm
def aO1 (t : TE) : TT := fun σ H Q => t σ H fun x H' => ∃ k, x = .bl k /\ Q k H'
theorem aIu {op : CmpOp} {r : R2} (ho : OpR X (compareOp op) r) (ha : PE X a ta) (hb : PE X b tb) (hm : behindInMarks op b = false) : PT X (.Compare a [op] [b] pos) (aO1 (tOp r ta tb)) := by
 intro pins s σ H Q I h
 refine wpAny_isTrue_Compare1 (thn (ha pins s σ H _ I h) fun v s1 ⟨x, H1, I1, r1, q1⟩ => thn (hb pins s1 σ H1 _ I1 q1) fun u s2 ⟨y, H2, I2, r2, q2⟩ =>
  thn (ho pins s2 σ H2 x y v u _ I2 r1 r2 q2) fun c s3 ⟨z, H3, I3, r3, k, e, q3⟩ => ?_) hm
 subst e
 cases r3
 exact wpAny_truthy_bool ⟨H3, I3, q3⟩
theorem zD : (sizeLine : Nat) < 2 ^ 63 := by rw [sizeLine_eq]; decide
theorem xW : OpR X (binaryOp .Add) (fun x y H Q => ∃ i j, x = .str i /\ y = .str j /\ i.length + j.length <= sizeLine /\ Q (.str (i ++ j)) H) := by
 intro pins s σ H x y v u Q I rx ry h
 obtain ⟨i, j, rfl, rfl, hz, q⟩ := h
 obtain ⟨t, rfl⟩ := rx
 obtain ⟨t', rfl⟩ := ry
 exact add_str (fun t' tk => ⟨.str (i ++ j), H, I.tok _, ⟨_, rfl⟩, q⟩) hz
theorem vals1 {x : V} {us : List Value} (r : Vals [x] us) : ∃ u, us = [u] /\ RelV x u := by
 cases r with
 | cons r1 r2 => cases r2; exact ⟨_, rfl, r1⟩
theorem vals2 {x y : V} {us : List Value} (r : Vals [x, y] us) : ∃ u w', us = [u, w'] /\ RelV x u /\ RelV y w' := by
 cases r with
 | cons r1 r2 =>
  cases r2 with
  | cons r3 r4 => cases r4; exact ⟨_, _, rfl, r1, r3⟩
theorem gZ : mG X (.builtin "abs") (fun xs H Q => ∃ i, xs = [.int i] /\ Q (.int (if i < 0 then -i else i)) H) := by
 intro pins s σ H xs us Q I r h
 obtain ⟨i, rfl, q⟩ := h
 obtain ⟨u, rfl, t, rfl⟩ := vals1 r
 exact call_abs_int fun u tk => ⟨.int (if i < 0 then -i else i), H, I.tok _, ⟨_, rfl⟩, q⟩
theorem aB4 (hc : X.calm = true) : mG X (.builtin "max") (fun xs H Q => ∃ i j, xs = [.int i, .int j] /\ Q (.int (if j > i then j else i)) H) := by
 intro pins s σ H xs us Q I r h
 obtain ⟨i, j, rfl, q⟩ := h
 obtain ⟨u, w', rfl, ⟨t, rfl⟩, ⟨t', rfl⟩⟩ := vals2 r
 refine max_two_ints (I.ok.hd hc) fun h' tk k => ⟨_, H, I.kept k, ?_, q⟩
 by_cases hj : j > i
 ·rw [if_pos hj, if_pos hj]; exact ⟨_, rfl⟩
 ·rw [if_neg hj, if_neg hj]; exact ⟨_, rfl⟩
end
structure ObjM (h : Heap) (x dx C : Addr) (mA : Str -> Option Value) : Prop where
 obj : h.get? x = some (PySem.W.instObj C dx)
 ns : h.Ns1 dx mA
 ne : dx ≠ x
theorem yM {h : Heap} {dx : Addr} {mA : Str -> Option Value} (n : h.Ns1 dx mA) : ∃ od, h.get? dx = some od /\ ∀ name, PySem.W.lookIn name od = some (mA name) := by
 obtain ⟨o, es, ep, ho, hd, hk, _, hm⟩ := n
 refine ⟨o, ho, fun name => ?_⟩
 have e := hm name
 unfold nsFind findBy at e
 rw [<- Array.find?_toList] at e
 unfold PySem.W.lookIn
 rw [hd]
 dsimp only
 split
 ·rename_i y q
  rw [q] at e
  exact congrArg some e
 ·rename_i q
  rw [q] at e
  have a : es.toList.any (·.refKey) = false := by
   rw [List.any_eq_false]
   intro y hy
   obtain ⟨z, t, hkey⟩ := hk y (Array.mem_toList_iff.mp hy)
   simp [DictEntry.refKey, hkey]
  have a' : ¬ es.toList.any (·.refKey) = true := by rw [a]; exact Bool.false_ne_true
  rw [if_neg a']
  exact congrArg some e
theorem ObjM.look {h : Heap} {x dx C : Addr} {mA : Str -> Option Value} (I : ObjM h x dx C mA) : ∃ od, PySem.W.InstAt h x (PySem.W.instObj C dx) C (some od) /\ ∀ name, PySem.W.lookIn name od = some (mA name) :=
 let ⟨od, ho, hl⟩ := yM I.ns
 ⟨od, ⟨I.obj, rfl, rfl, ho⟩, hl⟩
section
variable {prog : Program} {w : World} {A : Around} {E : Value -> Shared -> Prop} {s : Shared} {K : PySem.W.Frag} {x dx C f : Addr} {mA : Str -> Option Value} {name : Str} {v : Value}
end
theorem RelO.some_of {v : V} {o : Option Value} (r : RelO (some v) o) : ∃ u, o = some u /\ RelV v u := by
 cases o with
 | none => exact (show False from r).elim
 | some u => exact ⟨u, rfl, r⟩
section
variable {P : Program} {w : World} {H H' : Hp} {h h' : Heap} {a C dx : Addr} {fs fs' : List (Str × V)}
theorem aI5 (hok : HOk P w H h) (e : H a = some (.ins C dx fs)) : ∃ mA, ObjM h a dx C mA /\ (∀ f, RelO (fs.lookup f) (mA f)) /\ PySem.Within mA (fs.map (·.1)) /\ fs.length <= 1000 /\ H dx = some (.own a) := by
 obtain ⟨d, z, ne, ob, mA, n, r, q⟩ := (show ObjOk P w H h a (.ins C dx fs) from hok a _ e)
 exact ⟨mA, ⟨ob, n, ne⟩, r, q, z, d⟩
end
structure Cls (K : PySem.W.Frag) (C : Addr) : Prop where
 pg : PySem.W.plainGet K C Str.empty = true
 hd : PySem.W.hasDictIn K C = true
 po : PySem.W.plainOver K C = true
 sa : PySem.W.findIn K (.ref C) "__setattr__" = some (some (.builtin "object.__setattr__"))
theorem Cls.get {K : PySem.W.Frag} {C : Addr} (c : Cls K C) (f : Str) : PySem.W.plainGet K C f = true := c.pg
section
variable {X : Cx} {pins : List (Addr × Obj)} {σ : St} {H : Hp} {s : Shared} {a C dx : Addr} {fs : List (Str × V)} {f : Str} {v : V} {A : Around} {E : Value -> Shared -> Prop}
end
section
variable {X : Cx} {o e value : Expr} {f : Str} {pos pos' tpos : Pos} {ta tv : TE}
end
section
variable {X : Cx} {pins : List (Addr × Obj)} {σ : St} {H : Hp} {s : Shared} {A : Around} {E : Value -> Shared -> Prop} {Q : Value -> Shared -> Prop} {c : Value} {b : Bool}
inductive xK (K : PySem.W.Frag) (H : Hp) : V -> Value -> Prop where
 | non : xK K H .non (.type "NoneType")
 | bl (x : Bool) : xK K H (.bl x) (.type "bool")
 | int (i : Int) : xK K H (.int i) (.type "int")
 | str (x : Str) : xK K H (.str x) (.type "str")
 | flt (x : UInt64) : xK K H (.flt x) (.type "float")
 | lst {a : Addr} {xs : List V} (e : H a = some (.lst xs)) : xK K H (.ref a) (.type "list")
 | frz {a : Addr} {o : Obj} {xs : List V} (e : H a = some (.frz o (.lst xs))) : xK K H (.ref a) (.type "list")
 | tup {a : Addr} {xs : List V} (e : H a = some (.tup xs)) : xK K H (.ref a) (.type "tuple")
 | dK {a : Addr} {kvs : List (Key × V)} (e : H a = some (.dK kvs)) : xK K H (.ref a) (.type "dict")
 | dT {a : Addr} {kvs : List (List Key × V)} (e : H a = some (.dT kvs)) : xK K H (.ref a) (.type "dict")
 | ins {a C dx : Addr} {fs : List (Str × V)} (e : H a = some (.ins C dx fs)) (cl : Cls K C) (ha : PySem.W.findIn K (.ref C) "__class__" = some (some (.builtin "object.__class__")))
   (hn : PySem.W.specialIn K (.builtin "object.__class__") "__get__" = some (some (.builtin "getset_descriptor.__get__"))) (htk : PySem.W.takesIn K (.builtin "object.__class__") = some true)
   (hm : PySem.W.mroIn K C (.type "object") = some true) : xK K H (.ref a) (.ref C)
theorem aBw {x : V} {u t : Value} (I : Inv X pins σ H s) (rx : RelV x u) (ty : xK X.K H x t) (e : PySem.W.kitOne X.K t c = some b) (h : ∀ tk, Q (.bool b) { s with toks := tk }) :
  wpAny (model X.prog X.w) A (call (.builtin "isinstance") [u, c]) Q E s := by
 cases ty with
 | non => cases (show u = Value.none from rx); exact PySem.W.kia_one PySem.W.kitx_none I.kIn True.intro e (fun z => nomatch z) h
 | bl y => cases (show u = Value.bool y from rx); exact PySem.W.kia_one PySem.W.kitx_bool I.kIn True.intro e (fun z => nomatch z) h
 | int i => obtain ⟨t, q⟩ := (show ∃ t, u = Value.int i t from rx); cases q; exact PySem.W.kia_one PySem.W.kitx_int I.kIn True.intro e (fun z => nomatch z) h
 | str y => obtain ⟨t, q⟩ := (show ∃ t, u = Value.str y t from rx); cases q; exact PySem.W.kia_one PySem.W.kitx_str I.kIn True.intro e (fun z => nomatch z) h
 | flt y => obtain ⟨t, q⟩ := (show ∃ t, u = Value.float y t from rx); cases q; exact PySem.W.kia_one PySem.W.kitx_float I.kIn True.intro e (fun z => nomatch z) h
 | @lst a xs ea =>
  cases (show u = Value.ref a from rx)
  obtain ⟨_, _, n, _, h1⟩ := (show ObjOk X.prog X.w H s.heap a (.lst xs) from I.hok a _ ea)
  exact PySem.W.kia_one PySem.W.kitx_list I.kIn ⟨_, h1, rfl⟩ e (fun z => nomatch z) h
 | @frz a ob xs ea =>
  cases (show u = Value.ref a from rx)
  obtain ⟨_, _, _, n, _, h1⟩ := (show ObjOk X.prog X.w H s.heap a (.frz ob (.lst xs)) from I.hok a _ ea)
  exact PySem.W.kia_one PySem.W.kitx_list I.kIn ⟨_, h1, rfl⟩ e (fun z => nomatch z) h
 | @tup a xs ea =>
  cases (show u = Value.ref a from rx)
  obtain ⟨_, _, _, p⟩ := (show ObjOk X.prog X.w H s.heap a (.tup xs) from I.hok a _ ea)
  obtain ⟨o, h1, h2, _⟩ := p
  exact PySem.W.kia_one PySem.W.kitx_tuple I.kIn ⟨o, h1, h2⟩ e (fun z => nomatch z) h
 | @dK a kvs ea =>
  cases (show u = Value.ref a from rx)
  obtain ⟨_, _, vs, _, p⟩ := (show ObjOk X.prog X.w H s.heap a (.dK kvs) from I.hok a _ ea)
  obtain ⟨o, es, ep, h1, h2, _⟩ := p
  exact PySem.W.kia_one PySem.W.kitx_dict I.kIn ⟨o, h1, h2.1⟩ e (fun z => nomatch z) h
 | @dT a kvs ea =>
  cases (show u = Value.ref a from rx)
  obtain ⟨_, _, xs, _, o, es, ep, h1, h2, _⟩ := (show ObjOk X.prog X.w H s.heap a (.dT kvs) from I.hok a _ ea)
  exact PySem.W.kia_one PySem.W.kitx_dict I.kIn ⟨o, h1, h2.1⟩ e (fun z => nomatch z) h
 | @ins a C dx fs ea cl ha hn htk hm =>
  cases (show u = Value.ref a from rx)
  obtain ⟨mA, O, _⟩ := aI5 I.hok ea
  obtain ⟨od, J, _⟩ := O.look
  exact PySem.W.kia_one (PySem.W.kitx_own (cl.get _) cl.hd ha hn htk hm) I.kIn J e (fun z => nomatch z) h
end
structure Room (k : Nat) (A : Around) : Prop where
 hd : A.handled = none
 dp : A.depth + 3 * k + 5 < recursionLimit
 un : A.units + 16 * k + 200 < cLine
theorem Room.mono {j k : Nat} {A : Around} (r : Room k A) (h : j <= k) : Room j A := ⟨r.hd, by have := r.dp; omega, by have := r.un; omega⟩
theorem Room.deeper {k : Nat} {A : Around} (r : Room (k + 1) A) (env : Env) : Room k (A.deeper env) :=
 ⟨r.hd, by have := r.dp; show A.depth + 1 + 3 * k + 5 < _; omega, by have := r.un; show A.units + 3 + 16 * k + 200 < _; omega⟩
theorem Room.depth {k : Nat} {A : Around} (r : Room k A) : A.depth < recursionLimit := by have := r.dp; omega
def aPm : TA := fun _ H Q => Q [] H
def aL0 (ta : TE) (tr : TA) : TA := fun σ H Q => ta σ H fun x H1 => tr σ H1 fun xs H2 => Q (x :: xs) H2
section
variable {X : Cx} {e : Expr} {es : List Expr} {te : TE} {t : TA} {pos : Pos}
theorem oZ : PA X [] aPm := fun _ _ _ _ H Q I h => Calls.spliced_nil ⟨[], H, I, .nil, h⟩
theorem jO (ha : PE X e te) (hr : PA X es t) (hs : starEach (e :: es) X.env = (false, eval e X.env) :: starEach es X.env := by rfl) : PA X (e :: es) (aL0 te t) := by
 intro pos pins s σ H Q I h
 rw [hs]
 show wpAny _ _ (spliced ((false, eval e X.env) :: backTo pos (starEach es X.env))) _ _ s
 refine Calls.spliced_cons (thn (ha pins s σ H _ I h) fun u s1 ⟨x, H1, I1, r1, q1⟩ => ?_)
 exact thn (hr pos pins s1 σ H1 _ I1 q1) fun us s2 ⟨xs, H2, I2, r2, q2⟩ => ⟨x :: xs, H2, I2, .cons r1 r2, q2⟩
def aP0 (t : TA) : TE := fun σ H Q => t σ H fun xs H1 => xs.length <= sizeLine /\ ∀ p, H1 p = none -> Q (.ref p) (upd H1 p (.tup xs))
def aP8 (t : TA) : TE := fun σ H Q => t σ H fun xs H1 => xs.length <= sizeLine /\ ∀ p, H1 p = none -> Q (.ref p) (upd H1 p (.lst xs))
theorem aKo {x1} (h : PA X es t) : PE X (.Tuple es x1 pos) (aP0 t) := by
 intro pins s σ H Q I hq
 refine wpAny_Tuple_spliced (thn (h pos pins s σ H _ I hq) fun us s1 ⟨xs, H1, I1, r, z, q⟩ => ⟨by rw [<- r.length]; exact z, ?_⟩)
 have hf : H1 s1.heap.objs.size = none := I1.hok.fresh (Nat.le_refl _)
 refine ⟨.ref s1.heap.objs.size, upd H1 s1.heap.objs.size (.tup xs), I1.laid (t' := s1.toks) (fun b u e => Heap.get?_push_of_some _ e) (Nat.le_refl _) ?_, rfl, q _ hf⟩
 exact ⟨z, us, r, ⟨_, Heap.get?_push_size _ rfl, rfl, _, rfl⟩⟩
theorem aKi (h : PA X es t) : PE X (.List es pos) (aP8 t) := by
 intro pins s σ H Q I hq
 refine wpAny_List_spliced (thn (h pos pins s σ H _ I hq) fun us s1 ⟨xs, H1, I1, r, z, q⟩ => ⟨by rw [<- r.length]; exact z, ?_⟩)
 have hf : H1 s1.heap.objs.size = none := I1.hok.fresh (Nat.le_refl _)
 refine ⟨.ref s1.heap.objs.size, upd H1 s1.heap.objs.size (.lst xs), I1.laid (t' := s1.toks) (fun b u e => Heap.get?_push_of_some _ e) (Nat.le_refl _) ?_, rfl, q _ hf⟩
 exact ⟨z, us, 0, r, Heap.get?_push_size _ rfl⟩
end
abbrev Sp := List V -> Hp -> VK -> XK -> Prop
abbrev CXT := List Env -> Hp -> Shared -> XK -> Value -> Shared -> Prop
structure aNc (P : Program) (w : World) (K : PySem.W.Frag) (mg : Str -> Option Value) (base : Heap) (A : Around) (outer : List Env) (s : Shared) (H : Hp) : Prop where
 frames : A.frames = some outer
 mod : Mod K mg base
 bs : ∀ b o, base.get? b = some o -> s.heap.get? b = some o /\ H b = none
 bsz : base.objs.size <= s.heap.objs.size
 funs : s.heap.FunFrames base outer
 frf : ∀ b ∈ frs outer, H b = none
 hok : HOk P w H s.heap
 bare : AllBare s.gens
def CE (outer : List Env) (P : Program) (w : World) (H : Hp) (s : Shared) (Q : VK) (u : Value) (s' : Shared) : Prop :=
 ∃ v H', s'.os = s.os /\ AllBare s'.gens /\ Un (frs outer) [] H H' s.heap s'.heap /\ HOk P w H' s'.heap /\ RelV v u /\ Q v H'
def CR (CX : CXT) (outer : List Env) (P : Program) (w : World) (H : Hp) (s : Shared) (Q : VK) (E : XK) (r : Result) (s' : Shared) : Prop :=
 match r with
 | .ok (.ret u) => CE outer P w H s Q u s'
 | .ok _ => False
 | .error e => CX outer H s E e s'
structure FnOk (P : Program) (w : World) (K : PySem.W.Frag) (mg : Str -> Option Value) (base : Heap) (CX : CXT) (k : Nat) (f : Addr) (fd : FuncData) (ps : List Str) (sp : Sp) : Prop where
 len : ∀ vs H Q E, sp vs H Q E -> vs.length = ps.length
 run : ∀ (A : Around) (outer : List Env) (s : Shared) (H : Hp) (args : Args) (us : List Value) (vs : List V) (Q : VK) (E : XK), Room k A -> aNc P w K mg base A outer s H -> BindsTo s fd args (ps.zip us) -> Vals vs us -> sp vs H Q E ->
  codeAny (model P w) A (.call (.ref f) args) (CR CX outer P w H s Q E) s
theorem FnOk.mono {P : Program} {w : World} {K : PySem.W.Frag} {mg : Str -> Option Value} {base : Heap} {CX : CXT} {j k : Nat} {f : Addr} {fd : FuncData} {ps : List Str} {sp : Sp} (F : FnOk P w K mg base CX j f fd ps sp) (h : j <= k) :
  FnOk P w K mg base CX k f fd ps sp := ⟨F.len, fun A outer s H args us vs Q E hr => F.run A outer s H args us vs Q E (hr.mono h)⟩
theorem FnOk.imp {P : Program} {w : World} {K : PySem.W.Frag} {mg : Str -> Option Value} {base : Heap} {CX : CXT} {k : Nat} {f : Addr} {fd : FuncData} {ps : List Str} {sp sp' : Sp} (F : FnOk P w K mg base CX k f fd ps sp)
  (h : ∀ vs H Q E, sp' vs H Q E -> sp vs H Q E) : FnOk P w K mg base CX k f fd ps sp' :=
 ⟨fun vs H Q E q => F.len vs H Q E (h _ _ _ _ q), fun A outer s H args us vs Q E hr he hb hv hs => F.run A outer s H args us vs Q E hr he hb hv (h _ _ _ _ hs)⟩
section
variable {X : Cx} {pins : List (Addr × Obj)} {σ : St} {H : Hp} {s s' : Shared}
theorem Inv.env0 (I : Inv X pins σ H s) : aNc X.prog X.w X.K X.mg X.base X.A X.stack s H :=
 ⟨I.ok.frames, I.ok.mod, I.bs, Nat.le_trans I.ok.bsz I.sz, I.stack, I.stkFree, I.hok, I.bare⟩
theorem Inv.after {Q : VK} {u : Value} (I : Inv X pins σ H s) (h : CE X.stack X.prog X.w H s Q u s') : EP X pins σ Q u s' := by
 obtain ⟨v, H', os, bare, un, hok, r, q⟩ := h
 obtain ⟨hh, g, d, t, os'⟩ := s'
 obtain rfl : os' = s.os := os
 exact ⟨v, H', I.call (h' := hh) (g' := g) (d' := d) (t' := t) (ch := []) un hok bare (fun b z => absurd z (by simp)), r, q⟩
end
def Binds (K : PySem.W.Frag) (fd : FuncData) (ps : List Str) (ds : List Value) : Prop :=
 ∀ (s : Shared) (us : List Value), K.In s.heap -> (us ++ ds).length = ps.length -> BindsTo s fd ⟨us, []⟩ (ps.zip (us ++ ds))
theorem Binds.all {K : PySem.W.Frag} {fd : FuncData} {ps : List Str} (h : ∀ us : List Value, us.length = ps.length -> bindArgs fd ⟨us, []⟩ = pure (ps.zip us)) : Binds K fd ps [] := fun s us _ hl => by
 rw [List.append_nil] at hl ⊢
 exact .of_eq (h us hl)
def aLu (CX : CXT) (X : Cx) (E : XK) : Prop := ∀ (pins : List (Addr × Obj)) (σ : St) (H : Hp) (s : Shared) (e : Value) (s' : Shared), Inv X pins σ H s -> CX X.stack H s E e s' -> X.xe e s'
section
variable {X : Cx} {CX : CXT} {k : Nat} {f C : Addr} {fd : FuncData} {ps : List Str} {sp : Sp} {dvs : List V} {ds : List Value} {E : XK} {x m : Str} {p pos apos : Pos} {e o : Expr} {es : List Expr} {ta : TE} {t : TA}
end
section
variable {X : Cx} {CX : CXT} {k : Nat} {f C : Addr} {fd : FuncData} {ps ks : List Str} {sp : Sp} {E : XK} {x m : Str} {p pos apos kpos : Pos} {e o : Expr} {es : List Expr} {kws : List Keyword} {te ta : TE} {t tk : TA} {nm : Option Str}
variable {g : List Value -> List Value -> List Value} {gV : List V -> List V -> List V}
end
structure bI (N P : List Str) (sc : Scope) : Prop where
 kind : sc.kind = .function
 co : sc.isCoroutine = false
 gen : sc.isGenerator = false
 nd : N.Nodup
 pre : N.take P.length = P
 par : ∀ x ∈ P, sc.names.lookup x = some .local \/ sc.names.lookup x = some .cell
 nofree : ∀ y ∈ sc.names, y.2 ≠ .free
theorem rH {kindOf : Str -> Option NameKind} {x : Str} : ∀ {binds : List (Str × Value)} {m : Str -> Option Value}, (∀ v, (x, v) ∉ binds) -> bindL kindOf binds m x = m x
 | [], _, _ => rfl
 | (n, v) :: r, m, h => by
  unfold bindL
  rw [rH fun w hw => h w (List.mem_cons_of_mem _ hw)]
  split
  ·have : x ≠ n := by rintro rfl; exact h v List.mem_cons_self
   simp [this]
  ·rfl
theorem sR {kindOf : Str -> Option NameKind} {x : Str} : ∀ {binds : List (Str × Value)} {m : Str -> Option Value}, (∀ v, (x, v) ∉ binds) -> bindC kindOf binds m x = m x
 | [], _, _ => rfl
 | (n, v) :: r, m, h => by
  unfold bindC
  rw [sR fun w hw => h w (List.mem_cons_of_mem _ hw)]
  split
  ·rfl
  ·have : x ≠ n := by rintro rfl; exact h v List.mem_cons_self
   simp [this]
theorem sD {kindOf : Str -> Option NameKind} {x : Str} {v : Value} : ∀ {P : List Str} {vs : List Value} {i : Nat} {m : Str -> Option Value}, P.Nodup -> P[i]? = some x -> vs[i]? = some v -> kindOf x = some .local ->
  bindL kindOf (P.zip vs) m x = some v
 | [], _, _, _, _, h, _, _ => by simp at h
 | _ :: _, [], _, _, _, _, h, _ => by simp at h
 | p :: P, w :: vs, 0, m, nd, h1, h2, hk => by
  simp at h1 h2; subst h1; subst h2
  show bindL kindOf ((p, w) :: P.zip vs) m p = _
  unfold bindL
  rw [rH fun v hv => (List.nodup_cons.mp nd).1 (List.of_mem_zip hv).1, if_pos hk]
  simp
 | p :: P, w :: vs, i + 1, m, nd, h1, h2, hk => by
  show bindL kindOf ((p, w) :: P.zip vs) m x = _
  unfold bindL
  exact sD (i := i) (List.nodup_cons.mp nd).2 (by simpa using h1) (by simpa using h2) hk
theorem sP {kindOf : Str -> Option NameKind} {x : Str} {v : Value} : ∀ {P : List Str} {vs : List Value} {i : Nat} {m : Str -> Option Value}, P.Nodup -> P[i]? = some x -> vs[i]? = some v -> kindOf x ≠ some .local ->
  bindC kindOf (P.zip vs) m x = some v
 | [], _, _, _, _, h, _, _ => by simp at h
 | _ :: _, [], _, _, _, _, h, _ => by simp at h
 | p :: P, w :: vs, 0, m, nd, h1, h2, hk => by
  simp at h1 h2; subst h1; subst h2
  show bindC kindOf ((p, w) :: P.zip vs) m p = _
  unfold bindC
  rw [sR fun v hv => (List.nodup_cons.mp nd).1 (List.of_mem_zip hv).1, if_neg hk]
  simp
 | p :: P, w :: vs, i + 1, m, nd, h1, h2, hk => by
  show bindC kindOf ((p, w) :: P.zip vs) m x = _
  unfold bindC
  exact sP (i := i) (List.nodup_cons.mp nd).2 (by simpa using h1) (by simpa using h2) hk
def start (N : List Str) (vs : List V) : St := vs.map some ++ List.replicate (N.length - vs.length) none
def vA (CX : CXT) (P : Program) (w : World) (K : PySem.W.Frag) (mg : Str -> Option Value) (base : Heap) (N : List Str) (qual : Str) (scope : Scope) (f : Addr) (cd : Value) (A : Around) (outer : List Env) (s : Shared) (H : Hp) (E : XK) : Cx where
 prog := P
 w := w
 K := K
 mg := mg
 base := base
 A := A.deeper (envOfC qual scope s.heap.objs.size f cd)
 N := N
 s₀ := s
 H₀ := H
 env := envOfC qual scope s.heap.objs.size f cd
 outer := outer
 stack := envOfC qual scope s.heap.objs.size f cd :: outer
 ex := []
 calm := true
 fn := fun _ => true
 pn := []
 xe := fun e s' => wpAny (model P w) (A.deeper (envOfC qual scope s.heap.objs.size f cd)) (leaving (envOfC qual scope s.heap.objs.size f cd) e) (fun _ s'' => CX outer H s E e s'') (fun e' s'' => CX outer H s E e' s'') s'
theorem w4 {sc : Scope} {n : Nat} {x : Str} (h : sc.names.lookup x = some .cell) : ∃ c, (cellsFrom n sc.names []).lookup x = some c := by
 have q := PySem.W.cellsFrom_some sc.names n [] (.inl h)
 exact Option.isSome_iff_exists.mp q
theorem aBe {CX : CXT} {P : Program} {w : World} {K : PySem.W.Frag} {mg : Str -> Option Value} {base : Heap} {N ps : List Str} {qual : Str} {scope : Scope} {f : Addr} {cd : Value} {A : Around} {outer : List Env} {s s1 : Shared} {H : Hp} {E : XK} {us : List Value} {vs : List V}
  (S : bI N ps scope) (hd : A.handled = none) (e0 : aNc P w K mg base A outer s H) (hl : vs.length = ps.length) (r : Vals vs us)
  (x : InCallC s s.heap.objs.size (bindL (envOfC qual scope s.heap.objs.size f cd).kindOf (ps.zip us) fun _ => none) (cellsFrom (s.heap.objs.size + 1) scope.names []) (bindC (envOfC qual scope s.heap.objs.size f cd).kindOf (ps.zip us) fun _ => none) s1) :
  Inv (vA CX P w K mg base N qual scope f cd A outer s H E) [] (start N vs) H s1 := by
 have hpl : ps.length <= N.length := by have := congrArg List.length S.pre; rw [List.length_take] at this; omega
 obtain ⟨h1, tk, rfl, hk⟩ := x.done
 have noA : ∀ b : Addr, b ∉ (vA CX P w K mg base N qual scope f cd A outer s H E).ex := fun b z => absurd (show b ∈ ([] : List Addr) from z) (by simp)
 refine ⟨⟨e0.mod, S.kind, rfl, rfl, Nat.le_refl _, fun y z c h1 h2 => ?_, fun y hy => ?_, fun y c _ h => ?_, fun _ => hd, Around.frames_deeper e0.frames, .inr ⟨rfl, rfl⟩, fun b z => absurd z (noA b), e0.bs, e0.bsz, fun b _ _ => noA b, fun b z => absurd z (noA b), e0.funs, e0.frf⟩,
  rfl, e0.bare, Un.kept hk, ⟨_, x.toInCall.ns, fun i y v h1 h2 h3 => ?_⟩, fun y c h => ⟨_, x.cell y c h⟩, e0.hok.fresh (Nat.le_refl _), fun y c h => ?_, fun p hp => absurd (show p ∈ ([] : List (Addr × Obj)) from hp) (by simp), e0.hok.kept hk, ?_⟩
 ·exact name_of_addr x.apart (PySem.mem_of_lookup h1) (PySem.mem_of_lookup h2)
 ·have hy : scope.names.lookup y = some .cell \/ scope.names.lookup y = some .free := hy
  rcases hy with hy | hy
  ·exact w4 hy
  ·exact absurd rfl (S.nofree _ (PySem.mem_of_lookup hy))
 ·exact Nat.le_of_lt (x.above y c (PySem.mem_of_lookup h))
 ·have hi : i < vs.length := by
   unfold start at h2
   by_cases hi : i < vs.length
   ·exact hi
   ·rw [List.getElem?_append_right (by simpa using hi)] at h2
    rw [List.getElem?_replicate] at h2
    split at h2 <;> cases h2
  have ha : vs[i]? = some v := by
   unfold start at h2
   rw [List.getElem?_append_left (by simpa using hi), List.getElem?_map] at h2
   cases e : vs[i]? with
   | none => rw [e] at h2; cases h2
   | some a => rw [e] at h2; cases h2; rfl
  obtain ⟨u, hu, rv⟩ := r.get ha
  have hp : ps[i]? = some y := by
   rw [<- S.pre, List.getElem?_take_of_lt (by omega)]; exact h1
  have ndP : ps.Nodup := by rw [<- S.pre]; exact S.nd.sublist (List.take_sublist _ _)
  refine ⟨u, rv, ?_⟩
  rcases S.par y (List.mem_of_getElem? hp) with k | k
  ·exact .inl ⟨k, sD ndP hp hu k⟩
  ·obtain ⟨c, e⟩ := w4 (n := s.heap.objs.size + 1) k
   refine .inr ⟨.inl k, c, e, ?_⟩
   have q := x.cell y c e
   rw [sP ndP hp hu (by show scope.names.lookup y ≠ _; rw [k]; decide)] at q
   exact q
 ·exact e0.hok.fresh (Nat.le_of_lt (x.above y c (PySem.mem_of_lookup h)))
 ·unfold start
  show _ = N.length
  rw [List.length_append, List.length_map, List.length_replicate]
  omega
theorem aN3 {CX : CXT} {P : Program} {w : World} {K : PySem.W.Frag} {mg : Str -> Option Value} {base : Heap} {k : Nat} {f : Addr} {name qual : Str} {params : Arguments} {body : List Stmt} {scope : Scope} {dV kV doc pm cdv ct oc : Value} {an od : Option Addr}
  {osl : Array (Option Value)} {N ps : List Str} {sp : Sp} (lk : K.lookup f = some ⟨oc, od, .func (PySem.W.fnOf name qual params body scope dV kV doc pm an cdv ct), osl⟩) (hcd : PySem.W.codeIn K cdv qual = true) (S : bI N ps scope)
  (len : ∀ vs H Q E, sp vs H Q E -> vs.length = ps.length)
  (hbody : ∀ (A : Around) (outer : List Env) (s : Shared) (H : Hp) (vs : List V) (Q : VK) (E : XK), Room k (A.deeper (envOfC qual scope s.heap.objs.size f cdv)) -> sp vs H Q E ->
   ∃ t, PSs (vA CX P w K mg base N qual scope f cdv A outer s H E) body t /\ t { nx := fun _ H' => Q .non H', rt := Q } (start N vs) H) :
  FnOk P w K mg base CX (k + 1) f (PySem.W.fnOf name qual params body scope dV kV doc pm an cdv ct) ps sp := by
 refine ⟨len, fun A outer s H args us vs Q E hr e0 hb r hsp => ?_⟩
 have hl := len _ _ _ _ hsp
 have KX : K.In s.heap := e0.mod.kin.keeps fun b o e => (e0.bs b o e).1
 have lim : s.heap.NoLimit := e0.mod.nolimit.keeps fun b o e => (e0.bs b o e).1
 have hkind : ∀ y ∈ ps.zip us, scope.names.lookup y.1 = some .local \/ (scope.names.lookup y.1 = some .cell /\ ((cellsFrom (s.heap.objs.size + 1) scope.names []).lookup y.1).isSome = true) := fun ⟨n, v⟩ hy => by
  rcases S.par n (List.of_mem_zip hy).1 with q | q
  ·exact .inl q
  ·exact .inr ⟨q, PySem.W.cellsFrom_some _ _ _ (.inl q)⟩
 refine codeAny_call_function hr.depth (KX _ _ lk) rfl S.co S.gen rfl (PySem.W.codeRec_of KX hcd) (hb _ _ _ _ ?_)
 refine wpAny_newFunctionEnv_cells S.kind hkind fun env he s1 x => ?_
 subst he
 refine ⟨lim.keeps x.toInCall.keep, codeAny_func ?_⟩
 obtain ⟨t, ht, hq⟩ := hbody A outer s H vs Q E (hr.deeper _) hsp
 have I : Inv (vA CX P w K mg base N qual scope f cdv A outer s H E) [] (start N vs) H s1 := aBe S hr.hd e0 hl r x
 refine wpAny_mono (ht [] s1 (start N vs) H _ I hq) (fun fl s' hs => ?_) fun e s' hs => hs
 have fin : ∀ {σ' : St} {H' : Hp} {v : V} {u : Value}, Inv (vA CX P w K mg base N qual scope f cdv A outer s H E) [] σ' H' s' -> RelV v u -> Q v H' -> CE outer P w H s Q u s' :=
  fun {σ' H' v u} J rv q => ⟨v, H', J.os, J.bare, J.base, J.hok, rv, q⟩
 cases fl with
 | ret u =>
  obtain ⟨v, σ', H', J, rv, q⟩ := hs
  exact fin J rv q
 | next =>
  obtain ⟨σ', H', J, q⟩ := hs
  exact fin (v := V.non) (u := Value.none) J rfl q
 | brk =>
  obtain ⟨_, _, _, q⟩ := hs
  exact False.elim q
 | cont =>
  obtain ⟨_, _, _, q⟩ := hs
  exact False.elim q
section
variable {X : Cx} {x : Str} {p pos : Pos} {e : Expr} {es : List Expr} {t : TA} {id T : String} {r : List V -> Hp -> VK -> Prop}
def tCB (r : List V -> Hp -> VK -> Prop) (t : TA) : TE := fun σ H Q => t σ H fun vs H1 => r vs H1 Q
theorem wK (hc : mG X (.builtin id) r) (hg : Gl X x) (hm : X.mg x = none) (hv : bootBuiltins x = some (.builtin id)) (ha : PA X (e :: es) t) (hn : x ≠ "__name__" := by decide) (hdb : (x == ("__debug__" : Str)) = false := by decide)
  (he : starEach (e :: es) X.env = (false, eval e X.env) :: starEach es X.env := by rfl) (hpl : (backTo pos (starEach es X.env)).any (·.1) = false := by rfl) : PE X (.Call (.Name x p) (e :: es) [] pos) (tCB r t) := by
 intro pins s σ H Q I h
 refine wpAny_Call_Name_kw (jJ I hg hm hv ?_ hn hdb)
 exact PyProof.Rows.callWith_builtin1 (thn (ha pos pins s σ H _ I h) fun us s1 ⟨vs, H1, I1, r1, q1⟩ => hc pins s1 σ H1 vs us Q I1 r1 q1) he hpl
theorem aAa (hc : mG X (.type T) r) (hg : Gl X x) (hm : X.mg x = none) (hv : bootBuiltins x = some (.type T)) (ha : PA X (e :: es) t) (hn : x ≠ "__name__" := by decide) (hdb : (x == ("__debug__" : Str)) = false := by decide)
  (he : starEach (e :: es) X.env = (false, eval e X.env) :: starEach es X.env := by rfl) (hpl : (backTo pos (starEach es X.env)).any (·.1) = false := by rfl) : PE X (.Call (.Name x p) (e :: es) [] pos) (tCB r t) := by
 intro pins s σ H Q I h
 refine wpAny_Call_Name_kw (jJ I hg hm hv ?_ hn hdb)
 exact PyProof.Rows.callWith_type1 (thn (ha pos pins s σ H _ I h) fun us s1 ⟨vs, H1, I1, r1, q1⟩ => hc pins s1 σ H1 vs us Q I1 r1 q1) he hpl
end
end L2
namespace HT
open PySem PyProof.Rows
def lexLt : List Int -> List Int -> Bool
 | [], [] => false
 | [], _ :: _ => true
 | _ :: _, [] => false
 | x :: xs, y :: ys => if x = y then lexLt xs ys else decide (x < y)
theorem gH (x y : Int) (xs ys : List Int) : lexLt (x :: xs) (y :: ys) = if x = y then lexLt xs ys else decide (x < y) := rfl
theorem qG : lexLt [] [] = false := rfl
section
open PySem.SeqAt
open PySem.AutoSeq1 (wpAny_loadPart')
open PySem.MeetsSeq PySem.MeetsSeq2 PySem.MeetsSeq3
end
section
variable {prog : Program} {w : World} {A : Around} {E : Value -> Shared -> Prop} {s : Shared}
def sIx (n d : Nat) : Option Int -> Nat
 | none => d
 | some v => if v < 0 then (v + (n : Int)).toNat else min v.toNat n
theorem aC1 (n d : Nat) : sIx n d none = d := rfl
theorem aAv (n d k : Nat) : sIx n d (some (k : Int)) = min k n := by
 show (if (k : Int) < 0 then ((k : Int) + (n : Int)).toNat else min (k : Int).toNat n) = min k n
 rw [if_neg (by omega), Int.toNat_natCast]
end
end HT
namespace L2
open PySem PySem.Spec PyProof.Rows
abbrev TO := St -> Hp -> (Option Int -> Hp -> Prop) -> Prop
def PO (X : Cx) (e : Option Expr) (t : TO) : Prop :=
 ∀ (pins : List (Addr × Obj)) (s : Shared) (σ : St) (H : Hp) (Q : Option Int -> Hp -> Prop), Inv X pins σ H s -> t σ H Q ->
  wpAny (model X.prog X.w) X.A (evalPart e X.env) (fun u s' => ∃ o H', Inv X pins σ H' s' /\ IsPart u o /\ Q o H') X.xe s
def aHt : TO := fun _ H Q => Q none H
def aNq (t : TE) : TO := fun σ H Q => t σ H fun x H1 => ∃ i, x = .int i /\ Q (some i) H1
theorem intsAre_of {ns : List Int} : ∀ {us : List Value}, Vals (ns.map V.int) us -> IntsAre us ns := by
 induction ns with
 | nil => intro us r; rw [List.map_nil] at r; cases r; exact .nil
 | cons n ns ih =>
  intro us r
  rw [List.map_cons] at r
  cases r with
  | cons r1 r2 =>
   obtain ⟨t, e⟩ := r1
   subst e
   exact .cons n t (ih r2)
section
variable {X : Cx} {e : Expr} {te : TE} {lo hi : Option Expr} {tl th : TO} {pos p2 : Pos}
theorem aHq : PO X none aHt := by
 intro pins s σ H Q I h
 rw [evalPart_none]
 exact wpAny_pure ⟨none, H, I, .none, h⟩
theorem aHa (h : PE X e te) : PO X (some e) (aNq te) := by
 intro pins s σ H Q I hw
 rw [evalPart_some]
 refine thn (h pins s σ H _ I hw) fun u s1 ⟨x, H1, I1, r1, q1⟩ => ?_
 obtain ⟨i, rfl, q⟩ := q1
 obtain ⟨t, rfl⟩ := r1
 exact ⟨some i, H1, I1, .int i t, q⟩
def SlR (X : Cx) (r : V -> Option Int -> Option Int -> Hp -> VK -> Prop) : Prop :=
 ∀ (pins : List (Addr × Obj)) (s : Shared) (σ : St) (H : Hp) (x : V) (v vl vu : Value) (lo hi : Option Int) (sl : Addr) (Q : VK), Inv X pins σ H s -> RelV x v -> s.heap.IsSliceOf sl vl vu .none -> IsPart vl lo -> IsPart vu hi -> r x lo hi H Q ->
  ∃ T id, typeLookup (.type T) "__getitem__" = pure (some (.builtin id)) /\ s.TypeIs v T /\ wpAny (model X.prog X.w) X.A (getItem v (.ref sl)) (EP X pins σ Q) X.xe s
def tSl (r : V -> Option Int -> Option Int -> Hp -> VK -> Prop) (te : TE) (tl th : TO) : TE := fun σ H Q => te σ H fun x H1 => tl σ H1 fun l H2 => th σ H2 fun u H3 => r x l u H3 Q
theorem aD0 {r : V -> Option Int -> Option Int -> Hp -> VK -> Prop} (hr : SlR X r) (he : PE X e te) (hl : PO X lo tl) (hu : PO X hi th) : PE X (.Subscript e (.Slice lo hi none p2) pos) (tSl r te tl th) := by
 intro pins s σ H Q I h
 refine Subscript_ (thn (he pins s σ H _ I h) fun v s1 ⟨x, H1, I1, r1, q1⟩ => ?_)
 refine wpAny_Slice (thn (hl pins s1 σ H1 _ I1 q1) fun vl s2 ⟨l, H2, I2, pl, q2⟩ => thn (hu pins s2 σ H2 _ I2 q2) fun vu s3 ⟨u, H3, I3, pu, q3⟩ => ?_)
 rw [evalPart_none]
 refine wpAny_pure ?_
 have I4 : Inv X pins σ H3 { s3 with heap := s3.heap.push { cls := .type "slice", data := .fields #[vl, vu, .none] } } := I3.kept (t' := s3.toks) fun b ob q => Heap.get?_push_of_some _ q
 obtain ⟨T, id, hT, ht, hg⟩ := hr pins { s3 with heap := s3.heap.push { cls := .type "slice", data := .fields #[vl, vu, .none] } } σ H3 x v vl vu l u s3.heap.objs.size Q I4 r1 (Heap.IsSliceOf.new ..) pl pu q3
 show wpAny (model X.prog X.w) X.A (subscriptTail e (.Slice lo hi none p2) v (.ref s3.heap.objs.size)) (EP X pins σ Q) X.xe { s3 with heap := s3.heap.push { cls := .type "slice", data := .fields #[vl, vu, .none] } }
 exact tail_any (ops := [.ref s3.heap.objs.size, v]) ht hT hg (by with_unfolding_all rfl)
def aJ4 (xs : List V) (lo hi : Option Int) : List V := (xs.drop (HT.sIx xs.length 0 lo)).take (HT.sIx xs.length xs.length hi - HT.sIx xs.length 0 lo)
theorem uJ (xs : List V) (lo hi : Option Int) : (aJ4 xs lo hi).length <= xs.length := by
 unfold aJ4
 rw [List.length_take, List.length_drop]
 omega
end
def ixN (n : Nat) (i : Int) : Option Nat := if 0 <= i then (if i < n then some i.toNat else none) else if -(n : Int) <= i then some (i + n).toNat else none
def atI {α : Type} (xs : List α) (i : Int) : Option α := (ixN xs.length i).bind fun j => xs[j]?
theorem aJp {n : Nat} {i : Int} {j : Nat} (h : ixN n i = some j) : seqIndex? i n = some j /\ j < n /\ -(n : Int) <= i /\ i < n := by
 unfold ixN at h
 by_cases h0 : 0 <= i
 ·rw [if_pos h0] at h
  by_cases h1 : i < n
  ·rw [if_pos h1] at h
   have e : i.toNat = j := Option.some.inj h
   exact ⟨by rw [seqIndex_of h0 h1, e], by omega, by omega, h1⟩
  ·rw [if_neg h1] at h; cases h
 ·rw [if_neg h0] at h
  by_cases h1 : -(n : Int) <= i
  ·rw [if_pos h1] at h
   have e : (i + n).toNat = j := Option.some.inj h
   exact ⟨by rw [seqIndex_neg (by omega) h1, e], by omega, h1, by omega⟩
  ·rw [if_neg h1] at h; cases h
theorem aCu {α : Type} {xs : List α} {i : Int} {v : α} (h : atI xs i = some v) : ∃ j, seqIndex? i xs.length = some j /\ xs[j]? = some v /\ j < xs.length /\ -(xs.length : Int) <= i /\ i < xs.length := by
 unfold atI at h
 cases e : ixN xs.length i with
 | none => rw [e] at h; cases h
 | some j =>
  rw [e] at h
  obtain ⟨h1, h2, h3, h4⟩ := aJp e
  exact ⟨j, h1, h, h2, h3, h4⟩
theorem lF {α : Type} {xs : List α} {j : Nat} {v : α} (h : xs[j]? = some v) : atI xs (j : Int) = some v := by
 have hj : j < xs.length := (List.getElem?_eq_some_iff.mp h).1
 have e : ixN xs.length (j : Int) = some j := by
  unfold ixN
  rw [if_pos (by omega), if_pos (by omega)]; simp
 unfold atI; rw [e]; exact h
theorem xC {α : Type} (xs : List α) (v : α) : atI (xs ++ [v]) (-1) = some v := by
 have hl : (xs ++ [v]).length = xs.length + 1 := by simp
 have e : ixN (xs ++ [v]).length (-1) = some xs.length := by
  unfold ixN
  rw [hl, if_neg (by decide), if_pos (by omega)]
  congr 1
  omega
 unfold atI
 rw [e]
 show (xs ++ [v])[xs.length]? = some v
 simp
def aBr (b : Expr) : Prop := ∀ o i, subscripted b false o i = operate [o, i] (getItem o i)
def IxR (X : Cx) (r : R2) : Prop :=
 ∀ (value slice : Expr) (pins : List (Addr × Obj)) (s : Shared) (σ : St) (H : Hp) (x y : V) (v u : Value) (Q : VK), Inv X pins σ H s -> RelV x v -> RelV y u -> r x y H Q ->
  subscripted slice false v u = operate [v, u] (getItem v u) -> wpAny (model X.prog X.w) X.A (subscriptTail value slice v u) (EP X pins σ Q) X.xe s
def MtR (X : Cx) (id : String) (r : V -> List V -> Hp -> VK -> Prop) : Prop :=
 ∀ (pins : List (Addr × Obj)) (s : Shared) (σ : St) (H : Hp) (x : V) (xs : List V) (v : Value) (us : List Value) (Q : VK), Inv X pins σ H s -> RelV x v -> Vals xs us -> r x xs H Q ->
  wpAny (model X.prog X.w) X.A (call (.builtin id) (v :: us)) (EP X pins σ Q) X.xe s
section
variable {X : Cx} {a b : Expr} {ta tb : TE} {pos : Pos}
theorem IxR.or {r r' : R2} (h : IxR X r) (h' : IxR X r') : IxR X (fun x y H Q => r x y H Q \/ r' x y H Q) := by
 intro value slice pins s σ H x y v u Q I rx ry q hs
 rcases q with q | q
 ·exact h value slice pins s σ H x y v u Q I rx ry q hs
 ·exact h' value slice pins s σ H x y v u Q I rx ry q hs
theorem aOc {r : R2} (hr : IxR X r) (ha : PE X a ta) (hb : PE X b tb) (hs : aBr b) : PE X (.Subscript a b pos) (tOp r ta tb) := by
 intro pins s σ H Q I h
 exact Subscript_ (aOp ha hb I h fun v u s2 x y H2 I2 rx ry q => hr a b pins s2 σ H2 x y v u Q I2 rx ry q (hs _ _))
def aPe (K : PySem.W.Frag) : R2 := fun x y H Q => ∃ p xs i v, x = .ref p /\ y = .int i /\ SqL K H p xs /\ atI xs i = some v /\ Q v H
def aPp (K : PySem.W.Frag) : R2 := fun x y H Q => ∃ p xs i v, x = .ref p /\ y = .int i /\ SqT K H p xs /\ atI xs i = some v /\ Q v H
theorem ix_list : IxR X (aPe X.K) := by
 intro value slice pins s σ H x y v u Q I rx ry h hs
 obtain ⟨p, xs, i, z, rfl, rfl, hq, he, q⟩ := h
 cases rx
 obtain ⟨t, rfl⟩ := ry
 obtain ⟨its, r, pl, hz⟩ := I.list hq
 obtain ⟨j, h1, h2, h3, h4, h5⟩ := aCu he
 obtain ⟨w, ew, rw'⟩ := r.get h2
 have hl := r.length
 have hn := zD
 have fin : EP X pins σ Q w s := ⟨z, H, I, rw', q⟩
 by_cases h0 : 0 <= i
 ·have hj : i.toNat = j := by
   rw [seqIndex_of h0 h5] at h1
   exact Option.some.inj h1
  exact item_listR pl.isList h0 (by omega) (by rw [hj]; simpa using ew) fin hs
 ·have hj : (i + (its.toArray.size : Int)).toNat = j := by
   rw [seqIndex_neg (by omega) h4] at h1
   rw [List.size_toArray, <- hl]
   exact Option.some.inj h1
  exact subscriptTail_builtinR (x := w) pl.isList.typeIs slot_list_getitem.lookup
   (wpAny_getItem_list_neg (Q := fun r s' => r = w /\ EP X pins σ Q r s') pl.isList (by omega) (by rw [List.size_toArray] <;> omega) (by omega) (by rw [hj]; simpa using ew) ⟨rfl, fin⟩) hs
theorem aL5 : IxR X (aPp X.K) := by
 intro value slice pins s σ H x y v u Q I rx ry h hs
 obtain ⟨p, xs, i, z, rfl, rfl, hq, he, q⟩ := h
 cases rx
 obtain ⟨t, rfl⟩ := ry
 obtain ⟨its, r, pl, hz⟩ := I.tuple hq
 obtain ⟨j, h1, h2, h3, h4, h5⟩ := aCu he
 obtain ⟨w, ew, rw'⟩ := r.get h2
 have hl := r.length
 have hn := zD
 have fin : EP X pins σ Q w s := ⟨z, H, I, rw', q⟩
 exact subscriptTail_builtinR (x := w) pl.typeIs slot_tuple_getitem.lookup
  (getItem_tuple (j := j) (Q := fun r s' => r = w /\ EP X pins σ Q r s') pl (by omega) (by omega) (by rw [List.size_toArray, <- hl]; exact h1) (by simpa using ew) ⟨rfl, fin⟩) hs
theorem rL (lo hi : Option Int) (n : Nat) : (sliceBounds lo hi none n).1 = ((HT.sIx n 0 lo : Nat) : Int) /\ (sliceBounds lo hi none n).2.1 = ((HT.sIx n n hi : Nat) : Int) /\ (sliceBounds lo hi none n).2.2 = 1 := by
 refine ⟨?_, ?_, rfl⟩
 ·cases lo with
  | none => simp [sliceBounds, HT.sIx]
  | some i =>
   simp only [sliceBounds, HT.sIx, Option.getD_none, show (1 : Int) > 0 by decide, if_true]
   by_cases h : i < 0
   ·simp only [h, if_true] <;> omega
   ·simp only [h, if_false] <;> omega
 ·cases hi with
  | none => simp [sliceBounds, HT.sIx]
  | some i =>
   simp only [sliceBounds, HT.sIx, Option.getD_none, show (1 : Int) > 0 by decide, if_true]
   by_cases h : i < 0
   ·simp only [h, if_true] <;> omega
   ·simp only [h, if_false] <;> omega
theorem qA (its : List Value) (lo hi : Option Int) : slicePick its.toArray lo hi none = ((its.drop (HT.sIx its.length 0 lo)).take (HT.sIx its.length its.length hi - HT.sIx its.length 0 lo)).toArray := by
 obtain ⟨h1, h2, h3⟩ := rL lo hi its.toArray.size
 unfold slicePick
 rw [h1, h2, h3]
 simp only [sliceRange_one, pick_run, List.size_toArray] <;> rfl
def aP5 (K : PySem.W.Frag) : V -> Option Int -> Option Int -> Hp -> VK -> Prop := fun x lo hi H Q => ∃ a xs, x = .ref a /\ SqL K H a xs /\ ∀ p, H p = none -> Q (.ref p) (upd H p (.lst (aJ4 xs lo hi)))
theorem aHi : SlR X (aP5 X.K) := by
 intro pins s σ H x v vl vu lo hi sl Q I rx hs pl pu h
 obtain ⟨a, xs, rfl, hx, q⟩ := h
 cases rx
 obtain ⟨its, r, ht, hz⟩ := I.list hx
 have hlen := r.length
 refine ⟨"list", _, slot_list_getitem.lookup, ht.isList.typeIs, ?_⟩
 refine wpAny_getItem_list_slice ht.isList hs pl pu .none (by simp) ?_ (by rw [List.size_toArray] <;> omega)
 rw [qA, <- hlen]
 refine ⟨.ref s.heap.objs.size, _, I.laid (t' := s.toks) (o := .lst (aJ4 xs lo hi)) (fun b ob q => Heap.get?_push_of_some _ q) (Nat.le_refl _) ?_, rfl, q _ (I.hok.fresh (Nat.le_refl _))⟩
 exact ⟨Nat.le_trans (uJ xs lo hi) hz, _, 0, (r.drop (HT.sIx xs.length 0 lo)).take (HT.sIx xs.length xs.length hi - HT.sIx xs.length 0 lo), Heap.get?_push_size _ rfl⟩
theorem bU : mG X (.builtin "len") (fun xs H Q => ∃ p ys, xs = [.ref p] /\ (SqL X.K H p ys \/ SqT X.K H p ys) /\ Q (.int ys.length) H) := by
 intro pins s σ H xs us Q I r h
 obtain ⟨p, ys, rfl, hq, q⟩ := h
 obtain ⟨u, rfl, rx⟩ := vals1 r
 cases rx
 have hn := zD
 rcases hq with hq | hq
 ·obtain ⟨its, r', pl, hz⟩ := I.list hq
  have hlen := r'.length
  exact Calls.call_len_list pl.isList (by simp only [List.size_toArray] <;> omega) ⟨.int ys.length, H, I.tok _, ⟨s.toks + 1, by rw [List.size_toArray, hlen]⟩, q⟩
 ·obtain ⟨its, r', pl, hz⟩ := I.tuple hq
  have hlen := r'.length
  exact len_tuple pl (by simp only [List.size_toArray] <;> omega) ⟨.int ys.length, H, I.tok _, ⟨s.toks + 1, by rw [List.size_toArray, hlen]⟩, q⟩
theorem lS : mG X (.type "list") (fun xs H Q => ∃ p ys, xs = [.ref p] /\ (SqL X.K H p ys \/ SqT X.K H p ys) /\ ∀ l, H l = none -> Q (.ref l) (upd H l (.lst ys))) := by
 intro pins s σ H xs us Q I r h
 obtain ⟨p, ys, rfl, hq, q⟩ := h
 obtain ⟨u, rfl, rx⟩ := vals1 r
 cases rx
 have fin : ∀ (its : List Value), Vals ys its -> ys.length <= sizeLine -> ∀ (h' : Heap) (c' : Nat), (∀ b o', s.heap.get? b = some o' -> h'.get? b = some o') ->
   h'.get? s.heap.objs.size = some { cls := .type "list", dict := none, data := .seq its.toArray c', slots := #[] } -> EP X pins σ Q (.ref s.heap.objs.size) { s with heap := h' } := fun its r' hz h' c' kp e =>
  ⟨.ref s.heap.objs.size, _, I.laid (t' := s.toks) kp (Nat.le_refl _) (show ObjOk X.prog X.w _ h' _ (.lst ys) from ⟨hz, its, c', r', e⟩), rfl, q _ (I.hok.fresh (Nat.le_refl _))⟩
 rcases hq with hq | hq
 ·obtain ⟨its, r', pl, hz⟩ := I.list hq
  have hlen := r'.length
  obtain ⟨o, ho, hc, n, hd⟩ := pl.isList
  exact call_list_seq p (.inl rfl) ho hc hd (fun h' c' kp e => fin its r' hz h' c' kp e) (by simp only [List.size_toArray] <;> omega)
 ·obtain ⟨its, r', pl, hz⟩ := I.tuple hq
  have hlen := r'.length
  obtain ⟨o, ho, hc, n, hd⟩ := pl
  exact call_list_seq p (.inr rfl) ho hc hd (fun h' c' kp e => fin its r' hz h' c' kp e) (by simp only [List.size_toArray] <;> omega)
def tyV (K : PySem.W.Frag) (T : String) (x : V) (H : Hp) : Prop := match x with
 | .str _ => T = "str"
 | .int _ => T = "int"
 | .ref p => (T = "list" /\ ∃ xs, SqL K H p xs) \/ (T = "tuple" /\ ∃ o, K.lookup p = some o /\ o.cls = .type "tuple" /\ o.dict = none) \/
   (T = "dict" /\ ((∃ kvs, H p = some (.dK kvs)) \/ ∃ kvs, H p = some (.dT kvs))) \/ (T = "set" /\ ∃ S n, H p = some (.set S n))
 | _ => False
theorem aGa {pins : List (Addr × Obj)} {σ : St} {H : Hp} {s : Shared} {T : String} {x : V} {v : Value} (I : Inv X pins σ H s) (r : RelV x v) (ty : tyV X.K T x H) :
  s.TypeIs v T /\ ∀ a, v = .ref a -> ∃ ob, s.heap.get? a = some ob /\ ob.dict = none := by
 cases x with
 | str z =>
  obtain ⟨t, rfl⟩ := r
  cases (show T = "str" from ty)
  exact ⟨typeIs_str s z t, fun _ e => nomatch e⟩
 | int i =>
  obtain ⟨t, rfl⟩ := r
  cases (show T = "int" from ty)
  exact ⟨typeIs_int s i t, fun _ e => nomatch e⟩
 | ref p =>
  cases r
  rcases ty with ⟨rfl, xs, hq⟩ | ⟨rfl, o, hk, hc, hd⟩ | ⟨rfl, hk⟩ | ⟨rfl, S, n, hk⟩
  ·obtain ⟨its, _, pl, _⟩ := I.list hq
   refine ⟨pl.isList.typeIs, fun a e => ?_⟩
   cases e
   obtain ⟨o, n, e, c, hd, _⟩ := pl
   exact ⟨o, e, hd⟩
  ·refine ⟨⟨o, I.kIn p o hk, hc⟩, fun a e => ?_⟩
   cases e
   exact ⟨o, I.kIn _ o hk, hd⟩
  ·have z : ∃ o, s.heap.get? p = some o /\ o.ExactDict := by
    rcases hk with ⟨kvs, hk⟩ | ⟨kvs, hk⟩
    ·obtain ⟨_, _, _, _, o, _, _, e, ex, _⟩ := I.hok p _ hk
     exact ⟨o, e, ex⟩
    ·obtain ⟨_, _, _, _, o, _, _, e, ex, _⟩ := I.hok p _ hk
     exact ⟨o, e, ex⟩
   obtain ⟨o, e, ex⟩ := z
   refine ⟨⟨o, e, ex.1⟩, fun a e2 => ?_⟩
   cases e2
   exact ⟨o, e, ex.2.1⟩
  ·obtain ⟨o, _, _, _, e, ex, _⟩ := I.hok p _ hk
   refine ⟨⟨o, e, ex.1⟩, fun a e2 => ?_⟩
   cases e2
   exact ⟨o, e, ex.2.1⟩
 | _ => exact False.elim ty
def aO2 (K : PySem.W.Frag) (T : String) (r : V -> List V -> Hp -> VK -> Prop) (to : TE) : TE := fun σ H Q => to σ H fun x H1 => tyV K T x H1 /\ r x [] H1 Q
def tBM (K : PySem.W.Frag) (T : String) (r : V -> List V -> Hp -> VK -> Prop) (to : TE) (t : TA) : TE := fun σ H Q => to σ H fun x H1 => tyV K T x H1 /\ t σ H1 fun xs H2 => r x xs H2 Q
variable {o e : Expr} {es : List Expr} {to : TE} {t : TA} {name : Str} {apos cpos : Pos} {T id : String} {r : V -> List V -> Hp -> VK -> Prop}
theorem aLn (pa : PlainAttrs T) (slot : Slot T name id) (hty : typeOf (.builtin id) = pure (.type "method_descriptor")) (hm : MtR X id r) (ho : PE X o to)
  (hbase : attributeBase o name X.env (eval o X.env) = eval o X.env := by rfl) (hline : (apos.endLine == cpos.line) = true := by rfl) : PE X (.Call (.Attribute o name apos) [] [] cpos) (aO2 X.K T r to) := by
 intro pins s σ H Q I h
 refine wpAny_Call_method0_late hbase hline (thn (ho pins s σ H _ I h) fun v s1 ⟨x, H1, I1, r1, ty, q1⟩ => ?_)
 obtain ⟨h1, h2⟩ := aGa I1 r1 ty
 exact ⟨T, id, pa, slot, hty, h1, h2, Calls.callWith_builtin rfl (PySem.evalArgs_none (hm pins s1 σ H1 x [] v [] Q I1 r1 .nil q1))⟩
theorem aDo (pa : PlainAttrs T) (slot : Slot T name id) (hty : typeOf (.builtin id) = pure (.type "method_descriptor")) (hm : MtR X id r) (ho : PE X o to) (ha : PA X (e :: es) t)
  (hbase : attributeBase o name X.env (eval o X.env) = eval o X.env := by rfl)
  (hfew : ((backTo cpos (starEach (e :: es) X.env)).all (fun x => !x.1) && (backToKw cpos (keywordEach [] X.env)).all (fun x => x.1.isSome)
   && decide ((e :: es).length + ([] : List Keyword).length + (if ([] : List Keyword).isEmpty then 0 else 1) < 30)) = true := by rfl)
  (hline : (apos.endLine == cpos.line) = true := by rfl) (hs : starEach (e :: es) X.env = (false, eval e X.env) :: starEach es X.env := by rfl) (hplain : (backTo cpos (starEach es X.env)).any (·.1) = false := by rfl) :
  PE X (.Call (.Attribute o name apos) (e :: es) [] cpos) (tBM X.K T r to t) := by
 intro pins s σ H Q I h
 refine wpAny_Call_method_late hbase hfew hline rfl (thn (ho pins s σ H _ I h) fun v s1 ⟨x, H1, I1, r1, ty, q1⟩ => ?_)
 obtain ⟨h1, h2⟩ := aGa I1 r1 ty
 refine ⟨T, id, pa, slot, hty, h1, h2, ?_⟩
 have hA := ha cpos pins s1 σ H1 _ I1 q1
 rw [hs] at hA ⊢
 refine Calls.callWith_builtin (by show (false || (backTo cpos (starEach es X.env)).any (·.1)) = false; rw [hplain] <;> rfl) (Calls.evalArgs_plain ?_)
 exact thn hA fun us s2 ⟨vs, H2, I2, r2, q2⟩ => hm pins s2 σ H2 x vs v us Q I2 r1 r2 q2
end
def MtM (X : Cx) (id : String) (r : V -> List V -> Hp -> VK -> Prop) : Prop :=
 ∀ (pins : List (Addr × Obj)) (s : Shared) (σ : St) (H : Hp) (x : V) (xs : List V) (v : Value) (us : List Value) (Q : VK), Inv X pins σ H s -> RelV x v -> Vals xs us -> r x xs H Q ->
  wpAny (model X.prog X.w) X.A (call (.builtin id) (v :: us)) (EP X pins σ Q) X.xe s
theorem Vals.one : ∀ {x : V} {us : List Value}, Vals [x] us -> ∃ u, us = [u] /\ RelV x u
 | _, _, .cons r .nil => ⟨_, rfl, r⟩
theorem Vals.zero : ∀ {us : List Value}, Vals [] us -> us = []
 | _, .nil => rfl
theorem Vals.dropLast {xs : List V} {us : List Value} (h : Vals xs us) : Vals xs.dropLast us.dropLast := by
 induction h with
 | nil => exact .nil
 | cons r t ih =>
  cases t with
  | nil => exact .nil
  | cons q t' => exact .cons r ih
theorem yG {α : Type} (l : List α) : l.eraseIdx (l.length - 1) = l.dropLast := by
 induction l with
 | nil => rfl
 | cons a r ih =>
  cases r with
  | nil => rfl
  | cons b r =>
   have e : (a :: b :: r).length - 1 = ((b :: r).length - 1) + 1 := by
    have h1 : (a :: b :: r).length = r.length + 2 := rfl
    have h2 : (b :: r).length = r.length + 1 := rfl
    omega
   rw [e, List.eraseIdx_cons_succ, ih]
   all_goals rfl
section
variable {X : Cx} {pins : List (Addr × Obj)} {σ : St} {H : Hp} {s : Shared} {l b : Addr} {xs ys zs : List V}
theorem Inv.lset {its its' : List Value} {n : Nat} {f : Array Value -> Array Value} {t' : Nat} (I : Inv X pins σ H s) (hH : H l = some (.lst xs))
  (e : s.heap.get? l = some { cls := .type "list", data := .seq its.toArray n }) (hf : f its.toArray = its'.toArray) (hv : Vals ys its') (hz : ys.length <= sizeLine) :
  Inv X pins σ (upd H l (.lst ys)) { s with heap := s.heap.update l (Obj.mapSeq f), toks := t' } := by
 have q := PySem.IsL.update e f
 rw [hf] at q
 refine I.write (x := l) (e := l) (by rw [hH]; exact trivial) (.inl rfl) (fun b' u hb hu => (Heap.get?_update_other s.heap (Obj.mapSeq f) (Ne.symm hb)).trans hu) ⟨_, q⟩ ?_
 exact ⟨hz, its', _, hv, q⟩
theorem Inv.lnew {its : List Value} {t' : Nat} (I : Inv X pins σ H s) (hv : Vals ys its) (hz : ys.length <= sizeLine) :
  Inv X pins σ (upd H s.heap.objs.size (.lst ys)) { s with heap := s.heap.push { cls := .type "list", data := .seq its.toArray }, toks := t' } :=
 I.laid (fun _ _ q => Heap.get?_push_of_some _ q) (Nat.le_refl _) ⟨hz, its, 0, hv, Heap.get?_push_size _ rfl⟩
theorem Inv.fresh (I : Inv X pins σ H s) : H s.heap.objs.size = none := I.hok.fresh (Nat.le_refl _)
theorem Inv.lstM (I : Inv X pins σ H s) (hH : H l = some (.lst xs)) : xs.length <= sizeLine /\ ∃ (its : List Value) (n : Nat), Vals xs its /\ xs.length = its.length /\ s.heap.get? l = some { cls := .type "list", data := .seq its.toArray n } := by
 obtain ⟨z, its, n, r, e⟩ := I.hok l _ hH
 exact ⟨z, its, n, r, r.length, e⟩
end
section
variable {X : Cx}
def zI : V -> List V -> Hp -> VK -> Prop := fun x vs H Q => ∃ l xs y, x = .ref l /\ vs = [y] /\ H l = some (.lst xs) /\ xs.length < sizeLine /\ Q .non (upd H l (.lst (xs ++ [y])))
theorem kK : MtM X "list.append" zI := by
 intro pins s σ H x vs v us Q I rx rv h
 obtain ⟨l, xs, y, rfl, rfl, hH, hz, q⟩ := h
 cases rx
 obtain ⟨u, rfl, ru⟩ := rv.one
 obtain ⟨z, its, n, r, hl, e⟩ := I.lstM hH
 refine call_meets F.slot_list_append ⟨_, e, rfl⟩ F.entry_list_append (F.args_list_append_2 _ _) (PySem.list_append l its.toArray n u (by rw [List.size_toArray]; omega)) ⟨e, ?_⟩
 refine ⟨.non, _, I.lset (its' := its ++ [u]) hH e (by simp) (r.append (.cons ru .nil)) ?_, rfl, q⟩
 rw [List.length_append, List.length_singleton]
 omega
def aPi : V -> List V -> Hp -> VK -> Prop := fun x vs H Q => ∃ l xs y, x = .ref l /\ vs = [] /\ H l = some (.lst xs) /\ xs[xs.length - 1]? = some y /\ Q y (upd H l (.lst xs.dropLast))
theorem aL6 : MtM X "list.pop" aPi := by
 intro pins s σ H x vs v us Q I rx rv h
 obtain ⟨l, xs, y, rfl, rfl, hH, hy, q⟩ := h
 cases rx
 have hus := rv.zero
 subst hus
 obtain ⟨z, its, n, r, hl, e⟩ := I.lstM hH
 obtain ⟨u, hu, ru⟩ := r.get hy
 have hy' : its.toArray[its.toArray.size - 1]? = some u := by
  show its.toArray[its.length - 1]? = some u
  rw [<- Array.getElem?_toList, <- hl]
  exact hu
 refine call_meets F.slot_list_pop ⟨_, e, rfl⟩ F.entry_list_pop (F.args_list_pop_1 _) (MeetsSeq.list_pop_last l its.toArray n u hy' (by rw [List.size_toArray]; omega)) ⟨e, ?_⟩
 refine ⟨y, _, I.lset (its' := its.dropLast) hH e ?_ r.dropLast ?_, ru, q⟩
 ·show its.toArray.eraseIdxIfInBounds (its.toArray.size - 1) = its.dropLast.toArray
  rw [List.size_toArray, List.eraseIdxIfInBounds_toArray, yG]
 ·rw [List.length_dropLast]
  omega
end
section
variable {prog : Program} {w : World} {A : Around} {E : Value -> Shared -> Prop} {s : Shared}
set_option maxRecDepth 100000 in
end
section
variable {X : Cx}
end
section
variable {κ : Type} [DecidableEq κ]
def rF (kvs : List (κ × V)) (k : κ) : Option V := (kvs.find? fun kv => decide (kv.1 = k)).map (·.2)
def putK (kvs : List (κ × V)) (k : κ) (v : V) : List (κ × V) :=
 if (kvs.any fun kv => decide (kv.1 = k)) = true then kvs.map (fun kv => if kv.1 = k then (kv.1, v) else kv) else kvs ++ [(k, v)]
theorem kA {p : κ × V} {r : List (κ × V)} {k : κ} (e : p.1 = k) : rF (p :: r) k = some p.2 := by simp [rF, List.find?_cons, e]
theorem kR {p : κ × V} {r : List (κ × V)} {k : κ} (e : ¬ p.1 = k) : rF (p :: r) k = rF r k := by simp [rF, List.find?_cons, e]
theorem mL (k : κ) : ∀ kvs : List (κ × V), (kvs.any fun kv => decide (kv.1 = k)) = (rF kvs k).isSome
 | [] => rfl
 | p :: r => by
  rw [List.any_cons]
  by_cases e : p.1 = k
  ·simp only [kA e, decide_eq_true e, Bool.true_or, Option.isSome_some]
  ·rw [kR e, decide_eq_false e, Bool.false_or]; exact mL k r
theorem nO (kvs : List (κ × V)) (k : κ) (v : V) : (putK kvs k v).length <= kvs.length + 1 := by
 unfold putK
 split
 ·rw [List.length_map]; omega
 ·rw [List.length_append, List.length_cons, List.length_nil]; omega
theorem RelO.isSome_eq {o : Option V} {u : Option Value} (r : RelO o u) : o.isSome = u.isSome := by
 cases o with
 | none => cases u with
  | none => rfl
  | some _ => exact (show False from r).elim
 | some _ => cases u with
  | none => exact (show False from r).elim
  | some _ => rfl
theorem KV.val {kvs : List (κ × V)} {vs : List (κ × Value)} (r : KV kvs vs) (k : κ) : RelO (rF kvs k) (valueAt vs k) := by
 unfold KV at r
 induction r with
 | nil => exact True.intro
 | @cons p q ps qs h t ih =>
  obtain ⟨h1, h2⟩ := h
  by_cases e : p.1 = k
  ·have e' : q.1 = k := h1.symm.trans e
   have b : valueAt (q :: qs) k = some q.2 := by simp [valueAt, List.find?_cons, e']
   rw [kA e, b]; exact h2
  ·have e' : ¬ q.1 = k := fun z => e (h1.trans z)
   have b : valueAt (q :: qs) k = valueAt qs k := by simp [valueAt, List.find?_cons, e']
   rw [kR e, b]; exact ih
theorem KV.any {kvs : List (κ × V)} {vs : List (κ × Value)} (r : KV kvs vs) (k : κ) : (kvs.any fun kv => decide (kv.1 = k)) = vs.any fun kv => decide (kv.1 = k) := by
 unfold KV at r
 induction r with
 | nil => rfl
 | cons h t ih => rw [List.any_cons, List.any_cons, ih, h.1]
theorem KV.repl {kvs : List (κ × V)} {vs : List (κ × Value)} (r : KV kvs vs) (k : κ) {y : V} {u : Value} (ry : RelV y u) :
  KV (kvs.map fun kv => if kv.1 = k then (kv.1, y) else kv) (vs.map fun kv => if kv.1 = k then (kv.1, u) else kv) := by
 unfold KV at r ⊢
 induction r with
 | nil => exact .nil
 | @cons p q ps qs h t ih =>
  rw [List.map_cons, List.map_cons]
  refine .cons ?_ ih
  obtain ⟨h1, h2⟩ := h
  by_cases e : p.1 = k
  ·rw [if_pos e, if_pos (h1.symm.trans e)]; exact ⟨h1, ry⟩
  ·rw [if_neg e, if_neg (fun z => e (h1.trans z))]; exact ⟨h1, h2⟩
theorem KV.put {kvs : List (κ × V)} {vs : List (κ × Value)} (r : KV kvs vs) (k : κ) {y : V} {u : Value} (ry : RelV y u) : KV (putK kvs k y) (stored vs k u) := by
 unfold putK stored
 rw [r.any k]
 by_cases e : (vs.any fun kv => decide (kv.1 = k)) = true
 ·rw [if_pos e, if_pos e]; exact r.repl k ry
 ·rw [if_neg e, if_neg e]; exact Paired.snoc r ⟨rfl, ry⟩
theorem KV.length {kvs : List (κ × V)} {vs : List (κ × Value)} (r : KV kvs vs) : kvs.length = vs.length := Paired.length r
end
theorem aEt {P : Program} {w : World} {k : Key} {u : Value} (r : RelV (kV k) u) : (fB P w).is k u = true := by
 cases k with
 | inl i => obtain ⟨t, e⟩ := (show ∃ t, u = Value.int i t from r); subst e; exact uH P w i t
 | inr x => obtain ⟨t, e⟩ := (show ∃ t, u = Value.str x t from r); subst e; exact t4 P w x t
theorem tM {P : Program} {w : World} : ∀ {ks : List Key} {us : List Value}, Vals (ks.map kV) us -> ItemsAre (fB P w) ks us
 | [], _, r => by rw [List.map_nil] at r; cases r; exact .nil
 | k :: ks, _, r => by
  rw [List.map_cons] at r
  cases r with
  | cons h t => exact .cons (aEt h) (tM t)
abbrev KT (H : Hp) : List (List Key × V) -> List (List Key × Addr × Value) -> Prop := Paired fun p q => p.1 = q.1 /\ H q.2.1 = some (.tup (p.1.map kV)) /\ RelV p.2 q.2.2
theorem KT.val {H : Hp} {kvs : List (List Key × V)} {xs : List (List Key × Addr × Value)} (r : KT H kvs xs) (k : List Key) : RelO (rF kvs k) ((atKey xs k).map (·.2)) := by
 induction r with
 | nil => exact True.intro
 | @cons p q ps qs h t ih =>
  obtain ⟨h1, _, h2⟩ := h
  by_cases e : p.1 = k
  ·have e' : q.1 = k := h1.symm.trans e
   have b : atKey (q :: qs) k = some q.2 := by simp [atKey, List.find?_cons, e']
   rw [kA e, b]; exact h2
  ·have e' : ¬ q.1 = k := fun z => e (h1.trans z)
   have b : atKey (q :: qs) k = atKey qs k := by simp [atKey, List.find?_cons, e']
   rw [kR e, b]; exact ih
theorem KT.repl {H : Hp} {kvs : List (List Key × V)} {xs : List (List Key × Addr × Value)} (r : KT H kvs xs) (k : List Key) {y : V} {u : Value} (ry : RelV y u) :
  KT H (kvs.map fun kv => if kv.1 = k then (kv.1, y) else kv) (xs.map (putAt k u)) := by
 induction r with
 | nil => exact .nil
 | @cons p q ps qs h t ih =>
  rw [List.map_cons, List.map_cons]
  refine .cons ?_ ih
  obtain ⟨h1, h2, h3⟩ := h
  unfold putAt
  by_cases e : p.1 = k
  ·rw [if_pos e, if_pos (h1.symm.trans e)]; exact ⟨h1, h2, ry⟩
  ·rw [if_neg e, if_neg (fun z => e (h1.trans z))]; exact ⟨h1, h2, h3⟩
theorem KT.put {H : Hp} {kvs : List (List Key × V)} {xs : List (List Key × Addr × Value)} (r : KT H kvs xs) (k : List Key) {b : Addr} {y : V} {u : Value} (hb : H b = some (.tup (k.map kV))) (ry : RelV y u) :
  KT H (putK kvs k y) (storedH xs k b u) := by
 have e : (kvs.any fun kv => decide (kv.1 = k)) = (atKey xs k).isSome := by
  rw [mL, (r.val k).isSome_eq, Option.isSome_map]
 unfold putK storedH
 rw [e]
 by_cases q : (atKey xs k).isSome = true
 ·rw [if_pos q, if_pos q]; exact r.repl k ry
 ·rw [if_neg q, if_neg q]; exact Paired.snoc r ⟨rfl, hb, ry⟩
theorem KT.keeps {H H' : Hp} {kvs : List (List Key × V)} {xs : List (List Key × Addr × Value)} (r : KT H kvs xs) (ht : ∀ b ys, H b = some (.tup ys) -> H' b = some (.tup ys)) : KT H' kvs xs :=
 Paired.mapP r fun _ _ z => ⟨z.1, ht _ _ z.2.1, z.2.2⟩
section
variable {P : Program} {w : World} {H : Hp} {h : Heap} {a : Addr}
theorem aLj {u : HO} (ok : HOk P w H h) (e : Rd H a u) : ObjOk P w H h a u := e.ok ok
theorem zL {kvs : List (Key × V)} (ok : HOk P w H h) (e : Rd H a (.dK kvs)) : kvs.length <= sizeLine /\ (a == sysModules) = false /\ ∃ vs, KV kvs vs /\ h.DictOf (fB P w) a vs :=
 show ObjOk P w H h a (.dK kvs) from aLj ok e
theorem aNg {kvs : List (Key × V)} (ok : HOk P w H h) (e : H a = some (.dK kvs)) : kvs.length <= sizeLine /\ (a == sysModules) = false /\ ∃ vs, KV kvs vs /\ h.DictOf (fB P w) a vs := zL ok (.inl e)
theorem w9 {ks : List Key} (ok : HOk P w H h) (e : H a = some (.tup (ks.map kV))) : (tupleKind (fB P w)).is h ks a := by
 obtain ⟨_, its, r, o, h1, h2, n, h3⟩ := (show ObjOk P w H h a (.tup (ks.map kV)) from ok a _ e)
 exact ⟨o, its.toArray, n, h1, h2, h3, by simpa using tM r⟩
theorem aDz {kvs : List (List Key × V)} (ok : HOk P w H h) (e : Rd H a (.dT kvs)) : kvs.length <= sizeLine /\ (a == sysModules) = false /\
  ∃ xs, KT H kvs xs /\ h.DictOfH (tupleKind (fB P w)) a xs := by
 obtain ⟨z, y, xs, r, o, es, ep, h1, h2, h3, h4, h5⟩ := (show ObjOk P w H h a (.dT kvs) from aLj ok e)
 refine ⟨z, y, xs, r, o, es, ep, h1, h2, h3, h4, fun x hx => ?_, h5⟩
 have all : ∀ {l : List (List Key × V)} {m : List (List Key × Addr × Value)}, KT H l m -> ∀ x ∈ m, (tupleKind (fB P w)).is h x.1 x.2.1 := by
  intro l m q
  induction q with
  | nil => intro x hx; exact nomatch hx
  | @cons p q ps qs hq t ih =>
   intro x hx
   rcases List.mem_cons.mp hx with e | hx
   ·subst e
    exact w9 ok (by rw [<- hq.1]; exact hq.2.1)
   ·exact ih x hx
 exact all r x hx
theorem aOt {kvs : List (List Key × V)} (ok : HOk P w H h) (e : H a = some (.dT kvs)) : kvs.length <= sizeLine /\ (a == sysModules) = false /\
  ∃ xs, KT H kvs xs /\ h.DictOfH (tupleKind (fB P w)) a xs := aDz ok (.inl e)
end
def DGet (H : Hp) (a : Addr) (y : V) (r : Option V) : Prop :=
 (∃ kvs k, Rd H a (.dK kvs) /\ y = kV k /\ r = rF kvs k) \/ ∃ kvs k b, Rd H a (.dT kvs) /\ y = .ref b /\ H b = some (.tup (k.map kV)) /\ r = rF kvs k
def DPut (H : Hp) (a : Addr) (y v : V) (H' : Hp) : Prop :=
 (∃ kvs k, H a = some (.dK kvs) /\ y = kV k /\ kvs.length < sizeLine /\ H' = upd H a (.dK (putK kvs k v))) \/
 ∃ kvs k b, H a = some (.dT kvs) /\ y = .ref b /\ H b = some (.tup (k.map kV)) /\ kvs.length < sizeLine /\ H' = upd H a (.dT (putK kvs k v))
theorem DGet.k {H : Hp} {a : Addr} {kvs : List (Key × V)} {k : Key} (e : H a = some (.dK kvs)) : DGet H a (kV k) (rF kvs k) := .inl ⟨kvs, k, .inl e, rfl, rfl⟩
theorem DGet.t {H : Hp} {a b : Addr} {kvs : List (List Key × V)} {k : List Key} (e : H a = some (.dT kvs)) (eb : H b = some (.tup (k.map kV))) : DGet H a (.ref b) (rF kvs k) := .inr ⟨kvs, k, b, .inl e, rfl, eb, rfl⟩
theorem DPut.k {H : Hp} {a : Addr} {kvs : List (Key × V)} {k : Key} {v : V} (e : H a = some (.dK kvs)) (hl : kvs.length < sizeLine) : DPut H a (kV k) v (upd H a (.dK (putK kvs k v))) := .inl ⟨kvs, k, e, rfl, hl, rfl⟩
theorem DPut.t {H : Hp} {a b : Addr} {kvs : List (List Key × V)} {k : List Key} {v : V} (e : H a = some (.dT kvs)) (eb : H b = some (.tup (k.map kV))) (hl : kvs.length < sizeLine) :
  DPut H a (.ref b) v (upd H a (.dT (putK kvs k v))) := .inr ⟨kvs, k, b, e, rfl, eb, hl, rfl⟩
section
variable {X : Cx} {pins : List (Addr × Obj)} {σ : St} {H : Hp} {s : Shared} {a : Addr} {y v : V} {u r : Value} {o : Option V} {A : Around} {E : Value -> Shared -> Prop}
theorem Inv.big (I : Inv X pins σ H s) : sysModules < s.heap.objs.size := by
 have h : mainGlobals < s.heap.objs.size := (I.mod.glob.keeps I.bk).lt
 exact Nat.lt_trans (by decide) h
theorem y0 {Q : Value -> Shared -> Prop} (hu : A.units + 1 < cLine) (I : Inv X pins σ H s) (g : DGet H a y (some v)) (ry : RelV y u) (h : ∀ w' s', Inv X pins σ H s' -> RelV v w' -> Q w' s') :
  wpAny (model X.prog X.w) A (getItem (.ref a) u) Q E s := by
 rcases g with ⟨kvs, k, e, ey, l⟩ | ⟨kvs, k, b, e, ey, eb, l⟩
 ·subst ey
  obtain ⟨z, hd, vs, rel, dd⟩ := zL I.hok e
  obtain ⟨w', hw, rw'⟩ := RelO.some_of (v := v) (o := valueAt vs k) (by rw [l]; exact rel.val k)
  exact wpAny_getItem_of (aEt ry) dd.mapOf hw (h w' _ (I.tok _) rw')
 ·subst ey
  cases (show u = Value.ref b from ry)
  obtain ⟨z, hd, xs, rel, dd⟩ := aDz I.hok e
  obtain ⟨w', hw, rw'⟩ := RelO.some_of (v := v) (o := (atKey xs k).map (·.2)) (by rw [l]; exact rel.val k)
  obtain ⟨p, hp, hp2⟩ := Option.map_eq_some_iff.mp hw
  refine wpAny_getItem_heap (tupleKind_room_in1 hu) (w9 I.hok eb) dd hp ?_
  rw [hp2]
  exact h w' _ (I.tok _) rw'
theorem aI9 {Q : Value -> Shared -> Prop} (hu : A.units + 1 < cLine) (I : Inv X pins σ H s) (g : DGet H a y o) (ry : RelV y u) (h : ∀ s', Inv X pins σ H s' -> Q (.bool (!o.isSome)) s') :
  wpAny (model X.prog X.w) A (compareOp .NotIn u (.ref a)) Q E s := by
 rcases g with ⟨kvs, k, e, ey, l⟩ | ⟨kvs, k, b, e, ey, eb, l⟩
 ·subst ey
  obtain ⟨z, hd, vs, rel, dd⟩ := zL I.hok e
  refine wpAny_notIn_of (aEt ry) hd dd.mapOf ?_
  rw [<- (rel.val k).isSome_eq, <- l]
  exact h _ (I.tok _)
 ·subst ey
  cases (show u = Value.ref b from ry)
  obtain ⟨z, hd, xs, rel, dd⟩ := aDz I.hok e
  refine wpAny_notIn_heap (tupleKind_room_in1 hu) (w9 I.hok eb) hd dd ?_
  have q := (rel.val k).isSome_eq
  rw [Option.isSome_map] at q
  rw [<- q, <- l]
  exact h _ (I.tok _)
theorem aB6 {h' : Heap} {t' : Nat} {ob : HO} (I : Inv X pins σ H s) (mu : Mut (H a)) (hs : Heap.SameBut a s.heap h') (he : ∃ q, h'.get? a = some q) (new : ObjOk X.prog X.w (upd H a ob) h' a ob) :
  Inv X pins σ (upd H a ob) { s with heap := h', toks := t' } :=
 I.write (x := a) (e := a) mu (.inl rfl) (fun b q hb z => (hs.2 b hb).trans z) he new
theorem aK9 {P : Program} {w : World} {H' : Hp} {h' : Heap} {kvs : List (Key × V)} {vs : List (Key × Value)} (z : kvs.length <= sizeLine) (hd : (a == sysModules) = false) (rel : KV kvs vs) (dd : h'.DictOf (fB P w) a vs) :
  ObjOk P w H' h' a (.dK kvs) := ⟨z, hd, vs, rel, dd⟩
theorem aCh {H' : Hp} {Q : Unit -> Shared -> Prop} (hu : A.units + 1 < cLine) (I : Inv X pins σ H s) (g : DPut H a y v H') (ry : RelV y u) (rv : RelV v r) (h : ∀ s', Inv X pins σ H' s' -> Q () s') :
  wpAny (model X.prog X.w) A (setItem (.ref a) u r) Q E s := by
 rcases g with ⟨kvs, k, e, ey, l, eH⟩ | ⟨kvs, k, b, e, ey, eb, l, eH⟩
 ·subst ey eH
  obtain ⟨z, hd, vs, rel, dd⟩ := aNg I.hok e
  have hz : vs.length <= sizeLine := by rw [<- rel.length]; exact z
  have hl : (putK kvs k v).length <= sizeLine := by have := nO kvs k v; omega
  refine wpAny_setItem_pairs (hsz := hz) (aEt ry) dd fun h' dd' hs => h _ ?_
  have he : ∃ q, h'.get? a = some q := let ⟨q, _, _, hq, _⟩ := dd'; ⟨q, hq⟩
  exact aB6 I (by rw [e]; exact True.intro) hs he (aK9 hl hd (rel.put k rv) dd')
 ·subst ey eH
  cases (show u = Value.ref b from ry)
  obtain ⟨z, hd, xs, rel, dd⟩ := aOt I.hok e
  have hz : xs.length <= sizeLine := by rw [<- Paired.length rel]; exact z
  have hl : (putK kvs k v).length <= sizeLine := by have := nO kvs k v; omega
  refine wpAny_setItem_heap (hsz := hz) (tupleKind_room_in1 hu) (w9 I.hok eb) dd fun h' dd' hs => h _ ?_
  obtain ⟨q, es, ep, hq, h2, h3, h4, _, h5⟩ := dd'
  refine aB6 I (by rw [e]; exact True.intro) hs ⟨q, hq⟩ ⟨hl, hd, _, (rel.put k eb rv).keeps fun c ys ec => ?_, q, es, ep, hq, h2, h3, h4, h5⟩
  rw [bJ (aNu ec e (fun z => nomatch z))]
  exact ec
end
section
variable {X : Cx} {pins : List (Addr × Obj)} {σ : St} {H : Hp} {s : Shared} {a : Addr} {kvs : List (Key × V)} {k : Key} {u : Value} {A : Around} {E : Value -> Shared -> Prop}
theorem aNl {Q : Value -> Shared -> Prop} (I : Inv X pins σ H s) (e : Rd H a (.dK kvs)) (h : ∀ t s', Inv X pins σ H s' -> Q (.int kvs.length t) s') : wpAny (model X.prog X.w) A (call (.builtin "len") [.ref a]) Q E s := by
 obtain ⟨z, hd, vs, rel, dd⟩ := zL I.hok e
 refine call_len_dict hd dd (by rw [<- rel.length]; rw [sizeLine_eq] at z; omega) ?_
 rw [<- rel.length]
 exact h _ _ (I.tok _)
end
def aN8 (i : Expr) : Prop := ∀ ov iv, subscripted i false ov iv = operate [ov, iv] (getItem ov iv)
theorem aHn {prog : Program} {w : World} {A : Around} {E : Value -> Shared -> Prop} {s : Shared} {env : Env} {value slice : Expr} {pos : Pos} {T id : String} {Q : Value -> Shared -> Prop}
  (hl : typeLookup (.type T) "__getitem__" = pure (some (.builtin id))) (hs : aN8 slice)
  (h : wpAny (model prog w) A (eval value env) (fun o s₁ => wpAny (model prog w) A (eval slice env) (fun i s₂ => s₂.TypeIs o T /\ wpAny (model prog w) A (getItem o i) Q E s₂) E s₁) E s) :
  wpAny (model prog w) A (eval (.Subscript value slice pos) env) Q E s := by
 refine Subscript_ (wpAny_mono h (fun o s₁ h₁ => wpAny_mono h₁ (fun i s₂ h₂ => ?_) fun _ _ x => x) fun _ _ x => x)
 obtain ⟨hT, h₂⟩ := h₂
 unfold subscriptTail
 refine wpAny_bind ?_
 rw [getitemInPython_of_ne hT.not_modules]
 refine wpAny_bind (wpAny_specialOf hT hl ?_)
 have fin : wpAny (model prog w) A (subscripted slice false o i) (fun r s₃ => wpAny (model prog w) A (letTemporaryGo value o r >>= fun _ => pure r) Q E s₃) E s₂ := by
  rw [hs o i]
  exact wpAny_operating (wpAny_mono h₂ (fun r s₃ h₃ => wpAny_bind (wpAny_letTemporaryGo (wpAny_pure h₃))) fun _ _ x => x)
 first
  | exact wpAny_pure (wpAny_bind fin)
  | exact wpAny_bind (wpAny_pure (wpAny_bind fin))
  | exact wpAny_bind fin
theorem uM {X : Cx} {pins : List (Addr × Obj)} {σ : St} {H : Hp} {s : Shared} {a : Addr} {y : V} {o : Option V} (I : Inv X pins σ H s) (g : DGet H a y o) : s.TypeIs (.ref a) "dict" := by
 rcases g with ⟨kvs, k, e, _, _⟩ | ⟨kvs, k, b, e, _, _, _⟩
 ·obtain ⟨_, _, vs, _, dd⟩ := zL I.hok e
  exact dd.typeIs
 ·obtain ⟨_, _, xs, _, dd⟩ := aDz I.hok e
  exact dd.typeIs
def aN0 (td ty : TE) : TE := fun σ H Q => td σ H fun x H1 => ty σ H1 fun y H2 => ∃ a v, x = .ref a /\ DGet H2 a y (some v) /\ Q v H2
def aA1 (ty td : TE) : TE := fun σ H Q => ty σ H fun y H1 => td σ H1 fun x H2 => ∃ a o, x = .ref a /\ DGet H2 a y o /\ Q (.bl (!o.isSome)) H2
def aOg (td ty tv : TE) : TS := fun D σ H => tv σ H fun v H1 => td σ H1 fun x H2 => ty σ H2 fun y H3 => ∃ a H4, x = .ref a /\ DPut H3 a y v H4 /\ D.nx σ H4
section
variable {X : Cx} {o i e value : Expr} {pos pos' tpos : Pos} {td ty tv : TE}
theorem aIo (hu : X.A.units + 1 < cLine) (ho : PE X o td) (hi : PE X i ty) (hs : aN8 i) : PE X (.Subscript o i pos) (aN0 td ty) := by
 intro pins s σ H Q I h
 refine aHn PySem.F.slot_dict_getitem.lookup hs (thn (ho pins s σ H _ I h) fun u s1 ⟨x, H1, I1, rx, q1⟩ => thn (hi pins s1 σ H1 _ I1 q1) fun iv s2 ⟨y, H2, I2, ry, a, v, ex, g, q2⟩ => ?_)
 subst ex
 obtain rfl : u = Value.ref a := rx
 exact ⟨uM I2 g, y0 hu I2 g ry fun w' s3 I3 rw' => ⟨v, H2, I3, rw', q2⟩⟩
theorem aAg (hu : X.A.units + 1 < cLine) (hi : PE X i ty) (ho : PE X o td) : PC X .NotIn i o (aA1 ty td) := by
 intro pins s σ H Q I h
 refine thn (hi pins s σ H _ I h) fun iv s1 ⟨y, H1, I1, ry, q1⟩ => thn (ho pins s1 σ H1 _ I1 q1) fun u s2 ⟨x, H2, I2, rx, a, ov, ex, g, q2⟩ => ?_
 subst ex
 obtain rfl : u = Value.ref a := rx
 exact aI9 hu I2 g ry fun s3 I3 => ⟨.bl (!ov.isSome), H2, I3, rfl, q2⟩
theorem aI2 (hu : X.A.units + 1 < cLine) (ho : PE X o td) (hi : PE X i ty) (hv : PE X value tv) (hs : swapsWith value (some (.Subscript o i pos')) pos.line X.env = pure false) :
  PS X (.Assign [.Subscript o i pos'] value pos) (aOg td ty tv) := by
 intro pins s σ H D I h
 refine wpAny_Assign_Subscript (thn (hv pins s σ H _ I h) fun r s1 ⟨v, H1, I1, rv, q1⟩ => thn (ho pins s1 σ H1 _ I1 q1) fun u s2 ⟨x, H2, I2, rx, q2⟩ => thn (hi pins s2 σ H2 _ I2 q2) fun iv s3 ⟨y, H3, I3, ry, a, H4, ex, g, q3⟩ => ?_) hs
 subst ex
 obtain rfl : u = Value.ref a := rx
 exact aCh hu I3 g ry rv fun s4 I4 => ⟨σ, H4, I4, q3⟩
end
theorem aDh {P : Program} {w : World} {H : Hp} (h : Heap) (hb : sysModules < h.objs.size) : ObjOk P w H (h.push { cls := .type "dict", data := .dict #[] }) h.objs.size (.dT []) :=
 ⟨Nat.zero_le _, beq_eq_false_iff_ne.mpr (Ne.symm (Nat.ne_of_lt hb)), [], .nil, _, #[], 0, Heap.get?_push_size _ rfl, ⟨rfl, rfl, rfl⟩, rfl, rfl, List.nodup_nil⟩
def aKs : TE := fun _ H Q => ∀ p, H p = none -> Q (.ref p) (upd H p (.dT []))
section
variable {X : Cx} {pos : Pos}
theorem aDg : PE X (.Dict [] [] pos) aKs := fun pins s σ H Q I h =>
 wpAny_Dict_empty ⟨.ref s.heap.objs.size, _, I.laid (a := s.heap.objs.size) (o := .dT []) (t' := s.toks) (fun _ _ q => Heap.get?_push_of_some _ q) (Nat.le_refl _) (aDh s.heap I.big), rfl, h _ (I.hok.fresh (Nat.le_refl _))⟩
end
section
variable {X : Cx} {pins : List (Addr × Obj)} {σ : St} {H : Hp} {s : Shared} {a : Addr} {y d : V} {u r : Value} {o : Option V} {A : Around} {E : Value -> Shared -> Prop}
end
section
variable {X : Cx} {o e f : Expr} {apos cpos : Pos} {td ty tx : TE}
end
section
variable {X : Cx} {pins : List (Addr × Obj)} {σ : St} {H : Hp} {s : Shared} {a : Addr} {kvs : List (Key × V)} {A : Around} {E : Value -> Shared -> Prop}
end
section
variable {X : Cx} {pins : List (Addr × Obj)} {σ : St} {H : Hp} {s : Shared} {a : Addr} {y : V} {u : Value} {A : Around} {E : Value -> Shared -> Prop}
end
end L2
namespace Att
open PySem PySem.W PySem.Calls PyProof.Rows
theorem n5 {P : Params} {h : Heap} : ∀ (ns : List Int) (vs : List Value), WellAll P h vs (ns.map WData.int) -> IntsAre vs ns := by
 intro ns
 induction ns with
 | nil =>
  intro vs w
  rw [List.map_nil] at w
  cases w
  exact .nil
 | cons n ns ih =>
  intro vs w
  rw [List.map_cons] at w
  cases w with
  | cons a b =>
   cases a
   exact .cons _ _ (ih _ b)
theorem aB2 {l : OpenLaw} {n : Nat} (hn : l.most = some n) {P : Params} {h : Heap} {args : List WData} {vals : List Value}
  (aJ3 : l.row.toRowW.claim.pre args = true) (hwl : WellAll P h vals args) :
  ∃ a vs ns, vals = [Value.ref a] /\ args = [WData.list (ns.map WData.int)] /\ h.get? a = some { cls := .type "list", data := .seq vs.toArray } /\ IntsAre vs ns /\ ns.length <= n := by
 have hsh : WShape.hasAll [] args [.list .int] = true := (pre_splitW aJ3).1
 have hc : l.pre.holds [] { args := args } = true := (pre_splitW aJ3).2
 obtain ⟨d, r, rfl, h1, h2⟩ := hasAllW_cons hsh
 obtain rfl := hasAllW_nil h2
 obtain ⟨xs, rfl, h3⟩ := hasW_list h1
 obtain ⟨ns, rfl⟩ := items_int h3
 have hlen : ns.length <= n := by
  unfold OpenLaw.pre at hc
  have h4 : (WTm.not (.lt (.lit (.int (n : Int))) (.len (.arg 0)))).holds [] { args := [.list (ns.map .int)] } = true := by
   have h4 := (holds_andW hc).1
   rw [hn] at h4
   exact h4
  have h5 := condW_of h4 (w_not (w_lt w_lit (w_len_list (w_arg rfl))))
  rw [List.length_map] at h5
  refine Nat.le_of_not_lt fun q => ?_
  have q' : (n : Int) < ((ns.length : Nat) : Int) := by omega
  first
   | (rw [decide_eq_true q'] at h5; exact absurd h5 (by decide))
   | (simp at h5; omega)
 cases hwl with
 | cons w1 w2 =>
  cases w2
  cases w1 with
  | list ho hall => exact ⟨_, _, ns, rfl, rfl, ho, n5 ns _ hall, hlen⟩
theorem aCb (l : OpenLaw) (args : List WData) : l.row.toRowW.claim.post args (.bool true) args = true :=
 postW_of (r := l.row.toRowW) (X := (true == true))
  (show WShape.has [] (.bool true) .bool = true by first | rfl | decide | simp [WShape.has, WShape.arms, WShape.armsAll])
  (show (WTm.eq .res (.lit (.bool true))).value [] { args := args, res := some (.bool true), after := args } = some (.bool (true == true)) from w_eq_bool (w_res rfl) w_lit) rfl
theorem vE {l : OpenLaw} {n : Nat} {q : Program} {loose : List Str} {XP : (Str -> Option Value) -> Heap -> Prop} {YP : World -> Heap -> Prop} {d : DefRec}
  (hn : l.most = some n) (hdf : d.params.defaults = [])
  (call : ∀ (w : World) (s₀ s₁ : Shared) (mg mb : Str -> Option Value) (fa : Addr) (o : Obj) (pm cd doc : Value) (a : Addr) (vs : List Value) (ns : List Int),
   Ground q loose [] XP w s₀ mg mb s₁.heap -> YP w s₁.heap ->
   s₁.heap.get? fa = some o -> o.data = .func (docDef d.name d.params d.body d.scope pm cd doc) -> s₁.heap.CodeRec cd d.name -> mg d.name = some (.ref fa) ->
   s₁.heap.get? a = some { cls := .type "list", data := .seq vs.toArray } -> IntsAre vs ns -> ns.length <= n -> s₁.gens = #[] ->
   codeAny (model l.prog w) callerA (.call (.ref fa) ⟨[.ref a], []⟩) (fun r s' => r = .ok (.ret (.bool true)) /\ OldK s₁.heap s'.heap /\ s'.os = s₁.os /\ AllBare s'.gens) s₁) :
  WalkO q loose XP YP l.row.toRowW d [] (fun f vs => PySem.call f vs) := by
 intro w s₀ s₁ mg mb G Y fa o pm cd doc dV kV ho hd hcd hD hmg hg args vals as aJ3 hlay hrd hwl hlo
 obtain rfl : dV = .none := Dflts.none hD hdf
 obtain rfl : kV = .none := Dflts.noKw hD
 obtain ⟨a, vs, ns, rfl, rfl, hobj, hints, hlen⟩ := aB2 hn aJ3 hwl
 refine enter_call (codeAny_mono (call w s₀ s₁ mg mb fa o pm cd doc a vs ns G Y ho (fd_plain hd) hcd hmg hobj hints hlen hg) fun r s' hq => ?_)
 obtain ⟨rfl, h2, h3, h4⟩ := hq
 exact ⟨.inl ⟨.bool true, .bool true, [], rfl, fun _ => rfl, .bool true, aCb l _, fun _ => ⟨List.Pairwise.nil, fun _ hm => (nomatch hm)⟩⟩, h2, h3, h4⟩
section
variable {prog : Program} {w : World} {A : Around} {E : Value -> Shared -> Prop} {s : Shared} {K : Frag}
end
end Att
namespace L2
open PySem PySem.Spec PyProof.Rows
theorem sL : ∀ {vs : List Value} {ns : List Int}, IntsAre vs ns -> Vals (ns.map V.int) vs
 | _, _, .nil => .nil
 | _, _, .cons n t h => .cons ⟨t, rfl⟩ (sL h)
def aNm (H : Hp) : Prop := ∀ b, H b = none \/ ∃ o xs, H b = some (.frz o (.lst xs))
theorem aFy {P : Program} {w : World} {K : PySem.W.Frag} {mg mb : Str -> Option Value} {CX : CXT} {k : Nat} {fa a : Addr} {fd : FuncData} {x : Str} {sp : Sp} {s₁ : Shared} {vs : List Value} {ns : List Int}
  (KX : K.In s₁.heap) (hns : s₁.heap.Ns mainGlobals mg) (hb : s₁.heap.Ns builtinsNs mb) (hbb : ∀ x : Str, x ≠ "__name__" -> mb x = bootBuiltins x) (hlim : s₁.heap.NoLimit) (hg : s₁.gens = #[])
  (ha : s₁.heap.get? a = some { cls := .type "list", data := .seq vs.toArray }) (hi : IntsAre vs ns) (hl : ns.length <= sizeLine) (hr : Room k callerA)
  (F : ∀ base : Heap, K.In base -> base.Ns mainGlobals mg -> FnOk P w K mg base CX k fa fd [x] sp) (hbind : ∀ (s : Shared) (u : Value), BindsTo s fd ⟨[u], []⟩ [(x, u)])
  (hsp : ∀ H : Hp, aNm H -> SqL K H a (ns.map V.int) -> sp [.ref a] H (fun v _ => v = .bl true) fun _ _ _ => False)
  (hCX : ∀ H e s', CX [] H s₁ (fun _ _ _ => False) e s' -> False) :
  codeAny (model P w) callerA (.call (.ref fa) ⟨[.ref a], []⟩) (fun r s' => r = .ok (.ret (.bool true)) /\ OldK s₁.heap s'.heap /\ s'.os = s₁.os /\ AllBare s'.gens) s₁ := by
 have rv := sL hi
 have lenV := hi.length
 have core : ∀ H : Hp, aNm H -> SqL K H a (ns.map V.int) -> HOk P w H s₁.heap -> (∀ b, H b ≠ none -> b = a) -> (H a ≠ none -> K.lookup a = none) ->
   codeAny (model P w) callerA (.call (.ref fa) ⟨[.ref a], []⟩) (fun r s' => r = .ok (.ret (.bool true)) /\ OldK s₁.heap s'.heap /\ s'.os = s₁.os /\ AllBare s'.gens) s₁ := by
  intro H hO hS hok hA hK
  have base_of : ∀ {b : Addr} {o : Obj}, s₁.heap.get? b = some o -> H b = none -> (aDt s₁.heap H).get? b = some o := fun e n => aFf e n
  have noA : ∀ {b : Addr} {o : Obj} {es : Array DictEntry} {ep : Nat}, s₁.heap.get? b = some o -> o.data = .dict es ep -> H b = none := fun {b o es ep} e d => by
   cases q : H b with
   | none => rfl
   | some u =>
    have e' : b = a := hA b (by rw [q]; simp)
    subst e'
    rw [ha] at e; cases e
    have d' : Data.seq vs.toArray _ = Data.dict es ep := d
    cases d'
  have nsK : ∀ {b : Addr} {m : Str -> Option Value}, s₁.heap.Ns b m -> (aDt s₁.heap H).Ns b m := fun {b m} ⟨o, es, ep, e, d, r⟩ => ⟨o, es, ep, base_of e (noA e d), d, r⟩
  have hKb : K.In (aDt s₁.heap H) := fun b o e => base_of (KX b o e) (by
   cases q : H b with
   | none => rfl
   | some u =>
    have e' : b = a := hA b (by rw [q]; simp)
    subst e'
    rw [hK (by rw [q]; simp)] at e; cases e)
  have hM : Mod K mg (aDt s₁.heap H) := ⟨hKb, nsK hns, ⟨mb, nsK hb, hbb⟩, let ⟨mc, h1, h2⟩ := hlim; ⟨mc, nsK h1, h2⟩⟩
  have e0 : aNc P w K mg (aDt s₁.heap H) callerA [] s₁ H := ⟨rfl, hM, fun b o e => aIs e, Nat.le_of_eq (aCf _ _), trivial, fun b hb => absurd (show b ∈ ([] : List Addr) from hb) (by simp), hok, .of_eq hg⟩
  refine codeAny_mono ((F _ hKb (nsK hns)).run callerA [] s₁ H ⟨[.ref a], []⟩ [.ref a] [.ref a] _ _ hr e0 (hbind s₁ (.ref a)) (.cons rfl .nil) (hsp H hO hS)) fun r s' h => ?_
  cases r with
  | error e => exact (hCX H e s' h).elim
  | ok fl =>
   cases fl with
   | next => exact False.elim h
   | brk => exact False.elim h
   | cont => exact False.elim h
   | ret u =>
    obtain ⟨v, H', os, bare, un, hok', r', q⟩ := h
    have q' : v = .bl true := q
    subst q'
    obtain rfl : u = Value.bool true := r'
    refine ⟨rfl, OldK.of_keep fun b o e => ?_, os, bare⟩
    cases q : H b with
    | none => exact un.keep b o e q (by intro z; exact absurd (show b ∈ ([] : List Addr) from z) (by simp)) (by simp)
    | some u =>
     rcases hO b with z | ⟨ob, xs, z⟩
     ·rw [q] at z; cases z
     ·have z2 := un.frzs b ob _ z
      obtain ⟨e1, _⟩ := hok b _ z
      obtain ⟨e2, _⟩ := hok' b _ z2
      rw [e] at e1; cases e1
      exact e2
 cases hk : K.lookup a with
 | some o =>
  have e := KX a o hk
  rw [ha] at e
  cases e
  refine core (fun _ => none) (fun _ => .inl rfl) (.inr ⟨_, vs.toArray, _, hk, rfl, rfl, rfl, by rw [List.size_toArray, lenV]; exact hl, by simpa using rv⟩) (fun b u z => by have z' : (none : Option HO) = some u := z; cases z') (fun b z => absurd rfl z) fun z => absurd rfl z
 | none =>
  refine core (fun b => if b = a then some (.frz { cls := .type "list", data := .seq vs.toArray } (.lst (ns.map V.int))) else none) (fun b => ?_) (.inl (.inr ⟨{ cls := .type "list", data := .seq vs.toArray }, if_pos rfl⟩)) (fun b u z => ?_) (fun b z => ?_) fun _ => hk
  ·by_cases hb : b = a
   ·exact .inr ⟨_, _, if_pos hb⟩
   ·exact .inl (if_neg hb)
  ·by_cases hb : b = a
   ·have z' := (if_pos hb).symm.trans z
    cases z'
    subst hb
    exact ⟨ha, by rw [List.length_map]; exact hl, vs, _, rv, ha⟩
   ·have z' := (if_neg hb).symm.trans z
    cases z'
  ·by_cases hb : b = a
   ·exact hb
   ·exact absurd (if_neg hb) z
theorem aJn {l : PySem.W.OpenLaw} {n k : Nat} {q : Program} {loose : List Str} {XP : (Str -> Option Value) -> Heap -> Prop} {YP : World -> Heap -> Prop} {d : DefRec} {K : Params -> PySem.W.Frag} {CX : World -> CXT} {sp : World -> Sp} {x : Str}
  (hn : l.most = some n) (hn2 : n <= sizeLine) (hdf : d.params.defaults = []) (hr : Room k callerA)
  (hY : ∀ (w : World) (h : Heap), YP w h -> (K w.params).In h)
  (F : ∀ (w : World) (mg : Str -> Option Value) (fa : Addr) (h : Heap), (K w.params).In h -> h.Ns mainGlobals mg -> mg d.name = some (.ref fa) ->
   ∃ fd : FuncData, (∀ (s : Shared) (u : Value), BindsTo s fd ⟨[u], []⟩ [(x, u)]) /\
    ∀ base : Heap, (K w.params).In base -> base.Ns mainGlobals mg -> FnOk l.prog w (K w.params) mg base (CX w) k fa fd [x] (sp w))
  (hsp : ∀ (w : World) (H : Hp) (a : Addr) (ns : List Int), ns.length <= n -> aNm H -> SqL (K w.params) H a (ns.map V.int) -> sp w [.ref a] H (fun v _ => v = .bl true) fun _ _ _ => False)
  (hCX : ∀ (w : World) (H : Hp) (s : Shared) (e : Value) (s' : Shared), CX w [] H s (fun _ _ _ => False) e s' -> False) :
  PySem.W.WalkO q loose XP YP l.row.toRowW d [] (fun f vs => PySem.call f vs) := by
 refine Att.vE hn hdf fun w s₀ s₁ mg mb fa o pm cd doc a vs ns G Y ho hd hcd hmg hobj hints hlen hg => ?_
 have KX := hY w _ Y
 obtain ⟨fd, hb, hF⟩ := F w mg fa _ KX G.T.g hmg
 exact aFy KX G.T.g G.T.b G.T.builtins G.T.nolimit hg hobj hints (Nat.le_trans hlen hn2) hr hF hb (fun H hO hS => hsp w H a ns hlen hO hS) fun H e s' => hCX w H s₁ e s'
def jA (s : Stmt) : Arguments := match s with
 | .FunctionDef _ a _ _ _ _ _ _ _ _ => a
 | _ => { posonlyargs := [], args := [], vararg := none, kwonlyargs := [], kw_defaults := [], kwarg := none, defaults := [] }
def gS (s : Stmt) : List Stmt := match s with
 | .FunctionDef _ _ b _ _ _ _ _ _ _ => b
 | _ => []
def aQ (s : Stmt) : Scope := match s with
 | .FunctionDef _ _ _ _ _ _ sc _ _ _ => sc
 | _ => { kind := .function, names := [], isGenerator := false, isCoroutine := false }
abbrev E0 : XK := fun _ _ _ => False
structure Fun (K : PySem.W.Frag) (x qual : Str) (st : Stmt) (f : Addr) (fd : FuncData) : Prop where
 ex : ∃ (oc : Value) (od : Option Addr) (kV doc pm : Value) (an : Option Addr) (cdv ct : Value) (osl : Array (Option Value)),
  fd = PySem.W.fnOf x qual (jA st) (gS st) (aQ st) .none kV doc pm an cdv ct /\ K.lookup f = some ⟨oc, od, .func fd, osl⟩ /\ PySem.W.codeIn K cdv qual = true
 kp : PySem.W.keepIn K (.ref f) = true
section
variable {P : Program} {w : World} {K : PySem.W.Frag} {mg : Str -> Option Value} {base : Heap}
theorem Fun.binds {x qual : Str} {st : Stmt} {f : Addr} {fd : FuncData} {ps : List Str} (F : Fun K x qual st f fd)
  (h : ∀ (kV doc pm : Value) (an : Option Addr) (cdv ct : Value) (us : List Value), us.length = ps.length -> bindArgs (PySem.W.fnOf x qual (jA st) (gS st) (aQ st) .none kV doc pm an cdv ct) ⟨us, []⟩ = pure (ps.zip us)) : Binds K fd ps [] := by
 obtain ⟨oc, od, kV, doc, pm, an, cdv, ct, osl, rfl, lk, hcd⟩ := F.ex
 exact .all (h kV doc pm an cdv ct)
theorem aGd {x qual : Str} {st : Stmt} {f : Addr} {oc : Value} {od an : Option Addr} {osl : Array (Option Value)} {kV doc pm cdv ct : Value} (l : K.lookup f = some ⟨oc, od, .func (PySem.W.fnOf x qual (jA st) (gS st) (aQ st) .none kV doc pm an cdv ct), osl⟩)
  (c : PySem.W.codeIn K cdv qual = true) (k : PySem.W.keepIn K (.ref f) = true) : Fun K x qual st f (PySem.W.fnOf x qual (jA st) (gS st) (aQ st) .none kV doc pm an cdv ct) := ⟨⟨oc, od, kV, doc, pm, an, cdv, ct, osl, rfl, l, c⟩, k⟩
end
section
variable {X : Cx}
theorem pv (i : Nat) {x : Str} {pos : Pos} (hN : X.N[i]? = some x := by rfl) (hv : Vis X.env.scope x := by first | exact Or.inl rfl | exact Or.inr (Or.inl rfl) | exact Or.inr (Or.inr rfl)) (hd : (x == ("__debug__" : Str)) = false := by decide)
  (hcd : (x == ("__classdict__" : Str)) = false := by decide) : PE X (.Name x pos) (aJ7 i) := aGq hN hv hd hcd
end
def Same (H H' : Hp) : Prop := ∀ b o, H b = some o -> H' b = some o
theorem Same.refl (H : Hp) : Same H H := fun _ _ h => h
theorem Same.trans {H H1 H2 : Hp} (a : Same H H1) (b : Same H1 H2) : Same H H2 := fun c o h => b c o (a c o h)
theorem Same.free {H H' : Hp} (e : Same H H') {l : Addr} (h : H' l = Option.none) : H l = Option.none := by
 cases q : H l with
 | none => rfl
 | some o =>
  rw [e l o q] at h
  cases h
theorem Same.seq {K : PySem.W.Frag} {H H' : Hp} {a : Addr} {xs : List V} (e : Same H H') (h : SqL K H a xs) : SqL K H' a xs := by
 rcases h with (h | ⟨o, h⟩) | h
 ·exact .inl (.inl (e _ _ h))
 ·exact .inl (.inr ⟨o, e _ _ h⟩)
 ·exact .inr h
section
variable {X : Cx}
end
section
variable {κ : Type} [DecidableEq κ]
end
end L2
set_option maxHeartbeats 4000000
namespace PySem.W
open PySem PySem.Spec PySem.Calls PyProof.Rows Builtin Builtin.ObjectAttr Builtin.Getset_descriptor
section
variable {prog : Program} {w : World} {A : Around} {E : Value -> Shared -> Prop} {K : Frag} {h : Heap} {g : Array GenState} {d : Drawn} {t : Nat} {os : OsState} {a C : Addr}
structure ExcK (K : Frag) (C : Addr) : Prop where
 ga : findIn K (.ref C) "__getattribute__" = some (some (.builtin "BaseException.__getattribute__"))
 gt : findIn K (.ref C) "__getattr__" = some none
 cl : findIn K (.ref C) "__class__" = some (some (.builtin "object.__class__"))
 mo : mroIn K C (.type "object") = some true
 mb : mroIn K C (.type "BaseException") = some true
 ic : (clsIn K C).isSome = true
def ExcAt (a : Addr) (cls : Value) (h : Heap) : Prop := ∃ o, h.get? a = some o /\ o.cls = cls /\ ∃ vs, o.data = .fields vs
theorem ExcAt.ty {cls : Value} (p : ExcAt a cls h) (M : Model) : Looks M h (typeOf (.ref a)) cls := by
 obtain ⟨o, h1, h2, _⟩ := p
 exact h2 ▸ (Looks.ld h1).andThen .now
theorem aLm {tp : Value} {R : Result -> Shared -> Prop} (X : K.In h) (T : ExcK K C) (p : ExcAt a (.ref C) h) (hq : R (.ok (.ret (.ref C))) ⟨h, g, d, t, os⟩) :
  codeAny (model prog w) A (.call (.builtin "getset_descriptor.__get__") ⟨[.builtin "object.__class__", .ref a, tp], []⟩) R ⟨h, g, d, t, os⟩ := by
 have La := p.ty (model prog w)
 have Lb := looks_mroIn (M := model prog w) X T.mo
 refine codeAny_call_builtin KF.slot_gs.plain KF.entry_gs (KF.slot_gs.check _ _ _ _ _ _ _ _ KF.type_class (KF.args_gs _ _ _) ?_)
 unfold Builtin.«getset_descriptor.__get__» descrGet
 rw [dga_obj]
 refine wpAny_bind (wpAny_pure ?_)
 unfold descrGetter descrCheckInstance descrNameAndClass isInstance
 simp only [KF.owner_class]
 repeat lk
 refine ⟨Code.quiet_builtin _ (by decide +kernel), codeAny_builtin KF.entry_class ?_⟩
 unfold Builtin.«object.__class__» shownTypeOf
 repeat lk
 exact hq
theorem aFl {tk : Tok} {Q : Fin -> Shared -> Prop} (X : K.In h) (T : ExcK K C) (p : ExcAt a (.ref C) h) (hq : Q (.done (.ret (.ref C))) ⟨h, g, d, t, os⟩) :
  wpAny (model prog w) A (Builtin.«object.__getattribute__» ⟨[.ref a, .str "__class__" tk], []⟩) Q E ⟨h, g, d, t, os⟩ := by
 have La := p.ty (model prog w)
 have Lc := looks_findIn (M := model prog w) X T.cl
 have hT5 : (⟨h, g, d, t, os⟩ : Shared).TypeIs (.builtin "object.__class__") "getset_descriptor" := F.typeOf_object_class
 have e5 := F.typeOf_object_class
 have e6 := F.slot_gs_get.lookup
 have e7 := F.slot_gs_set.lookup
 repeat (any_goals (first | assumption | with_reducible refine Looks.at (by assumption) ?_ | wp_step))
 refine aLm X T p ?_
 repeat (any_goals (first | assumption | wp_step))
theorem aDm {M : Model} {nameV : Value} {Q : Unit -> Shared -> Prop} (X : K.In h) (T : ExcK K C) (p : ExcAt a (.ref C) h) (hq : Q () ⟨h, g, d, t, os⟩) :
  wpAny M A (checkBuiltinCall "BaseException.__getattribute__" ⟨[.ref a, nameV], []⟩) Q E ⟨h, g, d, t, os⟩ := by
 have hk : builtinKind "BaseException.__getattribute__" = some .slot := by decide +kernel
 have hsp : splitId "BaseException.__getattribute__" = some ("BaseException", "__getattribute__") := by decide +kernel
 have La := p.ty M
 have Lb := looks_mroIn (M := M) X T.mb
 have ha := F.args_bexc_ga (.ref a) nameV
 simp only [checkBuiltinCall, hk, hsp]
 refine wpAny_bind ?_
 unfold isInstance
 repeat (any_goals (first | assumption | with_reducible refine Looks.at (by assumption) ?_ | wp_step))
theorem aIi {tk : Tok} {R : Result -> Shared -> Prop} (X : K.In h) (T : ExcK K C) (p : ExcAt a (.ref C) h) (hq : R (.ok (.ret (.ref C))) ⟨h, g, d, t, os⟩) :
  codeAny (model prog w) A (.call (.builtin "BaseException.__getattribute__") ⟨[.ref a, .str "__class__" tk], []⟩) R ⟨h, g, d, t, os⟩ :=
 codeAny_call_builtin F.attr_ValueError.ga.plain F.entry_bexc_ga (aDm X T p (aFl X T p hq))
theorem aOb {tk : Tok} {Q : Value -> Shared -> Prop} (X : K.In h) (T : ExcK K C) (p : ExcAt a (.ref C) h) (hq : Q (.ref C) ⟨h, g, d, t, os⟩) : wpAny (model prog w) A (getAttrBy (.ref a) (.str "__class__" tk) false) Q E ⟨h, g, d, t, os⟩ := by
 have La := p.ty (model prog w)
 have Lg := looks_findIn (M := model prog w) X T.ga
 have Lt := looks_findIn (M := model prog w) X T.gt
 have f3 := F.attr_ValueError.ga.bind (.ref a)
 have hx0 : (false && onTheHeap (Value.builtin "BaseException.__getattribute__")) = false := rfl
 have hx2 : (Value.builtin "BaseException.__getattribute__" == Value.builtin "object.__getattribute__") = false := by decide +kernel
 have hx1 : (onTheHeap (Value.ref C) && Value.builtin "BaseException.__getattribute__" == Value.builtin "object.__getattribute__") = false := by rw [hx2]; rfl
 repeat (any_goals (first | assumption | with_reducible refine Looks.at (by assumption) ?_ | wp_step))
 refine aIi X T p ?_
 repeat (any_goals (first | assumption | wp_step))
theorem aI7 {Q : Option Value -> Shared -> Prop} (X : K.In h) (T : ExcK K C) (p : ExcAt a (.ref C) h) (hq : Q (some (.ref C)) ⟨h, g, d, t + 1, os⟩) : wpAny (model prog w) A (getAttr? (.ref a) "__class__") Q E ⟨h, g, d, t, os⟩ := by
 unfold getAttr? getAttrBy?
 repeat (any_goals (first | assumption | with_reducible apply aOb X T p | wp_step))
theorem kitx_exc (T : ExcK K C) : KitX K (.ref a) (.ref C) (ExcAt a (.ref C)) where
 ty := fun M _ _ p => p.ty M
 it := fun _ _ X _ => by
  have hs := T.ic
  unfold clsIn at hs
  split at hs
  ·rename_i ho
   intro A' Q' E' s' k q
   unfold isType loadHead
   exact wpAny_bind (wpAny_loadPart (k _ _ (X _ _ ho)) (wpAny_pure q))
  ·cases hs
 ne := fun h tp dd its n sl X htp => by
  refine Bool.eq_false_iff.mpr fun q => ?_
  have e : C = tp := Value.ref.inj (beq_iff_eq.mp q)
  have hs := T.ic
  unfold clsIn at hs
  split at hs
  ·rename_i ho
   have z := X _ _ ho
   rw [e, htp] at z
   cases z
  ·cases hs
 ca := fun {_ _ _ _ _ s} X p k => by
  obtain ⟨hh, gg, dd, tt, oo⟩ := s
  exact aI7 X T p k
end
end PySem.W
namespace L2
open PySem PySem.Spec PyProof.Rows
structure aK2 (P : Program) (w : World) (outer : List Env) (H : Hp) (s : Shared) (ea : Addr) (cls : Value) (H' : Hp) (B : Heap) (a0 : Value) (s' : Shared) : Prop where
 os : s'.os = s.os
 bare : AllBare s'.gens
 un : Un (frs outer) [] H H' s.heap s'.heap
 hok : HOk P w H' s'.heap
 fly : Heap.FlyingW B outer ea cls a0 s'.heap
 inB : ∀ b o, s'.heap.get? b = some o -> (H' b ≠ none \/ ((∃ u, s.heap.get? b = some u) /\ b ∉ frs outer)) -> B.get? b = some o
 new : s.heap.get? ea = none
 nt : H' ea = none
def CXr (P : Program) (w : World) : CXT := fun outer H s E e s' =>
 ∃ (ea : Addr) (cls : Value) (H' : Hp) (B : Heap) (a0 : Value), e = .ref ea /\ aK2 P w outer H s ea cls H' B a0 s' /\ E cls none H'
theorem wB {P : Program} {w : World} {H : Hp} {h h' : Heap} (ok : HOk P w H h) (k : ∀ b o, H b ≠ none -> h.get? b = some o -> h'.get? b = some o) : HOk P w H h' := fun a o e =>
 (ok a o e).stay (fun b u hb q => k b u (by
  rcases hb with z | z
  ·rw [z, e]; exact fun q => nomatch q
  ·rw [z]; exact fun q => nomatch q) q) (fun _ q => q) fun _ _ q => q
theorem uX {P : Program} {w : World} {H : Hp} {h : Heap} {a : Addr} {o : HO} (x : ObjOk P w H h a o) : ∃ ob, h.get? a = some ob := by
 cases o with
 | lst xs => obtain ⟨_, _, _, _, e⟩ := x; exact ⟨_, e⟩
 | tup xs => obtain ⟨_, _, _, ob, e, _⟩ := x; exact ⟨_, e⟩
 | dK kvs => obtain ⟨_, _, _, _, o, _, _, e, _⟩ := x; exact ⟨_, e⟩
 | dT kvs => obtain ⟨_, _, _, _, o, _, _, e, _⟩ := x; exact ⟨_, e⟩
 | set S n => obtain ⟨o, _, _, _, e, _⟩ := x; exact ⟨_, e⟩
 | ins C dx fs => obtain ⟨_, _, _, e, _⟩ := x; exact ⟨_, e⟩
 | own y => exact x
 | xd fs => obtain ⟨_, ⟨_, _, _, e, _⟩, _⟩ := x; exact ⟨_, e⟩
 | rng lo hi => obtain ⟨_, _, _, e⟩ := x; exact ⟨_, e⟩
 | frz ob u => obtain ⟨e, _⟩ := x; exact ⟨_, e⟩
 | tbl ps => exact ⟨_, (show h.get? a = some _ from x)⟩
 | met f y => exact ⟨_, (show h.get? a = some _ from x)⟩
 | ext φ => obtain ⟨_, e, _⟩ := x; exact e
theorem HOk.there {P : Program} {w : World} {H : Hp} {h : Heap} {a : Addr} (x : HOk P w H h) (n : H a ≠ none) : ∃ ob, h.get? a = some ob := by
 cases q : H a with
 | none => exact absurd q n
 | some u => exact uX (x a u q)
section
variable {P : Program} {w : World} {K : PySem.W.Frag} {mg : Str -> Option Value} {base : Heap} {N : List Str} {qual : Str} {scope : Scope} {f : Addr} {cd : Value} {A : Around} {outer : List Env} {s : Shared} {H : Hp} {E : XK}
theorem aEu {env : Env} {l : List Env} {L : Addr} (h : env.frame = some L) : frs (env :: l) = L :: frs l := by
 unfold frs
 rw [List.filterMap_cons, h]
theorem aD5 {X : Cx} {pins : List (Addr × Obj)} {σ : St} {H1 H' : Hp} {s1 : Shared} {B h'' : Heap} {ea : Addr} {cls a0 : Value} {g' : Array GenState} {d' : Drawn} {t' : Nat} {os' : OsState}
  (I : Inv X pins σ H1 s1) (hx : X.ex = []) (hs : X.env.locals ∉ frs X.outer)
  (ho : os' = X.s₀.os) (hg : AllBare g')
  (fly : Heap.FlyingW B X.outer ea cls a0 h'')
  (kp : ∀ b o, s1.heap.get? b = some o -> H1 b = none -> b ∉ frs X.outer -> b ≠ X.env.locals -> B.get? b = some o)
  (sl : ∀ b o, s1.heap.get? b = some o -> b ∈ frs X.outer -> ∃ sl, h''.get? b = some { o with slots := sl })
  (fr : ∀ b o, s1.heap.get? b = some o -> H1 b = none -> H' b = none)
  (tups : ∀ b xs, H1 b = some (.tup xs) -> H' b = some (.tup xs)) (frzs : ∀ b o u, H1 b = some (.frz o u) -> H' b = some (.frz o u)) (tbls : ∀ b ps, H1 b = some (.tbl ps) -> ∃ more, H' b = some (.tbl (ps ++ more)))
  (hok : HOk X.prog X.w H' h'') (inH : ∀ b o, h''.get? b = some o -> H' b ≠ none -> B.get? b = some o)
  (th : ∀ b o, s1.heap.get? b = some o -> H1 b ≠ none -> ∃ o', h''.get? b = some o')
  (inB : ∀ b o, s1.heap.get? b = some o -> b ∉ frs X.outer -> b ≠ X.env.locals -> ∃ o', B.get? b = some o')
  (new : s1.heap.get? ea = none) (nt : H' ea = none) :
  aK2 X.prog X.w X.outer X.H₀ X.s₀ ea cls H' B a0 ⟨h'', g', d', t', os'⟩ := by
 have hxn : ∀ b : Addr, b ∉ X.ex := fun b z => by rw [hx] at z; cases z
 have neL : ∀ b o, X.s₀.heap.get? b = some o -> b ≠ X.env.locals := fun b o e => Nat.ne_of_lt (Nat.lt_of_lt_of_le (Heap.lt_size e) I.ok.above)
 have st := fly.1
 refine ⟨ho, hg, ⟨fun b o e n hb _ => ?_, fun b o e n hb _ => ?_, fun b o e n _ => ?_, fun b o e _ => ?_, fun b xs e => tups b xs (I.base.tups b xs e), fun b o u e => frzs b o u (I.base.frzs b o u e), fun b ps e => ?_⟩, hok, fly, fun b o e hb => ?_, ?_, nt⟩
 ·exact st b o (kp b o (I.base.keep b o e n hb (hxn b)) (I.base.free b o e n (hxn b)) hb (neL b o e))
 ·obtain ⟨l1, e1⟩ := I.base.slot b o e n hb (hxn b)
  obtain ⟨l2, e2⟩ := sl b _ e1 hb
  exact ⟨l2, e2⟩
 ·obtain ⟨o1, e1⟩ := I.base.there b o e (hxn b)
  exact fr b o1 e1 (I.base.free b o e n (hxn b))
 ·obtain ⟨o1, e1⟩ := I.base.there b o e (hxn b)
  by_cases hb : b ∈ frs X.outer
  ·obtain ⟨l2, e2⟩ := sl b o1 e1 hb
   exact ⟨_, e2⟩
  ·obtain ⟨o2, e2⟩ := inB b o1 e1 hb (neL b o e)
   exact ⟨o2, st b o2 e2⟩
 ·obtain ⟨m1, e1⟩ := I.base.tbls b ps e
  obtain ⟨m2, e2⟩ := tbls b _ e1
  exact ⟨m1 ++ m2, by rw [e2, Array.append_assoc]⟩
 ·rcases hb with hb | ⟨⟨u, hu⟩, hb⟩
  ·exact inH b o e hb
  ·obtain ⟨o1, e1⟩ := I.base.there b u hu (hxn b)
   obtain ⟨o2, e2⟩ := inB b o1 e1 hb (neL b u hu)
   have e3 := st b o2 e2
   have e4 : h''.get? b = some o := e
   rw [e3] at e4
   cases e4
   exact e2
 ·cases q : X.s₀.heap.get? ea with
  | none => rfl
  | some o =>
   obtain ⟨o', e'⟩ := I.base.there ea o q (hxn ea)
   rw [new] at e'
   cases e'
theorem aNi : aLu (CXr P w) (vA (CXr P w) P w K mg base N qual scope f cd A outer s H E) E := by
 intro pins σ H1 s1 e s1' I h
 obtain ⟨ea, cls, H', B, a0, rfl, F, want⟩ := h
 have hfr : (vA (CXr P w) P w K mg base N qual scope f cd A outer s H E).A.frames = some (envOfC qual scope s.heap.objs.size f cd :: outer) := I.ok.frames
 have hstk : frs (vA (CXr P w) P w K mg base N qual scope f cd A outer s H E).stack = s.heap.objs.size :: frs outer := aEu rfl
 have hLo : s.heap.objs.size ∉ frs outer := fun z => by
  obtain ⟨_, o, ho, _⟩ := I.ok.funs.mem z
  exact absurd (Heap.lt_size ho) (Nat.lt_irrefl _)
 have nst : ∀ {b : Addr}, b ∉ frs outer -> b ≠ s.heap.objs.size -> b ∉ frs (vA (CXr P w) P w K mg base N qual scope f cd A outer s H E).stack := fun h1 h2 z => by
  rw [hstk] at z
  rcases List.mem_cons.mp z with z | z
  ·exact h2 z
  ·exact h1 z
 show wpAny (model P w) _ (leaving _ (.ref ea)) _ _ s1'
 refine wpAny_leaves_onW hfr rfl F.fly fun h'' fl' up => ?_
 have inB' : ∀ b o, s1'.heap.get? b = some o -> H' b ≠ none -> h''.get? b = some o := fun b o e n => fl'.1 b o (F.inB b o e (.inl n))
 refine ⟨ea, cls, H', B, a0, rfl, aD5 (X := vA (CXr P w) P w K mg base N qual scope f cd A outer s H E) I rfl hLo (F.os.trans I.os) F.bare fl' (fun b o e n hb hL => ?_) (fun b o e hb => ?_) (fun b o e n => F.un.free b o e n (by simp)) F.un.tups F.un.frzs F.un.tbls
  (wB F.hok fun b o n e => inB' b o e n) (fun b o e n => ?_) (fun b o e n => ?_) (fun b o e hb hL => ?_) F.new F.nt, want⟩
 ·exact F.inB b o (F.un.keep b o e n (nst hb hL) (by simp)) (.inr ⟨⟨o, e⟩, nst hb hL⟩)
 ·have hb' : b ∈ frs outer := hb
  have n : H1 b = none := by
   have := I.stkFree b (by rw [hstk]; exact List.mem_cons_of_mem _ hb')
   exact this
  obtain ⟨l1, e1⟩ := F.un.slot b o e n (by rw [hstk]; exact List.mem_cons_of_mem _ hb') (by simp)
  obtain ⟨_, o', ho', hd'⟩ := F.fly.2.2.1.mem (b := b) (by
   have : b ∈ frs (vA (CXr P w) P w K mg base N qual scope f cd A outer s H E).stack := by rw [hstk]; exact List.mem_cons_of_mem _ hb'
   exact this)
  rw [e1] at ho'
  cases ho'
  obtain ⟨l2, e2⟩ := up b _ e1 hd'
  exact ⟨l2, e2⟩
 ·obtain ⟨o1, e1⟩ := F.hok.there n
  have e2 := F.inB b o1 e1 (.inl n)
  have e3 := fl'.1 b o1 e2
  rw [e] at e3
  cases e3
  exact e2
 ·obtain ⟨o1, e1⟩ := F.un.there b o e (by simp)
  by_cases hb : b ∈ frs outer
  ·have hz : H1 b = none := I.stkFree b (by rw [hstk]; exact List.mem_cons_of_mem _ hb)
   exact absurd hz n
  ·by_cases hL : b = s.heap.objs.size
   ·have hz : H1 b = none := I.stkFree b (by rw [hstk, hL]; exact List.mem_cons_self)
    exact absurd hz n
   ·exact ⟨o1, fl'.1 b o1 (F.inB b o1 e1 (.inr ⟨⟨o, e⟩, nst hb hL⟩))⟩
 ·obtain ⟨o1, e1⟩ := F.un.there b o e (by simp)
  exact ⟨o1, F.inB b o1 e1 (.inr ⟨⟨o, e⟩, nst hb hL⟩)⟩
end
section
variable {X : Cx} {E : XK}
end
def nP (CX : CXT) (X : Cx) (E : St -> XK) : Prop := ∀ (pins : List (Addr × Obj)) (σ : St) (H : Hp) (s : Shared) (e : Value) (s' : Shared), Inv X pins σ H s -> CX X.stack H s (E σ) e s' -> X.xe e s'
def aM5 (sp : Sp) (E : St -> XK) (t : TA) : TE := fun σ H Q => t σ H fun vs H1 => sp vs H1 Q (E σ)
section
variable {X : Cx} {CX : CXT} {k : Nat} {f : Addr} {fd : FuncData} {ps : List Str} {sp : Sp} {E : St -> XK} {x : Str} {p pos : Pos} {e : Expr} {es : List Expr} {t : TA}
theorem aE7 (F : FnOk X.prog X.w X.K X.mg X.base CX k f fd ps sp) (hr : Room k X.A) (hg : Gl X x) (hm : X.mg x = some (.ref f)) (hk : PySem.W.keepIn X.K (.ref f) = true) (hb : Binds X.K fd ps []) (hx : nP CX X E)
  (ha : PA X (e :: es) t) (hdb : (x == ("__debug__" : Str)) = false := by decide) (he : starEach (e :: es) X.env = (false, eval e X.env) :: starEach es X.env := by rfl) (hpl : (backTo pos (starEach es X.env)).any (·.1) = false := by rfl) :
  PE X (.Call (.Name x p) (e :: es) [] pos) (aM5 sp E t) := by
 intro pins s σ H Q I h
 refine wpAny_Call_Name_kw (aJv I hg hm ?_ hdb)
 refine PySem.W.callWith_K (h₀ := X.base) I.ok.mod.kin hk (thn (ha pos pins s σ H _ I h) fun us s1 ⟨vs, H1, I1, r, q⟩ => ⟨I1.kIn, ?_⟩) he hpl
 have hl : us.length = ps.length := by rw [<- r.length]; exact F.len _ _ _ _ q
 have hb' := hb s1 us I1.kIn (by rw [List.append_nil]; exact hl)
 rw [List.append_nil] at hb'
 refine wpAny_call (codeAny_mono (F.run X.A X.stack s1 H1 ⟨us, []⟩ us vs Q (E σ) hr I1.env0 hb' r q) fun rr s' hq => ?_)
 cases rr with
 | error e' => exact hx pins σ H1 s1 e' s' I1 hq
 | ok fl =>
  cases fl with
  | ret u => exact I1.after hq
  | next => exact False.elim hq
  | brk => exact False.elim hq
  | cont => exact False.elim hq
end
section
variable {X : Cx} {k : Nat} {f : Addr} {fd : FuncData} {ps : List Str} {sp : Sp} {x : Str} {p pos : Pos} {e : Expr} {es : List Expr} {t : TA}
end
def aJ6 (e : Addr) (cls : Value) : HO := .ext fun h => ∃ o, h.get? e = some o /\ o.cls = cls /\ ∃ vs, o.data = .fields vs
abbrev bV (X : Cx) (scope : Scope) (cl : List (Str × Addr)) (C : Addr) (N : List Str) (s₀ : Shared) (H₀ : Hp) (ex : List Addr) (pn : List (Addr × Obj)) : Cx :=
 { X with env := compEnvC scope cl C X.env, N := N, s₀ := s₀, H₀ := H₀, outer := X.stack, stack := X.stack, ex := ex, fn := fun _ => false, pn := pn, xe := fun _ _ => False }
structure aIp (X : Cx) (scope : Scope) (cl : List (Str × Addr)) : Prop where
 clos : closureFor scope X.env = pure cl
 sub : ∀ y c, cl.lookup y = some c -> X.env.cells.lookup y = some c
 has : ∀ y, (relabel scope X.env).names.lookup y = some .cell \/ (relabel scope X.env).names.lookup y = some .free -> ∃ c, cl.lookup y = some c
def xP (js : List Nat) (σ : St) : St := js.map fun j => (σ[j]?).getD none
structure oW (X : Cx) (scope : Scope) (cl : List (Str × Addr)) (ys : List Str) (js : List Nat) : Prop where
 len : ys.length = js.length
 at_ : ∀ (i : Nat) (y : Str) (j : Nat), ys[i]? = some y -> js[i]? = some j -> X.N[j]? = some y /\ (X.env.kindOf y = some .cell \/ X.env.kindOf y = some .free) /\ ((relabel scope X.env).names.lookup y = some .cell \/ (relabel scope X.env).names.lookup y = some .free) /\ (X.env.cells.lookup y).isSome = true /\ cl.lookup y = X.env.cells.lookup y
section
variable {X : Cx}
end
def Sz (n : Nat) (x : Int) : Prop := x.natAbs < 2 ^ n
theorem Sz.mono {m n : Nat} {x : Int} (h : Sz m x) (l : m <= n) : Sz n x := Nat.lt_of_lt_of_le h (Nat.pow_le_pow_right (by decide) l)
theorem Sz.mul {m n : Nat} {x y : Int} (hx : Sz m x) (hy : Sz n y) : Sz (m + n) (x * y) := by
 unfold Sz at *
 rw [Int.natAbs_mul, Nat.pow_add]
 exact Nat.mul_lt_mul'' hx hy
theorem Sz.add {n : Nat} {x y : Int} (hx : Sz n x) (hy : Sz n y) : Sz (n + 1) (x + y) := by
 unfold Sz at *
 have := Int.natAbs_add_le x y
 rw [Nat.pow_succ]
 omega
theorem Sz.neg {n : Nat} {x : Int} (hx : Sz n x) : Sz n (-x) := by
 unfold Sz at *
 rw [Int.natAbs_neg]
 exact hx
theorem Sz.sub {n : Nat} {x y : Int} (hx : Sz n x) (hy : Sz n y) : Sz (n + 1) (x - y) := by
 have := Sz.add hx hy.neg
 rwa [Int.sub_eq_add_neg]
theorem Sz.le {n : Nat} {x y : Int} (hy : Sz n y) (h : x.natAbs <= y.natAbs) : Sz n x := Nat.lt_of_le_of_lt h hy
def CMulW (i j : Int) : Prop := Sz 60000 i /\ Sz 60000 j
theorem CMulW.ok {i j : Int} (h : CMulW i j) : IntMulOk i j := .of_le (intBits_le_iff.mpr h.1) (intBits_le_iff.mpr h.2) (by decide)
def fI (i j : Int) : Prop := j ≠ 0 /\ Sz 8000 j
section
variable {X : Cx}
theorem aU : OpR X (binaryOp .Mult) (rI CMulW fun i j => .int (i * j)) := opI fun _ _ _ _ _ _ _ hc q => mul_int q hc.ok
theorem log2_small {n : Nat} (h : n < 2 ^ 8000) : n.log2 < 9000 := by
 by_cases z : n = 0
 ·rw [z]; decide
 ·have : n.log2 < 8000 := (Nat.log2_lt z).mpr h
  omega
theorem bY : OpR X (binaryOp .FloorDiv) (rI fI fun i j => .int (i.fdiv j)) := opI fun _ _ _ _ _ _ _ hc q => floordiv_int hc.1 q (.inl (PyProof.noPylong_of_log2 (log2_small hc.2)))
inductive TyX (K : PySem.W.Frag) (H : Hp) : V -> Value -> Prop where
 | plain {x : V} {t : Value} (h : xK K H x t) : TyX K H x t
 | exc {a C : Addr} (e : H a = some (aJ6 a (.ref C))) (T : PySem.W.ExcK K C) : TyX K H (.ref a) (.ref C)
theorem RelV.tyOrRef {y : V} {c u : Value} (h : (∃ n, y = .ty n) \/ ∃ a, y = .ref a) (r : RelV y c) (r' : RelV y u) : u = c := by
 rcases h with ⟨n, rfl⟩ | ⟨n, rfl⟩
 ·cases r; cases r'; rfl
 ·cases r; cases r'; rfl
def aLq (K : PySem.W.Frag) : List V -> Hp -> VK -> Prop := fun xs H Q => ∃ x y t c b, xs = [x, y] /\ ((∃ n, y = .ty n) \/ ∃ a, y = .ref a) /\ TyX K H x t /\ RelV y c /\ PySem.W.kitOne K t c = some b /\ Q (.bl b) H
theorem aDj : mG X (.builtin "isinstance") (aLq X.K) := by
 intro pins s σ H xs us Q I r h
 obtain ⟨x, y, t, c, b, rfl, hy, ty, rc, e, q⟩ := h
 obtain ⟨u, w', rfl, r1, r2⟩ := vals2 r
 have ec := RelV.tyOrRef hy rc r2
 subst ec
 cases ty with
 | plain ty => exact aBw I r1 ty e fun tk => ⟨.bl b, H, I.tok _, rfl, q⟩
 | @exc a C ea T =>
  cases (show u = Value.ref a from r1)
  obtain ⟨p, _, _⟩ := (show ObjOk X.prog X.w H s.heap a (aJ6 a (.ref C)) from I.hok a _ ea)
  exact PySem.W.kia_one (PySem.W.kitx_exc T) I.kIn p e (fun z => nomatch z) fun tk => ⟨.bl b, H, I.tok _, rfl, q⟩
end
def aPw (K : PySem.W.Frag) (te : TE) (v : V) : TE := fun σ H Q => te σ H fun x H1 => aLq K [x, v] H1 Q
theorem aMg {X : Cx} {e c : Expr} {te : TE} {v : V} {p pos : Pos} (hg : Gl X "isinstance") (hm : X.mg "isinstance" = none) (he : PE X e te) (hc : PE X c (tC v)) (h1 : starEach [e, c] X.env = (false, eval e X.env) :: starEach [c] X.env := by rfl)
  (h2 : (backTo pos (starEach [c] X.env)).any (·.1) = false := by rfl) (h3 : starEach [c] X.env = (false, eval c X.env) :: starEach [] X.env := by rfl) : PE X (.Call (.Name "isinstance" p) [e, c] [] pos) (aPw X.K te v) := fun pins s σ H Q I h =>
 wK aDj hg hm (by decide +kernel) (jO he (jO hc oZ h3) h1) (by decide) (by decide) h1 h2 pins s σ H Q I h
theorem Fun.okX {P : Program} {w : World} {K : PySem.W.Frag} {mg : Str -> Option Value} {base : Heap} {x qual : Str} {st : Stmt} {f : Addr} {fd : FuncData} {N ps : List Str} {k : Nat} {sp : Sp} (F : Fun K x qual st f fd) (S : bI N ps (aQ st)) (len : ∀ vs H Q E, sp vs H Q E -> vs.length = ps.length)
  (hbody : ∀ (cdv : Value) (A : Around) (outer : List Env) (s : Shared) (H : Hp) (vs : List V) (Q : VK) (E : XK), Room k (A.deeper (envOfC qual (aQ st) s.heap.objs.size f cdv)) -> sp vs H Q E ->
   ∃ t, PSs (vA (CXr P w) P w K mg base N qual (aQ st) f cdv A outer s H E) (gS st) t /\ t { nx := fun _ H' => Q .non H', rt := Q } (start N vs) H) : FnOk P w K mg base (CXr P w) (k + 1) f fd ps sp := by
 obtain ⟨oc, od, kV, doc, pm, an, cdv, ct, osl, rfl, lk, hcd⟩ := F.ex
 exact aN3 lk hcd S len fun A outer s H vs Q E hr hsp => hbody cdv A outer s H vs Q E hr hsp
theorem Same.upd {H H' : Hp} {p : Addr} (h : Same H H') (hp : H' p = none) (o : HO) : Same H (upd H' p o) := fun b u q => by
 have := h b u q
 rw [bJ (dC this hp)]
 exact this
end L2
namespace FR
theorem xM {a b : Int} (ha : 0 <= a) (hb : 0 <= b) : Int.gcd b (a % b) = Int.gcd a b := by
 obtain ⟨m, rfl⟩ := Int.eq_ofNat_of_zero_le ha
 obtain ⟨n, rfl⟩ := Int.eq_ofNat_of_zero_le hb
 rw [<- Int.natCast_emod, Int.gcd_natCast_natCast, Int.gcd_natCast_natCast, Nat.gcd_comm n, <- Nat.gcd_rec, Nat.gcd_comm]
theorem yP (a b : Int) : Int.gcd (if a < 0 then -a else a) (if b < 0 then -b else b) = Int.gcd a b := by
 split <;> split <;> simp [Int.gcd_neg, Int.neg_gcd]
theorem zK {a : Int} (ha : 0 <= a) : ((Int.gcd a 0 : Nat) : Int) = a := by
 rw [Int.gcd_zero_right]
 omega
def sgn (b : Int) (g : Int) : Int := if b < 0 then -g else g
def mk (t b : Int) : Int × Int := (t.fdiv (sgn b (Int.gcd t b)), b.fdiv (sgn b (Int.gcd t b)))
theorem t6 {t b : Int} (hb : b ≠ 0) : 0 < Int.gcd t b := Int.gcd_pos_of_ne_zero_right t hb
theorem parts (t b : Int) (hb : b ≠ 0) : ∃ t' b' : Int, t = (Int.gcd t b : Int) * t' /\ b = (Int.gcd t b : Int) * b' /\ Int.gcd t' b' = 1 := by
 obtain ⟨t', ht⟩ := Int.gcd_dvd_left t b
 obtain ⟨b', hb'⟩ := Int.gcd_dvd_right t b
 refine ⟨t', b', ht, hb', ?_⟩
 have g0 := t6 (t := t) hb
 have e : Int.gcd t b = Int.gcd t b * Int.gcd t' b' := by
  have h : Int.gcd ((Int.gcd t b : Int) * t') ((Int.gcd t b : Int) * b') = (Int.gcd t b : Int).natAbs * Int.gcd t' b' := Int.gcd_mul_left ..
  rw [<- ht, <- hb'] at h
  simpa using h
 have e2 : Int.gcd t b * 1 = Int.gcd t b * Int.gcd t' b' := by omega
 exact (Nat.eq_of_mul_eq_mul_left g0 e2).symm
theorem aDu {t b g t' b' : Int} (g0 : 0 < g) (ht : t = g * t') (hb : b = g * b') : (t.fdiv (sgn b g) = (if b < 0 then -t' else t')) /\ (b.fdiv (sgn b g) = if b < 0 then -b' else b') := by
 unfold sgn
 by_cases h : b < 0
 ·rw [if_pos h, if_pos h, if_pos h]
  have e1 : t = (-g) * (-t') := by rw [ht, Int.neg_mul_neg]
  have e2 : b = (-g) * (-b') := by rw [hb, Int.neg_mul_neg]
  constructor
  ·conv => lhs; rw [e1]
   exact Int.mul_fdiv_cancel_left _ (by omega)
  ·conv => lhs; rw [e2]
   exact Int.mul_fdiv_cancel_left _ (by omega)
 ·rw [if_neg h, if_neg h, if_neg h]
  constructor
  ·conv => lhs; rw [ht]
   exact Int.mul_fdiv_cancel_left _ (by omega)
  ·conv => lhs; rw [hb]
   exact Int.mul_fdiv_cancel_left _ (by omega)
structure Fr (f : Int × Int) : Prop where
 pos : 1 <= f.2
 low : Int.gcd f.1 f.2 = 1
theorem y9 {t b : Int} (hb : b ≠ 0) : Fr (mk t b) /\ (mk t b).1 * b = t * (mk t b).2 := by
 obtain ⟨t', b', e1, e2, e3⟩ := parts t b hb
 have g0 : (0 : Int) < (Int.gcd t b : Int) := by have := t6 (t := t) hb; omega
 obtain ⟨p1, p2⟩ := aDu g0 e1 e2
 have q1 : (mk t b).1 = if b < 0 then -t' else t' := p1
 have q2 : (mk t b).2 = if b < 0 then -b' else b' := p2
 have hs : b < 0 ↔ b' < 0 := by
  constructor
  ·intro h
   rcases Int.lt_or_le b' 0 with z | z
   ·exact z
   ·have := Int.mul_nonneg (Int.le_of_lt g0) z
    omega
  ·intro h
   have := Int.mul_neg_of_pos_of_neg g0 h
   omega
 have hb' : b' ≠ 0 := by
  rintro rfl
  rw [Int.mul_zero] at e2
  exact hb e2
 refine ⟨⟨?_, ?_⟩, ?_⟩
 ·rw [q2]
  split
  ·rename_i h
   have := hs.mp h
   omega
  ·rename_i h
   have : ¬ b' < 0 := fun z => h (hs.mpr z)
   omega
 ·rw [q1, q2]
  split
  ·rw [Int.gcd_neg, Int.neg_gcd, e3]
  ·exact e3
 ·rw [q1, q2]
  generalize hg : (Int.gcd t b : Int) = g at *
  rw [e1, e2]
  split
  ·rw [Int.neg_mul, Int.mul_neg, Int.mul_left_comm, Int.mul_assoc]
  ·rw [Int.mul_left_comm, Int.mul_assoc]
end FR
namespace L2
open PySem PySem.Spec PyProof.Rows
section
variable {X : Cx}
end
open PySem.W (Dat kqdP kqdPs kqdOk kqd_lay kqd_eqv)
mutual
inductive HasD (H : Hp) : V -> Dat -> Prop
 | int (i : Int) : HasD H (.int i) (.int i)
 | tup {a : Addr} {xs : List V} {ds : List Dat} : H a = some (.tup xs) -> HasDs H xs ds -> HasD H (.ref a) (.tuple ds)
 | lst {a : Addr} {xs : List V} {ds : List Dat} : H a = some (.lst xs) -> HasDs H xs ds -> HasD H (.ref a) (.list ds)
inductive HasDs (H : Hp) : List V -> List Dat -> Prop
 | nil : HasDs H [] []
 | cons {x : V} {xs : List V} {d : Dat} {ds : List Dat} : HasD H x d -> HasDs H xs ds -> HasDs H (x :: xs) (d :: ds)
end
mutual
theorem HasD.keep {H H' : Hp} (k : ∀ a o, H a = some o -> H' a = some o) : ∀ {v : V} {d : Dat}, HasD H v d -> HasD H' v d
 | _, _, .int i => .int i
 | _, _, .tup h r => .tup (k _ _ h) (HasDs.keep k r)
 | _, _, .lst h r => .lst (k _ _ h) (HasDs.keep k r)
theorem HasDs.keep {H H' : Hp} (k : ∀ a o, H a = some o -> H' a = some o) : ∀ {v : List V} {d : List Dat}, HasDs H v d -> HasDs H' v d
 | _, _, .nil => .nil
 | _, _, .cons h r => .cons (HasD.keep k h) (HasDs.keep k r)
end
mutual
theorem HasD.reads {P : Program} {w : World} {H : Hp} {h : Heap} (ok : HOk P w H h) : ∀ {v : V} {d : Dat}, HasD H v d -> ∀ {u : Value}, RelV v u -> ∃ as, Reads h u (kqdP d) as
 | _, _, .int i, _, ⟨t, e⟩ => by subst e; exact ⟨_, Reads.int i t⟩
 | _, _, .tup hh r, _, e => by
  have e : _ = Value.ref _ := e
  subst e
  obtain ⟨_, its, rv, o, ho, hc, n, hd⟩ := (show ObjOk P w H h _ _ from ok _ _ hh)
  obtain ⟨as, q⟩ := HasDs.reads ok r rv
  rw [kqdP]
  exact ⟨as, reads_tuple_at ho hc hd (by simpa using q)⟩
 | _, _, .lst hh r, _, e => by
  have e : _ = Value.ref _ := e
  subst e
  obtain ⟨_, its, n, rv, ho⟩ := (show ObjOk P w H h _ _ from ok _ _ hh)
  obtain ⟨as, q⟩ := HasDs.reads ok r rv
  rw [kqdP]
  exact ⟨_, reads_list_at ho rfl rfl (by simpa using q)⟩
theorem HasDs.reads {P : Program} {w : World} {H : Hp} {h : Heap} (ok : HOk P w H h) : ∀ {vs : List V} {ds : List Dat}, HasDs H vs ds -> ∀ {us : List Value}, Vals vs us -> ∃ as, ReadsAll h us (kqdPs ds) as
 | _, _, .nil, _, .nil => ⟨_, ReadsAll.nil⟩
 | _, _, .cons hd r, _, .cons rv rt => by
  obtain ⟨as, q⟩ := HasD.reads ok hd rv
  obtain ⟨bs, p⟩ := HasDs.reads ok r rt
  rw [kqdPs]
  exact ⟨_, ReadsAll.cons q p⟩
end
section
variable {X : Cx}
end
def RawD (h : Heap) (d : Addr) (es : Array DictEntry) (ep : Nat) : Prop := ∃ o, h.get? d = some o /\ o.ExactDict /\ o.data = .dict es ep
theorem RawD.at {h h' : Heap} {d : Addr} {es : Array DictEntry} {ep : Nat} (x : RawD h d es ep) (k : ∀ o, h.get? d = some o -> h'.get? d = some o) : RawD h' d es ep := let ⟨o, ho, r⟩ := x; ⟨o, k o ho, r⟩
theorem RawD.lt {h : Heap} {d : Addr} {es : Array DictEntry} {ep : Nat} (x : RawD h d es ep) : d < h.objs.size := let ⟨_, ho, _⟩ := x; Heap.lt_size ho
theorem RawD.ty {s : Shared} {d : Addr} {es : Array DictEntry} {ep : Nat} (x : RawD s.heap d es ep) : s.TypeIs (.ref d) "dict" := let ⟨o, ho, hc, _⟩ := x; ⟨o, ho, hc.1⟩
section
variable {prog : Program} {w : World} {A : Around} {E : Value -> Shared -> Prop} {s : Shared} {d it : Addr} {es : Array DictEntry} {ep i : Nat}
theorem aE8 {Q : Value -> Shared -> Prop} (hd : (d == sysModules) = false) (hm : RawD s.heap d es ep)
  (q : Q (.ref s.heap.objs.size) { s with heap := s.heap.push { cls := .type "dict_keyiterator", data := .fields #[.ref d, .int 0 0, .int es.size 0, .int ep 0] } }) : wpAny (model prog w) A (pyIter (.ref d)) Q E s := by
 have ty := hm.ty
 obtain ⟨o, ho, hc, hdat⟩ := hm
 refine wpAny_pyIter_slot ty F.slot_dict_iter (wpAny_call_entry F.slot_dict_iter ty F.entry_dict_iter ?_ (F.args_dict_iter_1 _))
 unfold Builtin.«dict.__iter__» Builtin.Dict.dictSlotNone
 refine wpAny_bind (wpAny_bind (wpAny_notOrdered_dict ty (wpAny_pure ?_)))
 unfold Builtin.Dict.showsAll
 refine wpAny_bind (m := Builtin.Dict.addrOf (Value.ref d)) (wpAny_pure ?_)
 rw [if_neg (by rw [hd]; exact Bool.false_ne_true)]
 refine wpAny_bind (wpAny_pure (wpAny_bind (wpAny_dictEntries ho hdat (wpAny_bind (wpAny_dictEpoch ho hdat ?_)))))
 exact wpAny_bind (wpAny_newObj_type (wpAny_pure ⟨_, rfl, _, _, ⟨_, Heap.get?_push_size _ rfl, rfl⟩, F.slot_dict_keyiterator_next.lookup, q⟩))
theorem aD6 {Q : Option Value -> Shared -> Prop} (hit : s.heap.IsKeyIter it d i es.size ep) (hm : RawD s.heap d es ep) (lt : i < es.size)
  (q : ∀ h', h'.IsKeyIter it d (i + 1) es.size ep -> Heap.SameBut it s.heap h' -> Q (some es[i].key) { s with heap := h' }) : wpAny (model prog w) A (pyNext (.ref it)) Q E s := by
 have ty := hit.typeIs
 obtain ⟨o, ho, hc, hd⟩ := hit
 obtain ⟨od, hod, _, hdd⟩ := hm
 have own : Builtin.Dict_items.ownsTuple "dict_keyiterator" = false := by decide
 have nn : ¬ ((i : Int) < 0) := Int.not_lt.mpr (Int.natCast_nonneg i)
 unfold pyNext
 refine wpAny_bind (wpAny_attempt (wpAny_callSpecial?_slot (name := Str.ofString "__next__") ty F.slot_dict_keyiterator_next (wpAny_call_entry F.slot_dict_keyiterator_next ty F.entry_dict_keyiterator_next ?_ (F.args_dict_keyiterator_next_1 _))))
 refine wpAny_bind (wpAny_pure (wpAny_bind (wpAny_bind ?_)))
 first | refine wpAny_bind (wpAny_typeNameOfWhole_keyiter ty (wpAny_pure ?_)) | refine wpAny_bind (wpAny_typeNameOf_keyiter ty (wpAny_pure ?_))
 refine wpAny_bind (wpAny_fieldsOf ho hd ?_)
 simp only [own, Bool.false_eq_true, if_false]
 show wpAny _ _ (if (Value.ref d == Value.none) = true then _ else _) _ _ s
 rw [if_neg (by intro z; cases z)]
 refine wpAny_bind (wpAny_pure (wpAny_bind (wpAny_dictEntries hod hdd ?_)))
 rw [if_neg (by simp)]
 refine wpAny_bind (wpAny_pure (wpAny_bind (wpAny_dictEpoch hod hdd ?_)))
 rw [if_neg (by simp)]
 refine wpAny_pure ?_
 simp only [nn, if_false, Int.toNat_natCast, Array.getElem?_eq_getElem lt]
 refine wpAny_bind ?_
 first | refine wpAny_bind (wpAny_typeNameOfWhole_keyiter ty (wpAny_pure ?_)) | refine wpAny_bind (wpAny_typeNameOf_keyiter ty (wpAny_pure ?_))
 refine wpAny_bind (wpAny_isOneOf_keyiter ty ?_)
 refine wpAny_bind (m := setField (.ref it) 1 (rawInt ((i : Int) + 1))) (wpAny_setField ho hd (by simp) ?_)
 have hit' : (s.heap.update it (Obj.mapFields (·.setIfInBounds 1 (rawInt ((i : Int) + 1))))).IsKeyIter it d (i + 1) es.size ep :=
  ⟨_, Heap.get?_update_self _ ho (Obj.isFreed_of_fields (Obj.data_mapFields hd _)), (Obj.cls_mapFields ..).trans hc, (Obj.data_mapFields hd _).trans (by simp [rawInt])⟩
 refine wpAny_bind (wpAny_holding (wpAny_bind (wpAny_isOneOf_keyiter (s := { s with heap := s.heap.update it (Obj.mapFields (·.setIfInBounds 1 (rawInt ((i : Int) + 1)))) }) hit'.typeIs ?_)))
 exact wpAny_pure (wpAny_pure ⟨_, rfl, wpAny_pure (q _ hit' (Heap.SameBut.update ..))⟩)
theorem aIb {Q : Option Value -> Shared -> Prop} (hh : A.handled = none) (hit : s.heap.IsKeyIter it d es.size es.size ep) (hm : RawD s.heap d es ep) (q : ∀ h', Heap.ExtBut it s.heap h' -> Q none { s with heap := h' }) : wpAny (model prog w) A (pyNext (.ref it)) Q E s := by
 have ty := hit.typeIs
 obtain ⟨o, ho, hc, hd⟩ := hit
 obtain ⟨od, hod, _, hdd⟩ := hm
 have own : Builtin.Dict_items.ownsTuple "dict_keyiterator" = false := by decide
 have nn : ¬ ((es.size : Int) < 0) := Int.not_lt.mpr (Int.natCast_nonneg _)
 unfold pyNext
 refine wpAny_bind (wpAny_attempt (wpAny_callSpecial?_slot (name := Str.ofString "__next__") ty F.slot_dict_keyiterator_next (wpAny_call_entry F.slot_dict_keyiterator_next ty F.entry_dict_keyiterator_next ?_ (F.args_dict_keyiterator_next_1 _))))
 refine wpAny_bind (wpAny_pure (wpAny_bind (wpAny_bind ?_)))
 first | refine wpAny_bind (wpAny_typeNameOfWhole_keyiter ty (wpAny_pure ?_)) | refine wpAny_bind (wpAny_typeNameOf_keyiter ty (wpAny_pure ?_))
 refine wpAny_bind (wpAny_fieldsOf ho hd ?_)
 simp only [own, Bool.false_eq_true, if_false]
 show wpAny _ _ (if (Value.ref d == Value.none) = true then _ else _) _ _ s
 rw [if_neg (by intro z; cases z)]
 refine wpAny_bind (wpAny_pure (wpAny_bind (wpAny_dictEntries hod hdd ?_)))
 rw [if_neg (by simp)]
 refine wpAny_bind (wpAny_pure (wpAny_bind (wpAny_dictEpoch hod hdd ?_)))
 rw [if_neg (by simp)]
 refine wpAny_pure ?_
 simp only [nn, if_false, Int.toNat_natCast, Array.getElem?_eq_none (Nat.le_refl es.size)]
 refine wpAny_bind ?_
 first | refine wpAny_bind (wpAny_typeNameOfWhole_keyiter ty (wpAny_pure ?_)) | refine wpAny_bind (wpAny_typeNameOf_keyiter ty (wpAny_pure ?_))
 refine wpAny_bind (m := setField (.ref it) 0 .none) (wpAny_setField ho hd (by simp) ?_)
 refine wpAny_bind (m := newExc (.type "StopIteration") []) ?_
 simp only [newExc, newTuple]
 refine wpAny_bind (wpAny_newObj_type (wpAny_bind (m := firstArgMember _ _) (wpAny_of_eq (a := Value.none) (by first | rfl | (simp only [firstArgMember]; rfl)) ?_)) (by size_fits))
 refine wpAny_newObj_type ?_ (by size_fits)
 simp only [raiseNew]
 refine wpAny_bind (wpAny_handled ?_)
 rw [show A.in1.handled = none from hh]
 refine wpAny_bind (wpAny_pure (wpAny_throw ?_))
 refine wpAny_bind (wpAny_isInstance (T := "StopIteration") (b := true) ⟨_, Heap.get?_push_size _ rfl, rfl⟩ isSubtype_stop ?_)
 exact wpAny_pure (q _ (((Heap.SameBut.update ..).extBut.push _).push _))
theorem zU (hh : A.handled = none) (I d : Addr) (hne : d ≠ I) (es : Array DictEntry) (ep : Nat) :
  Walks prog w A I [I, d] [I] es.size (fun i v => ∃ e, es[i]? = some e /\ v = e.key) (fun i h => h.IsKeyIter I d i es.size ep /\ RawD h d es ep) where
 sub := fun b hb => List.mem_cons.mpr (.inl (List.mem_singleton.mp hb))
 frame := fun _ _ _ st hk => ⟨st.1.at fun o e => hk I (by simp) o e, st.2.at fun o e => hk d (by simp) o e⟩
 item := fun i s Q E hi st hQ => aD6 st.1 st.2 hi fun h' hit' sb => hQ _ h' s.toks ⟨es[i], by simp [hi], rfl⟩ ⟨hit', st.2.at fun o e => (sb.2 d hne).trans e⟩ fun b o hb e => (sb.2 b fun z => hb (by simp [z])).trans e
 done := fun s Q E st hQ => aIb hh st.1 st.2 fun h' he' => hQ h' s.toks fun b o hb e => he' b o (fun z => hb (by simp [z])) e
 self := fun _ _ _ _ st hQ => wpAny_pyIter_keyiter st.1 hQ
theorem aJc (lo : (d == sysModules) = false) : PySem.W.KdlSrc prog w "dict" d d es.size (fun i v => ∃ e, es[i]? = some e /\ v = e.key) (fun h => RawD h d es ep) where
 type := fun _ hm => hm.ty
 there := fun _ hm => ⟨hm.lt, hm.lt⟩
 keep := fun _ _ hm hk => hm.at fun o e => hk d (.inl rfl) o e
 notList := by decide
 notTuple := by decide
 hint := fun _ _ _ _ hm hq => PySem.W.kdl_hint_dict hm.ty hq
 iter := fun _ _ hh hm => ⟨_, _, (fun _ _ hq => aE8 lo hm hq), zU hh _ d (Nat.ne_of_lt hm.lt) es ep, ⟨⟨_, Heap.get?_push_size _ rfl, rfl, rfl⟩, hm.at fun o e => Heap.get?_push_of_some _ e⟩⟩
end
section
variable {prog : Program} {w : World} {A : Around} {R : Result -> Shared -> Prop} {s : Shared}
abbrev yR (ifs : List Expr) (env : Env) : Sem Bool := forIn ifs true fun c r => if r = true then do let ok <- isTrue c env (eval c env); pure (ForInStep.yield ok) else pure (ForInStep.yield r)
theorem yY {elt target iter : Expr} {ifs : List Expr} {scope : Scope} {pos : Pos} {it acc : Value} {env : Env} (I : Nat -> Shared -> Prop)
  (turn : ∀ n s, I n s -> wpAny (model prog w) A (pyNext it) (fun r s₁ => match r with
   | none => R (.ok .next) s₁
   | some v => wpAny (model prog w) A (letOwnedTupleGo target it v) (fun _ s₀ => wpAny (model prog w) A (assign target env v) (fun _ s₂ =>
     wpAny (model prog w) A (yR ifs env) (fun ok s₃ =>
      if ok = true then wpAny (model prog w) A (eval elt env) (fun x s₄ =>
       wpAny (model prog w) A (call (.builtin "list.append") [acc, x]) (fun _ s₅ => ∃ m, m < n /\ I m s₅) (fun _ _ => False) s₄) (fun _ _ => False) s₃
      else ∃ m, m < n /\ I m s₃) (fun _ _ => False) s₂) (fun _ _ => False) s₀) (fun _ _ => False) s₁) (fun _ _ => False) s)
  (n : Nat) (h : I n s) : codeAny (model prog w) A (.compLoop (.ListComp elt [⟨target, iter, ifs, 0⟩] scope pos) 0 it acc env) R s := by
 refine codeAny_loop rfl I (fun n s hI => ?_) n h
 show wpAny _ A ((compTurn (.ListComp elt [⟨target, iter, ifs, 0⟩] scope pos) 0 it acc env).onRaise (fun x => do noteFrame x env; theTreesLotGoes x)) _ _ s
 refine wpAny_noted ?_
 rw [compTurn_list]
 refine wpAny_bind (wpAny_standAt (wpAny_bind (wpAny_mono (turn n s hI) (fun r s₁ h₁ => ?_) fun _ _ z => z.elim)))
 cases r with
 | none => exact wpAny_pure h₁
 | some v =>
  refine wpAny_bind (wpAny_mono h₁ (fun _ s₀ h₀ => ?_) fun _ _ z => z.elim)
  refine wpAny_bind (wpAny_mono h₀ (fun _ s₂ h₂ => wpAny_bind (wpAny_mono h₂ (fun ok s₃ h₃ => ?_) fun _ _ z => z.elim)) fun _ _ z => z.elim)
  cases ok with
  | false => exact wpAny_pure ⟨rfl, h₃⟩
  | true =>
   exact wpAny_bind (wpAny_bind (wpAny_mono h₃ (fun x s₄ h₄ => wpAny_bind (wpAny_mono h₄ (fun _ s₅ h₅ => wpAny_pure (wpAny_pure ⟨rfl, h₅⟩)) fun _ _ z => z.elim)) fun _ _ z => z.elim))
end
def PTs (X : Cx) (ifs : List Expr) (t : TT) : Prop :=
 ∀ (pins : List (Addr × Obj)) (s : Shared) (σ : St) (H : Hp) (Q : Bool -> Hp -> Prop), Inv X pins σ H s -> t σ H Q -> wpAny (model X.prog X.w) X.A (yR ifs X.env) (TP X pins σ Q) X.xe s
def aP3 : TT := fun _ H Q => Q true H
theorem aHz {X : Cx} : PTs X [] aP3 := fun _ _ _ H _ I h => wpAny_tests_nil ⟨H, I, h⟩
theorem aIf {X : Cx} {c : Expr} {t : TT} (h : PT X c t) : PTs X [c] t := fun pins s σ H Q I hw => wpAny_tests_one (h pins s σ H Q I hw)
def xD (wi : TI) (g : TG) (tt : TT) (te : TE) (n : Nat) (js : List Nat) : TE := fun σ H Q => wi σ H fun J H1 => ∀ D, H1 D = none -> ∃ (N : Nat) (W : Nat -> List V -> Hp -> Prop), W 0 [] (upd H1 D (.lst [])) /\ ∀ i ys H2, W i ys H2 ->
 (J.stop i H2 /\ Q (.ref D) H2) \/ (i < N /\ J.go i H2 /\ ∀ v H3, J.yld i H2 v H3 -> g v (List.replicate n none ++ xP js σ) H3 fun σ2 H4 => (σ2.length = n + js.length /\ σ2.drop n = xP js σ) /\ tt σ2 H4 fun b H5 =>
  if b = true then te σ2 H5 fun y H6 => H6 D = some (.lst ys) /\ ys.length < sizeLine /\ W (i + 1) (ys ++ [y]) (upd H6 D (.lst (ys ++ [y]))) else W (i + 1) ys H5)
section
variable {X : Cx}
theorem Inv.but {pins : List (Addr × Obj)} {σ : St} {H : Hp} {s : Shared} {C : Addr} {h' : Heap} (I : Inv X pins σ H s) (f : aDs X pins H C) (hs : Heap.SameBut C s.heap h') : Inv X pins σ H { s with heap := h' } := by
 have ne : ∀ b, b ∉ [C] -> b ≠ C := fun b hb z => hb (by rw [z]; exact .head _)
 refine I.call' (s' := { s with heap := h' }) (ch := [C]) rfl ⟨fun b o e n hb hx => (hs.2 b (ne b hx)).trans e, fun b o e n hb hx => ⟨o.slots, (hs.2 b (ne b hx)).trans e⟩, fun b o e n hx => n, fun b o e hx => ⟨o, (hs.2 b (ne b hx)).trans e⟩, fun b xs e => e, fun b o u e => e, fun b ps e => ⟨#[], by rw [Array.append_empty]; exact e⟩⟩ (wB I.hok fun b o nn e => (hs.2 b (fun z => nn (by rw [z]; exact f.1))).trans e) I.bare fun b hb => ?_
 rw [List.mem_singleton.mp hb]
 exact ⟨f.2.2.2.1, f.2.1, f.2.2.2.2.1, f.2.2.2.2.2⟩
set_option maxHeartbeats 8000000 in
theorem sU {elt iter tg : Expr} {pos : Pos} {scope : Scope} {ifs : List Expr} {wi : TI} {g : TG} {tt : TT} {te : TE} {xs ys : List Str} {js : List Nat} {cl : List (Str × Addr)} (hc : X.calm = true) (hi : PI X tg iter wi)
  (hcl : aIp X scope cl) (hcap : oW X scope cl ys js) (hcell : ∀ y ∈ scope.names, y.2 ≠ .cell) (hkind : scope.kind = .function) (hnames : ∀ y ∈ scope.names, y.2 = .local -> scope.names.lookup y.1 = some .local)
  (hg : ∀ C s₀ H₀ ex pn, PG (bV X scope cl C (xs ++ ys) s₀ H₀ ex pn) tg g) (ht : ∀ C s₀ H₀ ex pn, PTs (bV X scope cl C (xs ++ ys) s₀ H₀ ex pn) ifs tt) (hb : ∀ C s₀ H₀ ex pn, PE (bV X scope cl C (xs ++ ys) s₀ H₀ ex pn) elt te)
  (hs : ∀ x, foldedSetIterable iter X.env x = pure x) {use : Option (Value -> Sem Unit)} {QQ : Value -> Shared -> Prop} {Q : VK} {pins : List (Addr × Obj)} {s : Shared} {σ : St} {H : Hp} {cp : Pos} (I : Inv X pins σ H s)
  (aNr : ∀ (C D : Addr) (s' : Shared) (H' : Hp), Inv X pins σ H' s' -> aDs X pins H' C -> (∃ m, s'.heap.Ns C m) -> Q (.ref D) H' -> compPost (model X.prog X.w) X.A X.xe use QQ (.ref D) C (.ok .next) s')
  (h : xD wi g tt te xs.length js σ H Q) :
  wpAny (model X.prog X.w) X.A (comprehension (.ListComp elt [⟨tg, iter, ifs, 0⟩] scope pos) scope X.env cp (newList []) false (eval iter X.env) use) QQ X.xe s := by
 refine wpAny_comprehension_free rfl hs hcl.clos hkind hnames (thn (hi pins s σ H _ I h) fun v s1 h1 => thn h1 fun itv s2 h2 => ?_)
 obtain ⟨it, fp, tn, J, H2, e, I2, T, st2, f2, q2⟩ := h2
 subst e
 obtain ⟨n, W, w0, turn⟩ := q2 s2.heap.objs.size I2.fresh
 refine wpAny_newObj_type (wpAny_newFunctionEnv hcell (by intro y hy; simp at hy) (fun h₁ hns₁ hsb₁ => ?_) hkind)
 dsimp only at hns₁ hsb₁ ⊢
 have I3 := I2.lnew (ys := []) (its := []) (t' := s2.toks) .nil (Nat.zero_le _)
 generalize hg3 : s2.heap.push { cls := .type "list", dict := none, data := .seq ([] : List Value).toArray } = g3 at hns₁ hsb₁ I3 ⊢
 have sz3 : g3.objs.size = s2.heap.objs.size + 1 := by rw [<- hg3, Heap.size_push]
 generalize hC : g3.objs.size = C at hns₁ hsb₁ ⊢
 have old3 : ∀ b o, g3.get? b = some o -> h₁.get? b = some o := fun b o q => hsb₁.extBut b o (by rw [<- hC]; exact Nat.ne_of_lt (Heap.lt_size q)) (Heap.get?_push_of_some _ q)
 have old2 : ∀ b o, s2.heap.get? b = some o -> g3.get? b = some o := fun b o q => by rw [<- hg3]; exact Heap.get?_push_of_some _ q
 have fpl : ∀ b ∈ fp, ∃ o, s2.heap.get? b = some o /\ ∀ v, o.data ≠ .cell v := T.obj _ _ st2
 have fplt : ∀ b ∈ fp, b < s2.heap.objs.size := fun b hb => let ⟨o, q, _⟩ := fpl b hb; Heap.lt_size q
 have H3n : ∀ b, b ≠ s2.heap.objs.size -> upd H2 s2.heap.objs.size (.lst []) b = H2 b := fun b hb => bJ hb
 have fp3 : ∀ b ∈ fp, upd H2 s2.heap.objs.size (.lst []) b = none := fun b hb => by rw [H3n b (Nat.ne_of_lt (fplt b hb))]; exact (f2 b hb).1
 have okX := I3.ok
 have inj : ∀ y z c, cl.lookup y = some c -> cl.lookup z = some c -> y = z := fun y z c h1 h2 => okX.inj y z c (hcl.sub y c h1) (hcl.sub z c h2)
 have cellE : ∀ y c, cl.lookup y = some c -> ∃ v, g3.IsCell c v := fun y c q => I3.cell y c (hcl.sub y c q)
 have st3 : g3.FunFrames X.base X.stack := I3.stack
 have exlt : ∀ b ∈ fp, b ≠ C := fun b hb => by rw [<- hC, sz3]; exact Nat.ne_of_lt (Nat.lt_succ_of_lt (fplt b hb))
 have frlt : ∀ b ∈ frs X.stack, b < g3.objs.size := fun b hb => let ⟨_, o, q, _⟩ := st3.mem hb; Heap.lt_size q
 have okB : (bV X scope cl C (xs ++ ys) { s2 with heap := g3 } (upd H2 s2.heap.objs.size (.lst [])) fp (X.pn ++ pins)).Ok := by
  refine ⟨okX.mod, hkind, okX.glob, okX.blt, Nat.le_of_eq hC, inj, fun y hy => hcl.has y hy, (fun y c hf _ => nomatch hf), okX.hd, okX.frames, .inl rfl, fun b hb => ⟨exlt b hb, fun y c q z => ?_⟩, I3.bs, Nat.le_trans okX.bsz I3.sz, fun b o q hb => ?_, fun b hb => ?_, st3, I3.stkFree⟩
  ·subst z
   exact (f2 c hb).2.2.2.2.1 y c (hcl.sub y c q) rfl
  ·rcases (f2 b hb).2.2.2.1 with z | z
   ·exact okX.noex b o q z
   ·have := Heap.lt_size (okX.bs b o q).1
    exact absurd (Nat.lt_of_lt_of_le this z) (Nat.lt_irrefl _)
  ·intro hz
   rcases List.mem_cons.mp (I3.stkSub b hz) with z | z
   ·exact (f2 b hb).2.1 z
   ·exact (f2 b hb).2.2.1 z
 have tot : ∀ tk : Nat, Inv (bV X scope cl C (xs ++ ys) { s2 with heap := g3 } (upd H2 s2.heap.objs.size (.lst [])) fp (X.pn ++ pins)) [] (List.replicate xs.length none ++ xP js σ) (upd H2 s2.heap.objs.size (.lst [])) { s2 with heap := h₁, toks := tk } := fun tk => by
  refine ⟨okB, rfl, I3.bare, Un.kept old3, ⟨_, hns₁, fun i y v' e1 e2 e3 => ?_⟩, fun y c q => ?_, I3.hok.fresh (Nat.le_of_eq hC), fun y c q => ?_, fun p hp => ?_, I3.hok.kept old3, ?_⟩
  ·by_cases hix : i < xs.length
   ·rw [List.getElem?_append_left (by rw [List.length_replicate]; exact hix), List.getElem?_replicate] at e2
    split at e2 <;> cases e2
   ·have hix' : xs.length <= i := by omega
    obtain ⟨k, rfl⟩ : ∃ k, i = xs.length + k := ⟨i - xs.length, by omega⟩
    have e1' : ys[k]? = some y := by
     rw [List.getElem?_append_right (by omega)] at e1
     simpa using e1
    have e2' : (xP js σ)[k]? = some (some v') := by
     rw [List.getElem?_append_right (by rw [List.length_replicate]; omega), List.length_replicate] at e2
     simpa using e2
    unfold xP at e2'
    rw [List.getElem?_map] at e2'
    cases ej : js[k]? with
    | none => rw [ej] at e2'; cases e2'
    | some j =>
     rw [ej] at e2'
     have e2'' : (σ[j]?).getD none = some v' := Option.some.inj e2'
     have eσ : σ[j]? = some (some v') := by
      cases es : σ[j]? with
      | none => rw [es] at e2''; cases e2''
      | some z => rw [es] at e2''; have : z = some v' := e2''; rw [this]
     obtain ⟨c1, c2, c3, c4, c5⟩ := hcap.at_ k y j e1' ej
     obtain ⟨m0, hn0, hl0⟩ := I3.loc
     obtain ⟨u, r, l⟩ := hl0 j y v' c1 eσ (c2.elim (fun z => .inr (.inl z)) fun z => .inr (.inr z))
     refine ⟨u, r, .inr ⟨c3, ?_⟩⟩
     rcases l with ⟨l, _⟩ | ⟨_, c, hcc, z⟩
     ·rcases c2 with c2 | c2
      ·rw [c2] at l; cases l
      ·rw [c2] at l; cases l
     ·obtain ⟨o, ho, hd⟩ := z
      exact ⟨c, c5.trans hcc, o, old3 c o ho, hd⟩
  ·obtain ⟨v0, o, ho, hd⟩ := cellE y c q
   exact ⟨v0, o, old3 c o ho, hd⟩
  ·exact I3.freeC y c (hcl.sub y c q)
  ·have hp' : p ∈ X.pn ++ pins := by simpa using hp
   obtain ⟨p1, p2, p3, p4, p5⟩ := I3.pin p hp'
   refine ⟨old3 _ _ p1, p2, ?_, fun hz => ?_, p5⟩
   ·show p.1 ≠ C
    rw [<- hC]
    exact Nat.ne_of_lt (Heap.lt_size p1)
   ·rcases List.mem_cons.mp (I3.stkSub p.1 hz) with z | z
    ·exact p3 z
    ·exact p4 z
  ·show (List.replicate xs.length none ++ xP js σ).length = (xs ++ ys).length
   unfold xP
   simp [hcap.len]
 have fpB : ∀ {H' : Hp}, (∀ b ∈ fp, H' b = none) -> ∀ b ∈ fp, aDs (bV X scope cl C (xs ++ ys) { s2 with heap := g3 } (upd H2 s2.heap.objs.size (.lst [])) fp (X.pn ++ pins)) [] H' b := fun hn b hb =>
  ⟨hn b hb, exlt b hb, okB.exfs b hb, .inl hb, (okB.exf b hb).2, fun p hp => (f2 b hb).2.2.2.2.2 p (by simpa using hp)⟩
 have fin : ∀ s' : Shared, (∃ i zs σ' H', Inv (bV X scope cl C (xs ++ ys) { s2 with heap := g3 } (upd H2 s2.heap.objs.size (.lst [])) fp (X.pn ++ pins)) [] σ' H' s' /\ W i zs H' /\ J.stop i H' /\ Q (.ref s2.heap.objs.size) H') ->
   compPost (model X.prog X.w) X.A X.xe use QQ (.ref s2.heap.objs.size) C (.ok .next) s' := by
  rintro s' ⟨i, zs, σ', H', Ib, w, stop, q⟩
  obtain ⟨m', hn', _⟩ := Ib.loc
  have ub := Ib.base
  have un : Un (frs X.stack) fp (upd H2 s2.heap.objs.size (.lst [])) H' g3 s'.heap := ub
  have IX : Inv X pins σ H' s' := I3.call' (s' := s') (ch := fp) Ib.os un Ib.hok Ib.bare fun b hb => ⟨(f2 b hb).2.2.2.1, (f2 b hb).2.1, (f2 b hb).2.2.2.2.1, (f2 b hb).2.2.2.2.2⟩
  exact aNr C _ s' H' IX (I3.fpOk (Nat.le_of_eq hC) Ib.free) ⟨m', hn'⟩ q
 have loop : ∀ s₃ : Shared, (∃ tk, s₃ = { s2 with heap := h₁, toks := tk }) ->
   codeAny (model X.prog X.w) X.A (.compLoop (.ListComp elt [⟨tg, iter, ifs, 0⟩] scope pos) 0 (.ref it) (.ref s2.heap.objs.size) (compEnvC scope cl C X.env)) (compPost (model X.prog X.w) X.A X.xe use QQ (.ref s2.heap.objs.size) C) s₃ := by
  rintro s₃ ⟨tk, rfl⟩
  refine yY (fun k s' => ∃ i zs H', k = n + 1 - i /\ i <= n /\ Inv (bV X scope cl C (xs ++ ys) { s2 with heap := g3 } (upd H2 s2.heap.objs.size (.lst [])) fp (X.pn ++ pins)) [] (List.replicate xs.length none ++ xP js σ) H' s' /\ tn i s'.heap /\ (∀ b ∈ fp, H' b = none) /\ W i zs H')
   ?_ (n + 1) ⟨0, [], _, rfl, Nat.zero_le _, tot tk, T.keep _ _ _ st2 fun b hb o q => old3 b o (old2 b o q), fp3, w0⟩
  rintro k s' ⟨i, zs, H', rfl, hin, Ib, st, fr, w⟩
  rcases turn i zs H' w with ⟨stop, qq⟩ | ⟨hlt, go, step⟩
  ·refine wpAny_mono (T.done (bV X scope cl C (xs ++ ys) { s2 with heap := g3 } (upd H2 s2.heap.objs.size (.lst [])) fp (X.pn ++ pins)) rfl rfl rfl hc i [] s' _ H' (fun _ _ => False) Ib (fpB fr) st stop) (fun r s4 ⟨hr, I4⟩ => ?_) fun _ _ z => z.elim
   subst hr
   exact fin s4 ⟨i, zs, _, H', I4, w, stop, qq⟩
  ·refine wpAny_mono (T.item (bV X scope cl C (xs ++ ys) { s2 with heap := g3 } (upd H2 s2.heap.objs.size (.lst [])) fp (X.pn ++ pins)) rfl rfl rfl hc i [] s' _ H' (fun _ _ => False) Ib (fpB fr) st go) (fun r s4 ⟨u, hr, h4⟩ => ?_) fun _ _ z => z.elim
   subst hr
   refine wpAny_mono h4 (fun _ s5 ⟨v5, H5, I5, r5, y5, st5, fr5⟩ => ?_) fun _ _ z => z.elim
   have I5' := I5.pinned (fpB fr5) (T.obj _ _ st5)
   have hw5 := step v5 H5 y5
   refine wpAny_mono (hg C _ _ fp (X.pn ++ pins) _ s5 _ H5 v5 u _ I5' r5 hw5) (fun _ s6 ⟨σ6, H6, I6, ⟨hl6, hd6⟩, e6⟩ => ?_) fun _ _ z => z.elim
   have back : ∀ {H' : Hp} {s' : Shared} {pins' : List (Addr × Obj)}, Inv (bV X scope cl C (xs ++ ys) { s2 with heap := g3 } (upd H2 s2.heap.objs.size (.lst [])) fp (X.pn ++ pins)) pins' σ6 H' s' -> Inv (bV X scope cl C (xs ++ ys) { s2 with heap := g3 } (upd H2 s2.heap.objs.size (.lst [])) fp (X.pn ++ pins)) pins' (List.replicate xs.length none ++ xP js σ) H' s' := fun I' => by
    refine I'.weak ?_ fun j v' e => ?_
    ·rw [hl6]; unfold xP; simp
    ·by_cases hj : j < xs.length
     ·rw [List.getElem?_append_left (by rw [List.length_replicate]; exact hj), List.getElem?_replicate] at e
      split at e <;> cases e
     ·rw [List.getElem?_append_right (by rw [List.length_replicate]; omega), List.length_replicate, <- hd6, List.getElem?_drop] at e
      rw [<- e]
      congr 1
      omega
   refine wpAny_mono (ht C _ _ fp (X.pn ++ pins) _ s6 _ _ _ I6 e6) (fun ok s6b ⟨H6b, I6b, e6b⟩ => ?_) fun _ _ z => z.elim
   cases ok with
   | false =>
    rw [if_neg Bool.false_ne_true]
    have e6c : W (i + 1) zs H6b := by simpa using e6b
    have I8 := back I6b
    refine ⟨n + 1 - (i + 1), by omega, i + 1, zs, _, rfl, hlt, I8.unpinned (pins := []), ?_, fun b hb => ?_, e6c⟩
    ·exact T.keep _ _ _ st5 fun b hb o q => (I8.pin (b, o) (List.mem_append_right _ (List.mem_append_right _ (fD hb q)))).1
    ·obtain ⟨o, q, d⟩ := T.obj _ _ st5 b hb
     exact (I8.pin (b, o) (List.mem_append_right _ (List.mem_append_right _ (fD hb q)))).2.1
   | true =>
    rw [if_pos rfl]
    have e6c := e6b
    rw [if_pos rfl] at e6c
    refine wpAny_mono (hb C _ _ fp (X.pn ++ pins) _ s6b _ _ _ I6b e6c) (fun y s7 ⟨yv, H7, I7, r7, hD, hz, w7⟩ => ?_) fun _ _ z => z.elim
    obtain ⟨z7, its, n7, rv7, hl7, e7⟩ := I7.lstM hD
    refine append_at (n := n7) (its := its.toArray) e7 (fun h₈ sb8 eD8 => ?_) (by rw [List.size_toArray, <- hl7]; exact Nat.le_of_lt hz)
    have I8 : Inv _ _ _ (upd H7 s2.heap.objs.size (.lst (zs ++ [yv]))) { s7 with heap := h₈, toks := s7.toks } := I7.write (x := s2.heap.objs.size) (e := s2.heap.objs.size) (by rw [hD]; exact trivial) (.inl rfl) (fun b u hb q => (sb8.2 b hb).trans q) ⟨_, eD8⟩
     ⟨by rw [List.length_append]; exact hz, its ++ [y], n7 + 1, rv7.append (.cons r7 .nil), by rw [eD8, List.push_toArray]⟩
    have I9 := back I8
    refine ⟨n + 1 - (i + 1), by omega, i + 1, zs ++ [yv], _, rfl, hlt, I9.unpinned (pins := []), ?_, fun b hb => ?_, w7⟩
    ·exact T.keep _ _ _ st5 fun b hb o q => (I8.pin (b, o) (List.mem_append_right _ (List.mem_append_right _ (fD hb q)))).1
    ·obtain ⟨o, q, d⟩ := T.obj _ _ st5 b hb
     exact (I8.pin (b, o) (List.mem_append_right _ (List.mem_append_right _ (fD hb q)))).2.1
 exact codeAny_compStart_list (loop _ ⟨_, rfl⟩) (T.self _ 0 _ _ _ (T.keep _ _ _ st2 fun b hb o q => old3 b o (old2 b o q)) (loop _ ⟨_, rfl⟩))
theorem aC9 {elt iter tg : Expr} {pos : Pos} {scope : Scope} {ifs : List Expr} {wi : TI} {g : TG} {tt : TT} {te : TE} {xs ys : List Str} {js : List Nat} {cl : List (Str × Addr)} (hc : X.calm = true) (hi : PI X tg iter wi)
  (hcl : aIp X scope cl) (hcap : oW X scope cl ys js) (hcell : ∀ y ∈ scope.names, y.2 ≠ .cell) (hkind : scope.kind = .function) (hnames : ∀ y ∈ scope.names, y.2 = .local -> scope.names.lookup y.1 = some .local)
  (hg : ∀ C s₀ H₀ ex pn, PG (bV X scope cl C (xs ++ ys) s₀ H₀ ex pn) tg g) (ht : ∀ C s₀ H₀ ex pn, PTs (bV X scope cl C (xs ++ ys) s₀ H₀ ex pn) ifs tt) (hb : ∀ C s₀ H₀ ex pn, PE (bV X scope cl C (xs ++ ys) s₀ H₀ ex pn) elt te)
  (hs : ∀ x, foldedSetIterable iter X.env x = pure x := by intro _; rfl) :
  PE X (.ListComp elt [⟨tg, iter, ifs, 0⟩] scope pos) (xD wi g tt te xs.length js) := by
 intro pins s σ H Q I h
 rw [eval_ListComp]
 exact sU hc hi hcl hcap hcell hkind hnames hg ht hb hs (use := none) (QQ := EP X pins σ Q) (Q := Q) I (fun C D s' H' IX f ⟨m, hn⟩ q => ⟨m, hn, fun h' hs' => ⟨.ref D, H', IX.but f hs', rfl, q⟩⟩) h
theorem aEa {elt iter tg : Expr} {pos py spos : Pos} {scope : Scope} {ifs : List Expr} {wi : TI} {g : TG} {tt : TT} {te : TE} {xs ys : List Str} {js : List Nat} {cl : List (Str × Addr)} {i : Nat} {y : Str} (hN : X.N.Nodup) (hiN : X.N[i]? = some y) (hx : Loc X.env.scope y) (hc : X.calm = true) (hi : PI X tg iter wi)
  (hcl : aIp X scope cl) (hcap : oW X scope cl ys js) (hcell : ∀ y ∈ scope.names, y.2 ≠ .cell) (hkind : scope.kind = .function) (hnames : ∀ y ∈ scope.names, y.2 = .local -> scope.names.lookup y.1 = some .local)
  (hg : ∀ C s₀ H₀ ex pn, PG (bV X scope cl C (xs ++ ys) s₀ H₀ ex pn) tg g) (ht : ∀ C s₀ H₀ ex pn, PTs (bV X scope cl C (xs ++ ys) s₀ H₀ ex pn) ifs tt) (hb : ∀ C s₀ H₀ ex pn, PE (bV X scope cl C (xs ++ ys) s₀ H₀ ex pn) elt te)
  (hsw : swapsWith (.ListComp elt [⟨tg, iter, ifs, 0⟩] scope pos) (some (.Name y py)) spos.line X.env = pure true) (hs : ∀ x, foldedSetIterable iter X.env x = pure x := by intro _; rfl)
  (hf : X.fn y = true \/ X.env.scope.names.lookup y = some .local := by first | exact .inl rfl | exact .inr rfl | assumption) :
  PS X (.Assign [.Name y py] (.ListComp elt [⟨tg, iter, ifs, 0⟩] scope pos) spos) (aPj (xD wi g tt te xs.length js) (aJy i)) := by
 intro pins s σ H D I h
 rw [exec_Assign_Name_used _ _ _ _ hsw]
 refine wpAny_bind (wpAny_standAt (wpAny_bind ?_))
 show wpAny _ X.A (do let _ <- comprehension (.ListComp elt [⟨tg, iter, ifs, 0⟩] scope pos) scope X.env _ (newList []) false (eval iter X.env) (some (assign (.Name y py) X.env))) _ _ s
 refine wpAny_bind (wpAny_mono (sU hc hi hcl hcap hcell hkind hnames hg ht hb hs (use := some (assign (.Name y py) X.env)) (QQ := fun _ s' => ∃ σ' H', Inv X pins σ' H' s' /\ D.nx σ' H') I (fun C L s' H' IX f ⟨m, hn⟩ q => ?_) h) (fun _ s' hq => wpAny_pure (wpAny_pure hq)) fun _ _ e => e)
 obtain ⟨o, es, ep, ho, hd, hr⟩ := id hn
 have IP := IX.pinned (fp := [C]) (fun b hb => by rw [List.mem_singleton.mp hb]; exact f) (fun b hb => by rw [List.mem_singleton.mp hb]; exact ⟨o, ho, fun v z => by rw [hd] at z; cases z⟩)
 refine wpAny_mono (aCk (pos := py) hN hiN hx hf _ s' σ H' (.ref L) (.ref L) _ IP rfl q) (fun _ s2 ⟨σ2, H2, I2, q2⟩ => ?_) fun _ _ e => e
 have pc := I2.pin (C, o) (List.mem_append_right _ (List.mem_append_right _ (fD (.head _) ho)))
 exact ⟨m, ⟨o, es, ep, pc.1, hd, hr⟩, fun h' hs' => ⟨σ2, H2, (I2.unpinned (pins := pins)).but ⟨pc.2.1, f.2⟩ hs', q2⟩⟩
end
end L2
namespace M
open PySem PySem.Spec PyProof.Rows L2
abbrev D := PyData
inductive Res (α : Type) where
 | ok (a : α)
 | exc (C : Addr)
 | bad
def Res.bind {α β : Type} (r : Res α) (f : α -> Res β) : Res β := match r with
 | .ok a => f a
 | .exc C => .exc C
 | .bad => .bad
def wpR {α : Type} (r : Res α) (Q : α -> Prop) (E : Addr -> Prop) : Prop := match r with
 | .ok a => Q a
 | .exc C => E C
 | .bad => False
theorem bS {α β : Type} {r : Res α} {f : α -> Res β} {Q : β -> Prop} {E : Addr -> Prop} : wpR (r.bind f) Q E = wpR r (fun a => wpR (f a) Q E) E := by cases r <;> rfl
theorem bA {α : Type} {r : Res α} {Q Q' : α -> Prop} {E E' : Addr -> Prop} (h : wpR r Q E) (hQ : ∀ a, Q a -> Q' a) (hE : ∀ C, E C -> E' C) : wpR r Q' E' := by
 cases r with
 | ok a => exact hQ a h
 | exc C => exact hE C h
 | bad => exact h
inductive L where
 | p (d : D)
 | o (d : D)
 | x (C : Addr)
 | h (a : Addr)
inductive Ev where
 | p (d : D)
 | f (d : D)
 | b (d : D)
 | x (C : Addr)
def Ev.c : Ev -> Ev
 | .f d => .p d
 | r => r
abbrev En := List (Option L)
def kD : Key -> D
 | .inl i => .int i
 | .inr x => .str x
def tkD (ks : List Key) : D := .tuple (ks.map kD)
mutual
inductive Rep (K : PySem.W.Frag) (G : Hp) : V -> D -> Prop
 | non : Rep K G .non .none
 | bl (b : Bool) : Rep K G (.bl b) (.bool b)
 | int (i : Int) : Rep K G (.int i) (.int i)
 | str (x : Str) : Rep K G (.str x) (.str x)
 | tup {a : Addr} {xs : List V} {ds : List D} : G a = some (.tup xs) -> Reps K G xs ds -> Rep K G (.ref a) (.tuple ds)
 | lst {a : Addr} {xs : List V} {ds : List D} : Rd G a (.lst xs) -> Reps K G xs ds -> Rep K G (.ref a) (.list ds)
 | dT {a : Addr} {kv : List (List Key × V)} {kvs : List (D × D)} : G a = some (.dT kv) -> RepT K G kv kvs -> Rep K G (.ref a) (.dict kvs)
 | dK {a : Addr} {kv : List (Key × V)} {kvs : List (D × D)} : G a = some (.dK kv) -> RepK K G kv kvs -> Rep K G (.ref a) (.dict ((.none, .none) :: kvs))
inductive Reps (K : PySem.W.Frag) (G : Hp) : List V -> List D -> Prop
 | nil : Reps K G [] []
 | cons {x : V} {xs : List V} {d : D} {ds : List D} : Rep K G x d -> Reps K G xs ds -> Reps K G (x :: xs) (d :: ds)
inductive RepT (K : PySem.W.Frag) (G : Hp) : List (List Key × V) -> List (D × D) -> Prop
 | nil : RepT K G [] []
 | cons {k : List Key} {x : V} {d : D} {kv : List (List Key × V)} {kvs : List (D × D)} : Rep K G x d -> RepT K G kv kvs -> RepT K G ((k, x) :: kv) ((tkD k, d) :: kvs)
inductive RepK (K : PySem.W.Frag) (G : Hp) : List (Key × V) -> List (D × D) -> Prop
 | nil : RepK K G [] []
 | cons {k : Key} {x : V} {d : D} {kv : List (Key × V)} {kvs : List (D × D)} : Rep K G x d -> RepK K G kv kvs -> RepK K G ((k, x) :: kv) ((kD k, d) :: kvs)
end
inductive Cont (K : PySem.W.Frag) (G : Hp) : HO -> D -> Prop
 | lst {xs : List V} {ds : List D} : Reps K G xs ds -> Cont K G (.lst xs) (.list ds)
 | dT {kv : List (List Key × V)} {kvs : List (D × D)} : RepT K G kv kvs -> Cont K G (.dT kv) (.dict kvs)
 | dK {kv : List (Key × V)} {kvs : List (D × D)} : RepK K G kv kvs -> Cont K G (.dK kv) (.dict ((.none, .none) :: kvs))
section
variable {K : PySem.W.Frag} {G G' H H' : Hp}
theorem gJ {a : Addr} {u : HO} (s : Same G G') (h : Rd G a u) : Rd G' a u := by
 rcases h with h | ⟨o, h⟩
 ·exact .inl (s _ _ h)
 ·exact .inr ⟨o, s _ _ h⟩
mutual
theorem Rep.mono (s : Same G G') : ∀ {v : V} {d : D}, Rep K G v d -> Rep K G' v d
 | _, _, .non => .non
 | _, _, .bl b => .bl b
 | _, _, .int i => .int i
 | _, _, .str x => .str x
 | _, _, .tup h r => .tup (s _ _ h) (Reps.mono s r)
 | _, _, .lst h r => .lst (gJ s h) (Reps.mono s r)
 | _, _, .dT h r => .dT (s _ _ h) (RepT.mono s r)
 | _, _, .dK h r => .dK (s _ _ h) (RepK.mono s r)
theorem Reps.mono (s : Same G G') : ∀ {v : List V} {d : List D}, Reps K G v d -> Reps K G' v d
 | _, _, .nil => .nil
 | _, _, .cons h r => .cons (Rep.mono s h) (Reps.mono s r)
theorem RepT.mono (s : Same G G') : ∀ {v : List (List Key × V)} {d : List (D × D)}, RepT K G v d -> RepT K G' v d
 | _, _, .nil => .nil
 | _, _, .cons h r => .cons (Rep.mono s h) (RepT.mono s r)
theorem RepK.mono (s : Same G G') : ∀ {v : List (Key × V)} {d : List (D × D)}, RepK K G v d -> RepK K G' v d
 | _, _, .nil => .nil
 | _, _, .cons h r => .cons (Rep.mono s h) (RepK.mono s r)
end
theorem Cont.mono (s : Same G G') {o : HO} {d : D} (h : Cont K G o d) : Cont K G' o d := by
 cases h with
 | lst r => exact .lst (r.mono s)
 | dT r => exact .dT (r.mono s)
 | dK r => exact .dK (r.mono s)
theorem Cont.rep {a : Addr} {o : HO} {d : D} (h : Cont K G o d) (e : G a = some o) : Rep K G (.ref a) d := by
 cases h with
 | lst r => exact .lst (.inl e) r
 | dT r => exact .dT e r
 | dK r => exact .dK e r
theorem Reps.length : ∀ {xs : List V} {ds : List D}, Reps K G xs ds -> xs.length = ds.length
 | _, _, .nil => rfl
 | _, _, .cons _ r => by rw [List.length_cons, List.length_cons, Reps.length r]
theorem Reps.get : ∀ {xs : List V} {ds : List D} {i : Nat} {x : V}, Reps K G xs ds -> xs[i]? = some x -> ∃ d, ds[i]? = some d /\ Rep K G x d
 | _, _, _, _, .nil, e => by simp at e
 | _, _, 0, _, .cons h _, e => by simp at e; subst e; exact ⟨_, rfl, h⟩
 | _, _, i + 1, _, .cons _ r, e => by
  have := Reps.get (i := i) r (by simpa using e)
  simpa using this
theorem Reps.get' : ∀ {xs : List V} {ds : List D} {i : Nat} {d : D}, Reps K G xs ds -> ds[i]? = some d -> ∃ x, xs[i]? = some x /\ Rep K G x d
 | _, _, _, _, .nil, e => by simp at e
 | _, _, 0, _, .cons h _, e => by simp at e; subst e; exact ⟨_, rfl, h⟩
 | _, _, i + 1, _, .cons _ r, e => by
  have := Reps.get' (i := i) r (by simpa using e)
  simpa using this
theorem Reps.append : ∀ {xs ys : List V} {ds es : List D}, Reps K G xs ds -> Reps K G ys es -> Reps K G (xs ++ ys) (ds ++ es)
 | _, _, _, _, .nil, r => r
 | _, _, _, _, .cons h t, r => .cons h (Reps.append t r)
theorem Reps.take : ∀ {xs : List V} {ds : List D} (n : Nat), Reps K G xs ds -> Reps K G (xs.take n) (ds.take n)
 | _, _, 0, _ => .nil
 | _, _, _ + 1, .nil => .nil
 | _, _, n + 1, .cons h t => .cons h (Reps.take n t)
theorem Reps.drop : ∀ {xs : List V} {ds : List D} (n : Nat), Reps K G xs ds -> Reps K G (xs.drop n) (ds.drop n)
 | _, _, 0, r => r
 | _, _, _ + 1, .nil => .nil
 | _, _, n + 1, .cons _ t => Reps.drop n t
end
structure Step (G H G' H' : Hp) : Prop where
 g : Same G G'
 h : Same H H'
 gh : Same G' H'
 new : ∀ b, H b ≠ none -> G b = none -> G' b = none \/ ∃ xs, H b = some (.tup xs)
theorem Step.off {G H G' H' : Hp} (s : Step G H G' H') {b : Addr} {o : HO} (h : H b = some o) (n : ∀ xs, o ≠ .tup xs) (g : G b = none) : G' b = none := by
 rcases s.new b (by rw [h]; exact fun z => nomatch z) g with z | ⟨xs, z⟩
 ·exact z
 ·rw [h] at z; exact absurd (Option.some.inj z) (n xs)
theorem aCi {H H' : Hp} (s : Same H H') {b : Addr} (h : H b ≠ none) : H' b ≠ none := by
 cases e : H b with
 | none => exact absurd e h
 | some o => rw [s b o e]; exact fun z => nomatch z
theorem Step.refl {G H : Hp} (s : Same G H) : Step G H G H := ⟨Same.refl _, Same.refl _, s, fun _ _ h => .inl h⟩
theorem Step.trans {G H G1 H1 G2 H2 : Hp} (a : Step G H G1 H1) (b : Step G1 H1 G2 H2) : Step G H G2 H2 :=
 ⟨a.g.trans b.g, a.h.trans b.h, b.gh, fun c hc hg => by
  rcases a.new c hc hg with z | z
  ·rcases b.new c (aCi a.h hc) z with y | ⟨xs, y⟩
   ·exact .inl y
   ·cases e : H c with
    | none => exact absurd e hc
    | some o =>
     rw [a.h _ _ e] at y
     exact .inr ⟨xs, y⟩
  ·exact .inr z⟩
theorem Step.put {G H : Hp} {a : Addr} {o : HO} (s : Same G H) (e : H a = none) : Step G H (upd G a o) (upd H a o) :=
 ⟨Same.upd (Same.refl _) (s.free e) o, Same.upd (Same.refl _) e o, fun b u q => by
  by_cases z : b = a
  ·subst z; rw [bQ] at q ⊢; exact q
  ·rw [bJ z] at q ⊢; exact s b u q, fun b hb hg => by
  have z : b ≠ a := fun z => hb (z ▸ e)
  rw [bJ z]; exact .inl hg⟩
theorem Step.lay {G H : Hp} {a : Addr} {o : HO} (s : Same G H) (e : H a = none) : Step G H G (upd H a o) :=
 ⟨Same.refl _, Same.upd (Same.refl _) e o, Same.upd s e o, fun _ _ h => .inl h⟩
def EOk (K : PySem.W.Frag) (W : Addr -> Option Nat) (Hs G H : Hp) (v : V) : Ev -> Prop
 | .p d => Rep K G v d
 | .f d => ∃ a o, v = .ref a /\ Hs a = none /\ G a = none /\ H a = some o /\ Cont K G o d
 | .b d => ∃ a i o, v = .ref a /\ W a = some i /\ H a = some o /\ Cont K G o d
 | .x C => ∃ e, v = .ref e /\ G e = some (aJ6 e (.ref C))
theorem EOk.step {K : PySem.W.Frag} {W : Addr -> Option Nat} {Hs Hs' G H G' H' : Hp} {v : V} {r : Ev} (h : EOk K W Hs G H v r.c) (s : Step G H G' H') : EOk K W Hs' G' H' v r.c := by
 cases r with
 | p d => exact Rep.mono s.g h
 | f d => exact Rep.mono s.g h
 | b d =>
  obtain ⟨a, i, o, h1, h2, h3, h4⟩ := h
  exact ⟨a, i, o, h1, h2, s.h _ _ h3, h4.mono s.g⟩
 | x C =>
  obtain ⟨e, h1, h2⟩ := h
  exact ⟨e, h1, s.g _ _ h2⟩
theorem EOk.c {K : PySem.W.Frag} {W : Addr -> Option Nat} {G H G1 H1 : Hp} {v : V} {r : Ev} (s : Step G H G1 H1) (h : EOk K W H G1 H1 v r) : ∃ G2, Step G H G2 H1 /\ EOk K W H G2 H1 v r.c := by
 cases r with
 | p d => exact ⟨G1, s, h⟩
 | b d => exact ⟨G1, s, h⟩
 | x d => exact ⟨G1, s, h⟩
 | f d =>
  obtain ⟨a, o, rfl, h1, h2, h3, h4⟩ := h
  refine ⟨upd G1 a o, ⟨s.g.trans (Same.upd (Same.refl _) h2 o), s.h, fun b u q => ?_, fun b hb hg => ?_⟩, (h4.mono (Same.upd (Same.refl _) h2 o)).rep bQ⟩
  ·by_cases z : b = a
   ·subst z; rw [bQ] at q; rw [h3]; exact q
   ·rw [bJ z] at q; exact s.gh b u q
  ·have z : b ≠ a := fun z => hb (z ▸ h1)
   rw [bJ z]; exact s.new b hb hg
structure SimH (B G0 G : Hp) (W : Addr -> Option Nat) (H : Hp) : Prop where
 gh : Same G H
 bh : Same B H
 g0 : Same G0 G
 gb : ∀ b, G b ≠ none -> G0 b ≠ none \/ B b = none \/ ∃ xs, B b = some (.tup xs)
 wf : ∀ a i, W a = some i -> G a = none /\ B a = none /\ ∃ o, H a = some o /\ ∀ xs, o ≠ .tup xs
theorem SimH.step {B G0 G H G' H' : Hp} {W : Addr -> Option Nat} (s : SimH B G0 G W H) (t : Step G H G' H') : SimH B G0 G' W H' := by
 refine ⟨t.gh, s.bh.trans t.h, s.g0.trans t.g, fun b hb => ?_, fun a i e => ?_⟩
 ·by_cases z : G b = none
  ·refine .inr ?_
   by_cases y : H b = none
   ·exact .inl (s.bh.free y)
   ·rcases t.new b y z with q | ⟨xs, q⟩
    ·exact absurd q hb
    ·cases e : B b with
     | none => exact .inl rfl
     | some o => rw [s.bh _ _ e] at q; exact .inr ⟨xs, q⟩
  ·exact s.gb b z
 ·obtain ⟨h1, h2, o, h3, h4⟩ := s.wf a i e
  exact ⟨t.off h3 h4 h1, h2, o, t.h _ _ h3, h4⟩
theorem Cont.mut {K : PySem.W.Frag} {G : Hp} {o : HO} {d : D} (h : Cont K G o d) : ∀ xs, o ≠ .tup xs := by
 intro xs z
 subst z
 cases h
def Slot (K : PySem.W.Frag) (W : Addr -> Option Nat) (G H : Hp) (i : Nat) (v : V) : L -> Prop
 | .p d => Rep K G v d
 | .o d => ∃ a o, v = .ref a /\ W a = some i /\ H a = some o /\ Cont K G o d
 | .x C => ∃ e, v = .ref e /\ G e = some (aJ6 e (.ref C))
 | .h a => v = .ref a
def SimS (K : PySem.W.Frag) (W : Addr -> Option Nat) (G H : Hp) (σ : L2.St) (en : En) : Prop := σ.length = en.length /\ ∀ i l, en[i]? = some (some l) -> ∃ v, σ[i]? = some (some v) /\ Slot K W G H i v l
theorem Slot.step {K : PySem.W.Frag} {W : Addr -> Option Nat} {G H G' H' : Hp} {i : Nat} {v : V} {l : L} (h : Slot K W G H i v l) (s : Step G H G' H') : Slot K W G' H' i v l := by
 cases l with
 | p d => exact Rep.mono s.g h
 | o d =>
  obtain ⟨a, o, h1, h2, h3, h4⟩ := h
  exact ⟨a, o, h1, h2, s.h _ _ h3, h4.mono s.g⟩
 | x C =>
  obtain ⟨e, h1, h2⟩ := h
  exact ⟨e, h1, s.g _ _ h2⟩
 | h a => exact h
theorem SimS.step {K : PySem.W.Frag} {W : Addr -> Option Nat} {G H G' H' : Hp} {σ : L2.St} {en : En} (h : SimS K W G H σ en) (s : Step G H G' H') : SimS K W G' H' σ en :=
 ⟨h.1, fun i l e => let ⟨v, e1, e2⟩ := h.2 i l e; ⟨v, e1, e2.step s⟩⟩
def PostE (K : PySem.W.Frag) (W : Addr -> Option Nat) (G H : Hp) (Q : VK) (r : Ev) : Prop := ∀ G' H' v, Step G H G' H' -> EOk K W H G' H' v r -> Q v H'
def PostB (G H : Hp) (Q : Bool -> Hp -> Prop) (b : Bool) : Prop := ∀ G' H', Step G H G' H' -> Q b H'
def aG7 (K : PySem.W.Frag) (W : Addr -> Option Nat) (Hs G H : Hp) : List V -> List Ev -> Prop
 | [], [] => True
 | v :: vs, r :: rs => EOk K W Hs G H v r /\ aG7 K W Hs G H vs rs
 | _, _ => False
def aEr (K : PySem.W.Frag) (W : Addr -> Option Nat) (G H : Hp) (Q : List V -> Hp -> Prop) (rs : List Ev) : Prop := ∀ G' H' vs, Step G H G' H' -> aG7 K W H G' H' vs rs -> Q vs H'
def PostX (E : XK) (G H : Hp) (C : Addr) : Prop := ∀ G' H', Step G H G' H' -> E (.ref C) none H'
theorem PostE.step {K : PySem.W.Frag} {W : Addr -> Option Nat} {G H G' H' : Hp} {Q : VK} {r : Ev} (h : PostE K W G H Q r) (s : Step G H G' H') : PostE K W G' H' Q r := fun G2 H2 v s2 e => h G2 H2 v (s.trans s2) (by
 cases r with
 | p d => exact e
 | b d => exact e
 | x d => exact e
 | f d =>
  obtain ⟨a, o, h1, h2, h3, h4, h5⟩ := e
  exact ⟨a, o, h1, s.h.free h2, h3, h4, h5⟩)
theorem PostX.step {E : XK} {G H G' H' : Hp} {C : Addr} (h : PostX E G H C) (s : Step G H G' H') : PostX E G' H' C := fun G2 H2 s2 => h G2 H2 (s.trans s2)
theorem PostB.step {G H G' H' : Hp} {Q : Bool -> Hp -> Prop} {b : Bool} (h : PostB G H Q b) (s : Step G H G' H') : PostB G' H' Q b := fun G2 H2 s2 => h G2 H2 (s.trans s2)
def tE (K : PySem.W.Frag) (E : L2.St -> XK) (f : En -> Res Ev) : TE := fun σ H Q => ∃ B G0 G W en, SimH B G0 G W H /\ SimS K W G H σ en /\ wpR (f en) (PostE K W G H Q) (PostX (E σ) G H)
def DE (X : Cx) (E : L2.St -> XK) (e : Expr) (f : En -> Res Ev) : Prop := PE X e (tE X.K E f)
theorem DE.out {X : Cx} {E : L2.St -> XK} {e : Expr} {f : En -> Res Ev} (h : DE X E e f) : ∃ t, PE X e t /\ ∀ B G0 G W H σ en Q, SimH B G0 G W H -> SimS X.K W G H σ en -> wpR (f en) (PostE X.K W G H Q) (PostX (E σ) G H) -> t σ H Q :=
 ⟨_, h, fun B G0 G W H σ en Q h1 h2 h3 => ⟨B, G0, G, W, en, h1, h2, h3⟩⟩
theorem DE.in {X : Cx} {E : L2.St -> XK} {e : Expr} {f : En -> Res Ev} (h : ∃ t, PE X e t /\ ∀ B G0 G W H σ en Q, SimH B G0 G W H -> SimS X.K W G H σ en -> wpR (f en) (PostE X.K W G H Q) (PostX (E σ) G H) -> t σ H Q) : DE X E e f :=
 fun pins s σ H Q I ⟨B, G0, G, W, en, h1, h2, h3⟩ => let ⟨_, p, m⟩ := h; p pins s σ H Q I (m B G0 G W H σ en Q h1 h2 h3)
def tT (K : PySem.W.Frag) (E : L2.St -> XK) (f : En -> Res Bool) : TT := fun σ H Q => ∃ B G0 G W en, SimH B G0 G W H /\ SimS K W G H σ en /\ wpR (f en) (PostB G H Q) (PostX (E σ) G H)
def tA (K : PySem.W.Frag) (E : L2.St -> XK) (f : En -> Res (List Ev)) : TA := fun σ H Q => ∃ B G0 G W en, SimH B G0 G W H /\ SimS K W G H σ en /\ wpR (f en) (aEr K W G H Q) (PostX (E σ) G H)
def DT (X : Cx) (E : L2.St -> XK) (e : Expr) (f : En -> Res Bool) : Prop := PT X e (tT X.K E f)
def DW (X : Cx) (E : L2.St -> XK) (e : Expr) (f : En -> Res Bool) : Prop := PW X e (tT X.K E f)
def DA (X : Cx) (E : L2.St -> XK) (es : List Expr) (f : En -> Res (List Ev)) : Prop := PA X es (tA X.K E f)
section
variable {X : Cx} {E : L2.St -> XK} {e : Expr} {es : List Expr} {f : En -> Res Bool} {fr : En -> Res (List Ev)}
theorem DT.out (h : DT X E e f) : ∃ t, PT X e t /\ ∀ B G0 G W H σ en Q, SimH B G0 G W H -> SimS X.K W G H σ en -> wpR (f en) (PostB G H Q) (PostX (E σ) G H) -> t σ H Q :=
 ⟨_, h, fun B G0 G W H σ en Q h1 h2 h3 => ⟨B, G0, G, W, en, h1, h2, h3⟩⟩
theorem DT.in (h : ∃ t, PT X e t /\ ∀ B G0 G W H σ en Q, SimH B G0 G W H -> SimS X.K W G H σ en -> wpR (f en) (PostB G H Q) (PostX (E σ) G H) -> t σ H Q) : DT X E e f :=
 fun pins s σ H Q I ⟨B, G0, G, W, en, h1, h2, h3⟩ => let ⟨_, p, m⟩ := h; p pins s σ H Q I (m B G0 G W H σ en Q h1 h2 h3)
theorem DW.out (h : DW X E e f) : ∃ t, PW X e t /\ ∀ B G0 G W H σ en Q, SimH B G0 G W H -> SimS X.K W G H σ en -> wpR (f en) (PostB G H Q) (PostX (E σ) G H) -> t σ H Q :=
 ⟨_, h, fun B G0 G W H σ en Q h1 h2 h3 => ⟨B, G0, G, W, en, h1, h2, h3⟩⟩
theorem DW.in (h : ∃ t, PW X e t /\ ∀ B G0 G W H σ en Q, SimH B G0 G W H -> SimS X.K W G H σ en -> wpR (f en) (PostB G H Q) (PostX (E σ) G H) -> t σ H Q) : DW X E e f :=
 fun wh pins s σ H Q I ⟨B, G0, G, W, en, h1, h2, h3⟩ => let ⟨_, p, m⟩ := h; p wh pins s σ H Q I (m B G0 G W H σ en Q h1 h2 h3)
theorem DA.out (h : DA X E es fr) : ∃ t, PA X es t /\ ∀ B G0 G W H σ en Q, SimH B G0 G W H -> SimS X.K W G H σ en -> wpR (fr en) (aEr X.K W G H Q) (PostX (E σ) G H) -> t σ H Q :=
 ⟨_, h, fun B G0 G W H σ en Q h1 h2 h3 => ⟨B, G0, G, W, en, h1, h2, h3⟩⟩
theorem DA.in (h : ∃ t, PA X es t /\ ∀ B G0 G W H σ en Q, SimH B G0 G W H -> SimS X.K W G H σ en -> wpR (fr en) (aEr X.K W G H Q) (PostX (E σ) G H) -> t σ H Q) : DA X E es fr :=
 fun pos pins s σ H Q I ⟨B, G0, G, W, en, h1, h2, h3⟩ => let ⟨_, p, m⟩ := h; p pos pins s σ H Q I (m B G0 G W H σ en Q h1 h2 h3)
end
theorem DW.t {X : Cx} {E : L2.St -> XK} {e : Expr} {f : En -> Res Bool} (h : DW X E e f) : DT X E e f := h _
section
variable {X : Cx} {E : L2.St -> XK} {a b c e : Expr} {es : List Expr} {fa fb : En -> Res Ev} {fr : En -> Res (List Ev)} {pos : Pos}
theorem DE.go {K : PySem.W.Frag} {W : Addr -> Option Nat} {G H : Hp} {EE : XK} {Q : VK} {r : Res Ev} {k : Ev -> Res Ev} {Q' : VK} (hw : wpR (r.bind k) (PostE K W G H Q) (PostX EE G H))
  (h : ∀ (x : Ev) G1 H1 v, Step G H G1 H1 -> EOk K W H G1 H1 v x.c -> wpR (k x) (PostE K W G1 H1 Q) (PostX EE G1 H1) -> Q' v H1) : wpR r (PostE K W G H Q') (PostX EE G H) := by
 rw [bS] at hw
 refine bA hw (fun x hx G1 H1 v s e => ?_) fun C h => h
 obtain ⟨G2, s2, e2⟩ := e.c s
 exact h x G2 H1 v s2 e2 (bA hx (fun r h => h.step s2) fun C h => h.step s2)
theorem DE.goB {K : PySem.W.Frag} {W : Addr -> Option Nat} {G H : Hp} {EE : XK} {Q : Bool -> Hp -> Prop} {r : Res Ev} {k : Ev -> Res Bool} {Q' : VK} (hw : wpR (r.bind k) (PostB G H Q) (PostX EE G H))
  (h : ∀ (x : Ev) G1 H1 v, Step G H G1 H1 -> EOk K W H G1 H1 v x.c -> wpR (k x) (PostB G1 H1 Q) (PostX EE G1 H1) -> Q' v H1) : wpR r (PostE K W G H Q') (PostX EE G H) := by
 rw [bS] at hw
 refine bA hw (fun x hx G1 H1 v s e => ?_) fun C h => h
 obtain ⟨G2, s2, e2⟩ := e.c s
 exact h x G2 H1 v s2 e2 (bA hx (fun r h => h.step s2) fun C h => h.step s2)
def OpM (K : PySem.W.Frag) (r : R2) (op : Ev -> Ev -> Res Ev) : Prop := ∀ (W : Addr -> Option Nat) (G H : Hp) (v u : V) (x y : Ev) (Q : VK), Same G H -> EOk K W H G H v x.c -> EOk K W H G H u y.c -> wpR (op x.c y.c) (PostE K W G H Q) (fun _ => False) -> r v u H Q
def aF (op : Ev -> Ev -> Res Ev) (fa fb : En -> Res Ev) : En -> Res Ev := fun en => (fa en).bind fun x => (fb en).bind fun y => op x.c y.c
def NoX (op : Ev -> Ev -> Res Ev) : Prop := ∀ x y C, op x y ≠ .exc C
theorem noX {α : Type} {r : Res α} {Q : α -> Prop} {E E' : Addr -> Prop} (h : wpR r Q E) (n : ∀ C, r ≠ .exc C) : wpR r Q E' := by
 cases r with
 | ok a => exact h
 | exc C => exact absurd rfl (n C)
 | bad => exact h
theorem pU {ta tb : TE} {r : R2} {op : Ev -> Ev -> Res Ev} (ma : ∀ B G0 G W H σ en Q, SimH B G0 G W H -> SimS X.K W G H σ en -> wpR (fa en) (PostE X.K W G H Q) (PostX (E σ) G H) -> ta σ H Q)
  (mb : ∀ B G0 G W H σ en Q, SimH B G0 G W H -> SimS X.K W G H σ en -> wpR (fb en) (PostE X.K W G H Q) (PostX (E σ) G H) -> tb σ H Q) (hm : OpM X.K r op) (hn : NoX op) :
  ∀ B G0 G W H σ en Q, SimH B G0 G W H -> SimS X.K W G H σ en -> wpR (aF op fa fb en) (PostE X.K W G H Q) (PostX (E σ) G H) -> tOp r ta tb σ H Q := by
 intro B G0 G W H σ en Q hh hs hw
 refine ma B G0 G W H σ en _ hh hs (DE.go hw fun x G1 H1 v s1 e1 h1 => ?_)
 refine mb B G0 G1 W H1 σ en _ (hh.step s1) (hs.step s1) (DE.go h1 fun y G2 H2 u s2 e2 h2 => ?_)
 exact hm W G2 H2 v u x y Q s2.gh (e1.step s2) (by cases y <;> exact e2) (noX h2 (hn _ _))
theorem aH {op : Operator} {r : R2} {f : Ev -> Ev -> Res Ev} (ho : OpR X (binaryOp op) r) (hm : OpM X.K r f) (hn : NoX f) (ha : DE X E a fa) (hb : DE X E b fb) : DE X E (.BinOp a op b pos) (aF f fa fb) := by
 obtain ⟨ta, pa, ma⟩ := ha.out
 obtain ⟨tb, pb, mb⟩ := hb.out
 refine DE.in ?_
 exact ⟨_, aN9 ho pa pb, pU ma mb hm hn⟩
theorem vI {op : CmpOp} {r : R2} {f : Ev -> Ev -> Res Ev} (ho : OpR X (compareOp op) r) (hm : OpM X.K r f) (hn : NoX f) (ha : DE X E a fa) (hb : DE X E b fb) (hk : behindInMarks op b = false) : DE X E (.Compare a [op] [b] pos) (aF f fa fb) := by
 obtain ⟨ta, pa, ma⟩ := ha.out
 obtain ⟨tb, pb, mb⟩ := hb.out
 refine DE.in ?_
 exact ⟨_, aHg ho pa pb hk, pU ma mb hm hn⟩
def eL (r : Ev) : Res Bool := match r with
 | .p (.bool b) => .ok b
 | _ => .bad
def bZ (f : En -> Res Ev) : En -> Res Bool := fun en => (f en).bind eL
theorem kX {t : TE} (m : ∀ B G0 G W H σ en Q, SimH B G0 G W H -> SimS X.K W G H σ en -> wpR (fa en) (PostE X.K W G H Q) (PostX (E σ) G H) -> t σ H Q) :
  ∀ B G0 G W H σ en Q, SimH B G0 G W H -> SimS X.K W G H σ en -> wpR (bZ fa en) (PostB G H Q) (PostX (E σ) G H) -> t σ H fun x H1 => ∃ k, x = .bl k /\ Q k H1 := by
 intro B G0 G W H σ en Q hh hs hw
 refine m B G0 G W H σ en _ hh hs (DE.goB hw fun x G1 H1 v s1 e1 h1 => ?_)
 cases x with
 | p d =>
  cases d with
  | bool k => cases e1; exact ⟨k, rfl, h1 G1 H1 (Step.refl s1.gh)⟩
  | _ => exact False.elim h1
 | _ => exact False.elim h1
theorem dH {op : CmpOp} {r : R2} {f : Ev -> Ev -> Res Ev} (ho : OpR X (compareOp op) r) (hm : OpM X.K r f) (hn : NoX f) (ha : DE X E a fa) (hb : DE X E b fb) (hk : behindInMarks op b = false) : DT X E (.Compare a [op] [b] pos) (bZ (aF f fa fb)) := by
 obtain ⟨ta, pa, ma⟩ := ha.out
 obtain ⟨tb, pb, mb⟩ := hb.out
 refine DT.in ?_
 exact ⟨_, aIu ho pa pb hk, kX (pU ma mb hm hn)⟩
theorem pC (h : DE X E e fa) (he : ∀ whole, isTrue e X.env whole = (do let v <- whole; standAt e.pos; holding [v] (truthy v)) := by intro _; rfl) : DT X E e (bZ fa) := by
 obtain ⟨t, p, m⟩ := h.out
 refine DT.in ?_
 exact ⟨_, aL7 p he, kX m⟩
def aE (i : Nat) : En -> Res Ev := fun en => match en[i]? with
 | some (some (.p d)) => .ok (.p d)
 | some (some (.o d)) => .ok (.b d)
 | some (some (.x C)) => .ok (.x C)
 | _ => .bad
theorem aKa {i : Nat} {x : Str} (hN : X.N[i]? = some x) (hv : Vis X.env.scope x) (hd : (x == ("__debug__" : Str)) = false := by decide) (hcd : (x == ("__classdict__" : Str)) = false := by decide) : DE X E (.Name x pos) (aE i) := by
 refine DE.in ?_
 refine ⟨_, aGq hN hv hd hcd, fun B G0 G W H σ en Q hh hs hw => ?_⟩
 unfold aE at hw
 split at hw
 ·rename_i d e
  obtain ⟨v, e1, e2⟩ := hs.2 i _ e
  exact ⟨v, e1, hw G H v (Step.refl hh.gh) e2⟩
 ·rename_i d e
  obtain ⟨v, e1, a, o, e2, e3, e4, e5⟩ := hs.2 i _ e
  exact ⟨v, e1, hw G H v (Step.refl hh.gh) ⟨a, i, o, e2, e3, e4, e5⟩⟩
 ·rename_i C e
  obtain ⟨v, e1, e2⟩ := hs.2 i _ e
  exact ⟨v, e1, hw G H v (Step.refl hh.gh) e2⟩
 ·exact hw.elim
def mC (d : D) : En -> Res Ev := fun _ => .ok (.p d)
theorem lB {v : V} {d : D} (h : ∀ G, Rep X.K G v d) : ∀ B G0 G W H σ en Q, SimH B G0 G W H -> SimS X.K W G H σ en -> wpR (mC d en) (PostE X.K W G H Q) (PostX (E σ) G H) -> tC v σ H Q :=
 fun B G0 G W H σ en Q hh hs hw => hw G H v (Step.refl hh.gh) (h G)
theorem aA {i j} : DE X E (.Constant (.int i) j pos) (mC (.int i)) := DE.in ⟨_, aLv, lB fun _ => .int i⟩
theorem aDl {b j} : DE X E (.Constant (.bool b) j pos) (mC (.bool b)) := DE.in ⟨_, aOu, lB fun _ => .bl b⟩
theorem aGg {j} : DE X E (.Constant .none j pos) (mC .none) := DE.in ⟨_, aLy, lB fun _ => .non⟩
variable {ga gb : En -> Res Bool} {rest : List Expr}
def oP (f g : En -> Res Bool) : En -> Res Bool := fun en => (f en).bind fun c => if c = true then g en else .ok false
def mOr (f g : En -> Res Bool) : En -> Res Bool := fun en => (f en).bind fun c => if c = true then .ok true else g en
def oO (f : En -> Res Bool) : En -> Res Bool := fun en => (f en).bind fun c => .ok (!c)
theorem p9 (ha : DT X E a ga) : DW X E (.BoolOp .And [a] pos) ga := let ⟨t, p, m⟩ := ha.out; DW.in ⟨t, aIe p, m⟩
theorem sO (ha : DT X E a ga) : DW X E (.BoolOp .Or [a] pos) ga := let ⟨t, p, m⟩ := ha.out; DW.in ⟨t, aL8 p, m⟩
theorem wD (ha : DT X E a ga) (hb : DW X E (.BoolOp .And (b :: rest) pos) gb) : DW X E (.BoolOp .And (a :: b :: rest) pos) (oP ga gb) := by
 obtain ⟨ta, pa, ma⟩ := ha.out
 obtain ⟨tb, pb, mb⟩ := hb.out
 refine DW.in ?_
 refine ⟨_, aLt pa pb, fun B G0 G W H σ en Q hh hs hw => ma B G0 G W H σ en _ hh hs ?_⟩
 have hw : wpR ((ga en).bind _) _ _ := hw
 rw [bS] at hw
 refine bA hw (fun c hc G1 H1 s => ?_) fun C h => h
 cases c with
 | true => exact mb B G0 G1 W H1 σ en Q (hh.step s) (hs.step s) (bA hc (fun _ h => h.step s) fun _ h => h.step s)
 | false => exact hc G1 H1 s
theorem yV (ha : DT X E a ga) (hb : DW X E (.BoolOp .Or (b :: rest) pos) gb) : DW X E (.BoolOp .Or (a :: b :: rest) pos) (mOr ga gb) := by
 obtain ⟨ta, pa, ma⟩ := ha.out
 obtain ⟨tb, pb, mb⟩ := hb.out
 refine DW.in ?_
 refine ⟨_, aNk pa pb, fun B G0 G W H σ en Q hh hs hw => ma B G0 G W H σ en _ hh hs ?_⟩
 have hw : wpR ((ga en).bind _) _ _ := hw
 rw [bS] at hw
 refine bA hw (fun c hc G1 H1 s => ?_) fun C h => h
 cases c with
 | false => exact mb B G0 G1 W H1 σ en Q (hh.step s) (hs.step s) (bA hc (fun _ h => h.step s) fun _ h => h.step s)
 | true => exact hc G1 H1 s
theorem rP (ha : DT X E a ga) : DT X E (.UnaryOp .Not a pos) (oO ga) := by
 obtain ⟨ta, pa, ma⟩ := ha.out
 refine DT.in ?_
 refine ⟨_, aKz pa, fun B G0 G W H σ en Q hh hs hw => ma B G0 G W H σ en _ hh hs ?_⟩
 have hw : wpR ((ga en).bind _) _ _ := hw
 rw [bS] at hw
 exact bA hw (fun c hc => hc) fun C h => h
def pZ (f g : En -> Res Ev) : En -> Res Ev := fun en => (f en).bind fun c => match c with
 | .p (.bool true) => g en
 | .p (.bool false) => .ok (.p (.bool false))
 | _ => .bad
def aJe (f g : En -> Res Ev) : En -> Res Ev := fun en => (f en).bind fun c => match c with
 | .p (.bool false) => g en
 | .p (.bool true) => .ok (.p (.bool true))
 | _ => .bad
def qM (f : En -> Res Ev) : En -> Res Ev := fun en => (f en).bind fun c => match c with
 | .p (.bool k) => .ok (.p (.bool (!k)))
 | _ => .bad
theorem aLh {op} (h : DE X E a fa) : DE X E (.BoolOp op [a] pos) fa := let ⟨t, p, m⟩ := h.out; DE.in ⟨t, aK6 p, m⟩
theorem aMp (ha : DE X E a fa) (hb : DE X E (.BoolOp .And (b :: rest) pos) fb) : DE X E (.BoolOp .And (a :: b :: rest) pos) (pZ fa fb) := by
 obtain ⟨ta, pa, ma⟩ := ha.out
 obtain ⟨tb, pb, mb⟩ := hb.out
 refine DE.in ?_
 refine ⟨_, aMw pa pb, fun B G0 G W H σ en Q hh hs hw => ma B G0 G W H σ en _ hh hs (DE.go hw fun x G1 H1 v s1 e1 h1 => ?_)⟩
 cases x with
 | p d =>
  cases d with
  | bool k =>
   cases e1
   cases k with
   | true => exact ⟨true, rfl, mb B G0 G1 W H1 σ en Q (hh.step s1) (hs.step s1) h1⟩
   | false => exact ⟨false, rfl, h1 G1 H1 _ (Step.refl s1.gh) (.bl false)⟩
  | _ => exact False.elim h1
 | _ => exact False.elim h1
theorem aLc (ha : DE X E a fa) : DE X E (.UnaryOp .Not a pos) (qM fa) := by
 obtain ⟨ta, pa, ma⟩ := ha.out
 refine DE.in ?_
 refine ⟨_, aK4 pa, fun B G0 G W H σ en Q hh hs hw => ma B G0 G W H σ en _ hh hs (DE.go hw fun x G1 H1 v s1 e1 h1 => ?_)⟩
 cases x with
 | p d =>
  cases d with
  | bool k =>
   cases e1
   exact ⟨k, rfl, h1 G1 H1 _ (Step.refl s1.gh) (.bl _)⟩
  | _ => exact False.elim h1
 | _ => exact False.elim h1
def aW : En -> Res (List Ev) := fun _ => .ok []
def aD (f : En -> Res Ev) (g : En -> Res (List Ev)) : En -> Res (List Ev) := fun en => (f en).bind fun x => (g en).bind fun xs => .ok (x.c :: xs)
theorem aJ : DA X E [] aW := DA.in ⟨_, oZ, fun B G0 G W H σ en Q hh hs hw => hw G H [] (Step.refl hh.gh) trivial⟩
theorem EOk.cc {K : PySem.W.Frag} {W : Addr -> Option Nat} {Hs Hs' G H : Hp} {v : V} {r : Ev} (h : EOk K W Hs G H v r.c) : EOk K W Hs' G H v r.c := by
 cases r <;> exact h
theorem aC (ha : DE X E e fa) (hr : DA X E es fr) (hst : starEach (e :: es) X.env = (false, eval e X.env) :: starEach es X.env := by rfl) : DA X E (e :: es) (aD fa fr) := by
 obtain ⟨ta, pa, ma⟩ := ha.out
 obtain ⟨tr, pr, mr⟩ := hr.out
 refine DA.in ?_
 refine ⟨_, jO pa pr hst, fun B G0 G W H σ en Q hh hs hw => ma B G0 G W H σ en _ hh hs ?_⟩
 have hw : wpR ((fa en).bind _) _ _ := hw
 rw [bS] at hw
 refine bA hw (fun x hx G1 H1 v s e1 => ?_) fun C h => h
 obtain ⟨G2, s2, e2⟩ := e1.c s
 refine mr B G0 G2 W H1 σ en _ (hh.step s2) (hs.step s2) ?_
 rw [bS] at hx
 refine bA hx (fun xs hxs G3 H3 vs s3 e3 => ?_) fun C h => h.step s2
 refine hxs G3 H3 (v :: vs) (s2.trans s3) ⟨e2.step s3, ?_⟩
 clear hxs hx hw
 induction xs generalizing vs with
 | nil => cases vs <;> exact e3
 | cons y ys ih =>
  cases vs with
  | nil => exact e3
  | cons u us =>
   refine ⟨?_, ih us e3.2⟩
   have z := e3.1
   cases y with
   | p d => exact z
   | b d => exact z
   | x d => exact z
   | f d =>
    obtain ⟨a, o, h1, h2, h3⟩ := z
    exact ⟨a, o, h1, s2.h.free h2, h3⟩
end
inductive Out where
 | nx (en : En)
 | rt (l : L)
 | bk (en : En)
 | ct (en : En)
 | ex (C : Addr) (en : En)
abbrev MS := En -> Option Out
def aJb (K : PySem.W.Frag) (B G H : Hp) (v : V) : L -> Prop
 | .p d => Rep K G v d
 | .o d => ∃ a o, v = .ref a /\ G a = none /\ B a = none /\ H a = some o /\ Cont K G o d
 | .x C => ∃ e, v = .ref e /\ G e = some (aJ6 e (.ref C))
 | .h _ => False
def PostS (K : PySem.W.Frag) (B G0 : Hp) (E : L2.St -> XK) (Dn : Ends) : Out -> Prop
 | .nx en => ∀ G W H σ, SimH B G0 G W H -> SimS K W G H σ en -> Dn.nx σ H
 | .bk en => ∀ G W H σ, SimH B G0 G W H -> SimS K W G H σ en -> Dn.bk σ H
 | .ct en => ∀ G W H σ, SimH B G0 G W H -> SimS K W G H σ en -> Dn.ct σ H
 | .rt l => ∀ G W H v, SimH B G0 G W H -> aJb K B G H v l -> Dn.rt v H
 | .ex C en => ∀ G W H σ, SimH B G0 G W H -> SimS K W G H σ en -> E σ (.ref C) none H
def wpO (o : Option Out) (P : Out -> Prop) : Prop := match o with
 | some r => P r
 | none => False
def tS (K : PySem.W.Frag) (E : L2.St -> XK) (f : MS) : TS := fun Dn σ H => ∃ B G0 G W en, SimH B G0 G W H /\ SimS K W G H σ en /\ wpO (f en) (PostS K B G0 E Dn)
def DS (X : Cx) (E : L2.St -> XK) (st : Stmt) (f : MS) : Prop := PS X st (tS X.K E f)
def DSs (X : Cx) (E : L2.St -> XK) (st : List Stmt) (f : MS) : Prop := PSs X st (tS X.K E f)
section
variable {X : Cx} {E : L2.St -> XK} {st : Stmt} {sts : List Stmt} {f g : MS} {fe : En -> Res Ev} {fc : En -> Res Bool} {e c : Expr} {pos : Pos}
theorem DS.in (h : ∃ t, PS X st t /\ ∀ B G0 G W H σ en Dn, SimH B G0 G W H -> SimS X.K W G H σ en -> wpO (f en) (PostS X.K B G0 E Dn) -> t Dn σ H) : DS X E st f :=
 fun pins s σ H Dn I ⟨B, G0, G, W, en, h1, h2, h3⟩ => let ⟨_, p, m⟩ := h; p pins s σ H Dn I (m B G0 G W H σ en Dn h1 h2 h3)
theorem DSs.in (h : ∃ t, PSs X sts t /\ ∀ B G0 G W H σ en Dn, SimH B G0 G W H -> SimS X.K W G H σ en -> wpO (f en) (PostS X.K B G0 E Dn) -> t Dn σ H) : DSs X E sts f :=
 fun pins s σ H Dn I ⟨B, G0, G, W, en, h1, h2, h3⟩ => let ⟨_, p, m⟩ := h; p pins s σ H Dn I (m B G0 G W H σ en Dn h1 h2 h3)
theorem DS.out (h : DS X E st f) : ∃ t, PS X st t /\ ∀ B G0 G W H σ en Dn, SimH B G0 G W H -> SimS X.K W G H σ en -> wpO (f en) (PostS X.K B G0 E Dn) -> t Dn σ H :=
 ⟨_, h, fun B G0 G W H σ en Dn h1 h2 h3 => ⟨B, G0, G, W, en, h1, h2, h3⟩⟩
theorem DSs.out (h : DSs X E sts f) : ∃ t, PSs X sts t /\ ∀ B G0 G W H σ en Dn, SimH B G0 G W H -> SimS X.K W G H σ en -> wpO (f en) (PostS X.K B G0 E Dn) -> t Dn σ H :=
 ⟨_, h, fun B G0 G W H σ en Dn h1 h2 h3 => ⟨B, G0, G, W, en, h1, h2, h3⟩⟩
def dR : MS := fun en => some (.nx en)
def bP (f g : MS) : MS := fun en => match f en with
 | some (.nx e) => g e
 | r => r
theorem cD : DSs X E [] dR := DSs.in ⟨_, aIr, fun B G0 G W H σ en Dn hh hs hw => hw G W H σ hh hs⟩
theorem aO (h : DS X E st f) : DSs X E [st] f := let ⟨t, p, m⟩ := h.out; DSs.in ⟨t, aJm p, m⟩
theorem aG (h1 : DS X E st f) (h2 : DSs X E sts g) : DSs X E (st :: sts) (bP f g) := by
 obtain ⟨t, p, m⟩ := h1.out
 obtain ⟨u, q, n⟩ := h2.out
 refine DSs.in ⟨_, aD4 p q, fun B G0 G W H σ en Dn hh hs hw => m B G0 G W H σ en _ hh hs ?_⟩
 unfold bP at hw
 cases ef : f en with
 | none => rw [ef] at hw; exact hw
 | some r =>
  rw [ef] at hw
  cases r with
  | nx e => exact fun G1 W1 H1 σ1 hh1 hs1 => n B G0 G1 W1 H1 σ1 e Dn hh1 hs1 hw
  | rt l => exact hw
  | bk e => exact hw
  | ct e => exact hw
  | ex C e => exact hw
def aGe : MS := fun en => some (.bk en)
theorem aC3 : DS X E (.Break pos) aGe := DS.in ⟨_, aE1, fun B G0 G W H σ en Dn hh hs hw => hw G W H σ hh hs⟩
theorem SimS.set {K : PySem.W.Frag} {W : Addr -> Option Nat} {G H : Hp} {σ : L2.St} {en : En} {i : Nat} {v : V} {l : L} (h : SimS K W G H σ en) (hl : Slot K W G H i v l) : SimS K W G H (σ.set i (some v)) (en.set i (some l)) := by
 refine ⟨by rw [List.length_set, List.length_set]; exact h.1, fun j m e => ?_⟩
 rw [List.getElem?_set] at e
 rw [List.getElem?_set]
 by_cases hj : i = j
 ·subst hj
  rw [if_pos rfl] at e
  split at e
  ·rename_i hlt
   cases e
   rw [if_pos rfl, if_pos (by rw [h.1]; exact hlt)]
   exact ⟨v, rfl, hl⟩
  ·cases e
 ·rw [if_neg hj] at e ⊢
  exact h.2 j m e
def owner (W : Addr -> Option Nat) (a : Addr) (i : Nat) : Addr -> Option Nat := fun b => if b = a then some i else W b
theorem aEq {K : PySem.W.Frag} {B G0 G H : Hp} {W : Addr -> Option Nat} {σ : L2.St} {en : En} {i : Nat} {a : Addr} {o : HO} {d : D} (hh : SimH B G0 G W H) (hs : SimS K W G H σ en) (hW : W a = none) (hG : G a = none) (hB : B a = none) (hH : H a = some o) (hc : Cont K G o d) :
  SimH B G0 G (owner W a i) H /\ SimS K (owner W a i) G H (σ.set i (some (.ref a))) (en.set i (some (.o d))) := by
 refine ⟨⟨hh.gh, hh.bh, hh.g0, hh.gb, fun b j e => ?_⟩, SimS.set ⟨hs.1, fun j l e => ?_⟩ ⟨a, o, rfl, if_pos rfl, hH, hc⟩⟩
 ·unfold owner at e
  split at e
  ·rename_i z
   subst z
   exact ⟨hG, hB, o, hH, hc.mut⟩
  ·exact hh.wf b j e
 ·obtain ⟨v, e1, e2⟩ := hs.2 j l e
  refine ⟨v, e1, ?_⟩
  cases l with
  | p d => exact e2
  | x C => exact e2
  | h a => exact e2
  | o d =>
   obtain ⟨b, ob, h1, h2, h3, h4⟩ := e2
   refine ⟨b, ob, h1, ?_, h3, h4⟩
   unfold owner
   rw [if_neg (fun z => by rw [z, hW] at h2; cases h2)]
   exact h2
def cP (i : Nat) (fe : En -> Res Ev) : MS := fun en => match fe en with
 | .ok (.p d) => some (.nx (en.set i (some (.p d))))
 | .ok (.f d) => some (.nx (en.set i (some (.o d))))
 | .ok (.x C) => some (.nx (en.set i (some (.x C))))
 | .ok (.b _) => none
 | .exc C => some (.ex C en)
 | .bad => none
theorem SimH.lone {B G0 G H : Hp} {W : Addr -> Option Nat} (hh : SimH B G0 G W H) {a : Addr} (h : H a = none) : W a = none := by
 cases e : W a with
 | none => rfl
 | some i =>
  obtain ⟨_, _, o, q, _⟩ := hh.wf a i e
  rw [h] at q; cases q
theorem wW {te : TE} {i : Nat} (m : ∀ B G0 G W H σ en Q, SimH B G0 G W H -> SimS X.K W G H σ en -> wpR (fe en) (PostE X.K W G H Q) (PostX (E σ) G H) -> te σ H Q) :
  ∀ B G0 G W H σ en Dn, SimH B G0 G W H -> SimS X.K W G H σ en -> wpO (cP i fe en) (PostS X.K B G0 E Dn) -> te σ H fun x H1 => Dn.nx (σ.set i (some x)) H1 := by
 intro B G0 G W H σ en Dn hh hs hw
 refine m B G0 G W H σ en _ hh hs ?_
 unfold cP at hw
 cases ef : fe en with
 | bad => rw [ef] at hw; exact hw
 | exc C => rw [ef] at hw; exact fun G1 H1 s => hw G1 W H1 σ (hh.step s) (hs.step s)
 | ok r =>
  rw [ef] at hw
  cases r with
  | b d => exact hw.elim
  | p d => exact fun G1 H1 v s e => hw G1 W H1 _ (hh.step s) ((hs.step s).set e)
  | x C => exact fun G1 H1 v s e => hw G1 W H1 _ (hh.step s) ((hs.step s).set e)
  | f d =>
   rintro G1 H1 v s ⟨a, o, rfl, h1, h2, h3, h4⟩
   obtain ⟨q1, q2⟩ := aEq (i := i) (hh.step s) (hs.step s) (hh.lone h1) h2 (hh.bh.free h1) h3 h4
   exact hw G1 _ H1 _ q1 q2
theorem aS {i : Nat} {x : Str} {pos' : Pos} (hN : X.N.Nodup) (hi : X.N[i]? = some x) (hx : Loc X.env.scope x) (he : DE X E e fe) (hs : swapsWith e (some (.Name x pos')) pos.line X.env = pure false := by rfl) (hf : X.fn x = true \/ X.env.scope.names.lookup x = some .local := by first | exact .inl rfl | exact .inr rfl | assumption) :
  DS X E (.Assign [.Name x pos'] e pos) (cP i fe) := by
 obtain ⟨t, p, m⟩ := he.out
 exact DS.in ⟨_, aM9 hN hi hx p hs hf, wW m⟩
def aDc : Ev -> L
 | .p d => .p d
 | .f d => .o d
 | .b d => .o d
 | .x C => .x C
def eA (fe : En -> Res Ev) : MS := fun en => match fe en with
 | .ok r => some (.rt (aDc r))
 | .exc C => some (.ex C en)
 | .bad => none
theorem bE (he : DE X E e fe) : DS X E (.Return (some e) pos) (eA fe) := by
 obtain ⟨t, p, m⟩ := he.out
 refine DS.in ⟨_, aLp p, fun B G0 G W H σ en Dn hh hs hw => m B G0 G W H σ en _ hh hs ?_⟩
 unfold eA at hw
 cases ef : fe en with
 | bad => rw [ef] at hw; exact hw
 | exc C => rw [ef] at hw; exact fun G1 H1 s => hw G1 W H1 σ (hh.step s) (hs.step s)
 | ok r =>
  rw [ef] at hw
  intro G1 H1 v s e
  refine hw G1 W H1 v (hh.step s) ?_
  cases r with
  | p d => exact e
  | x C => exact e
  | f d =>
   obtain ⟨a, o, h0, h1, h2, h3, h4⟩ := e
   exact ⟨a, o, h0, h2, hh.bh.free h1, h3, h4⟩
  | b d =>
   obtain ⟨a, i, o, h0, h1, h3, h4⟩ := e
   have z := (hh.step s).wf a i h1
   exact ⟨a, o, h0, z.1, z.2.1, h3, h4⟩
def iD (c : En -> Res Bool) (f g : MS) : MS := fun en => match c en with
 | .ok k => if k = true then f en else g en
 | .exc C => some (.ex C en)
 | .bad => none
theorem gC {A B : List Stmt} (hc : DT X E c fc) (ha : DSs X E A f) (hb : DSs X E B g) : DS X E (.If c A B pos) (iD fc f g) := by
 obtain ⟨tc, pc, mc⟩ := hc.out
 obtain ⟨t, p, m⟩ := ha.out
 obtain ⟨u, q, n⟩ := hb.out
 refine DS.in ⟨_, aPc pc p q, fun B G0 G W H σ en Dn hh hs hw => mc B G0 G W H σ en _ hh hs ?_⟩
 unfold iD at hw
 cases ef : fc en with
 | bad => rw [ef] at hw; exact hw
 | exc C => rw [ef] at hw; exact fun G1 H1 s => hw G1 W H1 σ (hh.step s) (hs.step s)
 | ok k =>
  rw [ef] at hw
  intro G1 H1 s
  cases k with
  | true => exact m B G0 G1 W H1 σ en Dn (hh.step s) (hs.step s) hw
  | false => exact n B G0 G1 W H1 σ en Dn (hh.step s) (hs.step s) hw
def frz (i : Nat) (en : En) : En := match en[i]? with
 | some (some (.o d)) => en.set i (some (.p d))
 | _ => en
theorem aMr {K : PySem.W.Frag} {B G0 G H : Hp} {W : Addr -> Option Nat} {σ : L2.St} {en : En} (i : Nat) (hh : SimH B G0 G W H) (hs : SimS K W G H σ en) : ∃ G' W', SimH B G0 G' W' H /\ SimS K W' G' H σ (frz i en) := by
 unfold frz
 split
 ·rename_i d e
  obtain ⟨v, e1, a, o, rfl, e2, e3, e4⟩ := hs.2 i _ e
  obtain ⟨w1, w2, w3⟩ := hh.wf a i e2
  have sg : Same G (upd G a o) := Same.upd (Same.refl _) w1 o
  refine ⟨upd G a o, fun b => if b = a then none else W b, ⟨fun b u q => ?_, hh.bh, hh.g0.trans sg, fun b hb => ?_, fun b j e => ?_⟩, by rw [List.length_set]; exact hs.1, fun j l e5 => ?_⟩
  ·by_cases z : b = a
   ·subst z; rw [bQ] at q; rw [e3]; exact q
   ·rw [bJ z] at q; exact hh.gh b u q
  ·by_cases z : b = a
   ·subst z; exact .inr (.inl w2)
   ·rw [bJ z] at hb; exact hh.gb b hb
  ·split at e
   ·cases e
   ·rename_i z
    rw [bJ z]; exact hh.wf b j e
  ·rw [List.getElem?_set] at e5
   by_cases hj : i = j
   ·subst hj
    rw [if_pos rfl] at e5
    split at e5
    ·cases e5
     exact ⟨_, e1, (e4.mono sg).rep bQ⟩
    ·cases e5
   ·rw [if_neg hj] at e5
    obtain ⟨v, f1, f2⟩ := hs.2 j l e5
    refine ⟨v, f1, ?_⟩
    cases l with
    | p d => exact f2.mono sg
    | x C => obtain ⟨ea, g1, g2⟩ := f2; exact ⟨ea, g1, sg _ _ g2⟩
    | h a => exact f2
    | o d =>
     obtain ⟨b, ob, g1, g2, g3, g4⟩ := f2
     refine ⟨b, ob, g1, ?_, g3, g4.mono sg⟩
     show (if b = a then none else W b) = some j
     rw [if_neg (fun z => by rw [z, e2] at g2; exact hj (Option.some.inj g2))]
     exact g2
 ·exact ⟨G, W, hh, hs⟩
theorem q0 (i : Nat) (h : DSs X E sts f) : DSs X E sts (fun en => f (frz i en)) := by
 obtain ⟨t, p, m⟩ := h.out
 refine DSs.in ⟨t, p, fun B G0 G W H σ en Dn hh hs hw => ?_⟩
 obtain ⟨G', W', h1, h2⟩ := aMr i hh hs
 exact m B G0 G' W' H σ _ Dn h1 h2 hw
end
def mWh (c : En -> Res Bool) (f : MS) : Nat -> MS
 | 0, _ => none
 | n + 1, en => match c en with
  | .bad => none
  | .exc C => some (.ex C en)
  | .ok false => some (.nx en)
  | .ok true => match f en with
   | some (.nx e) => mWh c f n e
   | some (.ct e) => mWh c f n e
   | some (.bk e) => some (.nx e)
   | r => r
theorem qE {c : En -> Res Bool} {f : MS} : ∀ {n : Nat} {en : En} {r : Out}, mWh c f n en = some r -> mWh c f (n + 1) en = some r
 | 0, _, _, h => by cases h
 | n + 1, en, r, h => by
  unfold mWh at h ⊢
  cases ec : c en with
  | bad => rw [ec] at h; exact h
  | exc C => rw [ec] at h; exact h
  | ok k =>
   rw [ec] at h
   cases k with
   | false => exact h
   | true =>
    dsimp only at h ⊢
    cases ef : f en with
    | none => rw [ef] at h; exact h
    | some o =>
     rw [ef] at h
     cases o with
     | nx e => exact qE (n := n) h
     | ct e => exact qE (n := n) h
     | bk e => exact h
     | rt l => exact h
     | ex C e => exact h
theorem aF7 {c : En -> Res Bool} {f : MS} {n m : Nat} {en : En} {r : Out} (h : mWh c f n en = some r) (l : n <= m) : mWh c f m en = some r := by
 induction l with
 | refl => exact h
 | step _ ih => exact qE ih
open Classical in
noncomputable def lH (c : En -> Res Bool) (f : MS) : MS := fun en => if h : ∃ n r, mWh c f n en = some r then mWh c f h.choose en else none
theorem nW {c : En -> Res Bool} {f : MS} {n : Nat} {en : En} {r : Out} (h : mWh c f n en = some r) : lH c f en = some r := by
 unfold lH
 have hx : ∃ n r, mWh c f n en = some r := ⟨n, r, h⟩
 rw [dif_pos hx]
 obtain ⟨r', h'⟩ := hx.choose_spec
 rcases Nat.le_total n hx.choose with l | l
 ·exact aF7 h l
 ·have := aF7 h' l
  rw [h] at this
  rw [h']; exact this.symm
theorem uC {c : En -> Res Bool} {f : MS} {en : En} {P : Out -> Prop} (h : wpO (lH c f en) P) : ∃ n, wpO (mWh c f n en) P := by
 unfold lH at h
 split at h
 ·exact ⟨_, h⟩
 ·exact h.elim
section
variable {X : Cx} {E : L2.St -> XK} {st : Stmt} {sts : List Stmt} {f g : MS} {fe : En -> Res Ev} {fc : En -> Res Bool} {e c : Expr} {pos : Pos}
theorem q9 (hp : PassesOwn (model X.prog X.w) X.A X.env X.xe) (hc : DT X E c fc) (hb : DSs X E sts f) : DS X E (.While c sts [] pos) (lH fc f) := by
 obtain ⟨tc, pc, mc⟩ := hc.out
 obtain ⟨t, p, m⟩ := hb.out
 refine DS.in ⟨_, aEz hp pc p, fun B G0 G W H σ en Dn hh hs hw => ?_⟩
 obtain ⟨n0, hw⟩ := uC hw
 refine ⟨fun n σ H => ∃ G W en, SimH B G0 G W H /\ SimS X.K W G H σ en /\ wpO (mWh fc f n en) (PostS X.K B G0 E Dn), ⟨n0, G, W, en, hh, hs, hw⟩, ?_⟩
 rintro n σ H ⟨G, W, en, hh, hs, hw⟩
 cases n with
 | zero => exact hw.elim
 | succ n =>
  refine mc B G0 G W H σ en _ hh hs ?_
  unfold mWh at hw
  cases ec : fc en with
  | bad => rw [ec] at hw; exact hw
  | exc C => rw [ec] at hw; exact fun G1 H1 s => hw G1 W H1 σ (hh.step s) (hs.step s)
  | ok k =>
   rw [ec] at hw
   intro G1 H1 s
   cases k with
   | false => exact hw G1 W H1 σ (hh.step s) (hs.step s)
   | true =>
    refine ⟨fun σ' H' => ∃ G W en, SimH B G0 G W H' /\ SimS X.K W G H' σ' en /\ wpO (mWh fc f n en) (PostS X.K B G0 E Dn), fun σ' H' q => ⟨n, Nat.lt_succ_self n, q⟩, ?_⟩
    refine m B G0 G1 W H1 σ en _ (hh.step s) (hs.step s) ?_
    dsimp only at hw
    cases ef : f en with
    | none => rw [ef] at hw; exact hw
    | some o =>
     rw [ef] at hw
     cases o with
     | nx e => exact fun G2 W2 H2 σ2 h2 s2 => ⟨G2, W2, e, h2, s2, hw⟩
     | ct e => exact fun G2 W2 H2 σ2 h2 s2 => ⟨G2, W2, e, h2, s2, hw⟩
     | bk e => exact hw
     | rt l => exact hw
     | ex C e => exact hw
end
def zV (K : PySem.W.Frag) (ds : List D) (G1 : Hp) (J : It) : Prop := ∀ G H, Same G1 G -> Same G H ->
 (∀ i d, ds[i]? = some d -> J.go i H /\ ∀ v H', J.yld i H v H' -> ∃ G', Step G H G' H' /\ Rep K G' v d) /\ J.stop ds.length H
def tI (K : PySem.W.Frag) (E : L2.St -> XK) (f : En -> Res (List D)) : TI := fun σ H R => ∃ B G0 G W en, SimH B G0 G W H /\ SimS K W G H σ en /\ wpR (f en) (fun ds => ∀ G' H' J, Step G H G' H' -> zV K ds G' J -> R J H') (PostX (E σ) G H)
def DI (X : Cx) (E : L2.St -> XK) (tg e : Expr) (f : En -> Res (List D)) : Prop := PI X tg e (tI X.K E f)
def Kept (ks : List Nat) (σ σ' : L2.St) : Prop := σ'.length = σ.length /\ ∀ j, j ∉ ks -> σ'[j]? = σ[j]?
def tG (K : PySem.W.Frag) (ks : List Nat) (f : D -> En -> Option En) : TG := fun v σ H Q => ∃ G W en d en', Same G H /\ SimS K W G H σ en /\ Rep K G v d /\ f d en = some en' /\ ∀ σ', SimS K W G H σ' en' -> Kept ks σ σ' -> Q σ' H
def tGs (K : PySem.W.Frag) (ks : List Nat) (f : List D -> En -> Option En) : TGs := fun vs σ H Q => ∃ G W en ds en', Same G H /\ SimS K W G H σ en /\ Reps K G vs ds /\ f ds en = some en' /\ ∀ σ', SimS K W G H σ' en' -> Kept ks σ σ' -> Q σ' H
def DG (X : Cx) (tg : Expr) (ks : List Nat) (f : D -> En -> Option En) : Prop := PG X tg (tG X.K ks f)
def DGs (X : Cx) (tg : List Expr) (ks : List Nat) (f : List D -> En -> Option En) : Prop := PGs X tg (tGs X.K ks f)
theorem Kept.trans {ks ls : List Nat} {σ σ1 σ2 : L2.St} (a : Kept ks σ σ1) (b : Kept ls σ1 σ2) : Kept (ks ++ ls) σ σ2 :=
 ⟨b.1.trans a.1, fun j hj => (b.2 j fun z => hj (List.mem_append_right _ z)).trans (a.2 j fun z => hj (List.mem_append_left _ z))⟩
def a9 (i : Nat) : D -> En -> Option En := fun d en => some (en.set i (some (.p d)))
def uR : List D -> En -> Option En := fun ds en => match ds with
 | [] => some en
 | _ => none
def jM (f : D -> En -> Option En) (g : List D -> En -> Option En) : List D -> En -> Option En := fun ds en => match ds with
 | [] => none
 | d :: r => match f d en with
  | none => none
  | some e => g r e
def uZ (n : Nat) (f : List D -> En -> Option En) : D -> En -> Option En := fun d en => match d with
 | .tuple ds => if ds.length = n then f ds en else none
 | _ => none
section
variable {X : Cx} {E : L2.St -> XK} {pos : Pos}
theorem DI.in {tg e : Expr} {f : En -> Res (List D)} (h : ∃ t, PI X tg e t /\ ∀ B G0 G W H σ en R, SimH B G0 G W H -> SimS X.K W G H σ en -> wpR (f en) (fun ds => ∀ G' H' J, Step G H G' H' -> zV X.K ds G' J -> R J H') (PostX (E σ) G H) -> t σ H R) : DI X E tg e f :=
 fun pins s σ H R I ⟨B, G0, G, W, en, h1, h2, h3⟩ => let ⟨_, p, m⟩ := h; p pins s σ H R I (m B G0 G W H σ en R h1 h2 h3)
theorem d9 {i : Nat} {x : Str} (hN : X.N.Nodup) (hi : X.N[i]? = some x) (hx : Loc X.env.scope x) (hf : X.fn x = true \/ X.env.scope.names.lookup x = some .local := by first | exact .inl rfl | exact .inr rfl | assumption) : DG X (.Name x pos) [i] (a9 i) := by
 intro pins s σ H v u Q I r ⟨G, W, en, d, en', h1, h2, h3, h4, h5⟩
 refine aCk hN hi hx hf pins s σ H v u Q I r ?_
 cases h4
 exact h5 _ (h2.set h3) ⟨List.length_set .., fun j hj => List.getElem?_set_ne (fun z => hj (by rw [z]; exact .head _))⟩
theorem aHj : DGs X [] [] uR := by
 intro pins s σ H vs us Q I r ⟨G, W, en, ds, en', h1, h2, h3, h4, h5⟩
 refine aJ1 pins s σ H vs us Q I r ?_
 unfold uR at h4
 split at h4
 ·cases h4; cases h3; exact ⟨rfl, h5 _ h2 ⟨rfl, fun _ _ => rfl⟩⟩
 ·cases h4
theorem wU {e : Expr} {es : List Expr} {ks ls : List Nat} {f : D -> En -> Option En} {g : List D -> En -> Option En} (h1 : DG X e ks f) (h2 : DGs X es ls g)
  (hs : (assignEach (e :: es) X.env).map (·.2) = assign e X.env :: (assignEach es X.env).map (·.2) := by rfl) : DGs X (e :: es) (ks ++ ls) (jM f g) := by
 intro pins s σ H vs us Q I r ⟨G, W, en, ds, en', k1, k2, k3, k4, k5⟩
 refine aDp h1 h2 hs pins s σ H vs us Q I r ?_
 unfold jM at k4
 cases k3 with
 | nil => cases k4
 | @cons x xs d ds hx hr =>
  dsimp only at k4
  split at k4
  ·cases k4
  ·rename_i e1 q1
   exact ⟨x, xs, rfl, G, W, en, d, e1, k1, k2, hx, q1, fun σ' hσ hk => ⟨G, W, e1, ds, en', k1, hσ, hr, k4, fun σ2 q1 q2 => k5 σ2 q1 (hk.trans q2)⟩⟩
theorem aMu {es : List Expr} {k : Nat} {ks : List Nat} {f : List D -> En -> Option En} {n : Nat} (hc : X.calm = true) (h : DGs X es ks f) (hn : (assignEach es X.env).length = n := by rfl) (hst : (assignEach es X.env).findIdx? (·.1) = none := by rfl) : DG X (.Tuple es k pos) ks (uZ n f) := by
 intro pins s σ H v u Q I r ⟨G, W, en, d, en', k1, k2, k3, k4, k5⟩
 refine aKb hc h hn hst pins s σ H v u Q I r ?_
 unfold uZ at k4
 split at k4
 ·rename_i ds
  split at k4
  ·rename_i hl
   cases k3 with
   | @tup a xs _ ha hr => exact ⟨a, xs, rfl, SqT.of (k1 _ _ ha), by rw [hr.length]; exact hl, G, W, en, ds, en', k1, k2, hr, k4, k5⟩
  ·cases k4
 ·cases k4
def fE (tg : D -> En -> Option En) (f : MS) : List D -> MS
 | [], en => some (.nx en)
 | d :: ds, en => match tg d en with
  | none => none
  | some e1 => match f e1 with
   | some (.nx e2) => fE tg f ds e2
   | some (.ct e2) => fE tg f ds e2
   | some (.bk e2) => some (.nx e2)
   | r => r
def v9 (fi : En -> Res (List D)) (tg : D -> En -> Option En) (f : MS) : MS := fun en => match fi en with
 | .ok ds => fE tg f ds en
 | .exc C => some (.ex C en)
 | .bad => none
theorem SimH.lower {B G0 G1 G H H1 : Hp} {W W1 : Addr -> Option Nat} (h : SimH B G1 G W H) (h1 : SimH B G0 G1 W1 H1) : SimH B G0 G W H :=
 ⟨h.gh, h.bh, h1.g0.trans h.g0, fun b hb => (h.gb b hb).elim (fun z => h1.gb b z) .inr, h.wf⟩
theorem SimH.raise {B G0 G H : Hp} {W : Addr -> Option Nat} (h : SimH B G0 G W H) : SimH B G G W H := ⟨h.gh, h.bh, Same.refl _, fun _ hb => .inl hb, h.wf⟩
theorem PostS.lower {K : PySem.W.Frag} {B G0 G1 H1 : Hp} {W1 : Addr -> Option Nat} {Dn : Ends} {r : Out} (h : PostS K B G0 E Dn r) (h1 : SimH B G0 G1 W1 H1) : PostS K B G1 E Dn r := by
 cases r with
 | nx en => exact fun G W H σ a b => h G W H σ (a.lower h1) b
 | bk en => exact fun G W H σ a b => h G W H σ (a.lower h1) b
 | ct en => exact fun G W H σ a b => h G W H σ (a.lower h1) b
 | rt l => exact fun G W H σ a b => h G W H σ (a.lower h1) b
 | ex C en => exact fun G W H σ a b => h G W H σ (a.lower h1) b
theorem jK {tg iter : Expr} {body : List Stmt} {fi : En -> Res (List D)} {ks : List Nat} {g : D -> En -> Option En} {f : MS} (hp : PassesOwn (model X.prog X.w) X.A X.env X.xe) (hc : X.calm = true) (hi : DI X E tg iter fi) (hg : DG X tg ks g) (hb : DSs X E body f)
  (hs : ∀ x, foldedSetIterable iter X.env x = pure x := by intro _; rfl) : DS X E (.For tg iter body [] pos) (v9 fi g f) := by
 obtain ⟨t, p, m⟩ := hb.out
 refine DS.in ⟨_, aKg hp hc hi hg p hs, fun B G0 G W H σ en Dn hh hs hw => ⟨B, G0, G, W, en, hh, hs, ?_⟩⟩
 unfold v9 at hw
 cases ef : fi en with
 | bad => rw [ef] at hw; exact hw
 | exc C => rw [ef] at hw; exact fun G1 H1 s => hw G1 W H1 σ (hh.step s) (hs.step s)
 | ok ds =>
  rw [ef] at hw
  intro G1 H1 J s1 hJ
  have hh1 := hh.step s1
  refine ⟨fun i n σ H => n = ds.length - i /\ i <= ds.length /\ ∃ G W en, SimH B G1 G W H /\ SimS X.K W G H σ en /\ wpO (fE g f (ds.drop i) en) (PostS X.K B G0 E Dn),
   ⟨ds.length, rfl, Nat.zero_le _, G1, W, en, hh1.raise, hs.step s1, hw⟩, ?_⟩
  rintro i n σ H ⟨rfl, hi, G, W, en, hh, hs, hw⟩
  obtain ⟨j1, j2⟩ := hJ G H hh.g0 hh.gh
  by_cases hlt : i < ds.length
  ·refine .inr ?_
   obtain ⟨jg, jy⟩ := j1 i ds[i] (List.getElem?_eq_getElem hlt)
   rw [List.drop_eq_getElem_cons hlt] at hw
   unfold fE at hw
   refine ⟨jg, fun σ' H' => ∃ G W en, SimH B G1 G W H' /\ SimS X.K W G H' σ' en /\ wpO (fE g f (ds.drop (i + 1)) en) (PostS X.K B G0 E Dn), fun σ' H' q => ⟨ds.length - (i + 1), by omega, rfl, hlt, q⟩, fun v H' hy => ?_⟩
   obtain ⟨G2, s2, rv⟩ := jy v H' hy
   cases eg : g ds[i] en with
   | none => rw [eg] at hw; exact hw.elim
   | some e1 =>
    rw [eg] at hw
    dsimp only at hw
    refine ⟨G2, W, en, ds[i], e1, s2.gh, hs.step s2, rv, eg, fun σ' hσ _ => ?_⟩
    refine m B G1 G2 W H' σ' e1 _ (hh.step s2) hσ ?_
    cases ef2 : f e1 with
    | none => rw [ef2] at hw; exact hw
    | some o =>
     rw [ef2] at hw
     cases o with
     | nx e => exact fun G2 W2 H2 σ2 h2 s2 => ⟨G2, W2, e, h2, s2, hw⟩
     | ct e => exact fun G2 W2 H2 σ2 h2 s2 => ⟨G2, W2, e, h2, s2, hw⟩
     | bk e => exact PostS.lower (E := E) (Dn := Dn) (r := .nx e) hw hh1
     | rt l => exact PostS.lower (E := E) (Dn := Dn) (r := .rt l) hw hh1
     | ex C e => exact PostS.lower (E := E) (Dn := Dn) (r := .ex C e) hw hh1
  ·have e : i = ds.length := by omega
   subst e
   rw [List.drop_length] at hw
   exact .inl ⟨j2, hw G W H σ (hh.lower hh1) hs⟩
def aMl (r : Ev) : Res (List D) := match r with
 | .p (.list ds) => .ok ds
 | _ => .bad
def tN (fe : En -> Res Ev) : En -> Res (List D) := fun en => (fe en).bind fun r => aMl r.c
theorem iK {tg e : Expr} {fe : En -> Res Ev} (he : DE X E e fe) : DI X E tg e (tN fe) := by
 obtain ⟨t, p, m⟩ := he.out
 refine DI.in ⟨_, aHs p, fun B G0 G W H σ en R hh hs hw => m B G0 G W H σ en _ hh hs ?_⟩
 have hw : wpR ((fe en).bind _) _ _ := hw
 rw [bS] at hw
 refine bA hw (fun r hr G1 H1 v s e => ?_) fun C h => h
 obtain ⟨G2, s2, e2⟩ := e.c s
 cases er : r.c with
 | p d =>
  rw [er] at hr e2
  cases d with
  | list ds =>
   cases e2 with
   | @lst a xs _ ha hrs =>
    refine ⟨a, rfl, ⟨xs, s2.gh.seq (.inl ha)⟩, hr G2 H1 _ s2 fun G3 H3 k1 k2 => ⟨fun i d ed => ?_, xs, (k1.trans k2).seq (.inl ha), Nat.le_of_eq hrs.length⟩⟩
    obtain ⟨x, ex, rx⟩ := hrs.get' ed
    refine ⟨⟨xs, x, (k1.trans k2).seq (.inl ha), ex⟩, fun v H' hy => ?_⟩
    obtain ⟨rfl, hy⟩ := hy
    have := hy xs ((k1.trans k2).seq (.inl ha))
    rw [ex] at this
    cases this
    exact ⟨G3, Step.refl k2, rx.mono k1⟩
  | _ => exact False.elim hr
 | f d => rw [er] at hr; exact False.elim hr
 | b d => rw [er] at hr; exact False.elim hr
 | x C => rw [er] at hr; exact False.elim hr
def qT (lo : Int) (n : Nat) : List D := (List.range n).map fun (k : Nat) => PyData.int (lo + (k : Int))
def n6 (rs : List Ev) : Res (List D) := match rs with
 | [.p (.int j)] => if -(2 ^ 62) <= j /\ j < 2 ^ 62 then .ok (qT 0 j.toNat) else .bad
 | _ => .bad
def aDe (rs : List Ev) : Res (List D) := match rs with
 | [.p (.int i), .p (.int j)] => if -(2 ^ 62) <= i /\ i < 2 ^ 62 /\ -(2 ^ 62) <= j /\ j < 2 ^ 62 then .ok (qT i (j - i).toNat) else .bad
 | _ => .bad
theorem pB (K : PySem.W.Frag) (lo : Int) (n : Nat) (G1 : Hp) : zV K (qT lo n) G1 (Itr lo n) := fun G H _ k2 => by
 refine ⟨fun i d ed => ?_, by show n <= _; unfold qT; rw [List.length_map, List.length_range]; exact Nat.le_refl _⟩
 unfold qT at ed
 rw [List.getElem?_map] at ed
 by_cases hi : i < n
 ·rw [List.getElem?_range hi] at ed
  cases ed
  refine ⟨hi, fun v H' hy => ?_⟩
  obtain ⟨rfl, rfl⟩ := hy
  exact ⟨G, Step.refl k2, .int _⟩
 ·rw [List.getElem?_eq_none (by rw [List.length_range]; omega)] at ed
  cases ed
def rG (r : List Ev -> Res (List D)) (fr : En -> Res (List Ev)) : En -> Res (List D) := fun en => (fr en).bind r
theorem kN {tg a : Expr} {fr : En -> Res (List Ev)} {p : Pos} (hg : Gl X "range") (hm : X.mg "range" = none) (ha : DA X E [a] fr) (hs : starEach [a] X.env = [(false, eval a X.env)] := by rfl) : DI X E tg (.Call (.Name "range" p) [a] [] pos) (rG n6 fr) := by
 obtain ⟨t, q, m⟩ := ha.out
 refine DI.in ⟨_, zX hg hm q hs, fun B G0 G W H σ en R hh hs hw => m B G0 G W H σ en _ hh hs ?_⟩
 have hw : wpR ((fr en).bind _) _ _ := hw
 rw [bS] at hw
 refine bA hw (fun rs hr G1 H1 vs s e => ?_) fun C h => h
 unfold n6 at hr
 split at hr
 ·rename_i j
  split at hr
  ·rename_i hj
   match vs, e with
   | [v], ⟨e1, _⟩ =>
    cases e1
    exact ⟨j, rfl, hj.1, hj.2, hr G1 H1 _ s (pB _ _ _ _)⟩
  ·exact False.elim hr
 ·exact False.elim hr
theorem aA4 {tg a b : Expr} {fr : En -> Res (List Ev)} {p : Pos} (hg : Gl X "range") (hm : X.mg "range" = none) (ha : DA X E [a, b] fr) (hs : starEach [a, b] X.env = [(false, eval a X.env), (false, eval b X.env)] := by rfl) (hs2 : starEach [b] X.env = [(false, eval b X.env)] := by rfl) :
  DI X E tg (.Call (.Name "range" p) [a, b] [] pos) (rG aDe fr) := by
 obtain ⟨t, q, m⟩ := ha.out
 refine DI.in ⟨_, aAj hg hm q hs hs2, fun B G0 G W H σ en R hh hs hw => m B G0 G W H σ en _ hh hs ?_⟩
 have hw : wpR ((fr en).bind _) _ _ := hw
 rw [bS] at hw
 refine bA hw (fun rs hr G1 H1 vs s e => ?_) fun C h => h
 unfold aDe at hr
 split at hr
 ·rename_i i j
  split at hr
  ·rename_i hj
   match vs, e with
   | [v, u], ⟨e1, e2, _⟩ =>
    cases e1
    cases e2
    exact ⟨i, j, rfl, hj, hr G1 H1 _ s (pB _ _ _ _)⟩
  ·exact False.elim hr
 ·exact False.elim hr
end
def kY : Ev -> Option L
 | .p d => some (.p d)
 | .x C => some (.x C)
 | .b _ => none
 | .f _ => none
def xT : Ev -> Option L
 | .p d => some (.p d)
 | .b d => some (.p d)
 | .x _ => none
 | .f _ => none
def dP (g : Ev -> Option L) : List Ev -> Option (List L)
 | [] => some []
 | r :: rs => match g r with
  | none => none
  | some l => match dP g rs with
   | none => none
   | some ls => some (l :: ls)
def lL : L -> Ev
 | .p d => .p d
 | .o d => .f d
 | .x C => .x C
 | .h a => .x a
mutual
def lfD : D -> Bool
 | .list _ => false
 | .dict _ => false
 | .tuple ds => lfA ds
 | _ => true
def lfA : List D -> Bool
 | [] => true
 | d :: ds => lfD d && lfA ds
end
def lfP : List (D × D) -> Bool
 | [] => true
 | p :: r => lfD p.2 && lfP r
def rZ : L -> Bool
 | .p d => lfD d
 | .o (.list ds) => lfA ds
 | .o (.dict kvs) => lfP kvs
 | _ => false
def fC (n : Nat) (m : List L -> Res L) (rs : List Ev) : Res Ev := match dP kY rs with
 | some ls => if ls.length = n then (m ls).bind fun l => .ok (lL l) else .bad
 | none => match dP xT rs with
  | some ls => if ls.length = n then (m ls).bind fun l => if rZ l = true then .ok (lL l) else .bad else .bad
  | none => .bad
def aV (n : Nat) (m : List L -> Res L) (fr : En -> Res (List Ev)) : En -> Res Ev := fun en => (fr en).bind (fC n m)
def aO3 (K : PySem.W.Frag) (G : Hp) (v : V) : L -> Prop
 | .p d => Rep K G v d
 | .o _ => False
 | .x C => ∃ e, v = .ref e /\ G e = some (aJ6 e (.ref C))
 | .h _ => False
def ArgsOk (K : PySem.W.Frag) (G : Hp) : List V -> List L -> Prop
 | [], [] => True
 | v :: vs, l :: ls => aO3 K G v l /\ ArgsOk K G vs ls
 | _, _ => False
theorem ArgsOk.length {K : PySem.W.Frag} {G : Hp} : ∀ {vs : List V} {ls : List L}, ArgsOk K G vs ls -> vs.length = ls.length
 | [], [], _ => rfl
 | _ :: _, _ :: _, h => by rw [List.length_cons, List.length_cons, ArgsOk.length h.2]
def spM (K : PySem.W.Frag) (n : Nat) (m : List L -> Res L) : Sp := fun vs H Q E => vs.length = n /\ ∃ G ls, Same G H /\ ArgsOk K G vs ls /\
 wpR (m ls) (fun l => ∀ G' H' v, Step G H G' H' -> aJb K H G' H' v l -> Q v H') (fun C => ∀ G' H', Step G H G' H' -> E (.ref C) none H')
theorem yN {K : PySem.W.Frag} {W : Addr -> Option Nat} {Hs G H : Hp} : ∀ {rs : List Ev} {ls : List L} {vs : List V}, dP kY rs = some ls -> aG7 K W Hs G H vs rs -> ArgsOk K G vs ls
 | [], _, [], h, _ => by cases h; exact trivial
 | [], _, _ :: _, _, e => e.elim
 | _ :: _, _, [], _, e => e.elim
 | r :: rs, ls, v :: vs, h, e => by
  unfold dP at h
  cases r with
  | p d =>
   cases er : dP kY rs with
   | none => rw [er] at h; cases h
   | some ls' => rw [er] at h; cases h; exact ⟨e.1, yN er e.2⟩
  | x C =>
   cases er : dP kY rs with
   | none => rw [er] at h; cases h
   | some ls' => rw [er] at h; cases h; exact ⟨e.1, yN er e.2⟩
  | b d => cases h
  | f d => cases h
def both (W : Addr -> Option Nat) (G H : Hp) : Hp := fun b => match W b with
 | some _ => H b
 | none => G b
theorem nX {W : Addr -> Option Nat} {B G0 G H : Hp} (hh : SimH B G0 G W H) : Same G (both W G H) /\ Same (both W G H) H := by
 refine ⟨fun b o e => ?_, fun b o e => ?_⟩
 ·unfold both
  cases ew : W b with
  | none => exact e
  | some i => rw [(hh.wf b i ew).1] at e; cases e
 ·unfold both at e
  cases ew : W b with
  | none => rw [ew] at e; exact hh.gh b o e
  | some i => rw [ew] at e; exact e
theorem zC {K : PySem.W.Frag} {W : Addr -> Option Nat} {Hs B G0 G H : Hp} (hh : SimH B G0 G W H) : ∀ {rs : List Ev} {ls : List L} {vs : List V}, dP xT rs = some ls -> aG7 K W Hs G H vs rs -> ArgsOk K (both W G H) vs ls
 | [], _, [], h, _ => by cases h; exact trivial
 | [], _, _ :: _, _, e => e.elim
 | _ :: _, _, [], _, e => e.elim
 | r :: rs, ls, v :: vs, h, e => by
  unfold dP at h
  cases r with
  | p d =>
   cases er : dP xT rs with
   | none => rw [er] at h; cases h
   | some ls' => rw [er] at h; cases h; exact ⟨Rep.mono (nX hh).1 e.1, zC hh er e.2⟩
  | b d =>
   cases er : dP xT rs with
   | none => rw [er] at h; cases h
   | some ls' =>
    rw [er] at h; cases h
    refine ⟨?_, zC hh er e.2⟩
    obtain ⟨a, i, o, rfl, h1, h2, h3⟩ := e.1
    exact (h3.mono (nX hh).1).rep (by unfold both; rw [h1]; exact h2)
  | x d => cases h
  | f d => cases h
mutual
theorem wG {K : PySem.W.Frag} {G G' : Hp} (k : ∀ b xs, G b = some (.tup xs) -> G' b = some (.tup xs)) : ∀ {v : V} {d : D}, lfD d = true -> Rep K G v d -> Rep K G' v d
 | _, _, _, .non => .non
 | _, _, _, .bl b => .bl b
 | _, _, _, .int i => .int i
 | _, _, _, .str x => .str x
 | _, _, hf, .tup h r => .tup (k _ _ h) (uU k (by unfold lfD at hf; exact hf) r)
 | _, _, hf, .lst _ _ => by unfold lfD at hf; cases hf
 | _, _, hf, .dT _ _ => by unfold lfD at hf; cases hf
 | _, _, hf, .dK _ _ => by unfold lfD at hf; cases hf
theorem uU {K : PySem.W.Frag} {G G' : Hp} (k : ∀ b xs, G b = some (.tup xs) -> G' b = some (.tup xs)) : ∀ {vs : List V} {ds : List D}, lfA ds = true -> Reps K G vs ds -> Reps K G' vs ds
 | _, _, _, .nil => .nil
 | _, _, hf, .cons h r => by
  unfold lfA at hf
  have hf := Bool.and_eq_true_iff.mp hf
  exact .cons (wG k hf.1 h) (uU k hf.2 r)
end
theorem yT {K : PySem.W.Frag} {G G' : Hp} (k : ∀ b xs, G b = some (.tup xs) -> G' b = some (.tup xs)) : ∀ {kv : List (List Key × V)} {kvs : List (D × D)}, lfP kvs = true -> RepT K G kv kvs -> RepT K G' kv kvs
 | _, _, _, .nil => .nil
 | _, _, hf, .cons h r => by
  unfold lfP at hf
  have hf := Bool.and_eq_true_iff.mp hf
  exact .cons (wG k hf.1 h) (yT k hf.2 r)
theorem zW {K : PySem.W.Frag} {G G' : Hp} (k : ∀ b xs, G b = some (.tup xs) -> G' b = some (.tup xs)) : ∀ {kv : List (Key × V)} {kvs : List (D × D)}, lfP kvs = true -> RepK K G kv kvs -> RepK K G' kv kvs
 | _, _, _, .nil => .nil
 | _, _, hf, .cons h r => by
  unfold lfP at hf
  have hf := Bool.and_eq_true_iff.mp hf
  exact .cons (wG k hf.1 h) (zW k hf.2 r)
def oR (W : Addr -> Option Nat) (G : Hp) : Hp := fun b => match W b with
 | some _ => none
 | none => G b
theorem aC4 {K : PySem.W.Frag} {W : Addr -> Option Nat} {H1 G H Hs : Hp} {v : V} {l : L} (hf : rZ l = true) (hH : Hs = Hs) (hs : ∀ b, H1 b = none -> Hs b = none) (k : ∀ b xs, G b = some (.tup xs) -> oR W G b = some (.tup xs)) (h : aJb K H1 G H v l) : EOk K W Hs (oR W G) H v (lL l) := by
 have n0 : ∀ b, G b = none -> oR W G b = none := fun b e => by
  unfold oR
  cases W b with
  | none => exact e
  | some _ => rfl
 cases l with
 | x C => cases hf
 | h a => cases hf
 | p d => exact wG k hf h
 | o d =>
  obtain ⟨a, o, rfl, h1, h2, h3, h4⟩ := h
  refine ⟨a, o, rfl, hs _ h2, n0 _ h1, h3, ?_⟩
  cases h4 with
  | lst r => exact .lst (uU k hf r)
  | dT r => exact .dT (yT k hf r)
  | dK r => exact .dK (zW k (by unfold rZ at hf; unfold lfP at hf; exact (Bool.and_eq_true_iff.mp hf).2) r)
theorem aCp {K : PySem.W.Frag} {W : Addr -> Option Nat} {B G0 G H G1 H1 : Hp} {n : Nat} {m : List L -> Res L} {rs : List Ev} {vs : List V} {Q : VK} {EE : XK} (hh : SimH B G0 G W H) (s : Step G H G1 H1) (e : aG7 K W H G1 H1 vs rs)
  (hr : wpR (fC n m rs) (PostE K W G H Q) (PostX EE G H)) : spM K n m vs H1 Q EE := by
 unfold fC at hr
 split at hr
 ·rename_i ls el
  split at hr
  ·rename_i hn
   have ha := yN el e
   refine ⟨by rw [ha.length]; exact hn, G1, ls, s.gh, ha, ?_⟩
   rw [bS] at hr
   refine bA hr (fun l hl G2 H2 v s2 rv => hl G2 H2 v (s.trans s2) ?_) fun C h G2 H2 s2 => h G2 H2 (s.trans s2)
   cases l with
   | p d => exact rv
   | x C => exact rv
   | h a => exact rv.elim
   | o d =>
    obtain ⟨a, o, h1, h2, h3, h4, h5⟩ := rv
    exact ⟨a, o, h1, s.h.free h3, h2, h4, h5⟩
  ·exact hr.elim
 ·split at hr
  ·rename_i ls el
   split at hr
   ·rename_i hn
    have hh1 := hh.step s
    have ha := zC hh1 el e
    obtain ⟨k1, k2⟩ := nX hh1
    refine ⟨by rw [ha.length]; exact hn, both W G1 H1, ls, k2, ha, ?_⟩
    rw [bS] at hr
    refine bA hr (fun l hl G2 H2 v s2 rv => ?_) fun C h G2 H2 s2 => h G1 H2 (s.trans ⟨Same.refl _, s2.h, s.gh.trans s2.h, fun _ _ q => .inl q⟩)
    split at hl
    ·rename_i hf
     have kt : ∀ b xs, G2 b = some (.tup xs) -> oR W G2 b = some (.tup xs) := fun b xs eb => by
      unfold oR
      cases ew : W b with
      | none => exact eb
      | some i =>
       obtain ⟨_, _, o, e1, e2⟩ := hh1.wf b i ew
       have e3 := s2.gh _ _ eb
       rw [s2.h _ _ e1] at e3
       exact absurd (Option.some.inj e3) (e2 xs)
     refine hl (oR W G2) H2 v ⟨fun b o eb => ?_, s.h.trans s2.h, fun b o eb => ?_, fun b hb hg => ?_⟩ (aC4 hf rfl (fun b e => s.h.free e) kt rv)
     ·have e1 := s.g _ _ eb
      unfold oR
      cases ew : W b with
      | none => exact s2.g _ _ (k1 _ _ e1)
      | some i => rw [(hh1.wf b i ew).1] at e1; cases e1
     ·unfold oR at eb
      cases ew : W b with
      | none => rw [ew] at eb; exact s2.gh _ _ eb
      | some i => rw [ew] at eb; cases eb
     ·unfold oR
      cases ew : W b with
      | some i => exact .inl rfl
      | none =>
       rcases s.new b hb hg with z | z
       ·have z2 : both W G1 H1 b = none := by unfold both; rw [ew]; exact z
        rcases s2.new b (aCi s.h hb) z2 with y | ⟨xs, y⟩
        ·exact .inl y
        ·cases e : H b with
         | none => exact absurd e hb
         | some o => rw [s.h _ _ e] at y; exact .inr ⟨xs, y⟩
       ·exact .inr z
    ·exact hl.elim
   ·exact hr.elim
  ·exact hr.elim
section
variable {X : Cx} {E : L2.St -> XK} {k : Nat} {f : Addr} {fd : FuncData} {ps : List Str} {x : Str} {p pos : Pos} {e : Expr} {es : List Expr} {fr : En -> Res (List Ev)} {n : Nat} {m : List L -> Res L}
theorem aI4 (F : FnOk X.prog X.w X.K X.mg X.base (CXr X.prog X.w) k f fd ps (spM X.K n m)) (hr : Room k X.A) (hg : Gl X x) (hm : X.mg x = some (.ref f)) (hk : PySem.W.keepIn X.K (.ref f) = true) (hb : Binds X.K fd ps []) (hx : nP (CXr X.prog X.w) X E)
  (ha : DA X E (e :: es) fr) (hdb : (x == ("__debug__" : Str)) = false := by decide) (he : starEach (e :: es) X.env = (false, eval e X.env) :: starEach es X.env := by rfl) (hpl : (backTo pos (starEach es X.env)).any (·.1) = false := by rfl) :
  DE X E (.Call (.Name x p) (e :: es) [] pos) (aV n m fr) := by
 obtain ⟨t, q, mm⟩ := ha.out
 refine DE.in ⟨_, aE7 F hr hg hm hk hb hx q hdb he hpl, fun B G0 G W H σ en Q hh hs hw => mm B G0 G W H σ en _ hh hs ?_⟩
 have hw : wpR ((fr en).bind _) _ _ := hw
 rw [bS] at hw
 exact bA hw (fun rs hr G1 H1 vs s e => aCp hh s e hr) fun C h => h
def oX (K : PySem.W.Frag) (r : List V -> Hp -> VK -> Prop) (f : List Ev -> Res Ev) : Prop := ∀ (W : Addr -> Option Nat) (Hs G H : Hp) (vs : List V) (rs : List Ev) (Q : VK), Same G H -> aG7 K W Hs G H vs rs -> wpR (f rs) (PostE K W G H Q) (fun _ => False) -> r vs H Q
def aCx (f : List Ev -> Res Ev) : Prop := ∀ rs C, f rs ≠ .exc C
def aN (f : List Ev -> Res Ev) (fr : En -> Res (List Ev)) : En -> Res Ev := fun en => (fr en).bind f
theorem pH {r : List V -> Hp -> VK -> Prop} {f : List Ev -> Res Ev} {t : TA} (hm : oX X.K r f) (hn : aCx f) (mm : ∀ B G0 G W H σ en Q, SimH B G0 G W H -> SimS X.K W G H σ en -> wpR (fr en) (aEr X.K W G H Q) (PostX (E σ) G H) -> t σ H Q) :
  ∀ B G0 G W H σ en Q, SimH B G0 G W H -> SimS X.K W G H σ en -> wpR (aN f fr en) (PostE X.K W G H Q) (PostX (E σ) G H) -> tCB r t σ H Q := by
 intro B G0 G W H σ en Q hh hs hw
 refine mm B G0 G W H σ en _ hh hs ?_
 have hw : wpR ((fr en).bind _) _ _ := hw
 rw [bS] at hw
 exact bA hw (fun rs hr G1 H1 vs s e => hm W H G1 H1 vs rs Q s.gh e (noX (bA hr (fun _ h => h.step s) fun _ h => h) (hn rs))) fun C h => h
theorem bO {id : String} {r : List V -> Hp -> VK -> Prop} {f : List Ev -> Res Ev} (hc : mG X (.builtin id) r) (hM : oX X.K r f) (hn : aCx f) (hg : Gl X x) (hm : X.mg x = none) (hv : bootBuiltins x = some (.builtin id)) (ha : DA X E (e :: es) fr) (hnn : x ≠ "__name__" := by decide) (hdb : (x == ("__debug__" : Str)) = false := by decide)
  (he : starEach (e :: es) X.env = (false, eval e X.env) :: starEach es X.env := by rfl) (hpl : (backTo pos (starEach es X.env)).any (·.1) = false := by rfl) : DE X E (.Call (.Name x p) (e :: es) [] pos) (aN f fr) := by
 obtain ⟨t, q, mm⟩ := ha.out
 exact DE.in ⟨_, wK hc hg hm hv q hnn hdb he hpl, pH hM hn mm⟩
theorem tK {T : String} {r : List V -> Hp -> VK -> Prop} {f : List Ev -> Res Ev} (hc : mG X (.type T) r) (hM : oX X.K r f) (hn : aCx f) (hg : Gl X x) (hm : X.mg x = none) (hv : bootBuiltins x = some (.type T)) (ha : DA X E (e :: es) fr) (hnn : x ≠ "__name__" := by decide) (hdb : (x == ("__debug__" : Str)) = false := by decide)
  (he : starEach (e :: es) X.env = (false, eval e X.env) :: starEach es X.env := by rfl) (hpl : (backTo pos (starEach es X.env)).any (·.1) = false := by rfl) : DE X E (.Call (.Name x p) (e :: es) [] pos) (aN f fr) := by
 obtain ⟨t, q, mm⟩ := ha.out
 exact DE.in ⟨_, aAa hc hg hm hv q hnn hdb he hpl, pH hM hn mm⟩
end
def bL (n : Nat) (ls : List L) : En := ls.map some ++ List.replicate (n - ls.length) none
def fY (n : Nat) (f : MS) (ls : List L) : Res L := match f (bL n ls) with
 | some (.nx _) => .ok (.p .none)
 | some (.rt l) => .ok l
 | some (.ex C _) => .exc C
 | _ => .bad
theorem pJ {K : PySem.W.Frag} {W : Addr -> Option Nat} {G H : Hp} : ∀ {vs : List V} {ls : List L} (i : Nat) (l : L), ArgsOk K G vs ls -> ls[i]? = some l -> ∃ v, vs[i]? = some v /\ ∀ j, Slot K W G H j v l
 | [], [], _, _, _, e => by simp at e
 | v :: vs, l :: ls, 0, m, h, e => by
  simp at e; subst e
  refine ⟨v, rfl, fun j => ?_⟩
  have z := h.1
  cases l with
  | p d => exact z
  | x C => exact z
  | h a => exact z.elim
  | o d => exact z.elim
 | v :: vs, l :: ls, i + 1, m, h, e => by
  have := pJ (W := W) (H := H) i m h.2 (by simpa using e)
  simpa using this
theorem zA {K : PySem.W.Frag} {W : Addr -> Option Nat} {G H : Hp} {N : List Str} {vs : List V} {ls : List L} (h : ArgsOk K G vs ls) : SimS K W G H (L2.start N vs) (bL N.length ls) := by
 have hl := h.length
 refine ⟨by unfold L2.start bL; simp [hl], fun i l e => ?_⟩
 unfold bL at e
 by_cases hi : i < ls.length
 ·rw [List.getElem?_append_left (by rw [List.length_map]; exact hi), List.getElem?_map] at e
  cases e2 : ls[i]? with
  | none => rw [e2] at e; cases e
  | some l' =>
   rw [e2] at e
   cases e
   obtain ⟨v, e3, e4⟩ := pJ (W := W) (H := H) i l h e2
   refine ⟨v, ?_, e4 i⟩
   unfold L2.start
   rw [List.getElem?_append_left (by rw [List.length_map, hl]; exact hi), List.getElem?_map, e3]
   rfl
 ·rw [List.getElem?_append_right (by rw [List.length_map]; omega), List.getElem?_replicate] at e
  split at e <;> cases e
theorem uK {G H G' H' : Hp} {W : Addr -> Option Nat} (h : SimH H G G' W H') : Step G H G' H' := ⟨h.g0, h.bh, h.gh, fun b hb hg => by
 cases e : G' b with
 | none => exact .inl rfl
 | some o =>
  rcases h.gb b (by rw [e]; exact fun z => nomatch z) with z | z | z
  ·exact absurd hg z
  ·exact absurd z hb
  ·exact .inr z⟩
theorem aBz {K : PySem.W.Frag} {N : List Str} {n : Nat} {m : List L -> Res L} {fm : MS} {vs : List V} {H : Hp} {Q : VK} {E : XK} (h : spM K n m vs H Q E) (hm : ∀ ls, m ls = .bad \/ fY N.length fm ls = m ls) :
  tS K (fun _ => E) fm { nx := fun _ H' => Q .non H', rt := Q } (L2.start N vs) H := by
 obtain ⟨hl, G, ls, gh, ha, hw⟩ := h
 refine ⟨H, G, G, fun _ => none, bL N.length ls, ⟨gh, Same.refl _, Same.refl _, fun _ hb => .inl hb, fun a i e => nomatch e⟩, zA ha, ?_⟩
 rcases hm ls with e | e
 ·rw [e] at hw; exact hw.elim
 ·rw [<- e] at hw
  unfold fY at hw
  cases ef : fm (bL N.length ls) with
  | none => rw [ef] at hw; exact hw
  | some o =>
   rw [ef] at hw
   cases o with
   | nx en => exact fun G' W' H' σ' h1 _ => hw G' H' .non (uK h1) .non
   | rt l => exact fun G' W' H' v h1 h2 => hw G' H' v (uK h1) h2
   | bk en => exact hw.elim
   | ct en => exact hw.elim
   | ex C en => exact fun G' W' H' σ' h1 _ => hw G' H' (uK h1)
section
variable {P : Program} {w : World} {K : PySem.W.Frag} {mg : Str -> Option Value} {base : Heap}
theorem cZ {N : List Str} {qual : Str} {scope : Scope} {f : Addr} {cd : Value} {A : Around} {outer : List Env} {s : Shared} {H : Hp} {E : XK} : nP (CXr P w) (vA (CXr P w) P w K mg base N qual scope f cd A outer s H E) (fun _ => E) :=
 fun pins σ H s e s' I h => aNi pins σ H s e s' I h
theorem aG6 {X : Cx} : nP (CXr P w) X (fun _ => E0) := fun _ _ _ _ _ _ _ ⟨_, _, _, _, _, _, _, z⟩ => z.elim
theorem fnM {x qual : Str} {st : Stmt} {f : Addr} {fd : FuncData} {N ps : List Str} {k n : Nat} {m : List L -> Res L} (F : Fun K x qual st f fd) (S : bI N ps (aQ st)) (hn : n = ps.length)
  (hbody : ∀ (cdv : Value) (A : Around) (outer : List Env) (s : Shared) (H : Hp) (E : XK), Room k (A.deeper (envOfC qual (aQ st) s.heap.objs.size f cdv)) ->
   ∃ fm, DSs (vA (CXr P w) P w K mg base N qual (aQ st) f cdv A outer s H E) (fun _ => E) (gS st) fm /\ ∀ ls, m ls = .bad \/ fY N.length fm ls = m ls) : FnOk P w K mg base (CXr P w) (k + 1) f fd ps (spM K n m) := by
 refine F.okX S (fun vs H Q E h => ?_) (fun cdv A outer s H vs Q E hr h => ?_)
 ·rw [<- hn]; exact h.1
 ·obtain ⟨fm, hd, hm⟩ := hbody cdv A outer s H E hr
  exact ⟨_, hd, aBz h hm⟩
end
def nZ (C : Addr) (fr : En -> Res (List Ev)) : MS := fun en => match fr en with
 | .ok rs => if rs.length <= 1000 then some (.ex C en) else none
 | .exc C => some (.ex C en)
 | .bad => none
section
variable {X : Cx}
end
def jV : List Ev -> Option (List D)
 | [] => some []
 | r :: rs => match r with
  | .p d => match jV rs with
   | some ds => some (d :: ds)
   | none => none
  | _ => none
theorem mW {K : PySem.W.Frag} {W : Addr -> Option Nat} {Hs G H : Hp} : ∀ {rs : List Ev} {ds : List D} {vs : List V}, jV rs = some ds -> aG7 K W Hs G H vs rs -> Reps K G vs ds
 | [], _, [], h, _ => by cases h; exact .nil
 | [], _, _ :: _, _, e => e.elim
 | _ :: _, _, [], _, e => e.elim
 | r :: rs, ds, v :: vs, h, e => by
  unfold jV at h
  cases r with
  | p d =>
   dsimp only at h
   cases er : jV rs with
   | none => rw [er] at h; cases h
   | some ds' => rw [er] at h; cases h; exact .cons e.1 (mW er e.2)
  | x C => cases h
  | b d => cases h
  | f d => cases h
def d6 (rs : List Ev) : Res Ev := match jV rs with
 | some ds => if ds.length <= 1000 then .ok (.p (.tuple ds)) else .bad
 | none => .bad
def k8 (rs : List Ev) : Res Ev := match jV rs with
 | some ds => if ds.length <= 1000 then .ok (.f (.list ds)) else .bad
 | none => .bad
section
variable {X : Cx} {E : L2.St -> XK} {es : List Expr} {fr : En -> Res (List Ev)} {pos : Pos}
theorem eD {x1} (h : DA X E es fr) : DE X E (.Tuple es x1 pos) (aN d6 fr) := by
 obtain ⟨t, q, m⟩ := h.out
 refine DE.in ⟨_, aKo q, fun B G0 G W H σ en Q hh hs hw => m B G0 G W H σ en _ hh hs ?_⟩
 have hw : wpR ((fr en).bind _) _ _ := hw
 rw [bS] at hw
 refine bA hw (fun rs hr G1 H1 vs s e => ?_) fun C h => h
 unfold d6 at hr
 split at hr
 ·rename_i ds el
  have rp := mW el e
  split at hr
  ·rename_i hl
   refine ⟨by rw [rp.length]; exact Nat.le_trans hl (by decide), fun p hp => ?_⟩
   have st := Step.put (o := .tup vs) s.gh hp
   exact hr _ _ _ (s.trans st) (.tup bQ (rp.mono st.g))
  ·exact False.elim hr
 ·exact False.elim hr
theorem aBo (h : DA X E es fr) : DE X E (.List es pos) (aN k8 fr) := by
 obtain ⟨t, q, m⟩ := h.out
 refine DE.in ⟨_, aKi q, fun B G0 G W H σ en Q hh hs hw => m B G0 G W H σ en _ hh hs ?_⟩
 have hw : wpR ((fr en).bind _) _ _ := hw
 rw [bS] at hw
 refine bA hw (fun rs hr G1 H1 vs s e => ?_) fun C h => h
 unfold k8 at hr
 split at hr
 ·rename_i ds el
  have rp := mW el e
  split at hr
  ·rename_i hl
   refine ⟨by rw [rp.length]; exact Nat.le_trans hl (by decide), fun p hp => ?_⟩
   have st := Step.lay (o := .lst vs) s.gh hp
   exact hr _ _ _ (s.trans st) ⟨p, _, rfl, s.h.free hp, s.gh.free hp, bQ, .lst rp⟩
  ·exact False.elim hr
 ·exact False.elim hr
end
def t5 (g : D -> Option (Option D)) : List D -> Option (List D)
 | [] => some []
 | d :: ds => match g d with
  | none => none
  | some o => match t5 g ds with
   | none => none
   | some r => some (match o with
    | some y => y :: r
    | none => r)
def aFz (o : Option (Option L)) : Option L := match o with
 | some (some (.p d)) => some (.p d)
 | some (some (.x C)) => some (.x C)
 | _ => none
def aCy (js : List Nat) (en : En) : En := js.map fun j => aFz en[j]?
def rD : En -> Res Bool := fun _ => .ok true
def cS (n : Nat) (js : List Nat) (tg : D -> En -> Option En) (ft : En -> Res Bool) (fe : En -> Res Ev) (en : En) (d : D) : Option (Option D) := match tg d (List.replicate n none ++ aCy js en) with
 | none => none
 | some e => match ft e with
  | .ok true => match fe e with
   | .ok r => match r.c with
    | .p y => some (some y)
    | _ => none
   | _ => none
  | .ok false => some none
  | _ => none
def aAp (g : D -> Option (Option D)) (ds : List D) : Res Ev := if ds.length <= 100000 then match t5 g ds with
  | some r => .ok (.f (.list r))
  | none => .bad
 else .bad
def jH (n : Nat) (js : List Nat) (fi : En -> Res (List D)) (tg : D -> En -> Option En) (ft : En -> Res Bool) (fe : En -> Res Ev) : En -> Res Ev := fun en => (fi en).bind fun ds => aAp (cS n js tg ft fe en) ds
def DTs (X : Cx) (ifs : List Expr) (f : En -> Res Bool) : Prop := PTs X ifs (tT X.K (fun _ => E0) f)
theorem aPg {G H : Hp} (h : Same G H) : SimH H G G (fun _ => none) H := ⟨h, Same.refl _, Same.refl _, fun _ hb => .inl hb, fun a i e => nomatch e⟩
theorem aFt {K : PySem.W.Frag} {W : Addr -> Option Nat} {G H : Hp} {σ : L2.St} {en : En} (n : Nat) (js : List Nat) (h : SimS K W G H σ en) : SimS K (fun _ => none) G H (List.replicate n none ++ xP js σ) (List.replicate n none ++ aCy js en) := by
 refine ⟨by unfold xP aCy; simp, fun i l e => ?_⟩
 by_cases hi : i < n
 ·rw [List.getElem?_append_left (by rw [List.length_replicate]; exact hi), List.getElem?_replicate] at e
  split at e <;> cases e
 ·rw [List.getElem?_append_right (by rw [List.length_replicate]; omega), List.length_replicate] at e ⊢
  unfold aCy at e
  unfold xP
  rw [List.getElem?_map] at e ⊢
  cases ej : js[i - n]? with
  | none => rw [ej] at e; cases e
  | some j =>
   rw [ej] at e
   have e' : aFz en[j]? = some l := Option.some.inj e
   unfold aFz at e'
   split at e'
   ·rename_i d q
    cases e'
    obtain ⟨v, h1, h2⟩ := h.2 j _ q
    exact ⟨v, by show some ((σ[j]?).getD none) = _; rw [h1]; rfl, h2⟩
   ·rename_i d q
    cases e'
    obtain ⟨v, h1, h2⟩ := h.2 j _ q
    exact ⟨v, by show some ((σ[j]?).getD none) = _; rw [h1]; rfl, h2⟩
   ·cases e'
section
variable {X : Cx} {E : L2.St -> XK} {pos : Pos}
theorem pQ : DTs X [] rD := fun pins s σ H Q I ⟨B, G0, G, W, en, h1, h2, h3⟩ => aHz pins s σ H Q I (h3 G H (Step.refl h1.gh))
theorem aJo {c : Expr} {f : En -> Res Bool} (h : DT X (fun _ => E0) c f) : DTs X [c] f := aIf h
theorem wY {elt iter tg : Expr} {scope : Scope} {ifs : List Expr} {n : Nat} {js ks : List Nat} {fi : En -> Res (List D)} {g : D -> En -> Option En} {ft : En -> Res Bool} {fe : En -> Res Ev} {xs ys : List Str} {cl : List (Str × Addr)} (hc : X.calm = true) (hi : DI X E tg iter fi)
  (hcl : aIp X scope cl) (hcap : oW X scope cl ys js) (hcell : ∀ y ∈ scope.names, y.2 ≠ .cell) (hkind : scope.kind = .function) (hnames : ∀ y ∈ scope.names, y.2 = .local -> scope.names.lookup y.1 = some .local) (hn : xs.length = n) (hks : ∀ j ∈ ks, j < n)
  (hg : ∀ C s₀ H₀ ex pn, DG (bV X scope cl C (xs ++ ys) s₀ H₀ ex pn) tg ks g) (ht : ∀ C s₀ H₀ ex pn, DTs (bV X scope cl C (xs ++ ys) s₀ H₀ ex pn) ifs ft) (hb : ∀ C s₀ H₀ ex pn, DE (bV X scope cl C (xs ++ ys) s₀ H₀ ex pn) (fun _ => E0) elt fe)
  : ∀ B G0 G W H σ en Q, SimH B G0 G W H -> SimS X.K W G H σ en -> wpR (jH n js fi g ft fe en) (PostE X.K W G H Q) (PostX (E σ) G H) -> xD (tI X.K E fi) (tG X.K ks g) (tT X.K (fun _ => E0) ft) (tE X.K (fun _ => E0) fe) xs.length js σ H Q := by
 subst hn
 refine fun B G0 G W H σ en Q hh hs hw => ⟨B, G0, G, W, en, hh, hs, ?_⟩
 have hw : wpR ((fi en).bind _) _ _ := hw
 rw [bS] at hw
 refine bA hw (fun ds hds G1 H1 J s1 hJ D hD => ?_) fun C h => h
 unfold aAp at hds
 split at hds
 case isFalse => exact hds.elim
 rename_i hlen
 split at hds
 case h_2 => exact hds.elim
 rename_i r em
 have gD : G1 D = none := s1.gh.free hD
 have aN6 : ∀ {G2 H2 : Hp} {y : List V}, Step G1 H1 G2 H2 -> G2 D = none -> Step G1 H1 G2 (upd H2 D (.lst y)) := fun st hg2 => by
  refine ⟨st.g, fun b o e => ?_, fun b o e => ?_, st.new⟩
  ·rw [bJ (dC e hD)]; exact st.h b o e
  ·rw [bJ (dC e hg2)]; exact st.gh b o e
 refine ⟨ds.length, fun i ys H2 => i <= ds.length /\ ys.length <= i /\ ∃ G2 rs rest, Step G1 H1 G2 H2 /\ G2 D = none /\ H2 D = some (.lst ys) /\ Reps X.K G2 ys rs /\ t5 (cS xs.length js g ft fe en) (ds.drop i) = some rest /\ rs ++ rest = r,
  ⟨Nat.zero_le _, Nat.zero_le _, G1, [], r, Step.lay s1.gh hD, gD, bQ, .nil, em, rfl⟩, ?_⟩
 rintro i zs H2 ⟨hi, hzl, G2, rs, rest, st, g2, h2, rp, em2, er⟩
 obtain ⟨j1, j2⟩ := hJ G2 H2 st.g st.gh
 by_cases hlt : i < ds.length
 ·refine .inr ⟨hlt, ?_⟩
  obtain ⟨jg, jy⟩ := j1 i ds[i] (List.getElem?_eq_getElem hlt)
  refine ⟨jg, fun v H3 hy => ?_⟩
  obtain ⟨G3, s3, rv⟩ := jy v H3 hy
  rw [List.drop_eq_getElem_cons hlt] at em2
  unfold t5 at em2
  cases ec : cS xs.length js g ft fe en ds[i] with
  | none => rw [ec] at em2; cases em2
  | some o =>
   rw [ec] at em2
   dsimp only at em2
   cases em3 : t5 (cS xs.length js g ft fe en) (ds.drop (i + 1)) with
   | none => rw [em3] at em2; cases em2
   | some rest' =>
    rw [em3] at em2
    have em2 := Option.some.inj em2
    unfold cS at ec
    split at ec
    ·cases ec
    ·rename_i e eg
     have in3 := aFt xs.length js (hs.step ((s1.trans st).trans s3))
     refine ⟨G3, fun _ => none, _, ds[i], e, s3.gh, in3, rv, eg, fun σ' hσ hk => ⟨⟨?_, ?_⟩, ?_⟩⟩
     ·rw [hk.1]; unfold xP; simp
     ·refine List.ext_getElem? fun j => ?_
      rw [List.getElem?_drop, hk.2 (xs.length + j) fun z => absurd (hks _ z) (by omega), List.getElem?_append_right (by rw [List.length_replicate]; omega), List.length_replicate]
      congr 1
      omega
     ·refine ⟨_, _, G3, fun _ => none, e, aPg s3.gh, hσ, ?_⟩
      cases et : ft e with
      | bad => rw [et] at ec; cases ec
      | exc C => rw [et] at ec; cases ec
      | ok k =>
       rw [et] at ec
       intro G5 H5 s5
       cases k with
       | false =>
        cases ec
        rw [if_neg Bool.false_ne_true]
        have s25 := s3.trans s5
        exact ⟨hlt, Nat.le_succ_of_le hzl, G5, rs, rest', st.trans s25, s25.off h2 (fun xs z => nomatch z) g2, s25.h _ _ h2, rp.mono s25.g, em3, by rw [<- er, <- em2]⟩
       | true =>
        rw [if_pos rfl]
        refine ⟨_, _, G5, fun _ => none, e, aPg s5.gh, hσ.step s5, ?_⟩
        dsimp only at ec
        cases ee : fe e with
        | bad => rw [ee] at ec; cases ec
        | exc C => rw [ee] at ec; cases ec
        | ok q =>
         rw [ee] at ec
         intro G6 H6 y s6 ey
         obtain ⟨G7, s7, e7⟩ := EOk.c s6 ey
         dsimp only at ec
         split at ec
         ·rename_i y' eq
          cases ec
          rw [eq] at e7
          have s27 := (s3.trans s5).trans s7
          have g7 := s27.off h2 (fun xs z => nomatch z) g2
          refine ⟨s27.h _ _ h2, Nat.lt_of_le_of_lt (Nat.le_trans hzl (Nat.le_trans hi hlen)) (by decide), hlt, by rw [List.length_append]; exact Nat.succ_le_succ hzl, G7, rs ++ [y'], rest', aN6 (st.trans s27) g7, g7, bQ, (rp.mono s27.g).append (.cons e7 .nil), em3, ?_⟩
          rw [<- er, <- em2, List.append_assoc]
          rfl
         ·cases ec
 ·have e : i = ds.length := by omega
  subst e
  rw [List.drop_length] at em2
  cases em2
  rw [List.append_nil] at er
  subst er
  exact .inl ⟨j2, hds G2 H2 _ (s1.trans st) ⟨D, _, rfl, s1.h.free hD, g2, h2, .lst rp⟩⟩
theorem pY {elt iter tg : Expr} {scope : Scope} {ifs : List Expr} {n : Nat} {js ks : List Nat} {fi : En -> Res (List D)} {g : D -> En -> Option En} {ft : En -> Res Bool} {fe : En -> Res Ev} {xs ys : List Str} {cl : List (Str × Addr)} (hc : X.calm = true) (hi : DI X E tg iter fi)
  (hcl : aIp X scope cl) (hcap : oW X scope cl ys js) (hcell : ∀ y ∈ scope.names, y.2 ≠ .cell) (hkind : scope.kind = .function) (hnames : ∀ y ∈ scope.names, y.2 = .local -> scope.names.lookup y.1 = some .local) (hn : xs.length = n) (hks : ∀ j ∈ ks, j < n)
  (hg : ∀ C s₀ H₀ ex pn, DG (bV X scope cl C (xs ++ ys) s₀ H₀ ex pn) tg ks g) (ht : ∀ C s₀ H₀ ex pn, DTs (bV X scope cl C (xs ++ ys) s₀ H₀ ex pn) ifs ft) (hb : ∀ C s₀ H₀ ex pn, DE (bV X scope cl C (xs ++ ys) s₀ H₀ ex pn) (fun _ => E0) elt fe)
  (hs : ∀ x, foldedSetIterable iter X.env x = pure x := by intro _; rfl) : DE X E (.ListComp elt [⟨tg, iter, ifs, 0⟩] scope pos) (jH n js fi g ft fe) :=
 DE.in ⟨_, aC9 (xs := xs) (g := tG X.K ks g) (tt := tT X.K (fun _ => E0) ft) (te := tE X.K (fun _ => E0) fe) hc hi hcl hcap hcell hkind hnames hg ht hb hs, wY hc hi hcl hcap hcell hkind hnames hn hks hg ht hb⟩
theorem aI6 {i : Nat} {y : Str} {py spos : Pos} (hN : X.N.Nodup) (hiN : X.N[i]? = some y) (hx : Loc X.env.scope y) {elt iter tg : Expr} {scope : Scope} {ifs : List Expr} {n : Nat} {js ks : List Nat} {fi : En -> Res (List D)} {g : D -> En -> Option En} {ft : En -> Res Bool} {fe : En -> Res Ev} {xs ys : List Str} {cl : List (Str × Addr)} (hc : X.calm = true) (hi : DI X E tg iter fi)
  (hcl : aIp X scope cl) (hcap : oW X scope cl ys js) (hcell : ∀ y ∈ scope.names, y.2 ≠ .cell) (hkind : scope.kind = .function) (hnames : ∀ y ∈ scope.names, y.2 = .local -> scope.names.lookup y.1 = some .local) (hn : xs.length = n) (hks : ∀ j ∈ ks, j < n)
  (hg : ∀ C s₀ H₀ ex pn, DG (bV X scope cl C (xs ++ ys) s₀ H₀ ex pn) tg ks g) (ht : ∀ C s₀ H₀ ex pn, DTs (bV X scope cl C (xs ++ ys) s₀ H₀ ex pn) ifs ft) (hb : ∀ C s₀ H₀ ex pn, DE (bV X scope cl C (xs ++ ys) s₀ H₀ ex pn) (fun _ => E0) elt fe)
  (hsw : swapsWith (.ListComp elt [⟨tg, iter, ifs, 0⟩] scope pos) (some (.Name y py)) spos.line X.env = pure true := by rfl) (hs : ∀ x, foldedSetIterable iter X.env x = pure x := by intro _; rfl)
  (hf : X.fn y = true \/ X.env.scope.names.lookup y = some .local := by first | exact .inl rfl | exact .inr rfl | assumption) : DS X E (.Assign [.Name y py] (.ListComp elt [⟨tg, iter, ifs, 0⟩] scope pos) spos) (cP i (jH n js fi g ft fe)) :=
 DS.in ⟨_, aEa (xs := xs) (g := tG X.K ks g) (tt := tT X.K (fun _ => E0) ft) (te := tE X.K (fun _ => E0) fe) hN hiN hx hc hi hcl hcap hcell hkind hnames hg ht hb hsw hs hf, wW (wY hc hi hcl hcap hcell hkind hnames hn hks hg ht hb)⟩
end
section
variable {X : Cx} {K : PySem.W.Frag}
def rOr (r r' : R2) : R2 := fun x y H Q => r x y H Q \/ r' x y H Q
theorem OpR.or' {f : Value -> Value -> Sem Value} {r r' : R2} (h : OpR X f r) (h' : OpR X f r') : OpR X f (rOr r r') := OpR.or h h'
def aK8 : R2 := fun x y H Q => ∃ l b xs zs, x = .ref l /\ y = .ref b /\ Rd H l (.lst xs) /\ Rd H b (.lst zs) /\ xs.length + zs.length <= sizeLine /\ ∀ p, H p = none -> Q (.ref p) (upd H p (.lst (xs ++ zs)))
theorem aHx : OpR X (binaryOp .Add) aK8 := by
 intro pins s σ H x y v u Q I rx ry h
 obtain ⟨l, b, xs, zs, rfl, rfl, hH, hB, hz, q⟩ := h
 cases rx
 cases ry
 obtain ⟨z, its, n, r, e⟩ := hH.ok I.hok
 obtain ⟨z2, its2, n2, r2, e2⟩ := hB.ok I.hok
 have hl := r.length
 have hl2 := r2.length
 refine PySem.P.add_list e e2 ?_ (by rw [List.size_toArray, List.size_toArray]; omega)
 have ea : its.toArray ++ its2.toArray = (its ++ its2).toArray := by simp
 rw [ea]
 exact ⟨.ref _, _, I.lnew (t' := s.toks) (r.append r2) (by rw [List.length_append]; omega), rfl, q _ I.fresh⟩
def aH1 : R2 := fun x y H Q => ∃ i j, x = .str i /\ y = .str j /\ i.length + j.length <= sizeLine /\ Q (.str (i ++ j)) H
def gF : Ev -> Option (List D)
 | .p (.list ds) => some ds
 | .b (.list ds) => some ds
 | _ => none
theorem pD {W : Addr -> Option Nat} {Hs G H : Hp} {v : V} {r : Ev} {ds : List D} (gh : Same G H) (h : EOk K W Hs G H v r) (e : gF r = some ds) : ∃ a xs, v = .ref a /\ Rd H a (.lst xs) /\ Reps K G xs ds := by
 cases r with
 | p d =>
  cases d with
  | list es =>
   cases e
   cases h with
   | @lst a xs _ h1 h2 => exact ⟨a, xs, rfl, gJ gh h1, h2⟩
  | _ => cases e
 | b d =>
  cases d with
  | list es =>
   cases e
   obtain ⟨a, i, o, rfl, h1, h2, h3⟩ := h
   cases h3 with
   | @lst xs _ h4 => exact ⟨a, xs, rfl, .inl h2, h4⟩
  | _ => cases e
 | f d => cases e
 | x C => cases e
def dat : Ev -> Option D
 | .p d => some d
 | .b d => some d
 | _ => none
theorem EOk.read {W : Addr -> Option Nat} {Hs G H : Hp} {v : V} {r : Ev} {d : D} (gh : Same G H) (h : EOk K W Hs G H v r) (e : dat r = some d) : Rep K H v d := by
 cases r with
 | p d => cases e; exact Rep.mono gh h
 | b d =>
  cases e
  obtain ⟨a, i, o, rfl, h1, h2, h3⟩ := h
  exact (h3.mono gh).rep h2
 | f d => cases e
 | x C => cases e
open Classical in
noncomputable def wX (C : Int -> Int -> Prop) (g : Int -> Int -> D) (x y : Ev) : Res Ev := match x, y with
 | .p (.int i), .p (.int j) => if C i j then .ok (.p (g i j)) else .bad
 | _, _ => .bad
def iH (g : Int -> Int -> D) (x y : Ev) : Res Ev := match x, y with
 | .p (.int i), .p (.int j) => .ok (.p (g i j))
 | _, _ => .bad
theorem aB {C : Int -> Int -> Prop} {g : Int -> Int -> D} : NoX (wX C g) := by
 intro x y A h
 unfold wX at h
 split at h
 ·split at h <;> cases h
 ·cases h
theorem aP {g : Int -> Int -> D} : NoX (iH g) := by
 intro x y A h
 unfold iH at h
 split at h <;> cases h
theorem tU {C : Int -> Int -> Prop} {g : Int -> Int -> D} {gv : Int -> Int -> V} (hg : ∀ G i j, Rep K G (gv i j) (g i j)) : OpM K (rI C gv) (wX C g) := by
 intro W G H v u x y Q gh hx hy hw
 unfold wX at hw
 split at hw
 ·rename_i i j e1 e2
  rw [e1] at hx; rw [e2] at hy
  cases hx; cases hy
  split at hw
  ·rename_i hc
   exact ⟨i, j, rfl, rfl, hc, hw G H _ (Step.refl gh) (hg G i j)⟩
  ·exact hw.elim
 ·exact hw.elim
theorem aAz {g : Int -> Int -> D} {gv : Int -> Int -> V} (hg : ∀ G i j, Rep K G (gv i j) (g i j)) : OpM K (rI0 gv) (iH g) := by
 intro W G H v u x y Q gh hx hy hw
 unfold iH at hw
 split at hw
 ·rename_i i j e1 e2
  rw [e1] at hx; rw [e2] at hy
  cases hx; cases hy
  exact ⟨i, j, rfl, rfl, hw G H _ (Step.refl gh) (hg G i j)⟩
 ·exact hw.elim
noncomputable abbrev d8 : Ev -> Ev -> Res Ev := wX CMulW fun i j => .int (i * j)
noncomputable abbrev eU : Ev -> Ev -> Res Ev := wX fI fun i j => .int (i.fdiv j)
noncomputable abbrev eS : Ev -> Ev -> Res Ev := wX (fun _ j => j ≠ 0) fun i j => .int (i.fmod j)
noncomputable abbrev oV : Ev -> Ev -> Res Ev := wX aDq fun i j => .int (i ^ j.toNat)
abbrev iV : Ev -> Ev -> Res Ev := iH fun i j => .int (i - j)
abbrev ltE : Ev -> Ev -> Res Ev := iH fun i j => .bool (decide (i < j))
abbrev leE : Ev -> Ev -> Res Ev := iH fun i j => .bool (decide (i <= j))
abbrev gtE : Ev -> Ev -> Res Ev := iH fun i j => .bool (decide (j < i))
theorem aX : OpM K (rI CMulW fun i j => .int (i * j)) d8 := tU fun _ _ _ => .int _
theorem cU : OpM K (rI fI fun i j => .int (i.fdiv j)) eU := tU fun _ _ _ => .int _
theorem bN : OpM K (rI (fun _ j => j ≠ 0) fun i j => .int (i.fmod j)) eS := tU fun _ _ _ => .int _
theorem iP : OpM K (rI aDq fun i j => .int (i ^ j.toNat)) oV := tU fun _ _ _ => .int _
theorem cJ : OpM K (rI0 fun i j => .int (i - j)) iV := aAz fun _ _ _ => .int _
def eK (x y : Ev) : Res Ev := match x, y with
 | .p (.int i), .p (.int j) => .ok (.p (.int (i + j)))
 | .p (.str i), .p (.str j) => if i.length + j.length <= 100000 then .ok (.p (.str (i ++ j))) else .bad
 | x, y => match gF x, gF y with
  | some ds, some es => if ds.length + es.length <= 100000 then .ok (.f (.list (ds ++ es))) else .bad
  | _, _ => .bad
theorem bF : NoX eK := by
 intro x y A h
 unfold eK at h
 split at h
 ·cases h
 ·split at h <;> cases h
 ·split at h
  ·split at h <;> cases h
  ·cases h
abbrev aMz : R2 := rOr (rI0 fun i j => .int (i + j)) (rOr aH1 aK8)
theorem bH : OpR X (binaryOp .Add) aMz := OpR.or' aK0 (OpR.or' xW aHx)
theorem b9 : OpM K aMz eK := by
 intro W G H v u x y Q gh hx hy hw
 unfold eK at hw
 split at hw
 ·rename_i i j e1 e2
  rw [e1] at hx; rw [e2] at hy
  cases hx; cases hy
  exact .inl ⟨i, j, rfl, rfl, hw G H _ (Step.refl gh) (.int _)⟩
 ·rename_i i j e1 e2
  rw [e1] at hx; rw [e2] at hy
  cases hx; cases hy
  split at hw
  ·rename_i hl
   exact .inr (.inl ⟨i, j, rfl, rfl, Nat.le_trans hl (by decide), hw G H _ (Step.refl gh) (.str _)⟩)
  ·exact hw.elim
 ·split at hw
  ·rename_i ds es e1 e2
   obtain ⟨a, xs, rfl, h1, h2⟩ := pD gh hx e1
   obtain ⟨b, ys, rfl, h3, h4⟩ := pD gh hy e2
   split at hw
   ·rename_i hl
    refine .inr (.inr ⟨a, b, xs, ys, rfl, rfl, h1, h3, by rw [h2.length, h4.length]; exact Nat.le_trans hl (by decide), fun p hp => ?_⟩)
    exact hw _ _ _ (Step.lay gh hp) ⟨p, _, rfl, hp, gh.free hp, bQ, .lst (h2.append h4)⟩
   ·exact hw.elim
  ·exact hw.elim
theorem kW {p : Int -> Int -> Bool} : OpM K (rI0 fun i j => .bl (p i j)) (iH fun i j => .bool (p i j)) := aAz fun _ _ _ => .bl _
mutual
theorem Rep.reads {P : Program} {w : World} {H : Hp} {h : Heap} (ok : HOk P w H h) : ∀ {v : V} {d : D}, Rep K H v d -> d.canLay0 = true -> ∀ {u : Value}, RelV v u -> ∃ as, Reads h u d as
 | _, _, .non, _, _, e => by cases e; exact ⟨_, Reads.none⟩
 | _, _, .bl b, _, _, e => by cases e; exact ⟨_, Reads.bool b⟩
 | _, _, .int i, _, _, ⟨t, e⟩ => by subst e; exact ⟨_, Reads.int i t⟩
 | _, _, .str i, _, _, ⟨t, e⟩ => by subst e; exact ⟨_, Reads.str i t⟩
 | _, _, .tup hh r, hc, _, e => by
  have e : _ = Value.ref _ := e
  subst e
  obtain ⟨_, its, rv, o, ho, hcl, n, hd⟩ := (show ObjOk P w H h _ _ from ok _ _ hh)
  obtain ⟨as, q⟩ := Reps.reads ok r (by simpa [PyData.canLay0] using hc) rv
  exact ⟨as, reads_tuple_at ho hcl hd (by simpa using q)⟩
 | _, _, .lst hh r, hc, _, e => by
  have e : _ = Value.ref _ := e
  subst e
  obtain ⟨_, its, n, rv, ho⟩ := hh.ok ok
  obtain ⟨as, q⟩ := Reps.reads ok r (by simpa [PyData.canLay0] using hc) rv
  exact ⟨_, reads_list_at ho rfl rfl (by simpa using q)⟩
 | _, _, .dT _ _, hc, _, _ => by simp [PyData.canLay0] at hc
 | _, _, .dK _ _, hc, _, _ => by simp [PyData.canLay0] at hc
theorem Reps.reads {P : Program} {w : World} {H : Hp} {h : Heap} (ok : HOk P w H h) : ∀ {vs : List V} {ds : List D}, Reps K H vs ds -> PyData.canLayAll0 ds = true -> ∀ {us : List Value}, Vals vs us -> ∃ as, ReadsAll h us ds as
 | _, _, .nil, _, _, .nil => ⟨_, ReadsAll.nil⟩
 | _, _, .cons hd r, hc, _, .cons rv rt => by
  simp only [PyData.canLayAll0, Bool.and_eq_true] at hc
  obtain ⟨as, q⟩ := Rep.reads ok hd hc.1 rv
  obtain ⟨bs, p⟩ := Reps.reads ok r hc.2 rt
  exact ⟨_, ReadsAll.cons q p⟩
end
def aO5 (K : PySem.W.Frag) (ng : Bool) : R2 := fun x y H Q => ∃ d e, Rep K H x d /\ Rep K H y e /\ SeqAt.shaped d = true /\ SeqAt.shaped e = true /\ Q (.bl (if ng then !PyData.eqv d e else PyData.eqv d e)) H
theorem gN {K : PySem.W.Frag} (hu : X.A.units + 64 < cLine) : OpR X (compareOp .Eq) (aO5 K false) := by
 intro pins s σ H x y v u Q I rx ry h
 obtain ⟨d, e, h1, h2, o1, o2, q⟩ := h
 obtain ⟨as, r1⟩ := h1.reads I.hok (Bool.and_eq_true_iff.mp o1).1 rx
 obtain ⟨bs, r2⟩ := h2.reads I.hok (Bool.and_eq_true_iff.mp o2).1 ry
 exact eq_dataH r1 r2 o1 o2 hu ⟨.bl _, H, I, rfl, q⟩
theorem nN {K : PySem.W.Frag} (hu : X.A.units + 64 < cLine) : OpR X (compareOp .NotEq) (aO5 K true) := by
 intro pins s σ H x y v u Q I rx ry h
 obtain ⟨d, e, h1, h2, o1, o2, q⟩ := h
 obtain ⟨as, r1⟩ := h1.reads I.hok (Bool.and_eq_true_iff.mp o1).1 rx
 obtain ⟨bs, r2⟩ := h2.reads I.hok (Bool.and_eq_true_iff.mp o2).1 ry
 exact ne_dataH r1 r2 o1 o2 hu ⟨.bl _, H, I, rfl, q⟩
def eqE (ng : Bool) (x y : Ev) : Res Ev := match dat x, dat y with
 | some d, some e => if SeqAt.shaped d = true /\ SeqAt.shaped e = true then .ok (.p (.bool (if ng then !PyData.eqv d e else PyData.eqv d e))) else .bad
 | _, _ => .bad
theorem dZ {ng : Bool} : NoX (eqE ng) := by
 intro x y A h
 unfold eqE at h
 split at h
 ·split at h <;> cases h
 ·cases h
theorem gU {ng : Bool} : OpM K (aO5 K ng) (eqE ng) := by
 intro W G H v u x y Q gh hx hy hw
 unfold eqE at hw
 split at hw
 ·rename_i d e e1 e2
  split at hw
  ·rename_i hs
   exact ⟨d, e, hx.read gh e1, hy.read gh e2, hs.1, hs.2, hw G H _ (Step.refl gh) (.bl _)⟩
  ·exact hw.elim
 ·exact hw.elim
def qP (ng : Bool) (x : Ev) : Res Ev := match x with
 | .p .none => .ok (.p (.bool (!ng)))
 | .p _ => .ok (.p (.bool ng))
 | .b _ => .ok (.p (.bool ng))
 | _ => .bad
def mUn (op : Ev -> Res Ev) (fa : En -> Res Ev) : En -> Res Ev := fun en => (fa en).bind fun x => op x.c
variable {E : L2.St -> XK} {a b : Expr} {fa fb : En -> Res Ev} {pos : Pos}
theorem qW {ng : Bool} {W : Addr -> Option Nat} {G H : Hp} {v : V} {x : Ev} {Q : VK} (gh : Same G H) (hx : EOk K W H G H v x.c) {EE : XK} (hw : wpR (qP ng x.c) (PostE K W G H Q) (PostX EE G H)) : Q (.bl (if ng then !decide (v = .non) else decide (v = .non))) H := by
 unfold qP at hw
 split at hw
 ·rename_i e
  rw [e] at hx
  cases hx
  have z := hw G H _ (Step.refl gh) (.bl _)
  cases ng <;> exact z
 ·rename_i d e e2
  rw [e2] at hx
  have nv : v ≠ .non := by
   intro z
   subst z
   have hx : Rep K G V.non d := hx
   cases hx
   exact e rfl
  have z := hw G H _ (Step.refl gh) (.bl _)
  rw [decide_eq_false nv]
  cases ng <;> exact z
 ·rename_i d e
  rw [e] at hx
  obtain ⟨a, i, o, rfl, h1⟩ := hx
  have z := hw G H _ (Step.refl gh) (.bl _)
  cases ng <;> exact z
 ·exact hw.elim
theorem aKd {j pos'} (ha : DE X E a fa) : DE X E (.Compare a [.Is] [.Constant .none j pos'] pos) (mUn (qP false) fa) := by
 obtain ⟨t, p, m⟩ := ha.out
 refine DE.in ⟨_, aKy (aF8 p), fun B G0 G W H σ en Q hh hs hw => m B G0 G W H σ en _ hh hs (DE.go hw fun x G1 H1 v s1 e1 h1 => ?_)⟩
 exact qW (ng := false) s1.gh e1.cc h1
theorem aF6 {j pos'} (ha : DE X E a fa) : DT X E (.Compare a [.Is] [.Constant .none j pos'] pos) (bZ (mUn (qP false) fa)) := by
 obtain ⟨t, p, m⟩ := ha.out
 refine DT.in ⟨_, aBg (aF8 p), fun B G0 G W H σ en Q hh hs hw => ?_⟩
 have k := (aKd (pos := pos) (j := j) (pos' := pos') ha)
 refine kX (t := aPh t) (fa := mUn (qP false) fa) (E := E) (X := X) (fun B G0 G W H σ en Q hh hs hw => m B G0 G W H σ en _ hh hs (DE.go hw fun x G1 H1 v s1 e1 h1 => qW (ng := false) s1.gh e1.cc h1)) B G0 G W H σ en Q hh hs hw
theorem aHr {j pos'} (ha : DE X E a fa) : DT X E (.Compare a [.IsNot] [.Constant .none j pos'] pos) (bZ (mUn (qP true) fa)) := by
 obtain ⟨t, p, m⟩ := ha.out
 refine DT.in ⟨_, aBg (aJi p), fun B G0 G W H σ en Q hh hs hw => ?_⟩
 refine kX (t := aMj t) (fa := mUn (qP true) fa) (E := E) (X := X) (fun B G0 G W H σ en Q hh hs hw => m B G0 G W H σ en _ hh hs (DE.go hw fun x G1 H1 v s1 e1 h1 => qW (ng := true) s1.gh e1.cc h1)) B G0 G W H σ en Q hh hs hw
def kO (x : Ev) : Res Ev := match x with
 | .p (.int i) => .ok (.p (.int (-i)))
 | _ => .bad
theorem kE (ha : DE X E a fa) : DE X E (.UnaryOp .USub a pos) (mUn kO fa) := by
 obtain ⟨t, p, m⟩ := ha.out
 refine DE.in ⟨_, aOv aLs p, fun B G0 G W H σ en Q hh hs hw => m B G0 G W H σ en _ hh hs (DE.go hw fun x G1 H1 v s1 e1 h1 => ?_)⟩
 unfold kO at h1
 split at h1
 ·rename_i i e
  rw [e] at e1
  cases e1
  exact ⟨i, rfl, h1 G1 H1 _ (Step.refl s1.gh) (.int _)⟩
 ·exact h1.elim
def g8 : Ev -> Option (List D)
 | .p (.list ds) => some ds
 | .b (.list ds) => some ds
 | .p (.tuple ds) => some ds
 | _ => none
def ixE (x y : Ev) : Res Ev := match y with
 | .p (.int i) => match g8 x with
  | some ds => match atI ds i with
   | some d => .ok (.p d)
   | none => .bad
  | none => .bad
 | _ => .bad
theorem aMx : NoX ixE := by
 intro x y A h
 unfold ixE at h
 split at h
 ·split at h
  ·split at h <;> cases h
  ·cases h
 ·cases h
theorem t8 {G : Hp} {xs : List V} {ds : List D} {i : Int} {d : D} (r : Reps K G xs ds) (h : atI ds i = some d) : ∃ x, atI xs i = some x /\ Rep K G x d := by
 unfold atI at h ⊢
 rw [r.length]
 cases e : ixN ds.length i with
 | none => rw [e] at h; cases h
 | some j =>
  rw [e] at h
  exact r.get' h
def aPd (K : PySem.W.Frag) : R2 := fun x y H Q => aPe K x y H Q \/ aPp K x y H Q
theorem aP7 : IxR X (aPd X.K) := ix_list.or aL5
theorem aOk : OpM K (aPd K) ixE := by
 intro W G H v u x y Q gh hx hy hw
 unfold ixE at hw
 split at hw
 ·rename_i i ey
  rw [ey] at hy
  cases hy
  split at hw
  ·rename_i ds ed
   split at hw
   ·rename_i d ea
    cases ex : x.c with
    | p dd =>
     rw [ex] at ed hx
     cases dd with
     | list es =>
      cases ed
      cases hx with
      | @lst a xs _ h1 h2 =>
       obtain ⟨z, h3, h4⟩ := t8 h2 ea
       exact .inl ⟨a, xs, i, z, rfl, rfl, .inl (gJ gh h1), h3, hw G H _ (Step.refl gh) h4⟩
     | tuple es =>
      cases ed
      cases hx with
      | @tup a xs _ h1 h2 =>
       obtain ⟨z, h3, h4⟩ := t8 h2 ea
       exact .inr ⟨a, xs, i, z, rfl, rfl, SqT.of (gh _ _ h1), h3, hw G H _ (Step.refl gh) h4⟩
     | _ => cases ed
    | b dd =>
     rw [ex] at ed hx
     cases dd with
     | list es =>
      cases ed
      obtain ⟨a, k, o, rfl, h1, h2, h3⟩ := hx
      cases h3 with
      | @lst xs _ h4 =>
       obtain ⟨z, h5, h6⟩ := t8 h4 ea
       exact .inl ⟨a, xs, i, z, rfl, rfl, .inl (.inl h2), h5, hw G H _ (Step.refl gh) h6⟩
     | _ => cases ed
    | f dd => rw [ex] at ed; cases ed
    | x C => rw [ex] at ed; cases ed
   ·exact hw.elim
  ·exact hw.elim
 ·exact hw.elim
theorem aM (ha : DE X E a fa) (hb : DE X E b fb) (hs : aBr b) : DE X E (.Subscript a b pos) (aF ixE fa fb) := by
 obtain ⟨ta, pa, ma⟩ := ha.out
 obtain ⟨tb, pb, mb⟩ := hb.out
 exact DE.in ⟨_, aOc aP7 pa pb hs, pU ma mb aOk aMx⟩
def gG (rs : List Ev) : Res Ev := match rs with
 | [x] => match g8 x with
  | some ds => .ok (.p (.int ds.length))
  | none => .bad
 | _ => .bad
theorem gA : aCx gG := by
 intro rs C h
 unfold gG at h
 split at h
 ·split at h <;> cases h
 ·cases h
theorem iR : oX K (fun xs H Q => ∃ p ys, xs = [.ref p] /\ (SqL K H p ys \/ SqT K H p ys) /\ Q (.int ys.length) H) gG := by
 intro W Hs G H vs rs Q gh he hw
 unfold gG at hw
 split at hw
 ·rename_i x
  match vs, he with
  | [v], ⟨h1, _⟩ =>
   split at hw
   ·rename_i ds ed
    cases x with
    | p dd =>
     cases dd with
     | list es =>
      cases ed
      cases h1 with
      | @lst a xs _ k1 k2 => exact ⟨a, xs, rfl, .inl (.inl (gJ gh k1)), by rw [k2.length]; exact hw G H _ (Step.refl gh) (.int _)⟩
     | tuple es =>
      cases ed
      cases h1 with
      | @tup a xs _ k1 k2 => exact ⟨a, xs, rfl, .inr (SqT.of (gh _ _ k1)), by rw [k2.length]; exact hw G H _ (Step.refl gh) (.int _)⟩
     | _ => cases ed
    | b dd =>
     cases dd with
     | list es =>
      cases ed
      obtain ⟨a, k, o, rfl, k1, k2, k3⟩ := h1
      cases k3 with
      | @lst xs _ k4 => exact ⟨a, xs, rfl, .inl (.inl (.inl k2)), by rw [k4.length]; exact hw G H _ (Step.refl gh) (.int _)⟩
     | _ => cases ed
    | f dd => cases ed
    | x C => cases ed
   ·exact hw.elim
 ·exact hw.elim
def uG (rs : List Ev) : Res Ev := match rs with
 | [.p (.int i)] => .ok (.p (.int (if i < 0 then -i else i)))
 | _ => .bad
theorem i8 : aCx uG := by
 intro rs C h
 unfold uG at h
 split at h <;> cases h
theorem lK : oX K (fun xs H Q => ∃ i, xs = [.int i] /\ Q (.int (if i < 0 then -i else i)) H) uG := by
 intro W Hs G H vs rs Q gh he hw
 unfold uG at hw
 split at hw
 ·rename_i i
  match vs, he with
  | [v], ⟨h1, _⟩ => cases h1; exact ⟨i, rfl, hw G H _ (Step.refl gh) (.int _)⟩
 ·exact hw.elim
def aIq (f : Int -> Int -> Int) (rs : List Ev) : Res Ev := match rs with
 | [.p (.int i), .p (.int j)] => .ok (.p (.int (f i j)))
 | _ => .bad
theorem aJt {f : Int -> Int -> Int} : aCx (aIq f) := by
 intro rs C h
 unfold aIq at h
 split at h <;> cases h
theorem aM6 {f : Int -> Int -> Int} : oX K (fun xs H Q => ∃ i j, xs = [.int i, .int j] /\ Q (.int (f i j)) H) (aIq f) := by
 intro W Hs G H vs rs Q gh he hw
 unfold aIq at hw
 split at hw
 ·rename_i i j
  match vs, he with
  | [v, u], ⟨h1, h2, _⟩ => cases h1; cases h2; exact ⟨i, j, rfl, hw G H _ (Step.refl gh) (.int _)⟩
 ·exact hw.elim
def listE (rs : List Ev) : Res Ev := match rs with
 | [x] => match g8 x with
  | some ds => .ok (.f (.list ds))
  | none => .bad
 | _ => .bad
theorem wC : aCx listE := by
 intro rs C h
 unfold listE at h
 split at h
 ·split at h <;> cases h
 ·cases h
theorem aAd : oX K (fun xs H Q => ∃ p ys, xs = [.ref p] /\ (SqL K H p ys \/ SqT K H p ys) /\ ∀ l, H l = none -> Q (.ref l) (upd H l (.lst ys))) listE := by
 intro W Hs G H vs rs Q gh he hw
 unfold listE at hw
 split at hw
 ·rename_i x
  match vs, he with
  | [v], ⟨h1, _⟩ =>
   split at hw
   ·rename_i ds ed
    have fin : ∀ {xs : List V}, Reps K G xs ds -> ∀ l, H l = none -> Q (.ref l) (upd H l (.lst xs)) := fun r l hl =>
     hw _ _ _ (Step.lay gh hl) ⟨l, _, rfl, hl, gh.free hl, bQ, .lst r⟩
    cases x with
    | p dd =>
     cases dd with
     | list es =>
      cases ed
      cases h1 with
      | @lst a xs _ k1 k2 => exact ⟨a, xs, rfl, .inl (.inl (gJ gh k1)), fin k2⟩
     | tuple es =>
      cases ed
      cases h1 with
      | @tup a xs _ k1 k2 => exact ⟨a, xs, rfl, .inr (SqT.of (gh _ _ k1)), fin k2⟩
     | _ => cases ed
    | b dd =>
     cases dd with
     | list es =>
      cases ed
      obtain ⟨a, k, o, rfl, k1, k2, k3⟩ := h1
      cases k3 with
      | @lst xs _ k4 => exact ⟨a, xs, rfl, .inl (.inl (.inl k2)), fin k4⟩
     | _ => cases ed
    | f dd => cases ed
    | x C => cases ed
   ·exact hw.elim
 ·exact hw.elim
def tyD : D -> String
 | .none => "NoneType"
 | .bool _ => "bool"
 | .int _ => "int"
 | .str _ => "str"
 | .list _ => "list"
 | .tuple _ => "tuple"
 | .dict _ => "dict"
def yB (K : PySem.W.Frag) (c : Value) (x : Ev) : Res Ev := match dat x with
 | some d => match PySem.W.kitOne K (.type (tyD d)) c with
  | some b => .ok (.p (.bool b))
  | none => .bad
 | none => .bad
theorem aMk {H : Hp} {v : V} {d : D} (h : Rep K H v d) : xK K H v (.type (tyD d)) := by
 cases h with
 | non => exact .non
 | bl b => exact .bl b
 | int i => exact .int i
 | str i => exact .str i
 | tup h _ => exact .tup h
 | lst h _ =>
  rcases h with h | ⟨o, h⟩
  ·exact .lst h
  ·exact .frz h
 | dT h _ => exact .dT h
 | dK h _ => exact .dK h
theorem wR {e c : Expr} {v : V} {cv : Value} {p : Pos} (hg : Gl X "isinstance") (hm : X.mg "isinstance" = none) (hv : (∃ n, v = .ty n) \/ ∃ a, v = .ref a) (hr : RelV v cv) (he : DE X E e fa) (hc : PE X c (tC v))
  (h1 : starEach [e, c] X.env = (false, eval e X.env) :: starEach [c] X.env := by rfl) (h2 : (backTo pos (starEach [c] X.env)).any (·.1) = false := by rfl) (h3 : starEach [c] X.env = (false, eval c X.env) :: starEach [] X.env := by rfl) :
  DE X E (.Call (.Name "isinstance" p) [e, c] [] pos) (mUn (yB X.K cv) fa) := by
 obtain ⟨t, q, m⟩ := he.out
 refine DE.in ⟨_, aMg hg hm q hc h1 h2 h3, fun B G0 G W H σ en Q hh hs hw => m B G0 G W H σ en _ hh hs (DE.go hw fun x G1 H1 u s1 e1 k1 => ?_)⟩
 unfold yB at k1
 split at k1
 ·rename_i d ed
  split at k1
  ·rename_i b eb
   exact ⟨u, v, .type (tyD d), cv, b, rfl, hv, .plain (aMk (EOk.read s1.gh e1 ed)), hr, eb, k1 G1 H1 _ (Step.refl s1.gh) (.bl _)⟩
  ·exact k1.elim
 ·exact k1.elim
end
section
variable {P : Program} {w : World} {K : PySem.W.Frag} {mg : Str -> Option Value} {base : Heap}
structure Def (K : PySem.W.Frag) (mg : Str -> Option Value) (x : Str) (ps : List Str) (st : Stmt) : Prop where
 ex : ∃ f fd, Fun K x x st f fd /\ Binds K fd ps [] /\ PySem.W.keepIn K (.ref f) = true /\ mg x = some (.ref f)
structure Cal (P : Program) (w : World) (K : PySem.W.Frag) (mg : Str -> Option Value) (base : Heap) (k : Nat) (x : Str) (n : Nat) (m : List L -> Res L) : Prop where
 ex : ∃ f fd ps, FnOk P w K mg base (CXr P w) k f fd ps (spM K n m) /\ Binds K fd ps [] /\ PySem.W.keepIn K (.ref f) = true /\ mg x = some (.ref f)
theorem kZ {x : Str} {st : Stmt} {N ps : List Str} {k n : Nat} {m : List L -> Res L} (Df : Def K mg x ps st) (S : bI N ps (aQ st)) (hn : n = ps.length)
  (hbody : ∀ (f : Addr) (cdv : Value) (A : Around) (outer : List Env) (s : Shared) (H : Hp) (E : XK), Room k (A.deeper (envOfC x (aQ st) s.heap.objs.size f cdv)) ->
   ∃ fm, DSs (vA (CXr P w) P w K mg base N x (aQ st) f cdv A outer s H E) (fun _ => E) (gS st) fm /\ ∀ ls, m ls = .bad \/ fY N.length fm ls = m ls) : Cal P w K mg base (k + 1) x n m := by
 obtain ⟨f, fd, F, b, kp, h⟩ := Df.ex
 exact ⟨f, fd, ps, fnM F S hn fun cdv A outer s H E hr => hbody f cdv A outer s H E hr, b, kp, h⟩
end
section
variable {X : Cx} {E : L2.St -> XK} {k j : Nat} {x : Str} {p pos : Pos} {e : Expr} {es : List Expr} {fr : En -> Res (List Ev)} {n : Nat} {m : List L -> Res L}
theorem aR (c : Cal X.prog X.w X.K X.mg X.base j x n m) (hr : Room k X.A) (hx : nP (CXr X.prog X.w) X E) (ha : DA X E (e :: es) fr) (hg : Gl X x := by rfl) (hjk : j <= k := by decide) (hdb : (x == ("__debug__" : Str)) = false := by decide)
  (he : starEach (e :: es) X.env = (false, eval e X.env) :: starEach es X.env := by rfl) (hpl : (backTo pos (starEach es X.env)).any (·.1) = false := by rfl) :
  DE X E (.Call (.Name x p) (e :: es) [] pos) (aV n m fr) := by
 obtain ⟨f, fd, ps, F, b, kp, h⟩ := c.ex
 exact aI4 (F.mono hjk) hr hg h kp b hx ha hdb he hpl
theorem dv (i : Nat) (hN : X.N[i]? = some x := by rfl) (hv : Vis X.env.scope x := by first | exact Or.inl rfl | exact Or.inr (Or.inl rfl) | exact Or.inr (Or.inr rfl)) (hd : (x == ("__debug__" : Str)) = false := by decide) (hcd : (x == ("__classdict__" : Str)) = false := by decide) :
  DE X E (.Name x pos) (aE i) := aKa hN hv hd hcd
theorem u64 {A : Around} (hr : Room k A) : A.units + 64 < cLine := by have := hr.un; omega
theorem u1 {A : Around} (hr : Room k A) : A.units + 1 < cLine := by have := hr.un; omega
theorem g9 {scope : Scope} {cl : List (Str × Addr)} : oW X scope cl [] [] := ⟨rfl, fun i y j h _ => by simp at h⟩
theorem eF {scope : Scope} {cl : List (Str × Addr)} {y : Str} {ys : List Str} {j : Nat} {js : List Nat} (h : X.N[j]? = some y /\ (X.env.kindOf y = some .cell \/ X.env.kindOf y = some .free) /\ ((relabel scope X.env).names.lookup y = some .cell \/ (relabel scope X.env).names.lookup y = some .free) /\ (X.env.cells.lookup y).isSome = true /\ cl.lookup y = X.env.cells.lookup y)
  (t : oW X scope cl ys js) : oW X scope cl (y :: ys) (j :: js) :=
 ⟨by rw [List.length_cons, List.length_cons, t.len], fun i z q e1 e2 => by
  cases i with
  | zero => simp at e1 e2; subst e1 e2; exact h
  | succ i => exact t.at_ i z q (by simpa using e1) (by simpa using e2)⟩
theorem aAe {scope : Scope} {cl : List (Str × Addr)} {ys : List Str} {js : List Nat} (clos : closureFor scope X.env = pure cl) (sub : ∀ q ∈ cl, X.env.cells.lookup q.1 = some q.2) (cap : oW X scope cl ys js) (hcell : ∀ y ∈ scope.names, y.2 ≠ .cell) (hfree : ∀ q ∈ scope.names, q.2 = .free -> q.1 ∈ ys) : aIp X scope cl := by
 refine ⟨clos, fun y c h => sub _ (PySem.mem_of_lookup h), fun y hy => ?_⟩
 have hm : y ∈ ys := by
  rcases hy with hy | hy
  ·have m := PySem.mem_of_lookup hy
   obtain ⟨⟨n0, k0⟩, m0, e0⟩ := List.mem_map.mp m
   dsimp only at e0
   split at e0
   ·rename_i z
    injection e0 with e1 e2
    subst e1
    have : k0 = .free := by
     cases k0 <;> simp at z ⊢
    exact hfree _ m0 this
   ·injection e0 with e1 e2
    exact absurd e2 (hcell _ m0)
  ·have m := PySem.mem_of_lookup hy
   obtain ⟨⟨n0, k0⟩, m0, e0⟩ := List.mem_map.mp m
   dsimp only at e0
   split at e0
   ·injection e0 with e1 e2
    cases e2
   ·injection e0 with e1 e2
    subst e1
    exact hfree _ m0 e2
 obtain ⟨i, hi, e⟩ := List.mem_iff_getElem.mp hm
 have hj : i < js.length := by rw [<- cap.len]; exact hi
 obtain ⟨_, _, _, h4, h5⟩ := cap.at_ i y js[i] (by rw [List.getElem?_eq_getElem hi, e]) (List.getElem?_eq_getElem hj)
 rw [h5]
 exact Option.isSome_iff_exists.mp h4
theorem mN {K : PySem.W.Frag} {B G0 G H : Hp} {W : Addr -> Option Nat} {σ : L2.St} {en : En} {i : Nat} {a : Addr} {o' : HO} {d' : D} (hh : SimH B G0 G W H) (hs : SimS K W G H σ en) (hW : W a = some i) (hv : σ[i]? = some (some (.ref a))) (hc : Cont K G o' d') :
  SimH B G0 G W (upd H a o') /\ SimS K W G (upd H a o') σ (en.set i (some (.o d'))) := by
 obtain ⟨g1, g2, g3⟩ := hh.wf a i hW
 refine ⟨⟨fun b o e => ?_, fun b o e => ?_, hh.g0, hh.gb, fun b j e => ?_⟩, by rw [List.length_set]; exact hs.1, fun j l e => ?_⟩
 ·rw [bJ (dC e g1)]; exact hh.gh b o e
 ·rw [bJ (dC e g2)]; exact hh.bh b o e
 ·obtain ⟨k1, k2, o, k3, k4⟩ := hh.wf b j e
  refine ⟨k1, k2, ?_⟩
  by_cases z : b = a
  ·rw [z, bQ]; exact ⟨_, rfl, hc.mut⟩
  ·rw [bJ z]; exact ⟨o, k3, k4⟩
 ·rw [List.getElem?_set] at e
  by_cases hj : i = j
  ·subst hj
   rw [if_pos rfl] at e
   split at e
   ·cases e
    exact ⟨_, hv, a, o', rfl, hW, bQ, hc⟩
   ·cases e
  ·rw [if_neg hj] at e
   obtain ⟨v, e1, e2⟩ := hs.2 j l e
   refine ⟨v, e1, ?_⟩
   cases l with
   | p d => exact e2
   | x C => exact e2
   | h a => exact e2
   | o d =>
    obtain ⟨b, ob, h1, h2, h3, h4⟩ := e2
    refine ⟨b, ob, h1, h2, ?_, h4⟩
    rw [bJ (fun z => by rw [z, hW] at h2; exact hj (Option.some.inj h2))]
    exact h3
def iM (i : Nat) (fe : En -> Res Ev) : MS := fun en => match en[i]? with
 | some (some (.o (.list ds))) => match fe en with
  | .ok r => match r.c with
   | .p d => if ds.length <= 100000 then some (.nx (en.set i (some (.o (.list (ds ++ [d])))))) else none
   | _ => none
  | .exc C => some (.ex C en)
  | .bad => none
 | _ => none
theorem kU {i : Nat} {fe : En -> Res Ev} {st : Stmt} (he : DE X E e fe) (hp : ∀ t, PE X e t -> PS X st (aDw (tBM X.K "list" zI (aJ7 i) (aL0 t aPm)))) : DS X E st (iM i fe) := by
 obtain ⟨t, q, mm⟩ := he.out
 refine DS.in ⟨_, hp t q, fun B G0 G W H σ en Dn hh hs hw => ?_⟩
 unfold iM at hw
 split at hw
 ·rename_i ds ei
  obtain ⟨v, e1, a, o, rfl, e2, e3, e4⟩ := hs.2 i _ ei
  cases e4 with
  | @lst xs _ rp =>
  refine ⟨_, e1, .inl ⟨rfl, _, SqL.of e3⟩, mm B G0 G W H σ en _ hh hs ?_⟩
  cases ef : fe en with
  | bad => rw [ef] at hw; exact hw
  | exc C => rw [ef] at hw; exact fun G1 H1 s => hw G1 W H1 σ (hh.step s) (hs.step s)
  | ok r =>
   rw [ef] at hw
   intro G1 H1 y s ey
   obtain ⟨G2, s2, ey2⟩ := ey.c s
   dsimp only at hw
   cases er : r.c with
   | p d =>
    rw [er] at hw ey2
    dsimp only at hw
    split at hw
    ·rename_i hl
     have hx := s2.h _ _ e3
     refine ⟨a, xs, y, rfl, rfl, hx, Nat.lt_of_le_of_lt (by rw [rp.length]; exact hl) (by decide), ?_⟩
     obtain ⟨w1, w2⟩ := mN (o' := .lst (xs ++ [y])) (d' := .list (ds ++ [d])) (hh.step s2) (hs.step s2) e2 e1 (.lst ((rp.mono s2.g).append (.cons ey2 .nil)))
     exact hw _ _ _ _ w1 w2
    ·exact hw.elim
   | f d => rw [er] at hw; exact hw.elim
   | b d => rw [er] at hw; exact hw.elim
   | x C => rw [er] at hw; exact hw.elim
 ·exact hw.elim
end
section
variable {X : Cx} {K : PySem.W.Frag} {E : L2.St -> XK} {a b : Expr} {fa fb : En -> Res Ev} {pos : Pos}
def aGl : D -> Option Key
 | .int i => some (.inl i)
 | .str x => some (.inr x)
 | _ => none
def uN : List D -> Option (List Key)
 | [] => some []
 | d :: ds => match aGl d with
  | none => none
  | some k => match uN ds with
   | none => none
   | some ks => some (k :: ks)
def aJ5 : D -> Option (List Key)
 | .tuple ds => uN ds
 | _ => none
theorem qY {d : D} {k : Key} (h : aGl d = some k) : d = kD k := by
 cases d <;> first | (cases h; rfl) | cases h
theorem tZ (k : Key) : aGl (kD k) = some k := by cases k <;> rfl
theorem wQ : ∀ {ds : List D} {ks : List Key}, uN ds = some ks -> ds = ks.map kD
 | [], _, h => by cases h; rfl
 | d :: ds, ks, h => by
  unfold uN at h
  cases e : aGl d with
  | none => rw [e] at h; cases h
  | some k =>
   rw [e] at h
   cases e2 : uN ds with
   | none => rw [e2] at h; cases h
   | some ks' =>
    rw [e2] at h
    cases h
    rw [qY e, wQ e2]
    rfl
theorem v3 : ∀ ks : List Key, uN (ks.map kD) = some ks
 | [] => rfl
 | k :: ks => by
  show (match aGl (kD k) with | none => none | some k => match uN (ks.map kD) with | none => none | some ks => some (k :: ks)) = _
  rw [tZ, v3 ks]
theorem uE {d : D} {ks : List Key} (h : aJ5 d = some ks) : d = tkD ks := by
 cases d with
 | tuple ds => unfold tkD; rw [<- wQ h]
 | _ => cases h
theorem vK (ks : List Key) : aJ5 (tkD ks) = some ks := v3 ks
theorem aB8 {k k' : List Key} (h : tkD k = tkD k') : k = k' := by
 have := vK k
 rw [h, vK] at this
 exact (Option.some.inj this).symm
theorem aGm {k k' : Key} (h : kD k = kD k') : k = k' := by
 have := tZ k
 rw [h, tZ] at this
 exact (Option.some.inj this).symm
theorem aCt {G : Hp} : ∀ {ks : List Key} {xs : List V}, Reps K G xs (ks.map kD) -> xs = ks.map kV
 | [], _, .nil => rfl
 | k :: ks, _, .cons r t => by
  rw [aCt t]
  cases k with
  | inl i => cases r; rfl
  | inr x => cases r; rfl
theorem aGu {G : Hp} {v : V} {d : D} {ks : List Key} (h : Rep K G v d) (e : aJ5 d = some ks) : ∃ b, v = .ref b /\ G b = some (.tup (ks.map kV)) := by
 have := uE e
 subst this
 cases h with
 | @tup b xs _ h1 h2 =>
  rw [aCt h2] at h1
  exact ⟨b, rfl, h1⟩
theorem aAr {G : Hp} {v : V} {d : D} {k : Key} (h : Rep K G v d) (e : aGl d = some k) : v = kV k := by
 have := qY e
 subst this
 cases k with
 | inl i => cases h; rfl
 | inr x => cases h; rfl
open Classical in
noncomputable def wH : List (D × D) -> D -> Option D
 | [], _ => none
 | p :: r, k => if p.1 = k then some p.2 else wH r k
open Classical in
noncomputable def aF9 (k v : D) : List (D × D) -> List (D × D)
 | [] => []
 | p :: r => (if p.1 = k then (p.1, v) else p) :: aF9 k v r
open Classical in
noncomputable def aCz (kvs : List (D × D)) (k v : D) : List (D × D) := if (wH kvs k).isSome = true then aF9 k v kvs else kvs ++ [(k, v)]
theorem aNx {G : Hp} (ks : List Key) : ∀ {kv : List (List Key × V)} {kvs : List (D × D)}, RepT K G kv kvs -> (wH kvs (tkD ks) = none /\ rF kv ks = none) \/ ∃ d v, wH kvs (tkD ks) = some d /\ rF kv ks = some v /\ Rep K G v d
 | _, _, .nil => .inl ⟨rfl, rfl⟩
 | _, _, .cons (k := k) (x := x) (d := d) r t => by
  by_cases e : k = ks
  ·subst e
   refine .inr ⟨d, x, ?_, kA (p := (k, x)) rfl, r⟩
   unfold wH
   rw [if_pos rfl]
  ·have e2 : tkD k ≠ tkD ks := fun z => e (aB8 z)
   unfold wH
   rw [if_neg e2, kR (p := (k, x)) e]
   exact aNx ks t
theorem aOo {G : Hp} (ks : Key) : ∀ {kv : List (Key × V)} {kvs : List (D × D)}, RepK K G kv kvs -> (wH kvs (kD ks) = none /\ rF kv ks = none) \/ ∃ d v, wH kvs (kD ks) = some d /\ rF kv ks = some v /\ Rep K G v d
 | _, _, .nil => .inl ⟨rfl, rfl⟩
 | _, _, .cons (k := k) (x := x) (d := d) r t => by
  by_cases e : k = ks
  ·subst e
   refine .inr ⟨d, x, ?_, kA (p := (k, x)) rfl, r⟩
   unfold wH
   rw [if_pos rfl]
  ·have e2 : kD k ≠ kD ks := fun z => e (aGm z)
   unfold wH
   rw [if_neg e2, kR (p := (k, x)) e]
   exact aOo ks t
theorem aNo {G : Hp} {ks : List Key} {v : V} {d : D} (h : Rep K G v d) : ∀ {kv : List (List Key × V)} {kvs : List (D × D)}, RepT K G kv kvs -> RepT K G (kv.map fun p => if p.1 = ks then (p.1, v) else p) (aF9 (tkD ks) d kvs)
 | _, _, .nil => .nil
 | _, _, .cons (k := k) (x := x) (d := d0) r t => by
  unfold aF9
  rw [List.map_cons]
  by_cases e : k = ks
  ·subst e
   rw [if_pos rfl, if_pos rfl]
   exact .cons h (aNo h t)
  ·have e2 : tkD k ≠ tkD ks := fun z => e (aB8 z)
   rw [if_neg e, if_neg e2]
   exact .cons r (aNo h t)
theorem aNs {G : Hp} {ks : Key} {v : V} {d : D} (h : Rep K G v d) : ∀ {kv : List (Key × V)} {kvs : List (D × D)}, RepK K G kv kvs -> RepK K G (kv.map fun p => if p.1 = ks then (p.1, v) else p) (aF9 (kD ks) d kvs)
 | _, _, .nil => .nil
 | _, _, .cons (k := k) (x := x) (d := d0) r t => by
  unfold aF9
  rw [List.map_cons]
  by_cases e : k = ks
  ·subst e
   rw [if_pos rfl, if_pos rfl]
   exact .cons h (aNs h t)
  ·have e2 : kD k ≠ kD ks := fun z => e (aGm z)
   rw [if_neg e, if_neg e2]
   exact .cons r (aNs h t)
theorem RepT.app {G : Hp} : ∀ {kv kv' : List (List Key × V)} {kvs kvs' : List (D × D)}, RepT K G kv kvs -> RepT K G kv' kvs' -> RepT K G (kv ++ kv') (kvs ++ kvs')
 | _, _, _, _, .nil, r => r
 | _, _, _, _, .cons h t, r => .cons h (RepT.app t r)
theorem RepK.app {G : Hp} : ∀ {kv kv' : List (Key × V)} {kvs kvs' : List (D × D)}, RepK K G kv kvs -> RepK K G kv' kvs' -> RepK K G (kv ++ kv') (kvs ++ kvs')
 | _, _, _, _, .nil, r => r
 | _, _, _, _, .cons h t, r => .cons h (RepK.app t r)
theorem RepT.len {G : Hp} : ∀ {kv : List (List Key × V)} {kvs : List (D × D)}, RepT K G kv kvs -> kv.length = kvs.length
 | _, _, .nil => rfl
 | _, _, .cons _ r => by rw [List.length_cons, List.length_cons, RepT.len r]
theorem RepK.len {G : Hp} : ∀ {kv : List (Key × V)} {kvs : List (D × D)}, RepK K G kv kvs -> kv.length = kvs.length
 | _, _, .nil => rfl
 | _, _, .cons _ r => by rw [List.length_cons, List.length_cons, RepK.len r]
theorem aPx {G : Hp} {ks : List Key} {v : V} {d : D} (h : Rep K G v d) {kv : List (List Key × V)} {kvs : List (D × D)} (r : RepT K G kv kvs) : RepT K G (putK kv ks v) (aCz kvs (tkD ks) d) := by
 unfold putK aCz
 rw [mL]
 rcases aNx ks r with ⟨e1, e2⟩ | ⟨d0, v0, e1, e2, _⟩
 ·rw [e1, e2, if_neg (by simp), if_neg (by simp)]
  exact r.app (.cons h .nil)
 ·rw [e1, e2, if_pos (show (some v0).isSome = true from rfl), if_pos (show (some d0).isSome = true from rfl)]
  exact aNo h r
theorem aOy {G : Hp} {ks : Key} {v : V} {d : D} (h : Rep K G v d) {kv : List (Key × V)} {kvs : List (D × D)} (r : RepK K G kv kvs) : RepK K G (putK kv ks v) (aCz kvs (kD ks) d) := by
 unfold putK aCz
 rw [mL]
 rcases aOo ks r with ⟨e1, e2⟩ | ⟨d0, v0, e1, e2, _⟩
 ·rw [e1, e2, if_neg (by simp), if_neg (by simp)]
  exact r.app (.cons h .nil)
 ·rw [e1, e2, if_pos (show (some v0).isSome = true from rfl), if_pos (show (some d0).isSome = true from rfl)]
  exact aNs h r
def dsp (kvs : List (D × D)) : Bool × List (D × D) := match kvs with
 | (.none, .none) :: r => (true, r)
 | r => (false, r)
theorem aJ0 {G : Hp} {kv : List (List Key × V)} {kvs : List (D × D)} (r : RepT K G kv kvs) : dsp kvs = (false, kvs) := by
 cases r with
 | nil => rfl
 | cons _ _ => rfl
def oQ : Ev -> Option (List (D × D))
 | .p (.dict kvs) => some kvs
 | .b (.dict kvs) => some kvs
 | _ => none
noncomputable def u5 (kvs : List (D × D)) (k : D) : Option (Option D) := match dsp kvs with
 | (true, r) => if (aGl k).isSome = true then some (wH r k) else none
 | (false, r) => if (aJ5 k).isSome = true then some (wH r k) else none
theorem aCg {W : Addr -> Option Nat} {Hs G H : Hp} {v : V} {r : Ev} {kvs : List (D × D)} (gh : Same G H) (h : EOk K W Hs G H v r) (e : oQ r = some kvs) :
  ∃ a, v = .ref a /\ ((∃ kv, H a = some (.dT kv) /\ RepT K G kv kvs) \/ ∃ kv r, kvs = (.none, .none) :: r /\ H a = some (.dK kv) /\ RepK K G kv r) := by
 cases r with
 | p d =>
  cases d with
  | dict es =>
   cases e
   cases h with
   | @dT a kv _ h1 h2 => exact ⟨a, rfl, .inl ⟨kv, gh _ _ h1, h2⟩⟩
   | @dK a kv r h1 h2 => exact ⟨a, rfl, .inr ⟨kv, r, rfl, gh _ _ h1, h2⟩⟩
  | _ => cases e
 | b d =>
  cases d with
  | dict es =>
   cases e
   obtain ⟨a, i, o, rfl, h1, h2, h3⟩ := h
   cases h3 with
   | @dT kv _ h4 => exact ⟨a, rfl, .inl ⟨kv, h2, h4⟩⟩
   | @dK kv r h4 => exact ⟨a, rfl, .inr ⟨kv, r, rfl, h2, h4⟩⟩
  | _ => cases e
 | f d => cases e
 | x C => cases e
def aOm (K : PySem.W.Frag) (G : Hp) : Option D -> Option V -> Prop
 | none, w => w = none
 | some d, w => ∃ x, w = some x /\ Rep K G x d
theorem aAw {W : Addr -> Option Nat} {Hs Hs' G H : Hp} {v u : V} {r : Ev} {k : D} {kvs : List (D × D)} {o : Option D} (gh : Same G H) (h : EOk K W Hs G H v r) (e : oQ r = some kvs) (hk : Rep K G u k) (el : u5 kvs k = some o) :
  ∃ a w, v = .ref a /\ DGet H a u w /\ aOm K G o w := by
 obtain ⟨a, rfl, hh⟩ := aCg gh h e
 rcases hh with ⟨kv, h1, h2⟩ | ⟨kv, r, rfl, h1, h2⟩
 ·unfold u5 at el
  rw [aJ0 h2] at el
  dsimp only at el
  split at el
  ·rename_i z
   obtain ⟨ks, ek⟩ := Option.isSome_iff_exists.mp z
   obtain ⟨b, rfl, hb⟩ := aGu hk ek
   have := uE ek
   subst this
   cases el
   refine ⟨a, rF kv ks, rfl, .t h1 (gh _ _ hb), ?_⟩
   rcases aNx ks h2 with ⟨e1, e2⟩ | ⟨d0, v0, e1, e2, e3⟩
   ·rw [e1, e2]; exact rfl
   ·rw [e1, e2]; exact ⟨v0, rfl, e3⟩
  ·cases el
 ·unfold u5 at el
  dsimp only [dsp] at el
  split at el
  ·rename_i z
   obtain ⟨ks, ek⟩ := Option.isSome_iff_exists.mp z
   have hb := aAr hk ek
   subst hb
   have := qY ek
   subst this
   cases el
   refine ⟨a, rF kv ks, rfl, .k h1, ?_⟩
   rcases aOo ks h2 with ⟨e1, e2⟩ | ⟨d0, v0, e1, e2, e3⟩
   ·rw [e1, e2]; exact rfl
   ·rw [e1, e2]; exact ⟨v0, rfl, e3⟩
  ·cases el
noncomputable def aEp (x y : Ev) : Res Ev := match y with
 | .p k => match oQ x with
  | some kvs => match u5 kvs k with
   | some (some d) => .ok (.p d)
   | _ => .bad
  | none => .bad
 | _ => .bad
noncomputable def aHk (ng : Bool) (y x : Ev) : Res Ev := match y with
 | .p k => match oQ x with
  | some kvs => match u5 kvs k with
   | some o => .ok (.p (.bool (if ng then !o.isSome else o.isSome)))
   | none => .bad
  | none => .bad
 | _ => .bad
theorem aHu (hu : X.A.units + 1 < cLine) (ha : DE X E a fa) (hb : DE X E b fb) (hs : aN8 b) : DE X E (.Subscript a b pos) (aF aEp fa fb) := by
 obtain ⟨ta, pa, ma⟩ := ha.out
 obtain ⟨tb, pb, mb⟩ := hb.out
 refine DE.in ⟨_, aIo hu pa pb hs, fun B G0 G W H σ en Q hh hs hw => ma B G0 G W H σ en _ hh hs (DE.go hw fun x G1 H1 v s1 e1 h1 => ?_)⟩
 refine mb B G0 G1 W H1 σ en _ (hh.step s1) (hs.step s1) (DE.go h1 fun y G2 H2 u s2 e2 h2 => ?_)
 unfold aEp at h2
 split at h2
 ·rename_i k ey
  rw [ey] at e2
  split at h2
  ·rename_i kvs ed
   split at h2
   ·rename_i d el
    obtain ⟨a, w, rfl, hg, x, rfl, hx⟩ := aAw (Hs' := H1) s2.gh (e1.step (Hs' := H1) s2) ed e2 el
    exact ⟨a, x, rfl, hg, h2 G2 H2 _ (Step.refl s2.gh) hx⟩
   ·exact h2.elim
  ·exact h2.elim
 ·exact h2.elim
theorem aEm {ta tb : TE} {ng : Bool} (ma : ∀ B G0 G W H σ en Q, SimH B G0 G W H -> SimS X.K W G H σ en -> wpR (fa en) (PostE X.K W G H Q) (PostX (E σ) G H) -> ta σ H Q)
  (mb : ∀ B G0 G W H σ en Q, SimH B G0 G W H -> SimS X.K W G H σ en -> wpR (fb en) (PostE X.K W G H Q) (PostX (E σ) G H) -> tb σ H Q) :
  ∀ B G0 G W H σ en Q, SimH B G0 G W H -> SimS X.K W G H σ en -> wpR (aF (aHk ng) fa fb en) (PostE X.K W G H Q) (PostX (E σ) G H) ->
   ta σ H fun y H1 => tb σ H1 fun x H2 => ∃ a o, x = .ref a /\ DGet H2 a y o /\ Q (.bl (if ng then !o.isSome else o.isSome)) H2 := by
 intro B G0 G W H σ en Q hh hs hw
 refine ma B G0 G W H σ en _ hh hs (DE.go hw fun y G1 H1 u s1 e1 h1 => ?_)
 refine mb B G0 G1 W H1 σ en _ (hh.step s1) (hs.step s1) (DE.go h1 fun x G2 H2 v s2 e2 h2 => ?_)
 have e1' := e1.step (Hs' := H1) s2
 unfold aHk at h2
 split at h2
 ·rename_i k ey
  rw [ey] at e1'
  split at h2
  ·rename_i kvs ed
   split at h2
   ·rename_i o el
    obtain ⟨a, w, rfl, hg, hx⟩ := aAw (Hs' := H1) s2.gh e2 ed e1' el
    refine ⟨a, w, rfl, hg, ?_⟩
    have z := h2 G2 H2 _ (Step.refl s2.gh) (.bl _)
    cases o with
    | none => rw [show w = none from hx]; exact z
    | some d => obtain ⟨x', rfl, _⟩ := hx; exact z
   ·exact h2.elim
  ·exact h2.elim
 ·exact h2.elim
theorem yQ (hu : X.A.units + 1 < cLine) (ha : DE X E a fa) (hb : DE X E b fb) (hk : behindInMarks .NotIn b = false := by with_unfolding_all rfl) : DT X E (.Compare a [.NotIn] [b] pos) (bZ (aF (aHk true) fa fb)) := by
 obtain ⟨ta, pa, ma⟩ := ha.out
 obtain ⟨tb, pb, mb⟩ := hb.out
 exact DT.in ⟨_, aBg (aAg hu pa pb) hk, kX (t := aA1 ta tb) (aEm (ng := true) ma mb)⟩
def mDT : En -> Res Ev := fun _ => .ok (.f (.dict []))
theorem aEx : DE X E (.Dict [] [] pos) mDT :=
 DE.in ⟨_, aDg, fun B G0 G W H σ en Q hh hs hw p hp => hw _ _ _ (Step.lay hh.gh hp) ⟨p, _, rfl, hp, hh.gh.free hp, bQ, .dT .nil⟩⟩
noncomputable def aEe (kvs : List (D × D)) (k v : D) : Option (List (D × D)) := match dsp kvs with
 | (true, r) => if (aGl k).isSome = true /\ r.length <= 100000 then some ((.none, .none) :: aCz r k v) else none
 | (false, r) => if (aJ5 k).isSome = true /\ r.length <= 100000 then some (aCz r k v) else none
noncomputable def xY (i : Nat) (fk fv : En -> Res Ev) : MS := fun en => match en[i]? with
 | some (some (.o (.dict kvs))) => match fv en with
  | .exc C => some (.ex C en)
  | .bad => none
  | .ok rv => match fk en with
   | .exc C => some (.ex C en)
   | .bad => none
   | .ok rk => match rv.c with
    | .p v => match rk.c with
     | .p k => match aEe kvs k v with
      | some kvs' => some (.nx (en.set i (some (.o (.dict kvs')))))
      | none => none
     | _ => none
    | _ => none
 | _ => none
theorem aHd {i : Nat} {x : Str} {pos' np : Pos} {ek ev : Expr} {fk fv : En -> Res Ev} (hu : X.A.units + 1 < cLine) (hd : PE X (.Name x np) (aJ7 i)) (hk : DE X E ek fk) (hv : DE X E ev fv) (hs : swapsWith ev (some (.Subscript (.Name x np) ek pos')) pos.line X.env = pure false) :
  DS X E (.Assign [.Subscript (.Name x np) ek pos'] ev pos) (xY i fk fv) := by
 obtain ⟨tk, pk, mk⟩ := hk.out
 obtain ⟨tv, pv', mv⟩ := hv.out
 refine DS.in ⟨_, aI2 hu hd pk pv' hs, fun B G0 G W H σ en Dn hh hs hw => mv B G0 G W H σ en _ hh hs ?_⟩
 unfold xY at hw
 split at hw
 ·rename_i kvs ei
  obtain ⟨v0, f1, a, o, rfl, f2, f3, f4⟩ := hs.2 i _ ei
  cases ev' : fv en with
  | bad => rw [ev'] at hw; exact hw
  | exc C => rw [ev'] at hw; exact fun G1 H1 s => hw G1 W H1 σ (hh.step s) (hs.step s)
  | ok rv =>
   rw [ev'] at hw
   intro G1 H1 v s1 e1
   obtain ⟨G2, s2, e2⟩ := e1.c s1
   dsimp only at hw
   refine ⟨_, f1, mk B G0 G2 W H1 σ en _ (hh.step s2) (hs.step s2) ?_⟩
   cases ek' : fk en with
   | bad => rw [ek'] at hw; exact hw
   | exc C => rw [ek'] at hw; exact fun G3 H3 s => hw G3 W H3 σ ((hh.step s2).step s) ((hs.step s2).step s)
   | ok rk =>
    rw [ek'] at hw
    intro G3 H3 u s3 e3
    obtain ⟨G4, s4, e4⟩ := e3.c s3
    have e2' := e2.step (Hs' := H1) s4
    have s24 := s2.trans s4
    dsimp only at hw
    split at hw
    ·rename_i vd erv
     rw [erv] at e2'
     split at hw
     ·rename_i kd erk
      rw [erk] at e4
      split at hw
      ·rename_i kvs' ep
       have hx := s24.h _ _ f3
       refine ⟨a, ?_⟩
       unfold aEe at ep
       have f5 := f4.mono s24.g
       cases f5 with
       | @dT kv _ rT =>
        rw [aJ0 rT] at ep
        dsimp only at ep
        split at ep
        ·rename_i hz
         cases ep
         obtain ⟨ks, ek⟩ := Option.isSome_iff_exists.mp hz.1
         obtain ⟨b, rfl, hb⟩ := aGu e4 ek
         have := uE ek
         subst this
         obtain ⟨w1, w2⟩ := mN (o' := .dT (putK kv ks v)) (d' := .dict (aCz kvs (tkD ks) vd)) (hh.step s24) (hs.step s24) f2 f1 (.dT (aPx e2' rT))
         exact ⟨_, rfl, .t hx (s4.gh _ _ hb) (Nat.lt_of_le_of_lt (by rw [rT.len]; exact hz.2) (by decide)), hw _ _ _ _ w1 w2⟩
        ·cases ep
       | @dK kv r rK =>
        dsimp only [dsp] at ep
        split at ep
        ·rename_i hz
         cases ep
         obtain ⟨ks, ek⟩ := Option.isSome_iff_exists.mp hz.1
         have hb := aAr e4 ek
         subst hb
         have := qY ek
         subst this
         obtain ⟨w1, w2⟩ := mN (o' := .dK (putK kv ks v)) (d' := .dict ((.none, .none) :: aCz r (kD ks) vd)) (hh.step s24) (hs.step s24) f2 f1 (.dK (aOy e2' rK))
         exact ⟨_, rfl, .k hx (Nat.lt_of_le_of_lt (by rw [rK.len]; exact hz.2) (by decide)), hw _ _ _ _ w1 w2⟩
        ·cases ep
      ·exact hw.elim
     ·exact hw.elim
    ·exact hw.elim
 ·exact hw.elim
def pR (rs : List Ev) : Res Ev := match rs with
 | [x] => match oQ x with
  | some kvs => .ok (.p (.int ((dsp kvs).2.length : Nat)))
  | none => .bad
 | _ => .bad
theorem aFo : aCx pR := by
 intro rs C h
 unfold pR at h
 split at h
 ·split at h <;> cases h
 ·cases h
end
end M
namespace SRT
open PySem PySem.W PyProof.Rows
structure Ord (lt : Nat -> Nat -> Bool) : Prop where
 as : ∀ i j, lt i j = true -> lt j i = false
 tr : ∀ i j k, lt j i = false -> lt k j = false -> lt k i = false
section
variable {lt : Nat -> Nat -> Bool} {n : Nat} {cmp : Nat -> Nat -> (Bool -> Shared -> Prop) -> Shared -> Prop} {s : Shared}
def le (lt : Nat -> Nat -> Bool) (a b : Nat) : Prop := lt b a = false
theorem Ord.rf (o : Ord lt) (i : Nat) : le lt i i := by
 cases e : lt i i with
 | false => exact e
 | true => have := o.as i i e; rw [e] at this; cases this
theorem Ord.tot (o : Ord lt) {i j : Nat} (h : lt i j = true) : le lt i j := o.as i j h
def Pt (p : Array Nat) (i : Nat) : Nat := p.getD i 0
def Sd (lt : Nat -> Nat -> Bool) (p : Array Nat) (m : Nat) : Prop := ∀ i j, i <= j -> j < m -> le lt (Pt p i) (Pt p j)
def NI (lt : Nat -> Nat -> Bool) (p : Array Nat) (m : Nat) : Prop := ∀ i j, i <= j -> j < m -> le lt (Pt p j) (Pt p i)
def Pm (n : Nat) (p : Array Nat) : Prop := p.Perm (List.range n).toArray
theorem Pm.size {p : Array Nat} (h : Pm n p) : p.size = n := by
 have := h.size_eq
 simpa using this
theorem Pm.bd {p : Array Nat} (h : Pm n p) (hn : 0 < n) (i : Nat) : Pt p i < n := by
 unfold Pt
 by_cases hi : i < p.size
 ·have e : p.getD i 0 = p[i] := by simp [Array.getD, hi]
  rw [e]
  have : p[i] ∈ (List.range n).toArray := h.mem_iff.mp (Array.getElem_mem hi)
  simpa using this
 ·have e : p.getD i 0 = 0 := by simp [Array.getD, hi]
  rw [e]; exact hn
theorem aBd {p q : Array Nat} {i j : Nat} (h : p[i]? = q[j]?) : Pt p i = Pt q j := by
 unfold Pt
 rw [Array.getD_eq_getD_getElem?, Array.getD_eq_getD_getElem?, h]
theorem sJ {p : Array Nat} (h : Pm n p) (i j : Nat) : Pm n (kas_rev p i j) := (mirror_perm _ _ _ _).trans h
theorem sM {p : Array Nat} {i j : Nat} (hj : j <= p.size) (k : Nat) : Pt (kas_rev p i j) k = if i <= k /\ k < j then Pt p (i + j - 1 - k) else Pt p k := by
 have e := getElem?_mirror_all (xs := p) (i := i) hj k
 split
 ·rename_i h
  rw [if_pos h] at e
  exact aBd e
 ·rename_i h
  rw [if_neg h] at e
  exact aBd e
variable (hc : ∀ i j C, i < n -> j < n -> C (lt i j) s -> cmp i j C s) (hn : 0 < n) (o : Ord lt)
include hc hn
theorem aBn {Q : Nat -> Shared -> Prop} {p : Array Nat} (hp : Pm n p) : ∀ (f a : Nat), (∀ m, a <= m -> m <= a + f -> (∀ k, a <= k -> k < m -> le lt (Pt p (k - 1)) (Pt p k)) -> (m < a + f -> lt (Pt p m) (Pt p (m - 1)) = true) -> Q m s) ->
  (kas_asc p f a).kasWp cmp Q s
 | 0, a, h => h a (Nat.le_refl _) (Nat.le_refl _) (fun k h1 h2 => absurd h2 (by omega)) (fun h => absurd h (by omega))
 | f + 1, a, h => by
  refine hc _ _ _ (hp.bd hn _) (hp.bd hn _) ?_
  show KasT.kasWp cmp (if lt (Pt p a) (Pt p (a - 1)) = true then .ret a else kas_asc p f (a + 1)) Q s
  cases e : lt (Pt p a) (Pt p (a - 1)) with
  | true =>
   rw [if_pos rfl]
   exact h a (Nat.le_refl _) (by omega) (fun k h1 h2 => absurd h2 (by omega)) fun _ => e
  | false =>
   rw [if_neg Bool.false_ne_true]
   refine aBn hp f (a + 1) fun m h1 h2 h3 h4 => h m (by omega) (by omega) (fun k k1 k2 => ?_) fun z => h4 (by omega)
   by_cases ek : k = a
   ·subst ek; exact e
   ·exact h3 k (by omega) k2
include o
omit hc hn in
theorem aKl {p : Array Nat} {a m : Nat} (h1 : 1 <= a) (hs : Sd lt p a) (hk : ∀ k, a <= k -> k < m -> le lt (Pt p (k - 1)) (Pt p k)) : Sd lt p m := by
 intro i j hij hj
 induction j with
 | zero =>
  have : i = 0 := by omega
  subst this
  exact o.rf _
 | succ j ih =>
  by_cases e : i = j + 1
  ·subst e; exact o.rf _
  ·have ih := ih (by omega) (by omega)
   by_cases hja : j + 1 < a
   ·exact hs i (j + 1) hij hja
   ·have := hk (j + 1) (by omega) hj
    exact o.tr _ _ _ ih this
omit hc hn in
theorem aMf {p : Array Nat} {m : Nat} (hm : m <= p.size) (h : NI lt p m) : Sd lt (kas_rev p 0 m) m := by
 intro i j hij hj
 rw [sM hm, sM hm, if_pos ⟨Nat.zero_le _, by omega⟩, if_pos ⟨Nat.zero_le _, hj⟩]
 exact h _ _ (by omega) (by omega)
theorem aAs {Q : Nat × Array Nat -> Shared -> Prop} {p : Array Nat} {a r : Nat} (hp : Pm n p) (h1 : 1 <= a) (ha : a <= r) (hr : r <= n) (hni : NI lt p a) (h : ∀ m q, 1 <= m -> m <= r -> Pm n q -> Sd lt q m -> Q (m, q) s) : (kas_tail3 a r p).kasWp cmp Q s := by
 unfold kas_tail3
 rw [KasT.kasWp_bind]
 have hz : a <= p.size := by rw [hp.size]; omega
 refine aBn hc hn (sJ hp 0 a) _ _ fun m h2 h3 h4 _ => ?_
 exact h m _ (by omega) (by omega) (sJ hp 0 a) (aKl o h1 (aMf o hz hni) h4)
omit hc hn in
theorem rev_eq {p : Array Nat} {i j : Nat} (hj : j <= p.size) (he : ∀ a b, i <= a -> a < j -> i <= b -> b < j -> le lt (Pt p a) (Pt p b)) (k : Nat) : le lt (Pt (kas_rev p i j) k) (Pt p k) /\ le lt (Pt p k) (Pt (kas_rev p i j) k) := by
 rw [sM hj]
 split
 ·rename_i h
  exact ⟨he _ _ (by omega) (by omega) h.1 h.2, he _ _ h.1 h.2 (by omega) (by omega)⟩
 ·exact ⟨o.rf _, o.rf _⟩
omit hc hn in
theorem oK {p : Array Nat} {i j m : Nat} (hj : j <= p.size) (he : ∀ a b, i <= a -> a < j -> i <= b -> b < j -> le lt (Pt p a) (Pt p b)) (h : NI lt p m) : NI lt (kas_rev p i j) m := fun a b hab hb =>
 o.tr _ _ _ (rev_eq o hj he b).1 (o.tr _ _ _ (h a b hab hb) (rev_eq o hj he a).2)
theorem qU {Q : Array Nat × Nat × Nat -> Shared -> Prop} {r : Nat} (hr : r <= n) : ∀ (f : Nat) (p : Array Nat) (a q : Nat), Pm n p -> a + f <= r -> q + 1 <= a -> NI lt p a -> (∀ x y, a - (q + 1) <= x -> x < a -> a - (q + 1) <= y -> y < a -> le lt (Pt p x) (Pt p y)) ->
  (∀ p' a' q', Pm n p' -> a <= a' -> a' <= r -> q' + 1 <= a' -> NI lt p' a' -> (∀ x y, a' - (q' + 1) <= x -> x < a' -> a' - (q' + 1) <= y -> y < a' -> le lt (Pt p' x) (Pt p' y)) -> Q (p', a', q') s) -> (kas_desc f p a q).kasWp cmp Q s
 | 0, p, a, q, hp, hf, hq, hni, he, h => h p a q hp (Nat.le_refl _) (by omega) hq hni he
 | f + 1, p, a, q, hp, hf, hq, hni, he, h => by
  have hz : a <= p.size := by rw [hp.size]; omega
  refine hc _ _ _ (hp.bd hn _) (hp.bd hn _) ?_
  show KasT.kasWp cmp (if lt (Pt p a) (Pt p (a - 1)) = true then (if q > 0 then kas_desc f (kas_rev p (a - (q + 1)) a) (a + 1) 0 else kas_desc f p (a + 1) 0)
   else .ask (Pt p (a - 1)) (Pt p a) fun d => if d = true then .ret (p, a, q) else kas_desc f p (a + 1) (q + 1)) Q s
  have grow : ∀ {p' : Array Nat}, NI lt p' a -> le lt (Pt p' a) (Pt p' (a - 1)) -> NI lt p' (a + 1) := fun {p'} h1 h2 i j hij hj => by
   by_cases e : j = a
   ·subst e
    by_cases e2 : i = j
    ·subst e2; exact o.rf _
    ·exact o.tr _ _ _ h2 (h1 i (j - 1) (by omega) (by omega))
   ·exact h1 i j hij (by omega)
  cases e : lt (Pt p a) (Pt p (a - 1)) with
  | true =>
   rw [if_pos rfl]
   by_cases hq0 : q > 0
   ·rw [if_pos hq0]
    have n1 := oK o hz he hni
    have e1 : Pt (kas_rev p (a - (q + 1)) a) a = Pt p a := by rw [sM hz, if_neg (by omega)]
    have le1 : le lt (Pt (kas_rev p (a - (q + 1)) a) a) (Pt (kas_rev p (a - (q + 1)) a) (a - 1)) := by
     rw [e1]
     exact o.tr _ _ _ (o.tot e) (rev_eq o hz he (a - 1)).2
    refine qU hr f _ (a + 1) 0 (sJ hp _ _) (by omega) (by omega) (grow n1 le1) (fun x y h1 h2 h3 h4 => ?_) fun p' a' q' k1 k2 k3 k4 k5 k6 => h p' a' q' k1 (by omega) k3 k4 k5 k6
    have : x = y := by omega
    subst this; exact o.rf _
   ·rw [if_neg hq0]
    refine qU hr f _ (a + 1) 0 hp (by omega) (by omega) (grow hni (o.tot e)) (fun x y h1 h2 h3 h4 => ?_) fun p' a' q' k1 k2 k3 k4 k5 k6 => h p' a' q' k1 (by omega) k3 k4 k5 k6
    have : x = y := by omega
    subst this; exact o.rf _
  | false =>
   rw [if_neg Bool.false_ne_true]
   refine hc _ _ _ (hp.bd hn _) (hp.bd hn _) ?_
   show KasT.kasWp cmp (if lt (Pt p (a - 1)) (Pt p a) = true then .ret (p, a, q) else kas_desc f p (a + 1) (q + 1)) Q s
   cases e2 : lt (Pt p (a - 1)) (Pt p a) with
   | true =>
    rw [if_pos rfl]
    exact h p a q hp (Nat.le_refl _) (by omega) hq hni he
   | false =>
    rw [if_neg Bool.false_ne_true]
    have eq1 : le lt (Pt p (a - 1)) (Pt p a) := e
    have eq2 : le lt (Pt p a) (Pt p (a - 1)) := e2
    refine qU hr f p (a + 1) (q + 1) hp (by omega) (by omega) (grow hni eq2) (fun x y h1 h2 h3 h4 => ?_) fun p' a' q' k1 k2 k3 k4 k5 k6 => h p' a' q' k1 (by omega) k3 k4 k5 k6
    by_cases hx : x = a
    ·subst hx
     by_cases hy : y = x
     ·subst hy; exact o.rf _
     ·exact o.tr _ _ _ eq2 (he _ _ (by omega) (by omega) (by omega) (by omega))
    ·by_cases hy : y = a
     ·subst hy
      exact o.tr _ _ _ (he _ (y - 1) (by omega) (by omega) (by omega) (by omega)) eq1
     ·exact he _ _ (by omega) (by omega) (by omega) (by omega)
theorem nS {Q : Nat × Array Nat -> Shared -> Prop} {p : Array Nat} {a r : Nat} (hp : Pm n p) (h1 : 1 <= a) (ha : a + 1 <= r) (hr : r <= n) (hni : NI lt p (a + 1)) (h : ∀ m q, 1 <= m -> m <= r -> Pm n q -> Sd lt q m -> Q (m, q) s) : (kas_descPart a r p).kasWp cmp Q s := by
 unfold kas_descPart
 rw [KasT.kasWp_bind]
 refine qU hc hn o hr _ p (a + 1) 0 hp (by omega) (by omega) hni (fun x y h1 h2 h3 h4 => ?_) fun p' a' q' k1 k2 k3 k4 k5 k6 => ?_
 ·have : x = y := by omega
  subst this; exact o.rf _
 ·have hz : a' <= p'.size := by rw [k1.size]; omega
  show KasT.kasWp cmp (if q' > 0 then kas_tail3 a' r (kas_rev p' (a' - (q' + 1)) a') else kas_tail3 a' r p') Q s
  by_cases hq : q' > 0
  ·rw [if_pos hq]
   exact aAs hc hn o (sJ k1 _ _) (by omega) k3 hr (oK o hz k6 k5) h
  ·rw [if_neg hq]
   exact aAs hc hn o k1 (by omega) k3 hr k5 h
theorem aC7 {Q : Nat × Array Nat -> Shared -> Prop} {p : Array Nat} {r : Nat} (hp : Pm n p) (h1 : 1 <= r) (hr : r <= n) (h : ∀ m q, 1 <= m -> m <= r -> Pm n q -> Sd lt q m -> Q (m, q) s) : (kas_count r p).kasWp cmp Q s := by
 unfold kas_count
 rw [KasT.kasWp_bind]
 have s1 : Sd lt p 1 := fun i j hij hj => by
  have : i = j := by omega
  subst this; exact o.rf _
 refine aBn hc hn hp _ _ fun m h2 h3 h4 h5 => ?_
 have sm := aKl o (Nat.le_refl 1) s1 h4
 show KasT.kasWp cmp (if (m == r) = true then .ret (m, p) else if m > 1 then .ask (Pt p 0) (Pt p (m - 1)) fun c => if c = true then .ret (m, p) else kas_descPart m r (kas_rev p 0 m) else kas_descPart m r p) Q s
 by_cases em : m = r
 ·rw [if_pos (by simp [em])]
  exact h m p h2 (by omega) hp sm
 ·rw [if_neg (by simp [em])]
  have hlt := h5 (by omega)
  have hz : m <= p.size := by rw [hp.size]; omega
  by_cases hm : m > 1
  ·rw [if_pos hm]
   refine hc _ _ _ (hp.bd hn _) (hp.bd hn _) ?_
   show KasT.kasWp cmp (if lt (Pt p 0) (Pt p (m - 1)) = true then .ret (m, p) else kas_descPart m r (kas_rev p 0 m)) Q s
   cases e : lt (Pt p 0) (Pt p (m - 1)) with
   | true => rw [if_pos rfl]; exact h m p h2 (by omega) hp sm
   | false =>
    rw [if_neg Bool.false_ne_true]
    have e : le lt (Pt p (m - 1)) (Pt p 0) := e
    have he : ∀ a b, 0 <= a -> a < m -> 0 <= b -> b < m -> le lt (Pt p a) (Pt p b) := fun a b _ ha _ hb =>
     o.tr _ _ _ (sm a (m - 1) (by omega) (by omega)) (o.tr _ _ _ e (sm 0 b (by omega) hb))
    have nm : NI lt p m := fun i j hij hj => he j i (by omega) hj (by omega) (by omega)
    have n2 := oK o hz he nm
    have em1 : Pt (kas_rev p 0 m) m = Pt p m := by rw [sM hz, if_neg (by omega)]
    refine nS hc hn o (sJ hp 0 m) (by omega) (by omega) hr (fun i j hij hj => ?_) h
    by_cases ej : j = m
    ·subst ej
     by_cases ei : i = j
     ·subst ei; exact o.rf _
     ·rw [em1]
      refine o.tr _ _ _ (o.tot hlt) (o.tr _ _ _ (rev_eq o hz he (j - 1)).2 ?_)
      exact n2 i (j - 1) (by omega) (by omega)
    ·exact n2 i j hij (by omega)
  ·rw [if_neg hm]
   have e1 : m = 1 := by omega
   subst e1
   refine nS hc hn o hp (Nat.le_refl 1) (by omega) hr (fun i j hij hj => ?_) h
   by_cases ei : i = j
   ·subst ei; exact o.rf _
   ·have : i = 0 /\ j = 1 := by omega
    obtain ⟨rfl, rfl⟩ := this
    exact o.tot hlt
theorem pS {Q : Nat -> Shared -> Prop} {p : Array Nat} {k : Nat} (hp : Pm n p) (hs : Sd lt p k) : ∀ (f l r : Nat), l <= r -> r <= k -> r - l <= f -> (∀ i, i < l -> le lt (Pt p i) (Pt p k)) -> (∀ i, r <= i -> i < k -> lt (Pt p k) (Pt p i) = true) ->
  (∀ m, m <= k -> (∀ i, i < m -> le lt (Pt p i) (Pt p k)) -> (∀ i, m <= i -> i < k -> lt (Pt p k) (Pt p i) = true) -> Q m s) -> (kas_place p k f l r).kasWp cmp Q s
 | 0, l, r, h1, h2, h3, h4, h5, h => by
  have : l = r := by omega
  subst this
  exact h l h2 h4 h5
 | f + 1, l, r, h1, h2, h3, h4, h5, h => by
  unfold kas_place
  by_cases e : l ≥ r
  ·rw [if_pos e]
   have : l = r := by omega
   subst this
   exact h l h2 h4 h5
  ·rw [if_neg e]
   refine hc _ _ _ (hp.bd hn _) (hp.bd hn _) ?_
   show KasT.kasWp cmp (if lt (Pt p k) (Pt p ((l + r) / 2)) = true then kas_place p k f l ((l + r) / 2) else kas_place p k f ((l + r) / 2 + 1) r) Q s
   cases ec : lt (Pt p k) (Pt p ((l + r) / 2)) with
   | true =>
    rw [if_pos rfl]
    refine pS hp hs f l ((l + r) / 2) (by omega) (by omega) (by omega) h4 (fun i i1 i2 => ?_) h
    cases ei : lt (Pt p k) (Pt p i) with
    | true => rfl
    | false =>
     have := o.tr _ _ _ (hs ((l + r) / 2) i i1 i2) ei
     rw [ec] at this; cases this
   | false =>
    rw [if_neg Bool.false_ne_true]
    refine pS hp hs f ((l + r) / 2 + 1) r (by omega) h2 (by omega) (fun i i1 => ?_) h5 h
    exact o.tr _ _ _ (hs i ((l + r) / 2) (by omega) (by omega)) ec
omit hc hn in
theorem aGk {p : Array Nat} {k l : Nat} (hk : k < p.size) (hl : l <= k) (i : Nat) : Pt (bubble p k (k - l)) i = if i = l then Pt p k else if l < i /\ i <= k then Pt p (i - 1) else Pt p i := by
 have e := getElem?_bubble hk (k - l) (by omega) i
 have e1 : k - (k - l) = l := by omega
 rw [e1] at e
 repeat' split
 ·rename_i h; rw [if_pos h] at e; exact aBd e
 ·rename_i h h2; rw [if_neg h, if_pos h2] at e; exact aBd e
 ·rename_i h h2; rw [if_neg h, if_neg h2] at e; exact aBd e
theorem aGf {Q : Array Nat -> Shared -> Prop} : ∀ (f : Nat) (p : Array Nat) (k : Nat), Pm n p -> k + f <= n -> Sd lt p k -> (∀ q, Pm n q -> Sd lt q (k + f) -> Q q s) -> (kas_bin f p k).kasWp cmp Q s
 | 0, p, k, hp, _, hs, h => h p hp hs
 | f + 1, p, k, hp, hk, hs, h => by
  unfold kas_bin
  rw [KasT.kasWp_bind]
  have hz : k < p.size := by rw [hp.size]; omega
  refine pS hc hn o hp hs k 0 k (Nat.zero_le _) (Nat.le_refl _) (by omega) (fun i h => absurd h (by omega)) (fun i h1 h2 => absurd h2 (by omega)) fun l hl h1 h2 => ?_
  refine aGf f _ (k + 1) ((bubble_perm _ _ _).trans hp) (by omega) (fun i j hij hj => ?_) fun q q1 q2 => h q q1 (by rw [show k + (f + 1) = k + 1 + f by omega]; exact q2)
  rw [aGk o hz hl, aGk o hz hl]
  by_cases ei : i = l
  ·rw [if_pos ei]
   by_cases ej : j = l
   ·rw [if_pos ej]; exact o.rf _
   ·rw [if_neg ej, if_pos ⟨by omega, by omega⟩]
    exact o.tot (h2 (j - 1) (by omega) (by omega))
  ·rw [if_neg ei]
   by_cases ej : j = l
   ·rw [if_pos ej, if_neg (by omega)]
    exact h1 i (by omega)
   ·rw [if_neg ej]
    by_cases hi : l < i /\ i <= k
    ·rw [if_pos hi, if_pos ⟨by omega, by omega⟩]
     exact hs _ _ (by omega) (by omega)
    ·rw [if_neg hi]
     by_cases hj2 : l < j /\ j <= k
     ·rw [if_pos hj2]
      exact hs _ _ (by omega) (by omega)
     ·rw [if_neg hj2]
      exact hs _ _ (by omega) (by omega)
theorem aG8 {Q : Array Nat -> Shared -> Prop} (h : ∀ q, Pm n q -> Sd lt q n -> Q q s) : (kas_sort n).kasWp cmp Q s := by
 unfold kas_sort
 rw [KasT.kasWp_bind]
 refine aC7 hc hn o (Array.Perm.refl _) hn (Nat.le_refl n) fun m q h1 h2 h3 h4 => ?_
 show KasT.kasWp cmp (if m < n then kas_bin (n - max m 1) q (max m 1) else .ret q) Q s
 have em : max m 1 = m := by omega
 by_cases e : m < n
 ·rw [if_pos e, em]
  refine aGf hc hn o _ _ _ h3 (by omega) h4 fun q' k1 k2 => h q' k1 (by rw [show m + (n - m) = n by omega] at k2; exact k2)
 ·rw [if_neg e]
  have : m = n := by omega
  subst this
  exact h q h3 h4
end
end SRT
namespace SRT
open PySem PySem.W PyProof.Rows L2
def TupI (h : Heap) (v : Value) (ns : List Int) : Prop := ∃ t o xs c, v = .ref t /\ h.get? t = some o /\ o.cls = .type "tuple" /\ o.data = .seq xs c /\ IntsAre xs.toList ns
theorem TupI.at {h h' : Heap} {v : Value} {ns : List Int} (x : TupI h v ns) (k : ∀ t o, v = .ref t -> h.get? t = some o -> h'.get? t = some o) : TupI h' v ns :=
 let ⟨t, o, xs, c, e, ho, r⟩ := x; ⟨t, o, xs, c, e, k t o e ho, r⟩
theorem pX : ∀ {vs : List Value} {ns : List Int}, IntsAre vs ns -> vs.length = ns.length
 | _, _, .nil => rfl
 | _, _, .cons _ _ r => by rw [List.length_cons, List.length_cons, pX r]
theorem zF : ∀ a b : List Int, HT.lexLt a b = true -> HT.lexLt b a = false
 | [], [], h => by cases h
 | [], _ :: _, _ => rfl
 | _ :: _, [], h => by cases h
 | x :: a, y :: b, h => by
  rw [HT.gH] at h ⊢
  by_cases e : x = y
  ·rw [if_pos e] at h; rw [if_pos e.symm]; exact zF a b h
  ·rw [if_neg e] at h; rw [if_neg (Ne.symm e)]
   have := of_decide_eq_true h
   exact decide_eq_false (by omega)
theorem zH : ∀ a b c : List Int, HT.lexLt b a = false -> HT.lexLt c b = false -> HT.lexLt c a = false
 | [], _, [], _, _ => rfl
 | [], b, _ :: _, _, _ => rfl
 | _ :: _, [], _, h, _ => by cases h
 | x :: a, y :: b, [], _, h => by cases h
 | x :: a, y :: b, z :: c, h1, h2 => by
  rw [HT.gH] at h1 h2 ⊢
  by_cases e1 : y = x
  ·subst e1
   rw [if_pos rfl] at h1
   by_cases e2 : z = y
   ·subst e2
    rw [if_pos rfl] at h2 ⊢
    exact zH a b c h1 h2
   ·rw [if_neg e2] at h2 ⊢
    exact h2
  ·rw [if_neg e1] at h1
   have q1 := of_decide_eq_false h1
   by_cases e2 : z = y
   ·subst e2
    rw [if_neg e1]
    exact h1
   ·rw [if_neg e2] at h2
    have q2 := of_decide_eq_false h2
    have e3 : z ≠ x := by omega
    rw [if_neg e3]
    exact decide_eq_false (by omega)
theorem aGt : ∀ a b : List Int, HT.lexLt a b = false -> HT.lexLt b a = false -> a = b
 | [], [], _, _ => rfl
 | [], _ :: _, h, _ => by cases h
 | _ :: _, [], _, h => by cases h
 | x :: a, y :: b, h1, h2 => by
  rw [HT.gH] at h1 h2
  by_cases e : x = y
  ·subst e
   rw [if_pos rfl] at h1 h2
   rw [aGt a b h1 h2]
  ·rw [if_neg e] at h1; rw [if_neg (Ne.symm e)] at h2
   have q1 := of_decide_eq_false h1
   have q2 := of_decide_eq_false h2
   omega
theorem aCv (ks : List (List Int)) : Ord fun i j => HT.lexLt (ks.getD i []) (ks.getD j []) := ⟨fun _ _ => zF _ _, fun _ _ _ => zH _ _ _⟩
section
variable {prog : Program} {w : World} {A : Around} {E : Value -> Shared -> Prop} {s : Shared}
theorem aG5 {b fin : Bool} {Q : Bool -> Shared -> Prop} : ∀ {us ws : List Value} {ns ms : List Int} (i : Nat), IntsAre us ns -> IntsAre ws ms -> (fin = decide (ns.length < ms.length)) -> Q (HT.lexLt ns ms) s -> KatLex prog w A b fin Q (us.zip ws) i s
 | _, _, [], [], i, .nil, .nil, hf, q => by
  rw [hf]; exact q
 | _, _, [], m :: ms, i, .nil, .cons _ _ _, hf, q => by
  rw [hf]
  show Q (decide (0 < ms.length + 1)) s
  rw [decide_eq_true (Nat.succ_pos _)]
  exact q
 | _, _, n :: ns, [], i, .cons _ _ _, .nil, hf, q => by
  rw [hf]
  show Q (decide (ns.length + 1 < 0)) s
  rw [decide_eq_false (Nat.not_lt_zero _)]
  exact q
 | _, _, n :: ns, m :: ms, i, .cons _ t hi, .cons _ u hj, hf, q => by
  rw [HT.gH] at q
  refine kat_cons (wpAny_eqBool_int ?_)
  by_cases e : n = m
  ·rw [if_pos e] at q
   rw [show (n == m) = true by simp [e]]
   exact kat_yes (aG5 (i + 1) hi hj (by rw [hf]; simp) q)
  ·rw [if_neg e] at q
   rw [show (n == m) = false by simp [e]]
   refine kat_no ?_
   cases eb : (b && i == 0) with
   | true => exact oneLt_int q
   | false => exact kat_one _ _ (lt_int q)
theorem aD1 {x y : Value} {ns ms : List Int} {Q : Bool -> Shared -> Prop} (b : Bool) (hx : TupI s.heap x ns) (hy : TupI s.heap y ms) (q : Q (HT.lexLt ns ms) s) : wpAny (model prog w) A (keyLt' (tuples' b) x y) Q E s := by
 obtain ⟨t, o, xs, c, rfl, ho, hc, hd, hi⟩ := hx
 obtain ⟨t2, o2, xs2, c2, rfl, ho2, hc2, hd2, hi2⟩ := hy
 refine kat_lt ho hd ho2 hd2 (aG5 0 hi hi2 ?_ q)
 have e1 := pX hi
 have e2 := pX hi2
 rw [Array.length_toList] at e1 e2
 rw [e1, e2]
def TupsI (h : Heap) (vs : List Value) (ks : List (List Int)) : Prop := vs.length = ks.length /\ ∀ (i : Nat) (v : Value) (k : List Int), vs[i]? = some v -> ks[i]? = some k -> TupI h v k /\ k ≠ []
theorem TupsI.cons {h : Heap} {v : Value} {vs : List Value} {ks : List (List Int)} (x : TupsI h (v :: vs) ks) : ∃ k r, ks = k :: r /\ TupI h v k /\ k ≠ [] /\ TupsI h vs r := by
 obtain ⟨hl, ha⟩ := x
 cases ks with
 | nil => simp at hl
 | cons k r =>
  obtain ⟨h1, h2⟩ := ha 0 v k rfl rfl
  exact ⟨k, r, rfl, h1, h2, by simpa using hl, fun i v k e1 e2 => ha (i + 1) v k (by simpa using e1) (by simpa using e2)⟩
theorem aPl {h : Heap} : ∀ {vs : List Value} {ks : List (List Int)}, TupsI h vs ks -> ∃ fs, KatTups h vs fs /\ fs.length = vs.length /\ ∀ f ∈ fs, ∃ i t, f = Value.int i t
 | [], _, _ => ⟨[], KatTups.nil, rfl, fun _ z => nomatch z⟩
 | v :: vs, ks, x => by
  obtain ⟨k, r, rfl, ⟨t, o, xs, c, rfl, ho, hc, hd, hi⟩, hk, hr⟩ := x.cons
  obtain ⟨fs, h1, h2, h3⟩ := aPl hr
  cases k with
  | nil => exact absurd rfl hk
  | cons n k =>
   cases hx : xs.toList with
   | nil => rw [hx] at hi; cases hi
   | cons y ys =>
    rw [hx] at hi
    cases hi with
    | cons _ tt _ =>
     refine ⟨.int n tt :: fs, KatTups.cons ho hc hd ?_ h1, by simp [h2], fun f hf => ?_⟩
     ·have : xs.toList[0]? = some (Value.int n tt) := by rw [hx]; rfl
      simpa using this
     ·rcases List.mem_cons.mp hf with rfl | hf
      ·exact ⟨n, tt, rfl⟩
      ·exact h3 f hf
theorem range_getD (vs : List Value) : ((List.range vs.length).map fun i => vs.getD i Value.none) = vs := by
 refine List.ext_getElem? fun i => ?_
 rw [List.getElem?_map]
 by_cases hi : i < vs.length
 ·rw [List.getElem?_range hi]
  simp [hi]
 ·rw [List.getElem?_eq_none (by rw [List.length_range]; omega), List.getElem?_eq_none (by omega)]
  rfl
theorem qB {a : Addr} {vs : List Value} {n : Nat} {ks : List (List Int)} {P : PySem.Fin -> Shared -> Prop} (ho : s.heap.get? a = some (seqObj "list" vs.toArray n)) (ht : TupsI s.heap vs ks) (hna : ∀ v ∈ vs, v ≠ .ref a) (h64 : vs.length < 64)
  (h : ∀ q : Array Nat, Pm vs.length q -> Sd (fun i j => HT.lexLt (ks.getD i []) (ks.getD j [])) q vs.length -> P (.done (.ret .none)) { s with heap := sortedHeap s.heap a vs (q.toList.map fun i => vs.getD i Value.none).toArray }) :
  wpAny (model prog w) A (Builtin.«list.sort» ⟨[.ref a], []⟩) P E s := by
 rw [list_sort_plain]
 have ha : a < s.heap.objs.size := Heap.lt_size ho
 refine wpAny_bind (listItems_at ho rfl ?_)
 refine wpAny_bind (listUpdate_at ho rfl ?_ (by rw [List.size_toArray, sizeLine_eq]; omega) (Nat.zero_le _))
 obtain ⟨e1, ho1⟩ : ∃ e1, (s.heap.update a (Obj.mapSeq fun _ => (#[] : Array Value))).get? a = some (seqObj "list" #[] e1) := ⟨_, get?_update_seq ho (fun _ => #[])⟩
 refine wpAny_bind (seqEpoch_at ho1 rfl ?_)
 refine wpAny_bind (wpAny_newTuple ?_ (by show vs.length <= _; rw [sizeLine_eq]; omega))
 refine wpAny_bind (wpAny_newList ?_ (Nat.zero_le _))
 refine wpAny_holding ?_
 have keep : ∀ b o, b ≠ a -> s.heap.get? b = some o -> (((s.heap.update a (Obj.mapSeq fun _ => (#[] : Array Value))).push (seqObj "tuple" vs.toArray 0)).push (seqObj "list" #[] 0)).get? b = some o := fun b o hb e => by
  refine Heap.get?_push_of_some _ (Heap.get?_push_of_some _ ?_)
  rw [Heap.get?_update_ne _ _ _ _ hb]
  exact e
 have ho6 : (((s.heap.update a (Obj.mapSeq fun _ => (#[] : Array Value))).push (seqObj "tuple" vs.toArray 0)).push (seqObj "list" #[] 0)).get? a = some (seqObj "list" #[] e1) := Heap.get?_push_of_some _ (Heap.get?_push_of_some _ ho1)
 show wpAny (model prog w) A _ P E { s with heap := ((s.heap.update a (Obj.mapSeq fun _ => (#[] : Array Value))).push (seqObj "tuple" vs.toArray 0)).push (seqObj "list" #[] 0) }
 dsimp only
 by_cases h2 : vs.toArray.size < 2
 ·rw [if_pos h2, if_pos h2]
  refine wpAny_bind (wpAny_pure ?_)
  rw [StateT.run_pure]
  refine wpAny_bind (wpAny_pure ?_)
  dsimp only
  have e0 : (arrOf (SortSt.mk' general' (vs.toArray.zip vs.toArray) #[] 7 none)).map (·.2) = ((List.range vs.length).toArray.toList.map fun i => vs.getD i Value.none).toArray := by
   show (vs.toArray.zip vs.toArray).map (·.2) = _
   rw [List.toList_toArray, range_getD]
   apply Array.toList_inj.mp
   simp [List.map_snd_zip]
  rw [e0]
  refine wpAny_bind (seqEpoch_at ho6 rfl ?_)
  refine wpAny_bind (listUpdate_at ho6 rfl ?_ (Nat.zero_le _) (by rw [List.toList_toArray, range_getD, List.size_toArray, sizeLine_eq]; omega))
  simp only [bne_self_eq_false, Bool.false_eq_true, if_false]
  refine wpAny_pure (h (List.range vs.length).toArray (Array.Perm.refl _) fun i j hij hj => ?_)
  have : i = j := by rw [List.size_toArray] at h2; omega
  subst this
  exact (aCv ks).rf _
 ·rw [if_neg h2, if_neg h2]
  have h2' : 2 <= vs.length := by rw [List.size_toArray] at h2; omega
  have ht6 : TupsI (((s.heap.update a (Obj.mapSeq fun _ => (#[] : Array Value))).push (seqObj "tuple" vs.toArray 0)).push (seqObj "list" #[] 0)) vs ks := ⟨ht.1, fun i v k q1 q2 => by
   obtain ⟨z1, z2⟩ := ht.2 i v k q1 q2
   exact ⟨z1.at fun t o ev et => keep t o (fun z => hna v (List.mem_of_getElem? q1) (by rw [ev, z])) et, z2⟩⟩
  obtain ⟨fs, f1, f2, f3⟩ := aPl ht6
  refine wpAny_bind (kat_kind (T := .type "int") f1 (by rw [f2]; omega) (fun v hv => ?_) rfl ?_)
  ·obtain ⟨i, t, rfl⟩ := f3 v hv
   exact .now
  refine wpAny_bind (wpAny_mono (kat_run (κ := tuples' (Value.type "int" != Value.type "tuple")) (ks := vs) (Q := fun st' s' => ∃ p : Array Nat, s' = { s with heap := ((s.heap.update a (Obj.mapSeq fun _ => (#[] : Array Value))).push (seqObj "tuple" vs.toArray 0)).push (seqObj "list" #[] 0) } /\ p.size = vs.length /\ arrOf st' = p.map (kas_item (vs.toArray.zip vs.toArray)) /\ failedOf st' = none /\ Pm vs.length p /\ Sd (fun i j => HT.lexLt (ks.getD i []) (ks.getD j [])) p vs.length)
   (G := fun p s' => s' = { s with heap := ((s.heap.update a (Obj.mapSeq fun _ => (#[] : Array Value))).push (seqObj "tuple" vs.toArray 0)).push (seqObj "list" #[] 0) } /\ Pm vs.length p /\ Sd (fun i j => HT.lexLt (ks.getD i []) (ks.getD j [])) p vs.length)
   rfl h2' h64 (fun p st' s' a1 a2 a3 a4 => ⟨p, a4.1, a1, a2, a3, a4.2⟩) (aG8 (n := vs.length) (lt := fun i j => HT.lexLt (ks.getD i []) (ks.getD j [])) (fun i j C hi hj hC => ?_) (by omega) (aCv ks) fun q q1 q2 => ⟨rfl, q1, q2⟩)) ?_ fun _ _ e => e)
  ·unfold kas_ask
   have hi' : vs[i]? = some vs[i] := List.getElem?_eq_getElem hi
   have hj' : vs[j]? = some vs[j] := List.getElem?_eq_getElem hj
   have ki : i < ks.length := by rw [<- ht.1]; exact hi
   have kj : j < ks.length := by rw [<- ht.1]; exact hj
   have di : vs.getD i Value.none = vs[i] := by simp [hi]
   have dj : vs.getD j Value.none = vs[j] := by simp [hj]
   have ei : ks.getD i [] = ks[i] := by simp [ki]
   have ej : ks.getD j [] = ks[j] := by simp [kj]
   rw [di, dj]
   rw [ei, ej] at hC
   exact aD1 _ (ht6.2 i _ _ hi' (List.getElem?_eq_getElem ki)).1 (ht6.2 j _ _ hj' (List.getElem?_eq_getElem kj)).1 hC
  ·rintro ⟨⟨⟩, st'⟩ s' ⟨p, rfl, hp, har, hf, hpm, hsd⟩
   dsimp only
   have hout := kat_snds (ks := vs) (vs := vs) rfl har
   have hsz : (List.toArray (p.toList.map fun i => vs.getD i Value.none)).size = vs.length := by rw [List.size_toArray, List.length_map, Array.length_toList, hp]
   rw [hout]
   refine wpAny_bind (seqEpoch_at ho6 rfl ?_)
   refine wpAny_bind (listUpdate_at ho6 rfl ?_ (Nat.zero_le _) (Nat.le_trans (Nat.le_of_eq hsz) (by rw [sizeLine_eq]; omega)))
   rw [hf]
   simp only [bne_self_eq_false, Bool.false_eq_true, if_false]
   exact wpAny_pure (h p hpm hsd)
theorem uY {h : Heap} {a : Addr} {vs : List Value} {out : Array Value} {b : Addr} {o : Obj} (hb : b ≠ a) (e : h.get? b = some o) : (sortedHeap h a vs out).get? b = some o := by
 unfold sortedHeap
 rw [Heap.get?_update_ne _ _ _ _ hb]
 refine Heap.get?_push_of_some _ (Heap.get?_push_of_some _ ?_)
 rw [Heap.get?_update_ne _ _ _ _ hb]
 exact e
theorem uQ {h : Heap} {a : Addr} {vs : List Value} {n : Nat} {out : Array Value} (e : h.get? a = some (seqObj "list" vs.toArray n)) : ∃ c, (sortedHeap h a vs out).get? a = some (seqObj "list" out c) := by
 obtain ⟨e1, ho1⟩ : ∃ e1, (h.update a (Obj.mapSeq fun _ => (#[] : Array Value))).get? a = some (seqObj "list" #[] e1) := ⟨_, get?_update_seq e (fun _ => #[])⟩
 exact ⟨_, get?_update_seq (Heap.get?_push_of_some _ (Heap.get?_push_of_some _ ho1)) fun _ => out⟩
theorem pN {r : Addr} {Q : Value -> Shared -> Prop} {Ok : List Value -> Prop} (hcol : ∀ R : List Value -> Shared -> Prop, (∀ h' tk vs, (∀ b o, s.heap.get? b = some o -> h'.get? b = some o) -> Ok vs -> R vs { s with heap := h', toks := tk }) -> wpAny (model prog w) A.in1 (collect (.ref r)) R E s)
  (ks : List (List Int)) (hok : ∀ vs, Ok vs -> TupsI s.heap vs ks /\ vs.length < 64)
  (h : ∀ (h' hf : Heap) (tk c : Nat) (vs : List Value) (q : Array Nat), (∀ b o, s.heap.get? b = some o -> h'.get? b = some o) -> (∀ b o, h'.get? b = some o -> hf.get? b = some o) -> Ok vs -> Pm vs.length q -> Sd (fun i j => HT.lexLt (ks.getD i []) (ks.getD j [])) q vs.length ->
   hf.get? h'.objs.size = some (seqObj "list" (q.toList.map fun i => vs.getD i Value.none).toArray c) -> Q (.ref h'.objs.size) { s with heap := hf, toks := tk }) :
  wpAny (model prog w) A (call (.builtin "sorted") [.ref r]) Q E s := by
 refine Calls.call_function_entry kind_sorted plain_sorted entry_sorted (args_sorted1 _) ?_
 unfold Builtin.«sorted»
 refine wpAny_bind (m := checkCount "sorted" 1 1 _) (wpAny_pure ?_)
 refine wpAny_bind (hcol _ fun h' tk vs keep ov => ?_)
 obtain ⟨ht, h64⟩ := hok vs ov
 refine wpAny_bind (wpAny_newList ?_ (by rw [sizeLine_eq]; omega))
 have hoL : (h'.push (seqObj "list" vs.toArray 0)).get? h'.objs.size = some (seqObj "list" vs.toArray 0) := Heap.get?_push_size _ rfl
 have keep2 : ∀ b o, s.heap.get? b = some o -> (h'.push (seqObj "list" vs.toArray 0)).get? b = some o := fun b o e => Heap.get?_push_of_some _ (keep b o e)
 have lt : ∀ b o, s.heap.get? b = some o -> b ≠ h'.objs.size := fun b o e => Nat.ne_of_lt (Heap.lt_size (keep b o e))
 have tat : ∀ v ∈ vs, ∃ t o, v = .ref t /\ s.heap.get? t = some o := fun v hv => by
  obtain ⟨i, hi, e⟩ := List.mem_iff_getElem.mp hv
  have ki : i < ks.length := by rw [<- ht.1]; exact hi
  obtain ⟨⟨t, o, _, _, e1, e2, _⟩, _⟩ := ht.2 i v ks[i] (by rw [List.getElem?_eq_getElem hi, e]) (List.getElem?_eq_getElem ki)
  exact ⟨t, o, e1, e2⟩
 have ht2 : TupsI (h'.push (seqObj "list" vs.toArray 0)) vs ks := ⟨ht.1, fun i v k q1 q2 => let ⟨z1, z2⟩ := ht.2 i v k q1 q2; ⟨z1.at fun t o _ et => keep2 t o et, z2⟩⟩
 refine wpAny_bind (wpAny_holding (wpAny_call_entry slot_list_sort ⟨_, hoL, rfl⟩ entry_list_sort (qB (s := { s with heap := h'.push (seqObj "list" vs.toArray 0), toks := tk }) hoL ht2 (fun v hv z => ?_) h64 fun q a1 a2 => ⟨_, rfl, ?_⟩) (args_list_sort _)))
 ·obtain ⟨t, o, e1, e2⟩ := tat v hv
  rw [e1] at z
  injection z with z
  exact lt t o e2 z
 ·obtain ⟨c, hc⟩ := uQ (out := (q.toList.map fun i => vs.getD i Value.none).toArray) hoL
  exact wpAny_pure ⟨_, rfl, h h' _ tk c vs q keep (fun b o e => uY (Nat.ne_of_lt (Heap.lt_size e)) (Heap.get?_push_of_some _ e)) ov a1 a2 hc⟩
def aG2 (H : Hp) (ts : List V) (ks : List (List Int)) : Prop := ts.length = ks.length /\ ∀ (i : Nat) (t : V) (k : List Int), ts[i]? = some t -> ks[i]? = some k -> (∃ b, t = .ref b /\ H b = some (.tup (k.map V.int))) /\ k ≠ []
end
theorem sX {P : Program} {w : World} {H : Hp} {h : Heap} {ts : List V} {ks : List (List Int)} {vs : List Value} (ok : HOk P w H h) (r : aG2 H ts ks) (v : Vals ts vs) : TupsI h vs ks := by
 have hl := v.length
 refine ⟨by rw [<- hl]; exact r.1, fun i u k e1 e2 => ?_⟩
 have hi : i < ts.length := by
  have := (List.getElem?_eq_some_iff.mp e1).1
  omega
 obtain ⟨⟨b, eb, hb⟩, hk⟩ := r.2 i ts[i] k (List.getElem?_eq_getElem hi) e2
 obtain ⟨u', e3, ru⟩ := v.get (i := i) (x := ts[i]) (List.getElem?_eq_getElem hi)
 rw [e1] at e3
 cases e3
 rw [eb] at ru
 cases (show u = Value.ref b from ru)
 obtain ⟨_, its, rv, o, ho, hc, n, hd⟩ := (show ObjOk P w H h b (.tup (k.map V.int)) from ok b _ hb)
 exact ⟨⟨b, o, _, n, rfl, ho, hc, hd, by rw [List.toList_toArray]; exact intsAre_of rv⟩, hk⟩
def aC5 (ks : List (List Int)) : Nat -> Nat -> Bool := fun i j => HT.lexLt (ks.getD i []) (ks.getD j [])
theorem rN {ts : List V} {vs : List Value} (v : Vals ts vs) : ∀ (l : List Nat), (∀ i ∈ l, i < ts.length) -> Vals (l.map fun i => ts.getD i .non) (l.map fun i => vs.getD i Value.none)
 | [], _ => .nil
 | i :: l, h => by
  have hi := h i (.head _)
  obtain ⟨u, e, r⟩ := v.get (i := i) (x := ts[i]) (List.getElem?_eq_getElem hi)
  have e1 : ts.getD i .non = ts[i] := by simp [hi]
  have e2 : vs.getD i Value.none = u := by simp [e]
  refine .cons ?_ (rN v l fun j hj => h j (.tail _ hj))
  show RelV (ts.getD i .non) (vs.getD i Value.none)
  rw [e1, e2]; exact r
theorem Paired.get {α β : Type} {F : α -> β -> Prop} : ∀ {l₁ : List α} {l₂ : List β} {i : Nat} {a : α}, Paired F l₁ l₂ -> l₁[i]? = some a -> ∃ b, l₂[i]? = some b /\ F a b
 | _, _, _, _, .nil, e => by simp at e
 | _, _, 0, _, .cons h _, e => by simp at e; subst e; exact ⟨_, rfl, h⟩
 | _, _, i + 1, _, .cons _ r, e => by
  have := Paired.get (i := i) r (by simpa using e)
  simpa using this
theorem sC {κ : Type} : ∀ l : List (κ × Addr × Value), Vals (l.map fun x => V.ref x.2.1) (l.map fun x => Value.ref x.2.1)
 | [] => .nil
 | _ :: l => .cons rfl (sC l)
section
variable {X : Cx}
theorem vO {pins : List (Addr × Obj)} {σ : L2.St} {H : Hp} {s : Shared} {Q : VK} {ts : List V} {vs : List Value} {h' hf : Heap} {tk c : Nat} {q : Array Nat} (I : Inv X pins σ H s) (v : Vals ts vs) (h64 : vs.length < 64) (k1 : ∀ b o, s.heap.get? b = some o -> h'.get? b = some o) (k2 : ∀ b o, h'.get? b = some o -> hf.get? b = some o) (hp : Pm vs.length q)
  (hc : hf.get? h'.objs.size = some (seqObj "list" (q.toList.map fun i => vs.getD i Value.none).toArray c)) (hq : ∀ D, H D = none -> Q (.ref D) (upd H D (.lst (q.toList.map fun i => ts.getD i .non)))) : EP X pins σ Q (.ref h'.objs.size) { s with heap := hf, toks := tk } := by
 have I1 : Inv X pins σ H { s with heap := h', toks := tk } := I.kept (t' := tk) k1
 have hb : ∀ i ∈ q.toList, i < ts.length := fun i hi => by
  have : i ∈ (List.range vs.length).toArray := hp.mem_iff.mp (Array.mem_toList_iff.mp hi)
  rw [v.length]
  simpa using this
 have hl : q.toList.length = vs.length := by rw [Array.length_toList]; exact hp.size
 refine ⟨.ref h'.objs.size, _, I1.laid (a := h'.objs.size) (o := .lst (q.toList.map fun i => ts.getD i .non)) (t' := tk) k2 (Nat.le_refl _) ⟨?_, _, c, rN v _ hb, hc⟩, rfl, hq _ (I1.hok.fresh (Nat.le_refl _))⟩
 rw [List.length_map, hl, sizeLine_eq]
 omega
def aGh : List V -> Hp -> VK -> Prop := fun xs H Q => ∃ a kv ks, xs = [.ref a] /\ H a = some (.dT kv) /\ kv.map (·.1) = ks.map (List.map Sum.inl) /\ (∀ k ∈ ks, k ≠ []) /\ kv.length < 64 /\
 ∀ ts D q, aG2 H ts ks -> H D = none -> Pm ts.length q -> Sd (aC5 ks) q ts.length -> Q (.ref D) (upd H D (.lst (q.toList.map fun i => ts.getD i .non)))
theorem yF (hcm : X.calm = true) : mG X (.builtin "sorted") aGh := by
 intro pins s σ H xs us Q I r h
 obtain ⟨a, kv, ks, rfl, ha, hk, hne, h64, q⟩ := h
 obtain ⟨u, rfl, ru⟩ := vals1 r
 cases (show u = Value.ref a from ru)
 obtain ⟨hz, hsys, es0, rel, o, es, ep, h1, h2, h3, h4, h5⟩ := (show ObjOk X.prog X.w H s.heap a (.dT kv) from I.hok a _ ha)
 have hraw : RawD s.heap a es ep := ⟨o, h1, h2, h3⟩
 have len1 : kv.length = es0.length := rel.length
 have len2 : es.size = es0.length := by rw [<- Array.length_toList, h4, List.length_map]
 have len3 : ks.length = kv.length := by
  have := congrArg List.length hk
  simpa using this.symm
 have hts : aG2 H (es0.map fun x => V.ref x.2.1) ks := by
  refine ⟨by rw [List.length_map]; omega, fun i t k e1 e2 => ?_⟩
  rw [List.getElem?_map] at e1
  cases ex : es0[i]? with
  | none => rw [ex] at e1; cases e1
  | some x =>
   rw [ex] at e1
   cases e1
   have hi : i < kv.length := by rw [len1]; exact (List.getElem?_eq_some_iff.mp ex).1
   obtain ⟨y, ey, hy1, hy2, _⟩ := Paired.get rel (List.getElem?_eq_getElem hi)
   rw [ex] at ey
   cases ey
   refine ⟨⟨x.2.1, rfl, ?_⟩, hne k (List.mem_of_getElem? e2)⟩
   have hkk : (kv.map (·.1))[i]? = (ks.map (List.map Sum.inl))[i]? := by rw [hk]
   rw [List.getElem?_map, List.getElem?_map, List.getElem?_eq_getElem hi, e2] at hkk
   have hkk : kv[i].1 = k.map Sum.inl := Option.some.inj hkk
   rw [hkk, List.map_map] at hy2
   exact hy2
 have hvs : ∀ vs : List Value, vs.length = es.size -> (∀ (j : Nat) v, vs[j]? = some v -> ∃ e, es[j]? = some e /\ v = e.key) -> Vals (es0.map fun x => V.ref x.2.1) vs := fun vs hl hv => by
  have ev : vs = es0.map fun x => Value.ref x.2.1 := by
   refine List.ext_getElem? fun i => ?_
   rw [List.getElem?_map]
   by_cases hi : i < vs.length
   ·have hi2 : i < es0.length := by omega
    obtain ⟨e, e1, e2⟩ := hv i vs[i] (List.getElem?_eq_getElem hi)
    have e3 : es.toList[i]? = some e := by simpa using e1
    rw [h4, List.getElem?_map, List.getElem?_eq_getElem hi2] at e3
    have e3 := Option.some.inj e3
    rw [List.getElem?_eq_getElem hi, List.getElem?_eq_getElem hi2, e2, <- e3]
    rfl
   ·rw [List.getElem?_eq_none (by omega), List.getElem?_eq_none (by omega)]
    rfl
  rw [ev]
  exact sC _
 refine pN (Ok := fun vs => vs.length = es.size /\ ∀ (j : Nat) v, vs[j]? = some v -> ∃ e, es[j]? = some e /\ v = e.key) (fun R hR => ?_) ks (fun vs e => ⟨sX I.hok hts (hvs vs e.1 e.2), by omega⟩) fun h' hf tk c vs q' k1 k2 e p1 p2 hc => ?_
 ·refine kdu_collect (A := X.A.in1) (aJc (prog := X.prog) (w := X.w) (ep := ep) (es := es) hsys) (I.ok.hd hcm) hraw (by omega) fun h' tk acc hk hacc => hR h' tk _ hk ⟨by rw [Array.length_toList]; exact hacc.1, fun j v e => hacc.2 j v (by simpa using e)⟩
 ·have rv := hvs vs e.1 e.2
  have hlen := rv.length
  exact vO I rv (by omega) k1 k2 p1 hc fun D hD => q _ D q' hts hD (hlen ▸ p1) (hlen ▸ p2)
end
end SRT
namespace M
open PySem PySem.Spec PyProof.Rows L2 SRT
def mU (k : List Int) : D := .tuple (k.map .int)
def uI : List D -> Option (List Int)
 | [] => some []
 | .int i :: ds => match uI ds with
  | some r => some (i :: r)
  | none => none
 | _ => none
def aCd : D -> Option (List Int)
 | .tuple ds => uI ds
 | _ => none
def pT : List D -> Option (List (List Int))
 | [] => some []
 | d :: ds => match aCd d with
  | none => none
  | some k => match pT ds with
   | none => none
   | some ks => some (k :: ks)
theorem wV : ∀ {ds : List D} {k : List Int}, uI ds = some k -> ds = k.map .int
 | [], _, h => by cases h; rfl
 | d :: ds, k, h => by
  cases d with
  | int i =>
   unfold uI at h
   cases e : uI ds with
   | none => rw [e] at h; cases h
   | some r => rw [e] at h; cases h; rw [wV e]; rfl
  | _ => cases h
theorem sV : ∀ k : List Int, uI (k.map .int) = some k
 | [] => rfl
 | i :: k => by
  show (match uI (k.map .int) with | some r => some (i :: r) | none => none) = _
  rw [sV k]
theorem aA2 (k : List Int) : aCd (mU k) = some k := sV k
theorem aFs {d : D} {k : List Int} (h : aCd d = some k) : d = mU k := by
 cases d with
 | tuple ds => unfold mU; rw [<- wV h]
 | _ => cases h
theorem rC : ∀ {ds : List D} {ks : List (List Int)}, pT ds = some ks -> ds = ks.map mU
 | [], _, h => by cases h; rfl
 | d :: ds, ks, h => by
  unfold pT at h
  cases e : aCd d with
  | none => rw [e] at h; cases h
  | some k =>
   rw [e] at h
   cases e2 : pT ds with
   | none => rw [e2] at h; cases h
   | some ks' => rw [e2] at h; cases h; rw [aFs e, rC e2]; rfl
theorem n8 : ∀ ks : List (List Int), pT (ks.map mU) = some ks
 | [] => rfl
 | k :: ks => by
  show (match aCd (mU k) with | none => none | some k => match pT (ks.map mU) with | none => none | some ks => some (k :: ks)) = _
  rw [aA2, n8 ks]
def aH5 (k : List Int) : List (List Int) -> List (List Int)
 | [] => [k]
 | x :: r => if HT.lexLt k x = true then k :: x :: r else x :: aH5 k r
def iL : List (List Int) -> List (List Int)
 | [] => []
 | k :: ks => aH5 k (iL ks)
def leK (a b : List Int) : Prop := HT.lexLt b a = false
theorem oJ (k : List Int) : ∀ l, (aH5 k l).Perm (k :: l)
 | [] => .refl _
 | x :: r => by
  unfold aH5
  split
  ·exact .refl _
  ·exact ((oJ k r).cons x).trans (List.Perm.swap k x r)
theorem cQ : ∀ l, (iL l).Perm l
 | [] => .refl _
 | k :: ks => (oJ k _).trans ((cQ ks).cons k)
theorem aFc {k y : List Int} {l : List (List Int)} (h : y ∈ aH5 k l) : y = k \/ y ∈ l := by
 have := (oJ k l).mem_iff.mp h
 exact List.mem_cons.mp this
theorem nA (k : List Int) : ∀ l, l.Pairwise leK -> (aH5 k l).Pairwise leK
 | [], _ => List.pairwise_singleton _ _
 | x :: r, h => by
  unfold aH5
  obtain ⟨h1, h2⟩ := List.pairwise_cons.mp h
  split
  ·rename_i e
   have e1 := zF _ _ e
   exact List.pairwise_cons.mpr ⟨fun y hy => by
    rcases List.mem_cons.mp hy with rfl | hy
    ·exact e1
    ·exact zH _ _ _ e1 (h1 y hy), h⟩
  ·rename_i e
   refine List.pairwise_cons.mpr ⟨fun y hy => ?_, nA k r h2⟩
   rcases aFc hy with rfl | hy
   ·exact Bool.eq_false_iff.mpr e
   ·exact h1 y hy
theorem fX : ∀ l, (iL l).Pairwise leK
 | [] => .nil
 | k :: ks => nA k _ (fX ks)
theorem jT : ∀ {a b : List (List Int)}, a.Perm b -> a.Pairwise leK -> b.Pairwise leK -> a = b
 | [], b, p, _, _ => (List.Perm.nil_eq p)
 | x :: a, [], p, _, _ => absurd p.length_eq (by simp)
 | x :: a, y :: b, p, ha, hb => by
  obtain ⟨a1, a2⟩ := List.pairwise_cons.mp ha
  obtain ⟨b1, b2⟩ := List.pairwise_cons.mp hb
  have hx : x ∈ y :: b := p.mem_iff.mp (.head _)
  have hy : y ∈ x :: a := p.mem_iff.mpr (.head _)
  have e : x = y := by
   rcases List.mem_cons.mp hx with e | hx
   ·exact e
   ·rcases List.mem_cons.mp hy with e | hy
    ·exact e.symm
    ·exact aGt _ _ (b1 x hx) (a1 y hy)
  subst e
  rw [jT (List.Perm.cons_inv p) a2 b2]
theorem picked {ks : List (List Int)} {q : Array Nat} {n : Nat} (hn : n = ks.length) (hp : Pm n q) (hs : Sd (aC5 ks) q n) : (q.toList.map fun i => ks.getD i []) = iL ks := by
 subst hn
 have e0 : ((List.range ks.length).map fun i => ks.getD i []) = ks := by
  refine List.ext_getElem? fun i => ?_
  rw [List.getElem?_map]
  by_cases hi : i < ks.length
  ·rw [List.getElem?_range hi]; simp [hi]
  ·rw [List.getElem?_eq_none (by rw [List.length_range]; omega), List.getElem?_eq_none (by omega)]; rfl
 have p1 : q.toList.Perm (List.range ks.length) := by
  have := hp.toList
  simpa using this
 have p2 : (q.toList.map fun i => ks.getD i []).Perm ks := by
  have := p1.map (fun i => ks.getD i [])
  rwa [e0] at this
 refine jT (p2.trans (cQ ks).symm) ?_ (fX ks)
 rw [List.pairwise_iff_getElem]
 intro i j hi hj hij
 rw [List.length_map] at hi hj
 rw [List.getElem_map, List.getElem_map]
 have sz : q.toList.length = ks.length := by rw [Array.length_toList]; exact hp.size
 have := hs i j (Nat.le_of_lt hij) (by omega)
 unfold SRT.le aC5 Pt at this
 have e1 : q.getD i 0 = q.toList[i] := by
  have : i < q.size := by rw [<- Array.length_toList]; exact hi
  simp [Array.getD, this]
 have e2 : q.getD j 0 = q.toList[j] := by
  have : j < q.size := by rw [<- Array.length_toList]; exact hj
  simp [Array.getD, this]
 rw [e1, e2] at this
 exact this
section
variable {X : Cx} {K : PySem.W.Frag}
theorem aDy {G : Hp} {v : V} {k : List Int} (h : Rep K G v (mU k)) : ∃ b, v = .ref b /\ G b = some (.tup (k.map V.int)) := by
 cases h with
 | @tup b xs _ h1 h2 =>
  refine ⟨b, rfl, ?_⟩
  have : xs = k.map V.int := by
   clear h1
   induction k generalizing xs with
   | nil => cases h2; rfl
   | cons i k ih =>
    cases h2 with
    | cons r t => cases r; rw [ih t]; rfl
  rw [<- this]; exact h1
theorem wJ {G : Hp} {b : Addr} {k : List Int} (h : G b = some (.tup (k.map V.int))) : Rep K G (.ref b) (mU k) := by
 refine .tup h ?_
 clear h
 induction k with
 | nil => exact .nil
 | cons i k ih => exact .cons (.int i) ih
theorem aAf {G H : Hp} (gh : Same G H) : ∀ {ts : List V} {ks : List (List Int)}, Reps K G ts (ks.map mU) -> (∀ k ∈ ks, k ≠ []) -> aG2 H ts ks := by
 intro ts ks r hne
 refine ⟨by rw [r.length, List.length_map], fun i t k e1 e2 => ?_⟩
 obtain ⟨d, e3, rd⟩ := r.get e1
 rw [List.getElem?_map, e2] at e3
 cases e3
 obtain ⟨b, rfl, hb⟩ := aDy rd
 exact ⟨⟨b, rfl, gh _ _ hb⟩, hne k (List.mem_of_getElem? e2)⟩
theorem nG {G : Hp} {ts : List V} {ks : List (List Int)} (h : ∀ (i : Nat), i < ks.length -> Rep K G (ts.getD i .non) (mU (ks.getD i []))) : ∀ l : List Nat, (∀ i ∈ l, i < ks.length) -> Reps K G (l.map fun i => ts.getD i .non) ((l.map fun i => ks.getD i []).map mU)
 | [], _ => .nil
 | i :: l, hl => .cons (h i (hl i (.head _))) (nG h l fun j hj => hl j (.tail _ hj))
theorem aL2 {n : Nat} {q : Array Nat} (hp : Pm n q) : ∀ i ∈ q.toList, i < n := fun i hi => by
 have : i ∈ (List.range n).toArray := hp.mem_iff.mp (Array.mem_toList_iff.mp hi)
 simpa using this
theorem aAt {ks : List (List Int)} (h : (ks.all fun k => !k.isEmpty) = true) : ∀ k ∈ ks, k ≠ [] := fun k hk z => by
 have := List.all_eq_true.mp h k hk
 rw [z] at this
 cases this
def wt (G H : Hp) : Hp := fun b => match G b with
 | some o => some o
 | none => match H b with
  | some (.tup xs) => some (.tup xs)
  | _ => none
theorem aJu {G H : Hp} : Same G (wt G H) := fun b o e => by unfold wt; rw [e]
theorem aB1 {G H : Hp} (gh : Same G H) : Same (wt G H) H := fun b o e => by
 unfold wt at e
 cases eg : G b with
 | some u => rw [eg] at e; cases e; exact gh _ _ eg
 | none =>
  rw [eg] at e
  dsimp only at e
  split at e
  ·rename_i xs eh
   cases e; exact eh
  ·cases e
theorem aG3 {G H : Hp} (gh : Same G H) {b : Addr} {xs : List V} (e : H b = some (.tup xs)) : wt G H b = some (.tup xs) := by
 unfold wt
 cases eg : G b with
 | some u =>
  have := gh _ _ eg
  rw [e] at this
  exact this.symm
 | none => dsimp only; rw [e]
theorem yW {G H : Hp} (gh : Same G H) : Step G H (wt G H) H := ⟨aJu, Same.refl _, aB1 gh, fun b hb hg => by
 unfold wt
 rw [hg]
 dsimp only
 split
 ·rename_i xs eh; exact .inr ⟨xs, eh⟩
 ·exact .inl rfl⟩
def gE (rs : List Ev) : Res Ev := match rs with
 | [x] => match oQ x with
  | some kvs => if (dsp kvs).1 = false then match pT (kvs.map (·.1)) with
    | some ks => if (ks.all fun k => !k.isEmpty) = true /\ ks.length < 64 then .ok (.f (.list ((iL ks).map mU))) else .bad
    | none => .bad
   else .bad
  | none => .bad
 | _ => .bad
theorem uO : aCx gE := by
 intro rs C h
 unfold gE at h
 split at h
 ·split at h
  ·split at h
   ·split at h
    ·split at h <;> cases h
    ·cases h
   ·cases h
  ·cases h
 ·cases h
theorem aEd {k : List Key} {n : List Int} (h : tkD k = mU n) : k = n.map Sum.inl := by
 unfold tkD mU at h
 injection h with h
 induction k generalizing n with
 | nil => cases n with
  | nil => rfl
  | cons _ _ => cases h
 | cons x k ih =>
  cases n with
  | nil => cases h
  | cons y n =>
   rw [List.map_cons, List.map_cons] at h
   injection h with h1 h2
   cases x with
   | inl i => cases h1; rw [ih h2]; rfl
   | inr i => cases h1
theorem rO {G : Hp} : ∀ {kv : List (List Key × V)} {kvs : List (D × D)} {ks : List (List Int)}, RepT K G kv kvs -> kvs.map (·.1) = ks.map mU -> kv.map (·.1) = ks.map (List.map Sum.inl)
 | _, _, [], .nil, _ => rfl
 | _, _, _ :: _, .nil, h => by cases h
 | _, _, [], .cons _ _, h => by cases h
 | _, _, k :: ks, .cons _ t, h => by
  rw [List.map_cons, List.map_cons] at h
  injection h with h1 h2
  rw [List.map_cons, List.map_cons, rO t h2, aEd h1]
theorem yA : oX K aGh gE := by
 intro W Hs G H vs rs Q gh he hw
 unfold gE at hw
 split at hw
 ·rename_i x
  match vs, he with
  | [v], ⟨h1, _⟩ =>
   split at hw
   ·rename_i kvs ed
    obtain ⟨a, rfl, hd⟩ := aCg gh h1 ed
    split at hw
    ·rename_i hk
     rcases hd with ⟨kv, k1, k2⟩ | ⟨kv, r, rfl, k1, k2⟩
     ·split at hw
      ·rename_i ks ek
       split at hw
       ·rename_i hz
        have ek := rC ek
        have hne := aAt hz.1
        have hl : kv.length = ks.length := by rw [k2.len, <- List.length_map (f := (·.1)), ek, List.length_map]
        refine ⟨a, kv, ks, rfl, k1, rO k2 ek, hne, by omega, fun ts D q rI hD hp hs => ?_⟩
        have hl2 : ts.length = ks.length := rI.1
        have ep := picked hl2 hp hs
        have st := (yW gh).trans (Step.lay (o := .lst (q.toList.map fun i => ts.getD i .non)) (aB1 gh) hD)
        refine hw _ _ _ st ⟨D, _, rfl, hD, (aB1 gh).free hD, bQ, .lst ?_⟩
        rw [<- ep]
        refine nG (fun i hi => ?_) _ fun i hi => by rw [<- hl2]; exact aL2 hp i hi
        have hi' : i < ts.length := by omega
        obtain ⟨⟨b, eb, hb⟩, _⟩ := rI.2 i ts[i] ks[i] (List.getElem?_eq_getElem hi') (List.getElem?_eq_getElem hi)
        have e1 : ts.getD i .non = ts[i] := by simp [hi']
        have e2 : ks.getD i [] = ks[i] := by simp [hi]
        rw [e1, e2, eb]
        exact wJ (aG3 gh hb)
       ·exact hw.elim
      ·exact hw.elim
     ·cases hk
    ·exact hw.elim
   ·exact hw.elim
 ·exact hw.elim
theorem aHy {prog : Program} {w : World} {A : Around} {E : Value -> Shared -> Prop} {s : Shared} {d : Addr} {es : Array DictEntry} {ep : Nat} {Q : Value -> Shared -> Prop} (hd : (d == sysModules) = false) (hm : RawD s.heap d es ep) (hfit : (es.size : Int) < 2 ^ 63)
  (h : Q (.int es.size (s.toks + 1)) { s with toks := s.toks + 1 + 1 }) : wpAny (model prog w) A (call (.builtin "len") [.ref d]) Q E s := by
 refine Calls.call_function_entry kind_len plain_len entry_len (args_len1 _) ?_
 unfold Builtin.«len»
 refine wpAny_bind (m := oneArg "len" _) (wpAny_pure ?_)
 have meets : MeetsIn prog w (Builtin.«dict.__len__» ⟨[.ref d], []⟩) (fun _ R s => RawD s.heap d es ep /\ R (.ok (.ret (.int es.size s.toks))) { s with toks := s.toks + 1 }) :=
  .of_wp fun A R s ⟨hm, h⟩ => by
   obtain ⟨o, ho, hc, hdat⟩ := hm
   show wpAny _ _ (dictSize d >>= _) _ _ s
   unfold dictSize
   refine wpAny_bind (wpAny_bind (wpAny_dictEntries ho hdat (wpAny_pure ?_)))
   show wpAny _ _ (Builtin.Dict.pendingCount d >>= _) _ _ s
   refine wpAny_bind (wpAny_pendingCount_other hd ?_)
   refine wpAny_ret_mkInt ?_
   rw [Nat.add_zero]; exact h
 refine wpAny_bind (m := callSpecial? (.ref d) (Str.ofString "__len__")) (wpAny_callSpecial?_slot (name := Str.ofString "__len__") hm.ty F.slot_dict_len
  (call_meetsIn F.slot_dict_len hm.ty F.entry_dict_len (F.args_dict_len_1 _) meets ⟨hm, ?_⟩))
 show wpAny _ _ _ _ _ { s with toks := s.toks + 1 }
 refine wpAny_bind (wpAny_holding (wpAny_pure ?_))
 refine wpAny_bind (wpAny_letGo ?_)
 show wpAny _ _ (if ((es.size : Nat) : Int) < 0 then _ else _) _ _ _
 rw [if_neg (by omega)]
 show wpAny _ _ (if ((es.size : Nat) : Int) ≥ 2 ^ 63 then _ else _) _ _ _
 rw [if_neg (by omega)]
 exact wpAny_bind (wpAny_mkInt (wpAny_pure ⟨_, rfl, h⟩))
def aMc : List V -> Hp -> VK -> Prop := fun xs H Q => ∃ a, xs = [.ref a] /\ ((∃ kv, H a = some (.dT kv) /\ Q (.int kv.length) H) \/ ∃ kv, H a = some (.dK kv) /\ Q (.int kv.length) H)
theorem xX : mG X (.builtin "len") aMc := by
 intro pins s σ H xs us Q I r h
 obtain ⟨a, rfl, h⟩ := h
 obtain ⟨u, rfl, ru⟩ := vals1 r
 cases (show u = Value.ref a from ru)
 rcases h with ⟨kv, ha, q⟩ | ⟨kv, ha, q⟩
 ·obtain ⟨hz, hsys, es0, rel, o, es, ep, h1, h2, h3, h4, h5⟩ := (show ObjOk X.prog X.w H s.heap a (.dT kv) from I.hok a _ ha)
  have len1 : kv.length = es0.length := rel.length
  have len2 : es.size = es0.length := by rw [<- Array.length_toList, h4, List.length_map]
  rw [sizeLine_eq] at hz
  refine aHy hsys ⟨o, h1, h2, h3⟩ (by omega) ⟨.int kv.length, H, I.tok _, ⟨s.toks + 1, by rw [len2, len1]⟩, q⟩
 ·exact aNl I (.inl ha) fun t s' I' => ⟨.int kv.length, H, I', ⟨t, rfl⟩, q⟩
theorem aI0 : oX K aMc pR := by
 intro W Hs G H vs rs Q gh he hw
 unfold pR at hw
 split at hw
 ·rename_i x
  match vs, he with
  | [v], ⟨h1, _⟩ =>
   split at hw
   ·rename_i kvs ed
    obtain ⟨a, rfl, hd⟩ := aCg gh h1 ed
    refine ⟨a, rfl, ?_⟩
    rcases hd with ⟨kv, k1, k2⟩ | ⟨kv, r, rfl, k1, k2⟩
    ·refine .inl ⟨kv, k1, ?_⟩
     rw [aJ0 k2] at hw
     rw [k2.len]
     exact hw G H _ (Step.refl gh) (.int _)
    ·refine .inr ⟨kv, k1, ?_⟩
     rw [k2.len]
     exact hw G H _ (Step.refl gh) (.int _)
   ·exact hw.elim
 ·exact hw.elim
end
end M
namespace L2
open PySem PySem.Spec PyProof.Rows
section
variable {X : Cx}
end
end L2
namespace M
open PySem PySem.Spec PyProof.Rows L2
section
variable {X : Cx} {E : L2.St -> XK}
def aFq (i : Nat) (g : List D -> Option (List D)) : MS := fun en => match en[i]? with
 | some (some (.o (.list ds))) => match g ds with
  | some es => some (.nx (en.set i (some (.o (.list es)))))
  | none => none
 | _ => none
theorem aIz {i : Nat} {st : Stmt} {r : V -> List V -> Hp -> VK -> Prop} {g : List D -> Option (List D)} (hp : PS X st (aDw (aO2 X.K "list" r (aJ7 i))))
  (hg : ∀ (G H : Hp) (a : Addr) (xs : List V) (ds es : List D) (Q : VK), H a = some (.lst xs) -> Reps X.K G xs ds -> g ds = some es -> (∀ u ys, Reps X.K G ys es -> Q u (upd H a (.lst ys))) -> r (.ref a) [] H Q) : DS X E st (aFq i g) := by
 refine DS.in ⟨_, hp, fun B G0 G W H σ en Dn hh hs hw => ?_⟩
 unfold aFq at hw
 split at hw
 ·rename_i ds ei
  obtain ⟨v, e1, a, o, rfl, e2, e3, e4⟩ := hs.2 i _ ei
  cases e4 with
  | @lst xs _ rp =>
  cases eg : g ds with
  | none => rw [eg] at hw; exact hw.elim
  | some es =>
   rw [eg] at hw
   refine ⟨_, e1, .inl ⟨rfl, _, SqL.of e3⟩, hg G H a xs ds es _ e3 rp eg fun u ys ry => ?_⟩
   obtain ⟨w1, w2⟩ := mN (o' := .lst ys) (d' := .list es) hh hs e2 e1 (.lst ry)
   exact hw _ _ _ _ w1 w2
 ·exact hw.elim
theorem Reps.rev {K : PySem.W.Frag} {G : Hp} : ∀ {xs : List V} {ds : List D}, Reps K G xs ds -> Reps K G xs.reverse ds.reverse
 | _, _, .nil => .nil
 | _, _, .cons h r => by
  rw [List.reverse_cons, List.reverse_cons]
  exact (Reps.rev r).append (.cons h .nil)
theorem Reps.dropLast {K : PySem.W.Frag} {G : Hp} : ∀ {xs : List V} {ds : List D}, Reps K G xs ds -> Reps K G xs.dropLast ds.dropLast
 | _, _, .nil => .nil
 | _, _, .cons h .nil => .nil
 | _, _, .cons h (.cons h2 r) => .cons h (Reps.dropLast (.cons h2 r))
def aOr (i : Nat) : MS := aFq i fun ds => if ds = [] then none else some ds.dropLast
theorem aKx {i : Nat} {st : Stmt} (hp : PS X st (aDw (aO2 X.K "list" aPi (aJ7 i)))) : DS X E st (aOr i) :=
 aIz hp fun G H a xs ds es Q h rp e q => by
  split at e
  ·cases e
  ·rename_i hne
   cases e
   have hl := rp.length
   have hx : xs ≠ [] := fun z => hne (List.length_eq_zero_iff.mp (by rw [<- hl, z]; rfl))
   have hpos : xs.length - 1 < xs.length := Nat.sub_lt (List.length_pos_iff.mpr hx) (by decide)
   exact ⟨a, xs, _, rfl, rfl, h, List.getElem?_eq_getElem hpos, q _ _ rp.dropLast⟩
def cutD (ds : List D) (lo hi : Option Int) : List D := (ds.drop (HT.sIx ds.length 0 lo)).take (HT.sIx ds.length ds.length hi - HT.sIx ds.length 0 lo)
theorem Reps.cut {K : PySem.W.Frag} {G : Hp} {xs : List V} {ds : List D} (r : Reps K G xs ds) (lo hi : Option Int) : Reps K G (aJ4 xs lo hi) (cutD ds lo hi) := by
 unfold aJ4 cutD
 rw [r.length]
 exact (r.drop _).take _
def aNe : En -> Res (Option Int) := fun _ => .ok none
def mPt (fe : En -> Res Ev) : En -> Res (Option Int) := fun en => (fe en).bind fun x => match x.c with
 | .p (.int i) => .ok (some i)
 | _ => .bad
def tP (K : PySem.W.Frag) (E : L2.St -> XK) (f : En -> Res (Option Int)) : TO := fun σ H R => ∃ B G0 G W en, SimH B G0 G W H /\ SimS K W G H σ en /\ wpR (f en) (fun k => ∀ G' H', Step G H G' H' -> R k H') (PostX (E σ) G H)
def DP (X : Cx) (E : L2.St -> XK) (o : Option Expr) (f : En -> Res (Option Int)) : Prop := PO X o (tP X.K E f)
theorem aCa : DP X E none aNe := fun pins s σ H R I ⟨B, G0, G, W, en, hh, hs, hw⟩ => aHq pins s σ H R I (hw G H (Step.refl hh.gh))
theorem qR {e : Expr} {fe : En -> Res Ev} (he : DE X E e fe) : DP X E (some e) (mPt fe) := fun pins s σ H R I ⟨B, G0, G, W, en, hh, hs, hw⟩ => by
 obtain ⟨t, p, m⟩ := he.out
 refine aHa p pins s σ H R I (m B G0 G W H σ en _ hh hs ?_)
 unfold mPt at hw
 rw [bS] at hw
 refine bA hw (fun x hx G1 H1 v s1 e1 => ?_) fun C h => h
 obtain ⟨G2, s2, e2⟩ := e1.c s1
 cases ex : x.c with
 | p d =>
  rw [ex] at hx e2
  cases d with
  | int i => cases e2; exact ⟨i, rfl, hx G2 H1 s2⟩
  | _ => exact hx.elim
 | f d => rw [ex] at hx; exact hx.elim
 | b d => rw [ex] at hx; exact hx.elim
 | x C => rw [ex] at hx; exact hx.elim
def mSl (fe : En -> Res Ev) (fl fh : En -> Res (Option Int)) : En -> Res Ev := fun en => (fe en).bind fun x => (fl en).bind fun l => (fh en).bind fun u => match gF x.c with
 | some ds => .ok (.f (.list (cutD ds l u)))
 | none => .bad
theorem aJs {e : Expr} {lo hi : Option Expr} {fe : En -> Res Ev} {fl fh : En -> Res (Option Int)} {p2 pos : Pos} (he : DE X E e fe) (hl : DP X E lo fl) (hu : DP X E hi fh) : DE X E (.Subscript e (.Slice lo hi none p2) pos) (mSl fe fl fh) := by
 obtain ⟨t, p, m⟩ := he.out
 refine DE.in ⟨_, aD0 aHi p hl hu, fun B G0 G W H σ en Q hh hs hw => ?_⟩
 unfold mSl at hw
 refine m B G0 G W H σ en _ hh hs (DE.go hw fun x G1 H1 v s1 e1 h1 => ?_)
 refine ⟨B, G0, G1, W, en, hh.step s1, hs.step s1, ?_⟩
 rw [bS] at h1
 refine bA h1 (fun l hx G2 H2 s2 => ?_) fun C h => h
 refine ⟨B, G0, G2, W, en, (hh.step s1).step s2, (hs.step s1).step s2, ?_⟩
 have hx' := bA hx (fun r h => h.step s2) (fun C h => h.step s2)
 rw [bS] at hx'
 refine bA hx' (fun u hy G3 H3 s3 => ?_) fun C h => h
 cases ex : gF x.c with
 | none => rw [ex] at hy; exact hy.elim
 | some ds =>
  rw [ex] at hy
  obtain ⟨a, xs, rfl, rd, rp⟩ := pD (Hs := H) s3.gh (e1.step (s2.trans s3)) ex
  exact ⟨a, xs, rfl, .inl rd, fun p hp => hy _ _ _ (s3.trans (Step.lay s3.gh hp)) ⟨p, _, rfl, s3.h.free hp, s3.gh.free hp, bQ, .lst (rp.cut l u)⟩⟩
end
section
variable {K : PySem.W.Frag}
end
end M
namespace L2
open PySem PySem.Spec PyProof.Rows
def Itz (K : PySem.W.Frag) (a b : Addr) : It :=
 ⟨fun i H => ∃ xs ys x y, SqL K H a xs /\ xs[i]? = some x /\ SqL K H b ys /\ ys[i]? = some y,
   fun i H v H' => ∃ p x y, H p = none /\ v = .ref p /\ (∀ xs, SqL K H a xs -> xs[i]? = some x) /\ (∀ ys, SqL K H b ys -> ys[i]? = some y) /\ H' = upd H p (.tup [x, y]),
   fun i H => ∃ xs ys, SqL K H a xs /\ SqL K H b ys /\ (xs.length <= i \/ ys.length <= i)⟩
theorem aE0 {P : Program} {w : World} {K : PySem.W.Frag} {elts : List Expr} {x1} {tp : Pos} {l1 l2 z TI TO i1 i2 : Addr} (D : ZipApart z TI TO i1 i2 l1 l2) : Turn P w K (.Tuple elts x1 tp) (Itz K l1 l2) [z, TI, TO, i1, i2] z
  (fun i h => IsZip h z TI TO Value.none /\ IsPair h TI (.ref i1) (.ref i2) /\ (∃ a b, IsPair h TO a b) /\ h.IsListIter i1 l1 i /\ h.IsListIter i2 l2 i) where
 mem := by simp
 obj := fun i h st b hb => by
  obtain ⟨s1, s2, ⟨_, _, s3⟩, ⟨o4, q4, _, d4⟩, ⟨o5, q5, _, d5⟩⟩ := st
  simp only [List.mem_cons, List.not_mem_nil, or_false] at hb
  rcases hb with rfl | rfl | rfl | rfl | rfl
  ·exact ⟨_, s1, fun v z => nomatch z⟩
  ·exact ⟨_, s2, fun v z => nomatch z⟩
  ·exact ⟨_, s3, fun v z => nomatch z⟩
  ·exact ⟨o4, q4, fun v z => by rw [d4] at z; cases z⟩
  ·exact ⟨o5, q5, fun v z => by rw [d5] at z; cases z⟩
 keep := fun i h h' st k => by
  obtain ⟨s1, s2, ⟨a, b, s3⟩, s4, s5⟩ := st
  exact ⟨k _ (by simp) _ s1, k _ (by simp) _ s2, ⟨a, b, k _ (by simp) _ s3⟩, s4.at fun o q => k _ (by simp) o q, s5.at fun o q => k _ (by simp) o q⟩
 item := by
  intro X hP hw hK hc i pins s σ H E I hf st hg
  subst hP hw hK
  obtain ⟨s1, s2, ⟨a0, b0, s3⟩, s4, s5⟩ := st
  obtain ⟨xs, ys, x, y, hq, hx, hq2, hy⟩ := hg
  obtain ⟨its, rv, p, hz⟩ := I.list hq
  obtain ⟨its2, rv2, p2, hz2⟩ := I.list hq2
  obtain ⟨u, hu, ru⟩ := rv.get hx
  obtain ⟨u2, hu2, ru2⟩ := rv2.get hy
  have hfz := hf z (by simp)
  have hfT := hf TO (by simp)
  have hf1 := hf i1 (by simp)
  have hf2 := hf i2 (by simp)
  refine wpAny_pyNext_zip_item D s1 s2 s3 s4 s5 p.isList p2.isList (x := u) (y := u2) (by simpa using hu) (by simpa using hu2) fun h₁ z1 to1 it1 it2 tt1 hz₁ hk₁ => ?_
  refine ⟨_, rfl, wpAny_letOwnedTupleGo_zip z1 fun h₂ z2 hs₂ => ?_⟩
  have hs₂ : Heap.SameBut z h₁ h₂ := hs₂
  have hn : H s.heap.objs.size = none := I.fresh
  have nn : ∀ b o, H b = some o -> b ≠ s.heap.objs.size := fun b o q => dC q hn
  have eE : z < s.heap.objs.size := Heap.lt_size s1
  have keep : ∀ b o, b ∉ [z, TO, i1, i2] -> s.heap.get? b = some o -> h₂.get? b = some o := fun b o hb q => by
   simp only [List.mem_cons, List.not_mem_nil, or_false, not_or] at hb
   exact (hs₂.2 b hb.1).trans (hk₁ b o hb.1 hb.2.1 hb.2.2.1 hb.2.2.2 q)
  have trk : ∀ b o, H b = some o -> b ∉ [z, TO, i1, i2] := fun b o q hb => by
   have hm : b ∈ [z, TI, TO, i1, i2] := by
    simp only [List.mem_cons, List.not_mem_nil, or_false] at hb ⊢
    rcases hb with h | h | h | h <;> simp [h]
   rw [(hf b hm).1] at q; cases q
  refine ⟨.ref s.heap.objs.size, upd H s.heap.objs.size (.tup [x, y]), ?_, rfl, ⟨_, x, y, hn, rfl, fun zs hz' => by rw [I.list_inj hz' hq]; exact hx, fun zs hz' => by rw [I.list_inj hz' hq2]; exact hy, rfl⟩, ⟨z2, keep _ _ ?_ s2, ⟨_, _, (hs₂.2 _ D.TOz).trans to1⟩, it1.at fun o q => (hs₂.2 _ D.i1z).trans q, it2.at fun o q => (hs₂.2 _ D.i2z).trans q⟩, fun b hb => ?_⟩
  ·refine Inv.step (X := X) (pins := pins) (σ := σ) (H := H) (s := s) (H' := upd H s.heap.objs.size (.tup [x, y])) (h' := h₂) (g' := s.gens) (d' := s.drawn) (t' := s.toks) (ch := [z, TO, i1, i2]) I (fun b hb => ?_) (fun b o _ _ hb q _ => keep b o hb q) (fun b o _ _ hb q _ => ⟨o.slots, keep b o hb q⟩) (fun b o _ q n => ?_) (fun b o hb q => ⟨o, keep b o hb q⟩)
    (fun b ys q => ?_) (fun b o v q => ?_) (fun b ps q => ⟨#[], ?_⟩) (fun m hm => ?_) (fun b v q => ?_) I.bare
   ·have hm : b ∈ [z, TI, TO, i1, i2] := by
     simp only [List.mem_cons, List.not_mem_nil, or_false] at hb ⊢
     rcases hb with h | h | h | h <;> simp [h]
    obtain ⟨f0, f1, f2, f3, f4, f5⟩ := hf b hm
    exact ⟨f3, f1, f4, f5⟩
   ·rw [bJ (Nat.ne_of_lt (Heap.lt_size q))]; exact n
   ·rw [bJ (nn b _ q)]; exact q
   ·rw [bJ (nn b _ q)]; exact q
   ·rw [bJ (nn b _ q), q]; simp
   ·obtain ⟨o, es, ep, ho, r⟩ := hm
    refine ⟨o, es, ep, keep _ o (fun zz => ?_) ho, r⟩
    simp only [List.mem_cons, List.not_mem_nil, or_false] at zz
    rcases zz with h | h | h | h
    ·exact hfz.2.1 h.symm
    ·exact hfT.2.1 h.symm
    ·exact hf1.2.1 h.symm
    ·exact hf2.2.1 h.symm
   ·by_cases hb : b = s.heap.objs.size
    ·subst hb
     rw [bQ] at q
     cases q
     refine ⟨by show 2 <= sizeLine; decide, [u, u2], .cons ru (.cons ru2 .nil), _, (hs₂.2 _ (Nat.ne_of_gt eE)).trans tt1, rfl, _, rfl⟩
    ·rw [bJ hb] at q
     refine (I.hok b v q).stay (fun c w' hc q' => keep c w' ?_ q') (fun c q' => ?_) fun c ys q' => ?_
     ·rcases hc with zz | zz
      ·rw [zz]; exact trk b v q
      ·exact trk c _ zz
     ·rw [bJ (nn c _ q')]; exact q'
     ·rw [bJ (nn c _ q')]; exact q'
  ·simp only [List.mem_cons, List.not_mem_nil, or_false, not_or]
   exact ⟨D.TIz, D.TITO, D.TIi1, D.TIi2⟩
  ·have hb' := (hf b hb).1
   have : b ≠ s.heap.objs.size := by
    simp only [List.mem_cons, List.not_mem_nil, or_false] at hb
    obtain ⟨o4, q4, _⟩ := id s4
    obtain ⟨o5, q5, _⟩ := id s5
    rcases hb with h | h | h | h | h <;> rw [h]
    ·exact Nat.ne_of_lt eE
    ·exact Nat.ne_of_lt (Heap.lt_size s2)
    ·exact Nat.ne_of_lt (Heap.lt_size s3)
    ·exact Nat.ne_of_lt (Heap.lt_size q4)
    ·exact Nat.ne_of_lt (Heap.lt_size q5)
   rw [bJ this]; exact hb'
 done := by
  intro X hP hw hK hc i pins s σ H E I hf st hg
  subst hP hw hK
  obtain ⟨s1, s2, ⟨a0, b0, s3⟩, s4, s5⟩ := st
  obtain ⟨xs, ys, hq, hq2, hx⟩ := hg
  obtain ⟨its, rv, p, hz⟩ := I.list hq
  obtain ⟨its2, rv2, p2, hz2⟩ := I.list hq2
  have hl := rv.length
  have hl2 := rv2.length
  refine wpAny_pyNext_zip_end (I.ok.hd hc) D s1 s2 s3 s4 s5 p.isList p2.isList (hx.imp (fun h => by simp; omega) fun h => by simp; omega) fun h' hk => ⟨rfl, ?_⟩
  have keep : ∀ b o, b ∉ [z, TO, i1, i2] -> s.heap.get? b = some o -> h'.get? b = some o := fun b o hb q => by
   simp only [List.mem_cons, List.not_mem_nil, or_false, not_or] at hb
   exact hk b o hb.1 hb.2.1 hb.2.2.1 hb.2.2.2 q
  have hin : ∀ b, b ∈ [z, TO, i1, i2] -> b ∈ [z, TI, TO, i1, i2] := fun b hb => by
   simp only [List.mem_cons, List.not_mem_nil, or_false] at hb ⊢
   rcases hb with h | h | h | h <;> simp [h]
  have trk : ∀ b o, H b = some o -> b ∉ [z, TO, i1, i2] := fun b o q hb => by rw [(hf b (hin b hb)).1] at q; cases q
  refine Inv.step (X := X) (pins := pins) (σ := σ) (H := H) (s := s) (H' := H) (h' := h') (g' := s.gens) (d' := s.drawn) (t' := s.toks) (ch := [z, TO, i1, i2]) I (fun b hb => ?_) (fun b o _ _ hb q _ => keep b o hb q) (fun b o _ _ hb q _ => ⟨o.slots, keep b o hb q⟩) (fun b o _ q n => n) (fun b o hb q => ⟨o, keep b o hb q⟩)
   (fun _ _ q => q) (fun _ _ _ q => q) (fun b ps q => ⟨#[], by rw [q]; simp⟩) (fun m hm => ?_) (fun b v q => ?_) I.bare
  ·obtain ⟨f0, f1, f2, f3, f4, f5⟩ := hf b (hin b hb)
   exact ⟨f3, f1, f4, f5⟩
  ·obtain ⟨o, es, ep, ho, r⟩ := hm
   exact ⟨o, es, ep, keep _ o (fun zz => (hf _ (hin _ zz)).2.1 rfl) ho, r⟩
  ·refine (I.hok b v q).stay (fun c w' hc q' => keep c w' ?_ q') (fun _ q' => q') fun _ _ q' => q'
   rcases hc with zz | zz
   ·rw [zz]; exact trk b v q
   ·exact trk c _ zz
 self := fun _ _ _ _ _ st h => wpAny_pyIter_zip st.1 h
section
variable {X : Cx}
def aPy (K : PySem.W.Frag) (ta : TA) : TI := fun σ H R => ta σ H fun vs H1 => ∃ a b xs ys, vs = [.ref a, .ref b] /\ Rd H1 a (.lst xs) /\ Rd H1 b (.lst ys) /\ R (Itz K a b) H1
theorem aIm : bootBuiltins "zip" = some (.type "zip") := by decide +kernel
theorem aMq {a b : Expr} {ta : TA} {p pos tp : Pos} {elts : List Expr} {x1} (hg : Gl X "zip") (hm : X.mg "zip" = none) (ha : PA X [a, b] ta) (hs : starEach [a, b] X.env = [(false, eval a X.env), (false, eval b X.env)] := by rfl) (hs2 : starEach [b] X.env = [(false, eval b X.env)] := by rfl) : PI X (.Tuple elts x1 tp) (.Call (.Name "zip" p) [a, b] [] pos) (aPy X.K ta) := by
 intro pins s σ H R I h
 refine Call_ (jJ I hg hm aIm (PyProof.Rows.callWith_type1 (thn (ha pos pins s σ H _ I h) fun us s1 ⟨vs, H1, I1, r1, q1⟩ => ?_) (by rw [hs, hs2]) (by rw [hs2]; rfl)))
 obtain ⟨a, b, xs, ys, rfl, hr, hr2, q⟩ := q1
 obtain ⟨u, u2, rfl, ru, ru2⟩ := vals2 r1
 cases (show u = Value.ref a from ru)
 cases (show u2 = Value.ref b from ru2)
 obtain ⟨_, its, n, rv, ho⟩ := hr.ok I1.hok
 obtain ⟨_, its2, n2, rv2, ho2⟩ := hr2.ok I1.hok
 refine call_zip_2 ⟨_, ho, rfl, _, rfl⟩ ⟨_, ho2, rfl, _, rfl⟩ fun h' he hp1 hp2 hit hit2 hz hk => ?_
 refine wpAny_pyIter_zip (s := { s1 with heap := h' }) he ?_
 refine ⟨s1.heap.objs.size + 4, [s1.heap.objs.size + 4, s1.heap.objs.size + 2, s1.heap.objs.size + 3, s1.heap.objs.size, s1.heap.objs.size + 1], _, _, H1, rfl, I1.kept (t' := s1.toks) hk, aE0 (zipApart_new (Heap.lt_size ho) (Heap.lt_size ho2)), ⟨he, hp1, ⟨_, _, hp2⟩, hit, hit2⟩, fun b hb => ?_, q⟩
 have hle : s1.heap.objs.size <= b := by
  simp only [List.mem_cons, List.not_mem_nil, or_false] at hb
  rcases hb with h | h | h | h | h <;> rw [h]
  ·exact Nat.le_add_right _ _
  ·exact Nat.le_add_right _ _
  ·exact Nat.le_add_right _ _
  ·exact Nat.le_refl _
  ·exact Nat.le_add_right _ _
 exact I1.fpOk hle (I1.hok.fresh hle)
end
end L2
namespace M
open PySem PySem.Spec PyProof.Rows L2
def yL : List D -> List D -> List D
 | x :: xs, y :: ys => .tuple [x, y] :: yL xs ys
 | _, _ => []
theorem wA : ∀ (xs ys : List D) (i : Nat), (yL xs ys)[i]? = match xs[i]?, ys[i]? with
  | some x, some y => some (.tuple [x, y])
  | _, _ => none
 | [], _, i => by simp [yL]
 | _ :: _, [], i => by cases i <;> simp [yL]
 | x :: xs, y :: ys, 0 => by simp [yL]
 | x :: xs, y :: ys, i + 1 => by
  unfold yL
  rw [List.getElem?_cons_succ, List.getElem?_cons_succ, List.getElem?_cons_succ, wA xs ys i]
theorem vT : ∀ (xs ys : List D), xs.length <= (yL xs ys).length \/ ys.length <= (yL xs ys).length
 | [], _ => .inl (Nat.zero_le _)
 | _ :: _, [] => .inr (Nat.zero_le _)
 | x :: xs, y :: ys => by
  unfold yL
  rcases vT xs ys with h | h
  ·exact .inl (Nat.succ_le_succ h)
  ·exact .inr (Nat.succ_le_succ h)
def aK1 (rs : List Ev) : Res (List D) := match rs with
 | [.p (.list xs), .p (.list ys)] => .ok (yL xs ys)
 | _ => .bad
theorem aKj {X : Cx} {E : L2.St -> XK} {a b : Expr} {fr : En -> Res (List Ev)} {p pos tp : Pos} {elts : List Expr} {x1} (hg : Gl X "zip") (hm : X.mg "zip" = none) (ha : DA X E [a, b] fr) (hs : starEach [a, b] X.env = [(false, eval a X.env), (false, eval b X.env)] := by rfl) (hs2 : starEach [b] X.env = [(false, eval b X.env)] := by rfl) :
  DI X E (.Tuple elts x1 tp) (.Call (.Name "zip" p) [a, b] [] pos) (rG aK1 fr) := by
 obtain ⟨t, q, m⟩ := ha.out
 refine DI.in ⟨_, aMq hg hm q hs hs2, fun B G0 G W H σ en R hh hs hw => m B G0 G W H σ en _ hh hs ?_⟩
 have hw : wpR ((fr en).bind _) _ _ := hw
 rw [bS] at hw
 refine bA hw (fun rs hr G1 H1 vs s e => ?_) fun C h => h
 unfold aK1 at hr
 split at hr
 ·rename_i ds es
  match vs, e with
  | [v, v2], ⟨e1, e2, _⟩ =>
   cases e1 with
   | @lst a xs _ h1 h2 =>
    cases e2 with
    | @lst b ys _ g1 g2 =>
     refine ⟨a, b, xs, ys, rfl, gJ s.gh h1, gJ s.gh g1, hr G1 H1 _ s fun G3 H3 k1 k2 => ⟨fun i d ed => ?_, ?_⟩⟩
     ·rw [wA] at ed
      cases ex0 : ds[i]? with
      | none => rw [ex0] at ed; cases ed
      | some d1 =>
       cases ey0 : es[i]? with
       | none => rw [ex0, ey0] at ed; cases ed
       | some d2 =>
        rw [ex0, ey0] at ed
        cases ed
        obtain ⟨x, ex, rx⟩ := h2.get' ex0
        obtain ⟨y, ey, ry⟩ := g2.get' ey0
        have sq : SqL X.K H3 a xs := .inl (gJ (k1.trans k2) h1)
        have sq2 : SqL X.K H3 b ys := .inl (gJ (k1.trans k2) g1)
        refine ⟨⟨xs, ys, x, y, sq, ex, sq2, ey⟩, fun v H' hy => ?_⟩
        obtain ⟨p, x', y', hp, rfl, hx', hy', rfl⟩ := hy
        have e1 := hx' xs sq
        have e2 := hy' ys sq2
        rw [ex] at e1
        rw [ey] at e2
        cases e1
        cases e2
        have st := Step.put (o := .tup [x, y]) k2 hp
        exact ⟨_, st, .tup bQ (.cons (rx.mono (k1.trans st.g)) (.cons (ry.mono (k1.trans st.g)) .nil))⟩
     ·refine ⟨xs, ys, .inl (gJ (k1.trans k2) h1), .inl (gJ (k1.trans k2) g1), ?_⟩
      rw [h2.length, g2.length]
      exact vT ds es
 ·exact hr.elim
end M
namespace L2
open PySem PySem.Spec PyProof.Rows
section
variable {X : Cx}
end
end L2
namespace M
open PySem PySem.Spec PyProof.Rows L2
variable {K : PySem.W.Frag}
end M
namespace M
open PySem PySem.Spec PyProof.Rows L2
section
variable {X : Cx} {E : L2.St -> XK} {e : Expr}
end
section
variable {X : Cx} {K : PySem.W.Frag}
end
end M
namespace L2
open PySem PySem.Spec PyProof.Rows
theorem aCn : typeLookup (Value.type "list_reverseiterator") (Str.ofString "__len__") = pure none := by rfl
theorem aEj : typeLookup (Value.type "list_reverseiterator") (Str.ofString "__length_hint__") = pure (some (Value.builtin "list_reverseiterator.__length_hint__")) := by rfl
theorem aIc : isSubtype (Value.type "list_reverseiterator") (Value.type "list_reverseiterator") = pure true := by rfl
theorem y3 {prog : Program} {w : World} {A : Around} (hh : A.handled = none) {I l : Addr} (hne : l ≠ I) (items : Array Value) :
  WalksS prog w A I [I, l] [I] Eq items.size (fun i v => items[items.size - 1 - i]? = some v) (fun i s => s.heap.IsRevIter I l ((items.size : Int) - 1 - i) /\ s.heap.IsList l items) where
 sub := fun b hb => by rw [List.mem_singleton.mp hb]; exact .head _
 grefl := fun _ => rfl
 gtrans := fun _ _ _ h1 h2 => h1.trans h2
 frame := fun i s h' tk st _ k => by
  obtain ⟨⟨o, h1, h2, h3⟩, ⟨p, h4, h5⟩⟩ := st
  exact ⟨⟨o, k I (.head _) o h1, h2, h3⟩, ⟨p, k l (.tail _ (.head _)) p h4, h5⟩⟩
 item := fun i s Q E hi st k => by
  obtain ⟨st1, st2⟩ := st
  have e : ((items.size : Int) - 1 - i) = ((items.size - 1 - i : Nat) : Int) := by omega
  rw [e] at st1
  have hx : items.size - 1 - i < items.size := by omega
  refine wpAny_pyNext_rev_item st1 st2 (x := items[items.size - 1 - i]) (by simp [hx]) fun h' g1 g2 => ?_
  refine k _ _ (by simp [hx]) ⟨?_, ?_⟩ ⟨fun b o hb q => ?_, rfl, rfl, rfl, Nat.le_refl _⟩
  ·have e2 : ((items.size - 1 - i : Nat) : Int) - 1 = (items.size : Int) - 1 - ((i + 1 : Nat) : Int) := by omega
   rw [<- e2]
   exact g1
  ·obtain ⟨p, h4, h5⟩ := st2
   exact ⟨p, (g2.2 l hne).trans h4, h5⟩
  ·exact (g2.2 b (fun z => hb (by rw [z]; exact .head _))).trans q
 done := fun s Q E st k => by
  obtain ⟨st1, st2⟩ := st
  have e : ((items.size : Int) - 1 - (items.size : Nat)) = -1 := by omega
  rw [e] at st1
  exact wpAny_pyNext_rev_end hh st1 fun h' g => k _ ⟨fun b o hb q => g b o (fun z => hb (by rw [z]; exact .head _)) q, rfl, rfl, rfl, Nat.le_refl _⟩
 self := fun i s Q E st h => wpAny_pyIter_revIter st.1 h
theorem aFi {prog : Program} {w : World} {A : Around} {E : Value -> Shared -> Prop} {s : Shared} {I : Addr} {Q : Bool -> Shared -> Prop} (t : s.TypeIs (.ref I) "list_reverseiterator") (q : Q false s) : wpAny (model prog w) A (Builtin.List.listLengthHint (.ref I)) Q E s := by
 unfold Builtin.List.listLengthHint
 refine wpAny_bind (wpAny_specialOf t aCn ?_)
 refine wpAny_bind (wpAny_specialOf t aEj ?_)
 refine wpAny_bind (wpAny_isInstance t aIc ?_)
 exact wpAny_pure q
theorem xV {prog : Program} {w : World} {A : Around} (hh : A.in1.handled = none) {s : Shared} {R : Result -> Shared -> Prop} {I l : Addr} {items : Array Value} (hne : l ≠ I) (hI : s.heap.IsRevIter I l ((items.size : Int) - 1)) (hl : s.heap.IsList l items) (S : Addr) (hS1 : S ≠ I) (hS2 : S ≠ l) (res : Value) (c₀ : Nat)
  (hS : s.heap.get? S = some { cls := Value.type "list", data := Data.seq #[] c₀ }) (hz : items.size <= sizeLine)
  (k : ∀ (s' : Shared) (acc' : Array Value) (c' : Nat), Moved [S, I] Eq s s' -> s'.heap.get? S = some { cls := Value.type "list", data := Data.seq acc' c' } -> ItemsOf (fun i v => items[items.size - 1 - i]? = some v) acc' items.size -> R (.ok (.ret res)) s') :
  wpAny (model prog w) A.in1 (Builtin.List.listExtendWith (.ref S) (.ref I) res) (fun fin s' => match fin with
   | Fin.done f => R (.ok f) s'
   | Fin.again c' => c'.quiet = true /\ codeAny (model prog w) A c' R s') (fun e s' => R (.error e) s') s := by
 have t : s.TypeIs (.ref I) "list_reverseiterator" := by
  obtain ⟨o, h1, h2, _⟩ := hI
  exact ⟨o, h1, h2⟩
 unfold Builtin.List.listExtendWith
 refine wpAny_bind (wpAny_typeOf t ?_)
 have e : (Builtin.List.listSameRef (.ref S) (.ref I) || Value.type "list_reverseiterator" == Value.type "list" || Value.type "list_reverseiterator" == Value.type "tuple") = false := by
  have : (S == I) = false := beq_false_of_ne hS1
  show ((S == I) || _ || _) = false
  rw [this]
  decide
 rw [e, if_neg (by decide)]
 refine wpAny_bind (wpAny_pyIter_revIter hI ?_)
 refine wpAny_bind (wpAny_holding (aFi t ?_))
 refine wpAny_pure ?_
 refine ⟨plainId_quiet F.plain_extend_loop _, ?_⟩
 exact codeAny_extend_loopS (y3 hh hne items) hz S (by simp [hS1, hS2]) res items.size 0 s #[] c₀ rfl (Nat.zero_le _) ⟨by simpa using hI, hl⟩ hS ⟨rfl, fun j v h => by simp at h⟩ k
theorem qJ {prog : Program} {w : World} {A : Around} {E : Value -> Shared -> Prop} (hh : A.in1.in1.handled = none) {s : Shared} {Q : Value -> Shared -> Prop} {I l : Addr} {items : Array Value} (hne : l ≠ I) (hI : s.heap.IsRevIter I l ((items.size : Int) - 1)) (hl : s.heap.IsList l items) (hz : items.size <= sizeLine)
  (k : ∀ (s' : Shared) (acc' : Array Value) (c' : Nat), (∀ b o, b ≠ I -> s.heap.get? b = some o -> s'.heap.get? b = some o) -> s'.gens = s.gens -> s'.drawn = s.drawn -> s'.os = s.os -> s'.heap.get? s.heap.objs.size = some { cls := Value.type "list", data := Data.seq acc' c' } -> ItemsOf (fun i v => items[items.size - 1 - i]? = some v) acc' items.size -> Q (.ref s.heap.objs.size) s') :
  wpAny (model prog w) A (call (.type "list") [.ref I]) Q E s := by
 obtain ⟨oI, hI1, hI2, hI3⟩ := id hI
 obtain ⟨ol, hl1, hl2⟩ := id hl
 have lI : I < s.heap.objs.size := Heap.lt_size hI1
 have ll : l < s.heap.objs.size := Heap.lt_size hl1
 refine callType_codes F.called_list (F.typeCall_list_1 _) F.entry_list_init (code_list_new _ ?_) ?_ (Q₁ := fun obj s₁ => obj = .ref s.heap.objs.size /\ s₁ = { s with heap := s.heap.push { cls := Value.type "list", data := Data.seq #[] } })
 ·exact ⟨rfl, rfl⟩
 ·rintro obj s₁ ⟨rfl, rfl⟩
  have hS : (s.heap.push { cls := Value.type "list", data := Data.seq #[] }).get? s.heap.objs.size = some { cls := Value.type "list", data := Data.seq #[] } := Heap.get?_push_size s.heap rfl
  refine ⟨⟨_, hS, rfl⟩, F.args_list_init_2 _ _, ?_⟩
  have hI' : (s.heap.push { cls := Value.type "list", data := Data.seq #[] }).get? I = some oI := Heap.get?_push_of_some _ hI1
  have hl' : (s.heap.push { cls := Value.type "list", data := Data.seq #[] }).get? l = some ol := Heap.get?_push_of_some _ hl1
  have u1 : ((s.heap.push { cls := Value.type "list", data := Data.seq #[] }).update s.heap.objs.size (Obj.mapSeq fun _ => #[])).get? s.heap.objs.size = some { cls := Value.type "list", data := Data.seq #[] } := (Heap.get?_update_self _ hS rfl).trans rfl
  have u2 : ∀ b o, b ≠ s.heap.objs.size -> (s.heap.push { cls := Value.type "list", data := Data.seq #[] }).get? b = some o -> ((s.heap.push { cls := Value.type "list", data := Data.seq #[] }).update s.heap.objs.size (Obj.mapSeq fun _ => #[])).get? b = some o := fun b o hb q => (Heap.get?_update_other _ _ (Ne.symm hb)).trans q
  refine wpAny_bind ?_
  unfold Builtin.List.listItems
  refine wpAny_bind (wpAny_seqItems hS rfl (wpAny_pure ?_))
  refine wpAny_bind (wpAny_updateSeq hS rfl ?_ (by decide) (by decide))
  refine wpAny_bind (wpAny_letGo ?_)
  refine xV (A := A.in1) hh hne ⟨oI, u2 I oI (Nat.ne_of_lt lI) hI', hI2, hI3⟩ ⟨ol, u2 l ol (Nat.ne_of_lt ll) hl', hl2⟩ s.heap.objs.size (Nat.ne_of_gt lI) (Nat.ne_of_gt ll) .none 0 u1 hz fun s' acc' c' mv g it => ?_
  exact ⟨rfl, k s' acc' c' (fun b o hb q => mv.heap b o (by
   have : b ≠ s.heap.objs.size := Nat.ne_of_lt (Heap.lt_size q)
   simp [hb, this]) (u2 b o (Nat.ne_of_lt (Heap.lt_size q)) (Heap.get?_push_of_some _ q))) mv.gens.symm mv.drawn mv.os g it⟩
section
variable {X : Cx}
theorem aIl : bootBuiltins "reversed" = some (.type "reversed") := by decide +kernel
theorem aE9 : bootBuiltins "list" = some (.type "list") := by decide +kernel
def tLR (K : PySem.W.Frag) (te : TE) : TE := fun σ H Q => te σ H fun x H1 => ∃ a xs, x = .ref a /\ SqL K H1 a xs /\ ∀ l, H1 l = none -> Q (.ref l) (upd H1 l (.lst xs.reverse))
theorem aFw {xs : List V} {its : List Value} (r : Vals xs its) {acc : Array Value} (h : ItemsOf (fun i v => its.toArray[its.toArray.size - 1 - i]? = some v) acc its.toArray.size) : acc.toList = its.reverse := by
 obtain ⟨h1, h2⟩ := h
 have h1 : acc.size = its.length := h1.trans (List.size_toArray ..)
 apply List.ext_getElem?
 intro i
 rw [Array.getElem?_toList]
 by_cases hi : i < its.length
 ·have hx : i < acc.size := by omega
  have this := h2 i acc[i] (by simp [hx])
  have this : its.toArray[its.toArray.size - 1 - i]? = some acc[i] := this
  rw [Array.getElem?_eq_getElem hx, List.getElem?_reverse hi]
  rw [List.size_toArray, List.getElem?_toArray] at this
  exact this.symm
 ·rw [Array.getElem?_eq_none (by omega), List.getElem?_eq_none (by rw [List.length_reverse]; omega)]
theorem lN : ∀ {xs : List V} {us : List Value}, Vals xs us -> Vals xs.reverse us.reverse
 | _, _, .nil => .nil
 | _, _, .cons r t => by
  rw [List.reverse_cons, List.reverse_cons]
  exact (lN t).append (.cons r .nil)
theorem xS {e : Expr} {te : TE} {p1 p2 pos1 pos2 : Pos} (hc : X.calm = true) (hg1 : Gl X "list") (hm1 : X.mg "list" = none) (hg2 : Gl X "reversed") (hm2 : X.mg "reversed" = none) (he : PE X e te)
  (hs1 : starEach [.Call (.Name "reversed" p2) [e] [] pos2] X.env = (false, eval (.Call (.Name "reversed" p2) [e] [] pos2) X.env) :: starEach [] X.env := by rfl) (hs2 : starEach [e] X.env = (false, eval e X.env) :: starEach [] X.env := by rfl) :
  PE X (.Call (.Name "list" p1) [.Call (.Name "reversed" p2) [e] [] pos2] [] pos1) (tLR X.K te) := by
 intro pins s σ H Q I h
 refine wpAny_Call_Name_kw (jJ I hg1 hm1 aE9 (PyProof.Rows.callWith_type1 ?_ hs1 rfl))
 rw [hs1]
 show wpAny _ _ (spliced ((false, eval _ X.env) :: backTo pos1 (starEach [] X.env))) _ _ s
 refine Calls.spliced_cons (wpAny_Call_Name_kw (jJ I hg2 hm2 aIl (PyProof.Rows.callWith_type1 ?_ hs2 rfl)))
 rw [hs2]
 show wpAny _ _ (spliced ((false, eval _ X.env) :: backTo pos2 (starEach [] X.env))) _ _ s
 refine Calls.spliced_cons (thn (he pins s σ H _ I h) fun u s1 ⟨x, H1, I1, r1, a, xs, ex, hq, q⟩ => Calls.spliced_nil ?_)
 subst ex
 cases (show u = Value.ref a from r1)
 obtain ⟨its, rv, pl, hz⟩ := I1.list hq
 refine call_reversed_list pl.isList (Calls.spliced_nil ?_)
 have hlen := rv.length
 have kp : ∀ b o, s1.heap.get? b = some o -> (s1.heap.push (revObj a ((its.toArray.size : Int) - 1))).get? b = some o := fun b o q => Heap.get?_push_of_some _ q
 have I2 : Inv X pins σ H1 { s1 with heap := s1.heap.push (revObj a ((its.toArray.size : Int) - 1)) } := I1.kept (t' := s1.toks) kp
 have hR : (s1.heap.push (revObj a ((its.toArray.size : Int) - 1))).get? s1.heap.objs.size = some (revObj a ((its.toArray.size : Int) - 1)) := Heap.get?_push_size _ rfl
 have hp := I1.fpOk (Nat.le_refl _) (I1.hok.fresh (Nat.le_refl s1.heap.objs.size))
 obtain ⟨o, n, ho, hoc, hod, hos⟩ := pl
 have lt : a < s1.heap.objs.size := Heap.lt_size ho
 refine qJ (s := { s1 with heap := s1.heap.push (revObj a ((its.toArray.size : Int) - 1)) }) (I := s1.heap.objs.size) (l := a) (items := its.toArray) (I.ok.hd hc) (Nat.ne_of_lt lt) ⟨_, hR, rfl, rfl⟩ ⟨o, kp a o ho, hoc, n, hos⟩ (by rw [List.size_toArray]; omega) fun s' acc c' k1 k2 k3 k4 k5 k6 => ?_
 have ev := aFw rv k6
 have hsz : (s1.heap.push (revObj a ((its.toArray.size : Int) - 1))).objs.size = s1.heap.objs.size + 1 := by simp [Heap.push]
 have hH : H1 (s1.heap.objs.size + 1) = none := I2.hok.fresh (a := s1.heap.objs.size + 1) (by show (s1.heap.push _).objs.size <= _; rw [hsz]; exact Nat.le_refl _)
 rw [show ({ s1 with heap := s1.heap.push (revObj a ((its.toArray.size : Int) - 1)) } : Shared).heap.objs.size = s1.heap.objs.size + 1 from hsz] at k5 ⊢
 obtain ⟨f0, f1, f2, f3, f4, f5⟩ := hp
 have keep : ∀ b o, b ∉ [s1.heap.objs.size] -> (s1.heap.push (revObj a ((its.toArray.size : Int) - 1))).get? b = some o -> s'.heap.get? b = some o := fun b o hb q => k1 b o (fun z => hb (by rw [z]; exact .head _)) q
 have trk : ∀ b o, H1 b = some o -> b ∉ [s1.heap.objs.size] := fun b o q hb => by rw [List.mem_singleton.mp hb, f0] at q; cases q
 have nn : ∀ b o, H1 b = some o -> b ≠ s1.heap.objs.size + 1 := fun b o q z => by rw [z, hH] at q; cases q
 refine ⟨.ref (s1.heap.objs.size + 1), upd H1 (s1.heap.objs.size + 1) (.lst xs.reverse), ?_, rfl, q _ hH⟩
 have st := Inv.step (X := X) (pins := pins) (σ := σ) (H := H1) (s := { s1 with heap := s1.heap.push (revObj a ((its.toArray.size : Int) - 1)) }) (H' := upd H1 (s1.heap.objs.size + 1) (.lst xs.reverse)) (h' := s'.heap) (g' := s1.gens) (d' := s1.drawn) (t' := s'.toks) (ch := [s1.heap.objs.size]) I2 (fun b hb => by rw [List.mem_singleton.mp hb]; exact ⟨f3, f1, f4, f5⟩) (fun b o _ _ hb q _ => keep b o hb q) (fun b o _ _ hb q _ => ⟨o.slots, keep b o hb q⟩)
  (fun b o _ q n => by rw [bJ (fun z => by have := Heap.lt_size q; rw [z] at this; exact absurd (show s1.heap.objs.size + 1 < s1.heap.objs.size + 1 by rw [<- hsz]; exact hsz ▸ this) (Nat.lt_irrefl _))]; exact n) (fun b o hb q => ⟨o, keep b o hb q⟩)
  (fun b ys q => by rw [bJ (nn b _ q)]; exact q) (fun b o v q => by rw [bJ (nn b _ q)]; exact q) (fun b ps q => ⟨#[], by rw [bJ (nn b _ q), q]; simp⟩) (fun m hm => by
   obtain ⟨o, es, ep, ho, r⟩ := hm
   exact ⟨o, es, ep, keep _ o (fun z => f1 (List.mem_singleton.mp z).symm) ho, r⟩) (fun b v q => by
   by_cases hb : b = s1.heap.objs.size + 1
   ·subst hb
    rw [bQ] at q
    cases q
    refine ⟨by rw [List.length_reverse]; exact hz, its.reverse, c', lN rv, ?_⟩
    rw [k5, <- ev]
   ·rw [bJ hb] at q
    refine (I2.hok b v q).stay (fun c w' hc q' => keep c w' ?_ q') (fun c q' => ?_) fun c ys q' => ?_
    ·rcases hc with z | z
     ·rw [z]; exact trk b v q
     ·exact trk c _ z
    ·rw [bJ (nn c _ q')]; exact q'
    ·rw [bJ (nn c _ q')]; exact q') I1.bare
 have es : s' = { heap := s'.heap, gens := s1.gens, drawn := s1.drawn, toks := s'.toks, os := s1.os } := by
  cases s'
  cases k2
  cases k3
  cases k4
  rfl
 rw [es]
 exact st
end
end L2
namespace M
open PySem PySem.Spec PyProof.Rows L2
def aJ8 (x : Ev) : Res Ev := match gF x with
 | some ds => .ok (.f (.list ds.reverse))
 | none => .bad
theorem yC {X : Cx} {E : L2.St -> XK} {e : Expr} {fe : En -> Res Ev} {p1 p2 pos1 pos2 : Pos} (hc : X.calm = true) (hg1 : Gl X "list") (hm1 : X.mg "list" = none) (hg2 : Gl X "reversed") (hm2 : X.mg "reversed" = none) (he : DE X E e fe)
  (hs1 : starEach [.Call (.Name "reversed" p2) [e] [] pos2] X.env = (false, eval (.Call (.Name "reversed" p2) [e] [] pos2) X.env) :: starEach [] X.env := by rfl) (hs2 : starEach [e] X.env = (false, eval e X.env) :: starEach [] X.env := by rfl) :
  DE X E (.Call (.Name "list" p1) [.Call (.Name "reversed" p2) [e] [] pos2] [] pos1) (mUn aJ8 fe) := by
 obtain ⟨t, q, m⟩ := he.out
 refine DE.in ⟨_, xS hc hg1 hm1 hg2 hm2 q hs1 hs2, fun B G0 G W H σ en Q hh hs hw => m B G0 G W H σ en _ hh hs ?_⟩
 have hw : wpR ((fe en).bind _) _ _ := hw
 rw [bS] at hw
 refine bA hw (fun r hr G1 H1 v s e => ?_) fun C h => h
 obtain ⟨G2, s2, e2⟩ := e.c s
 unfold aJ8 at hr
 cases el : gF r.c with
 | none => rw [el] at hr; exact hr.elim
 | some ds =>
  rw [el] at hr
  obtain ⟨a, xs, rfl, h1, h2⟩ := pD s2.gh e2 el
  refine ⟨a, xs, rfl, .inl h1, fun l hl => ?_⟩
  exact hr G2 _ _ (s2.trans (Step.lay s2.gh hl)) ⟨l, _, rfl, s2.h.free hl, s2.gh.free hl, bQ, .lst h2.rev⟩
end M
namespace L2
open PySem PySem.Spec PyProof.Rows
section
variable {X : Cx}
def tV (i : Int) (is : List Int) : Int := is.foldl (fun a b => if a < b then b else a) i
def aL3 (K : PySem.W.Frag) : List V -> Hp -> VK -> Prop := fun xs H Q => ∃ a i is, xs = [.ref a] /\ SqL K H a ((i :: is).map V.int) /\ Q (.int (tV i is)) H
theorem pG : ∀ {is : List Int} {us : List Value}, Vals (is.map V.int) us -> ∃ ts : List (Int × Tok), us = ts.map (fun p => Value.int p.1 p.2) /\ ts.map (·.1) = is
 | [], _, .nil => ⟨[], rfl, rfl⟩
 | i :: is, _, .cons r t => by
  obtain ⟨tk, e⟩ := r
  obtain ⟨ts, e1, e2⟩ := pG t
  refine ⟨(i, tk) :: ts, ?_, ?_⟩
  ·rw [e, e1]; rfl
  ·rw [List.map_cons, e2]
theorem lQ (f : Nat -> Int) : ∀ k, f (argBest (fun i j => decide (f i > f j)) k) = tV (f 0) ((List.range k).map fun j => f (j + 1))
 | 0 => rfl
 | k + 1 => by
  have ih := lQ f k
  unfold tV at ih ⊢
  rw [List.range_succ, List.map_append, List.foldl_append, <- ih]
  show f (if decide (f (k + 1) > f (argBest (fun i j => decide (f i > f j)) k)) = true then k + 1 else argBest (fun i j => decide (f i > f j)) k) = if f (argBest (fun i j => decide (f i > f j)) k) < f (k + 1) then f (k + 1) else f (argBest (fun i j => decide (f i > f j)) k)
  by_cases h : f (argBest (fun i j => decide (f i > f j)) k) < f (k + 1)
  ·rw [if_pos h, if_pos (decide_eq_true h)]
  ·rw [if_neg h, if_neg (by simpa using h)]
theorem zG (hc : X.calm = true) {K : PySem.W.Frag} (hK : X.K = K) : mG X (.builtin "max") (aL3 K) := by
 subst hK
 intro pins s σ H xs us Q I r h
 obtain ⟨a, i, is, rfl, hq, q⟩ := h
 obtain ⟨u, rfl, ru⟩ := vals1 r
 cases ru
 obtain ⟨its, rv, p, hz⟩ := I.list hq
 obtain ⟨ts, e1, e2⟩ := pG rv
 have hn : ts.length = is.length + 1 := by
  have := congrArg List.length e2
  rw [List.length_map, List.length_cons] at this
  exact this
 have hl : s.heap.IsList a (intItems ts.toArray) := by
  have h := p.isList
  rw [e1] at h
  simpa [intItems] using h
 have num : ∀ j, numAt ts.toArray j = ((i :: is)[j]?).getD 0 := fun j => by
  rw [<- e2]
  simp [numAt]
 refine max_intList (A := X.A) (I.ok.hd hc) hl (by simp; omega) fun v h' tk hP hk => ⟨.int (tV i is), H, I.kept hk, ?_, q⟩
 obtain ⟨t, rfl⟩ := intItems_at hP
 refine ⟨t, ?_⟩
 rw [lQ (numAt ts.toArray)]
 have e0 : numAt ts.toArray 0 = i := by rw [num]; rfl
 have e3 : ((List.range (ts.toArray.size - 1)).map fun j => numAt ts.toArray (j + 1)) = is := by
  rw [List.size_toArray, hn, Nat.add_sub_cancel]
  apply List.ext_getElem
  ·simp
  ·intro j h1 h2
   simp [num, h2]
 rw [e0, e3]
end
end L2
namespace M
open PySem PySem.Spec PyProof.Rows L2
variable {K : PySem.W.Frag}
def intsOf : List D -> Option (List Int)
 | [] => some []
 | .int b :: ds => match intsOf ds with
  | some bs => some (b :: bs)
  | none => none
 | _ => none
theorem o7 : ∀ is : List Int, intsOf (is.map .int) = some is
 | [] => rfl
 | i :: is => by
  show (match intsOf (is.map .int) with | some bs => some (i :: bs) | none => none) = _
  rw [o7 is]
theorem rM {G : Hp} : ∀ {ds : List D} {bs : List Int} {xs : List V}, intsOf ds = some bs -> Reps K G xs ds -> xs = bs.map V.int
 | [], _, _, h, .nil => by cases h; rfl
 | d :: ds, bs, _, h, .cons r t => by
  cases d with
  | int b =>
   unfold intsOf at h
   cases e : intsOf ds with
   | none => rw [e] at h; cases h
   | some bs' =>
    rw [e] at h
    cases h
    cases r
    rw [rM e t]
    rfl
  | _ => cases h
def aG1 (rs : List Ev) : Res Ev := match rs with
 | [x] => match gF x with
  | some ds => match intsOf ds with
   | some (i :: is) => .ok (.p (.int (tV i is)))
   | _ => .bad
  | none => .bad
 | _ => .bad
theorem aI8 : aCx aG1 := by
 intro rs C h
 unfold aG1 at h
 split at h
 ·split at h
  ·split at h <;> cases h
  ·cases h
 ·cases h
theorem aH2 : oX K (aL3 K) aG1 := by
 intro W Hs G H vs rs Q gh he hw
 unfold aG1 at hw
 split at hw
 ·rename_i x
  match vs, he with
  | [v], ⟨h1, _⟩ =>
   split at hw
   ·rename_i ds ed
    obtain ⟨a, xs, rfl, k1, k2⟩ := pD gh h1 ed
    split at hw
    ·rename_i i is eb
     have := rM eb k2
     subst this
     exact ⟨a, i, is, rfl, .inl k1, hw G H _ (Step.refl gh) (.int _)⟩
    ·exact hw.elim
   ·exact hw.elim
 ·exact hw.elim
end M
namespace L2
open PySem PySem.Spec PyProof.Rows
section
variable {X : Cx} {tg : Expr}
end
end L2
namespace M
open PySem PySem.Spec PyProof.Rows L2
section
variable {X : Cx} {E : L2.St -> XK} {pos : Pos}
end
end M
namespace L2
open PySem PySem.Spec PyProof.Rows M
section
variable {X : Cx}
end
end L2
namespace M
open PySem PySem.Spec PyProof.Rows L2
variable {K : PySem.W.Frag}
end M
namespace L2
open PySem PySem.Spec PyProof.Rows
end L2
namespace M
open PySem PySem.Spec PyProof.Rows L2
section
variable {X : Cx} {E : L2.St -> XK}
end
variable {K : PySem.W.Frag}
end M
namespace L2
open PySem PySem.Spec PyProof.Rows M
section
variable {X : Cx}
end
end L2
namespace M
open PySem PySem.Spec PyProof.Rows L2
variable {K : PySem.W.Frag}
end M
namespace L2
open PySem PySem.Spec PyProof.Rows
def lZ (i j : Int) : Prop := CMulW i j \/ CMul i j
theorem iX {X : Cx} : OpR X (binaryOp .Mult) (rI lZ fun i j => .int (i * j)) := opI fun _ _ _ _ _ _ _ hc q => mul_int q (hc.elim CMulW.ok CMul.ok)
end L2
namespace M
open PySem PySem.Spec PyProof.Rows L2
variable {K : PySem.W.Frag}
noncomputable abbrev mH : Ev -> Ev -> Res Ev := wX lZ fun i j => .int (i * j)
theorem jB : OpM K (rI lZ fun i j => .int (i * j)) mH := tU fun _ _ _ => .int _
theorem vC {i j : Int} (h : lZ i j) : mH (.p (.int i)) (.p (.int j)) = .ok (.p (.int (i * j))) := by simp [wX, h]
end M
namespace L2
open PySem PySem.Spec PyProof.Rows M SRT
section
variable {prog : Program} {w : World} {A : Around} {E : Value -> Shared -> Prop} {s : Shared}
end
section
variable {X : Cx}
end
end L2
namespace M
open PySem PySem.Spec PyProof.Rows L2 SRT
variable {K : PySem.W.Frag}
end M
namespace L2
open PySem PySem.Spec PyProof.Rows
section
variable {X : Cx} {CX : CXT} {k : Nat} {f : Addr} {fd : FuncData} {ps : List Str} {sp : Sp} {E : St -> XK} {x : Str} {p pos : Pos}
end
end L2
namespace M
open PySem PySem.Spec PyProof.Rows L2
section
variable {X : Cx} {E : L2.St -> XK} {k j : Nat} {x : Str} {p pos : Pos} {n : Nat} {m : List L -> Res L}
end
end M
namespace L2
open PySem PySem.Spec PyProof.Rows
section
variable {X : Cx} {pos : Pos}
end
end L2
namespace M
open PySem PySem.Spec PyProof.Rows L2
section
variable {X : Cx} {E : L2.St -> XK} {pos : Pos}
end
end M
namespace L2
open PySem PySem.Spec PyProof.Rows
section
variable {X : Cx}
end
end L2
namespace M
open PySem PySem.Spec PyProof.Rows L2
section
variable {K : PySem.W.Frag}
end
end M
namespace L2
open PySem PySem.Spec PyProof.Rows
section
variable {X : Cx}
end
end L2
namespace M
open PySem PySem.Spec PyProof.Rows L2
end M
namespace L2
open PySem PySem.Spec PyProof.Rows
section
variable {prog : Program} {w : World} {A : Around} {E : Value -> Shared -> Prop} {s : Shared}
end
section
variable {X : Cx}
end
end L2
namespace M
open PySem PySem.Spec PyProof.Rows L2
section
variable {K : PySem.W.Frag}
end
end M
namespace L2
open PySem PySem.Spec PyProof.Rows
section
variable {X : Cx}
end
end L2
namespace M
open PySem PySem.Spec PyProof.Rows L2
variable {K : PySem.W.Frag}
end M
namespace L2
open PySem PySem.Spec PyProof.Rows
section
variable {X : Cx}
end
end L2
namespace M
open PySem PySem.Spec PyProof.Rows L2
section
variable {X : Cx} {E : L2.St -> XK} {sts rest A : List Stmt} {st : Stmt} {fA g : MS} {fe : En -> Res Ev} {fc : En -> Res Bool} {e c : Expr} {pos pos2 : Pos}
end
end M
namespace L2
open PySem
def lpN (mask : Nat) (i p : Nat) : Nat -> Nat × Nat
 | 0 => (i, p)
 | m + 1 => lpN mask (SetTable.leap mask i p).1 (SetTable.leap mask i p).2 m
theorem nL (mask : Nat) : ∀ (a b i p : Nat), lpN mask i p (a + b) = lpN mask (lpN mask i p a).1 (lpN mask i p a).2 b
 | 0, b, i, p => by rw [Nat.zero_add]; rfl
 | a + 1, b, i, p => by
  rw [Nat.succ_add]
  show lpN mask _ _ (a + b) = _
  rw [nL mask a b]
  rfl
theorem aCr (mask : Nat) : ∀ (m i p : Nat), (lpN mask i p m).2 = p / 32 ^ m
 | 0, i, p => by simp [lpN]
 | m + 1, i, p => by
  show (lpN mask _ (p / 32) m).2 = _
  rw [aCr mask m, Nat.div_div_eq_div_mul, Nat.pow_succ, Nat.mul_comm]
theorem aA8 (mask : Nat) : ∀ (m i p : Nat), i <= mask -> (lpN mask i p m).1 <= mask
 | 0, i, p, h => h
 | m + 1, i, p, _ => by
  show (lpN mask ((i * 5 + 1 + p / 32) % (mask + 1)) (p / 32) m).1 <= mask
  exact aA8 mask m _ _ (Nat.le_of_lt_succ (Nat.mod_lt _ (Nat.succ_pos _)))
def orb (mask : Nat) : Nat -> Nat -> List Nat
 | 0, _ => []
 | n + 1, i => i :: orb mask n ((i * 5 + 1) % (mask + 1))
theorem rX (mask : Nat) : ∀ (n i q : Nat), q ∈ orb mask n i -> ∃ m, m < n /\ (lpN mask i 0 m).1 = q
 | n + 1, i, q, h => by
  rcases List.mem_cons.mp h with z | z
  ·exact ⟨0, Nat.succ_pos _, z.symm⟩
  ·obtain ⟨m, hm, e⟩ := rX mask n _ q z
   exact ⟨m + 1, Nat.succ_lt_succ hm, e⟩
def mZ (mask : Nat) : Prop := mask = 7 \/ mask = 31
theorem uS {mask : Nat} (hm : mZ mask) {i q : Nat} (hi : i <= mask) (hq : q <= mask) : q ∈ orb mask (mask + 1) i := by
 have key : ∀ mask, mZ mask -> (List.range (mask + 1)).all (fun i => (List.range (mask + 1)).all fun q => (orb mask (mask + 1) i).contains q) = true := by
  rintro _ (rfl | rfl) <;> decide +kernel
 have a := List.all_eq_true.mp (key mask hm) i (List.mem_range.mpr (Nat.lt_succ_of_le hi))
 have b := List.all_eq_true.mp a q (List.mem_range.mpr (Nat.lt_succ_of_le hq))
 exact List.contains_iff_mem.mp b
theorem mP {mask : Nat} (hm : mZ mask) {i p q : Nat} (hi : i <= mask) (hp : p < 2 ^ 64) (hq : q <= mask) : ∃ m, m <= 13 + mask /\ (lpN mask i p m).1 = q := by
 have e2 : (lpN mask i p 13).2 = 0 := by
  rw [aCr]
  exact Nat.div_eq_of_lt (Nat.lt_of_lt_of_le hp (by decide))
 obtain ⟨m, h1, h2⟩ := rX mask _ _ _ (uS hm (aA8 mask 13 i p hi) hq)
 refine ⟨13 + m, by omega, ?_⟩
 rw [nL, e2]
 exact h2
theorem lW {α : Type} [DecidableEq α] : ∀ {l m : List α}, l.Nodup -> (∀ x ∈ l, x ∈ m) -> l.length <= m.length
 | [], m, _, _ => Nat.zero_le _
 | x :: l, m, h, s => by
  obtain ⟨h1, h2⟩ := List.nodup_cons.mp h
  have hx := s x (.head _)
  have q := lW (m := m.erase x) h2 fun y hy => (List.mem_erase_of_ne (show y ≠ x from fun z => h1 (by rw [<- z]; exact hy))).mpr (s y (.tail _ hy))
  rw [List.length_erase_of_mem hx] at q
  have := List.length_pos_of_mem hx
  rw [List.length_cons]
  omega
theorem miss {mask : Nat} {l : List Nat} (h : l.length <= mask) : ∃ q, q <= mask /\ q ∉ l := by
 by_cases z : ∀ q ∈ List.range (mask + 1), q ∈ l
 ·have := lW List.nodup_range z
  rw [List.length_range] at this
  omega
 ·obtain ⟨q, hq⟩ := Classical.not_forall.mp z
  obtain ⟨h1, h2⟩ := Classical.not_imp.mp hq
  exact ⟨q, Nat.le_of_lt_succ (List.mem_range.mp h1), h2⟩
def aF3 (t : SetTable) : Nat -> SetTable.Probe -> SetTable.Probe
 | 0, p => p
 | k + 1, p => aF3 t k (t.advance p)
theorem wZ (t : SetTable) : ∀ (a b : Nat) (p : SetTable.Probe), aF3 t (a + b) p = aF3 t b (aF3 t a p)
 | 0, b, p => by rw [Nat.zero_add]; rfl
 | a + 1, b, p => by
  rw [Nat.succ_add]
  exact wZ t a b _
def uB (t : SetTable) (i p : Nat) : SetTable.Probe := { j := i, more := SetTable.runEnd t.mask i - i, i, perturb := p, dummy := none }
theorem aCs (t : SetTable) : ∀ (r j i p : Nat), aF3 t (r + 1) { j, more := r, i, perturb := p, dummy := none } = uB t (SetTable.leap t.mask i p).1 (SetTable.leap t.mask i p).2
 | 0, j, i, p => rfl
 | r + 1, j, i, p => aCs t r (j + 1) i p
theorem mQ (t : SetTable) : ∀ (m i p : Nat), ∃ k, k <= 10 * m /\ aF3 t k (uB t i p) = uB t (lpN t.mask i p m).1 (lpN t.mask i p m).2
 | 0, i, p => ⟨0, Nat.le_refl _, rfl⟩
 | m + 1, i, p => by
  have r9 : SetTable.runEnd t.mask i - i <= 9 := by unfold SetTable.runEnd; split <;> omega
  obtain ⟨k, h1, h2⟩ := mQ t m (SetTable.leap t.mask i p).1 (SetTable.leap t.mask i p).2
  refine ⟨(SetTable.runEnd t.mask i - i) + 1 + k, by omega, ?_⟩
  rw [wZ]
  show aF3 t k (aF3 t _ { j := i, more := SetTable.runEnd t.mask i - i, i := i, perturb := p, dummy := none }) = _
  rw [aCs t]
  exact h2
theorem qO (h : Int) : SetTable.bits h < 2 ^ 64 := by
 unfold SetTable.bits
 omega
def sE (l : List (Option Nat)) : Nat := (l.filterMap id).length
theorem oN : ∀ (l : List (Option Nat)) (j k : Nat), l[j]? = some none -> sE (l.set j (some k)) = sE l + 1
 | none :: l, 0, k, _ => by simp [sE]
 | x :: l, j + 1, k, h => by
  have ih := oN l j k h
  cases x <;> simp_all [sE]
theorem rW {mask : Nat} {ow : Array (Option Nat)} : ∀ (m fuel i p : Nat), m < fuel -> i <= mask -> ow[(lpN mask i p m).1]? = some none -> ∃ j, SetTable.layClean.free mask ow fuel i p = some j /\ ow[j]? = some none
 | m, fuel + 1, i, p, hk, hi, he => by
  unfold SetTable.layClean.free
  have gd : ∀ j, (ow.getD j (some 0)).isNone = true -> ow[j]? = some none := fun j z => by
   cases q : ow[j]? with
   | none => rw [Array.getD_eq_getD_getElem?, q] at z; cases z
   | some x => rw [Array.getD_eq_getD_getElem?, q] at z; cases x with
    | none => rfl
    | some y => cases z
  cases q : (List.range (SetTable.runEnd mask i + 1 - i)).find? fun k => (ow.getD (i + k) (some 0)).isNone with
  | some k => exact ⟨i + k, rfl, gd _ (List.find?_some (p := fun k => (ow.getD (i + k) (some 0)).isNone) q)⟩
  | none =>
   dsimp only
   cases m with
   | zero =>
    have he : ow[i]? = some none := he
    have := List.find?_eq_none.mp q 0 (List.mem_range.mpr (by unfold SetTable.runEnd; split <;> omega))
    rw [Nat.add_zero, Array.getD_eq_getD_getElem?, he] at this
    simp at this
   | succ m => exact rW m fuel _ _ (by omega) (Nat.le_of_lt_succ (Nat.mod_lt _ (Nat.succ_pos _))) he
theorem sY : ∀ l : List (Option Nat), sE l < l.length -> ∃ q : Nat, l[q]? = some none
 | none :: l, _ => ⟨0, rfl⟩
 | some x :: l, h => by
  have h : sE l + 1 < l.length + 1 := h
  obtain ⟨q, hq⟩ := sY l (by omega)
  exact ⟨q + 1, hq⟩
theorem nF : ∀ n : Nat, sE (List.replicate n none) = 0
 | 0 => rfl
 | n + 1 => nF n
structure Own (mask : Nat) (ow : Array (Option Nat)) (k : Nat) : Prop where
 s : ow.size = mask + 1
 c : sE ow.toList = k
 v : ∀ (j x : Nat), ow[j]? = some (some x) -> x < k
theorem aFr {mask : Nat} (hm : mZ mask) {ow : Array (Option Nat)} {k : Nat} (o : Own mask ow k) (hk : k <= mask) (h : Int) : ∃ j, SetTable.layClean.free mask ow (SetTable.turns mask) (SetTable.bits h % (mask + 1)) (SetTable.bits h) = some j /\ Own mask (ow.setIfInBounds j (some k)) (k + 1) := by
 obtain ⟨q, hq⟩ := sY ow.toList (by rw [o.c, Array.length_toList, o.s]; omega)
 rw [Array.getElem?_toList] at hq
 have q1 : q <= mask := by
  have := (Array.getElem?_eq_some_iff.mp hq).1
  rw [o.s] at this
  omega
 have i0 : SetTable.bits h % (mask + 1) <= mask := Nat.le_of_lt_succ (Nat.mod_lt _ (Nat.succ_pos _))
 obtain ⟨m, m1, m2⟩ := mP hm i0 (qO h) q1
 obtain ⟨j, j1, j2⟩ := rW (mask := mask) (ow := ow) m (SetTable.turns mask) _ (SetTable.bits h) (by unfold SetTable.turns; omega) i0 (by rw [m2]; exact hq)
 have jl := (Array.getElem?_eq_some_iff.mp j2).1
 refine ⟨j, j1, by simp [o.s], ?_, fun a x z => ?_⟩
 ·rw [Array.toList_setIfInBounds, oN _ _ _ (by rw [Array.getElem?_toList]; exact j2), o.c]
 ·rw [Array.getElem?_setIfInBounds] at z
  split at z
  ·cases z; omega
  ·have := o.v a x z; omega
theorem xF {mask : Nat} (hm : mZ mask) : ∀ (hs : List Int) (ow : Array (Option Nat)) (k : Nat), Own mask ow k -> k + hs.length <= mask -> ∃ ow', hs.foldl (fun acc h => do
  let (owner, k) <- acc
  let j <- SetTable.layClean.free mask owner (SetTable.turns mask) (SetTable.bits h % (mask + 1)) (SetTable.bits h)
  pure (owner.setIfInBounds j (some k), k + 1)) (some (ow, k)) = some (ow', k + hs.length) /\ Own mask ow' (k + hs.length)
 | [], ow, k, o, _ => ⟨ow, rfl, o⟩
 | h :: hs, ow, k, o, hk => by
  rw [List.length_cons] at hk
  obtain ⟨j, j1, j2⟩ := aFr hm o (by omega) h
  obtain ⟨ow', e, o'⟩ := xF hm hs _ _ j2 (by omega)
  rw [show k + 1 + hs.length = k + (h :: hs).length by rw [List.length_cons]; omega] at e o'
  refine ⟨ow', ?_, o'⟩
  rw [List.foldl_cons, <- e]
  congr 1
  show (SetTable.layClean.free mask ow _ _ _).bind _ = _
  rw [j1]
  rfl
theorem aMy {mask : Nat} (hm : mZ mask) (hs : Array Int) (hk : hs.size <= mask) : ∃ ow, SetTable.layClean mask hs = some ow /\ Own mask ow hs.size := by
 have o0 : Own mask (Array.replicate (mask + 1) none) 0 := ⟨by simp, by rw [Array.toList_replicate]; exact nF _, fun j x z => by
  rw [Array.getElem?_replicate] at z
  split at z <;> cases z⟩
 obtain ⟨ow, e, o⟩ := xF hm hs.toList _ 0 o0 (by rw [Array.length_toList]; omega)
 rw [Array.length_toList, Nat.zero_add] at e o
 refine ⟨ow, ?_, o⟩
 unfold SetTable.layClean
 rw [<- Array.foldl_toList]
 exact (congrArg (Option.map Prod.fst) e).trans rfl
theorem lU {α β : Type} {f : α -> Option β} : ∀ {l : List α}, (∀ x ∈ l, (f x).isSome = true) -> (l.filterMap f).length = l.length
 | [], _ => rfl
 | x :: l, h => by
  obtain ⟨y, hy⟩ := Option.isSome_iff_exists.mp (h x (.head _))
  rw [List.filterMap_cons, hy]
  dsimp only
  rw [List.length_cons, lU fun z hz => h z (.tail _ hz), List.length_cons]
theorem jR {α : Type} (g : Nat -> Option α) : ∀ l : List Nat, (l.filterMap fun j => (g j).map fun x => (j, x)).length = ((l.map g).filterMap id).length
 | [] => rfl
 | x :: l => by
  rw [List.filterMap_cons, List.map_cons, List.filterMap_cons]
  cases g x with
  | none => exact jR g l
  | some y => exact congrArg Nat.succ (jR g l)
theorem kH (ow : Array (Option Nat)) : (List.range ow.size).map (fun j => ow.getD j none) = ow.toList := by
 apply List.ext_getElem
 ·simp
 ·intro i h1 h2
  have : i < ow.size := by simpa using h1
  simp [Array.getD, this]
theorem s9 {t : SetTable} {es : Array (Int × Value)} {wanted : Nat} (hm : mZ (SetTable.sizeAbove wanted - 1)) (hk : es.size <= SetTable.sizeAbove wanted - 1) : ∃ t' order, t.relaid (es.map (·.1)) wanted = some (t', order) /\ t'.mask = SetTable.sizeAbove wanted - 1 /\ t'.dummies = #[] /\ t'.place.size = es.size /\ (order.filterMap (es[·]?)).size = es.size := by
 obtain ⟨ow, e, o⟩ := aMy hm (es.map (·.1)) (by rw [Array.size_map]; exact hk)
 rw [Array.size_map] at o
 have ll : ((List.range (SetTable.sizeAbove wanted - 1 + 1)).filterMap fun j => (ow.getD j none).map fun x => (j, x)).length = es.size := by
  rw [jR, <- o.s, kH]
  exact o.c
 unfold SetTable.relaid SetTable.laid
 rw [e]
 refine ⟨_, _, rfl, rfl, rfl, ?_, ?_⟩
 ·rw [List.size_toArray, List.length_map]
  exact ll
 ·rw [<- Array.length_toList, Array.toList_filterMap, List.toList_toArray, lU fun x hx => ?_, List.length_map]
  ·exact ll
  ·obtain ⟨y, hy, rfl⟩ := List.mem_map.mp hx
   obtain ⟨j, _, hj⟩ := List.mem_filterMap.mp hy
   have : y.2 < es.size := by
    refine o.v j y.2 ?_
    cases q : ow[j]? with
    | none => rw [Array.getD_eq_getD_getElem?, q] at hj; cases hj
    | some x =>
     rw [Array.getD_eq_getD_getElem?, q] at hj
     cases x with
     | none => cases hj
     | some x => cases hj; rfl
   simp [this]
section
variable {prog : Program} {w : World} {A : Around} {E : Value -> Shared -> Prop} {s : Shared} {K : Type} [DecidableEq K] {knd : KeyKind prog w K}
end
section
variable {prog : Program} {w : World} {A : Around} {K : Type} [DecidableEq K] {knd : KeyKind prog w K} {R : Result -> Shared -> Prop} {I : Addr} {fp wr : List Addr} {G : Array GenState -> Array GenState -> Prop} {n : Nat} {P : Nat -> Value -> Prop} {St : Nat -> Shared -> Prop}
end
section
variable {prog : Program} {w : World} {A : Around} {E : Value -> Shared -> Prop} {s : Shared} {K : Type} [DecidableEq K] {knd : KeyKind prog w K}
def tW (led : Bool) : Obj := { cls := .type "set", dict := none, data := .set #[] 0 (.fresh 0 0 led) }
theorem sW {x : Value} {Q : Value -> Shared -> Prop}
  (h : ∀ led, wpAny (model prog w) A.in1.in1 (Builtin.«set.__init__» ⟨[.ref s.heap.objs.size, x], []⟩)
   (fun fin s' => match fin with | .done f => wants (fun r s₂ => r = .none /\ Q (.ref s.heap.objs.size) s₂) E (.ok f) s' | .again c' => c'.quiet = true /\ codeAny (model prog w) A.in1 c' (wants (fun r s₂ => r = .none /\ Q (.ref s.heap.objs.size) s₂) E) s')
   (fun e s' => wants (fun r s₂ => r = .none /\ Q (.ref s.heap.objs.size) s₂) E (.error e) s') { s with heap := s.heap.push (tW led) }) :
  wpAny (model prog w) A (call (.type "set") [x]) Q E s := by
 have ft := F.called_set
 obtain ⟨c, tl, hmro⟩ := ft.mro
 have hmade := ft.made
 have hsub := ft.sub
 have h1 := ft.notType
 have h2 := ft.canCreate
 have hct := F.typeCall_set_1 x
 refine wpAny_call (codeAny_of_tree (wpAny_pure ⟨Code.quiet_builtin _ (by decide +kernel), codeAny_builtin F.entry_type_call ?_⟩))
 rw [Around.under_plain (weight_type_call_type "set" [x] []) rfl]
 repeat (any_goals (first | assumption | wp_step))
 refine codeAny_mono (code_set_new_1 x (E := E) (Q₁ := fun obj s₁ => ∃ led, obj = .ref s.heap.objs.size /\ s₁ = { s with heap := s.heap.push (tW led) }) fun led => ⟨led, rfl, rfl⟩) fun r s₁ hr => ?_
 cases r with
 | error e => exact hr
 | ok fl =>
  cases fl with
  | ret obj =>
   obtain ⟨led, rfl, rfl⟩ := hr
   have hT : Shared.TypeIs { s with heap := s.heap.push (tW led) } (.ref s.heap.objs.size) "set" := ⟨_, Heap.get?_push_size _ rfl, rfl⟩
   have hli := ft.init.lookup
   have hbi := ft.init.bind (.ref s.heap.objs.size)
   repeat (any_goals (first | assumption | wp_step))
   refine codeAny_mono (codeAny_call_builtin ft.init.plain F.entry_set_init (check_set_init_1 hT (h led))) fun r₂ s₂ hr₂ => ?_
   cases r₂ with
   | error e => exact hr₂
   | ok f2 =>
    cases f2 with
    | ret u =>
     obtain ⟨rfl, hq⟩ := hr₂
     repeat (any_goals (first | assumption | wp_step))
    | _ => exact hr₂.elim
  | _ => exact hr.elim
end
section
variable {X : Cx}
end
end L2
namespace M
open PySem PySem.Spec PyProof.Rows L2
theorem kB {K : PySem.W.Frag} {G : Hp} : ∀ {zs : List V} {k : List Int}, Reps K G zs (k.map .int) -> zs = (k.map Sum.inl).map kV
 | [], [], _ => rfl
 | [], _ :: _, r => by cases r
 | _ :: _, [], r => by cases r
 | z :: zs, i :: k, .cons r t => by
  cases r
  rw [kB t]
  rfl
end M
namespace HS
open PySem
theorem lW {α : Type} [DecidableEq α] : ∀ {l m : List α}, l.Nodup -> (∀ x ∈ l, x ∈ m) -> l.length <= m.length
 | [], m, _, _ => Nat.zero_le _
 | x :: l, m, h, s => by
  obtain ⟨h1, h2⟩ := List.nodup_cons.mp h
  have hx := s x (.head _)
  have q := lW (m := m.erase x) h2 fun y hy => (List.mem_erase_of_ne (show y ≠ x from fun z => h1 (by rw [<- z]; exact hy))).mpr (s y (.tail _ hy))
  rw [List.length_erase_of_mem hx] at q
  have := List.length_pos_of_mem hx
  rw [List.length_cons]
  omega
def adv (mask : Nat) (p : SetTable.Probe) : SetTable.Probe := if p.more > 0 then { p with j := p.j + 1, more := p.more - 1 } else
 { p with j := (SetTable.leap mask p.i p.perturb).1, more := SetTable.runEnd mask (SetTable.leap mask p.i p.perturb).1 - (SetTable.leap mask p.i p.perturb).1, i := (SetTable.leap mask p.i p.perturb).1, perturb := (SetTable.leap mask p.i p.perturb).2 }
def uB (mask i p : Nat) : SetTable.Probe := { j := i, more := SetTable.runEnd mask i - i, i, perturb := p, dummy := none }
def pst (mask : Nat) (h : Int) : SetTable.Probe := uB mask (SetTable.bits h % (mask + 1)) (SetTable.bits h)
def oE (mask : Nat) : Nat -> SetTable.Probe -> SetTable.Probe
 | 0, p => p
 | k + 1, p => adv mask (oE mask k p)
def pth (mask : Nat) (h : Int) (k : Nat) : Nat := (oE mask k (pst mask h)).j
theorem aN4 (mask : Nat) (p : SetTable.Probe) : (adv mask p).dummy = p.dummy := by
 unfold adv
 split <;> rfl
theorem aF2 (mask : Nat) (p : SetTable.Probe) : ∀ k, (oE mask k p).dummy = p.dummy
 | 0 => rfl
 | k + 1 => (aN4 mask _).trans (aF2 mask p k)
theorem mK (mask : Nat) (p : SetTable.Probe) (a : Nat) : ∀ b, oE mask (a + b) p = oE mask b (oE mask a p)
 | 0 => rfl
 | b + 1 => congrArg (adv mask) (mK mask p a b)
theorem y8 (mask i p : Nat) : ∀ r, r <= SetTable.runEnd mask i - i -> oE mask r (uB mask i p) = { j := i + r, more := SetTable.runEnd mask i - i - r, i, perturb := p, dummy := none }
 | 0, _ => rfl
 | r + 1, h => by
  show adv mask (oE mask r (uB mask i p)) = _
  rw [y8 mask i p r (by omega)]
  unfold adv
  rw [if_pos (show SetTable.runEnd mask i - i - r > 0 by omega)]
  congr 1
theorem aGz (mask i p : Nat) : oE mask (SetTable.runEnd mask i - i + 1) (uB mask i p) = uB mask (SetTable.leap mask i p).1 (SetTable.leap mask i p).2 := by
 show adv mask (oE mask (SetTable.runEnd mask i - i) (uB mask i p)) = _
 rw [y8 mask i p _ (Nat.le_refl _)]
 unfold adv
 rw [if_neg (by simp)]
 rfl
theorem aPk (mask i : Nat) : SetTable.runEnd mask i - i <= 9 := by unfold SetTable.runEnd; split <;> omega
def lpN (mask : Nat) (i p : Nat) : Nat -> Nat × Nat
 | 0 => (i, p)
 | m + 1 => lpN mask (SetTable.leap mask i p).1 (SetTable.leap mask i p).2 m
theorem nL (mask : Nat) : ∀ (a b i p : Nat), lpN mask i p (a + b) = lpN mask (lpN mask i p a).1 (lpN mask i p a).2 b
 | 0, b, i, p => by rw [Nat.zero_add]; rfl
 | a + 1, b, i, p => by
  rw [Nat.succ_add]
  show lpN mask _ _ (a + b) = _
  rw [nL mask a b]
  rfl
theorem aCr (mask : Nat) : ∀ (m i p : Nat), (lpN mask i p m).2 = p / 32 ^ m
 | 0, i, p => by simp [lpN]
 | m + 1, i, p => by
  show (lpN mask _ (p / 32) m).2 = _
  rw [aCr mask m, Nat.div_div_eq_div_mul, Nat.pow_succ, Nat.mul_comm]
theorem aA8 (mask : Nat) : ∀ (m i p : Nat), i <= mask -> (lpN mask i p m).1 <= mask
 | 0, i, p, h => h
 | m + 1, i, p, _ => by
  show (lpN mask ((i * 5 + 1 + p / 32) % (mask + 1)) (p / 32) m).1 <= mask
  exact aA8 mask m _ _ (Nat.le_of_lt_succ (Nat.mod_lt _ (Nat.succ_pos _)))
theorem mQ (mask : Nat) : ∀ (m i p : Nat), ∃ k, k <= 10 * m /\ oE mask k (uB mask i p) = uB mask (lpN mask i p m).1 (lpN mask i p m).2
 | 0, i, p => ⟨0, Nat.le_refl _, rfl⟩
 | m + 1, i, p => by
  have r9 := aPk mask i
  obtain ⟨k, h1, h2⟩ := mQ mask m (SetTable.leap mask i p).1 (SetTable.leap mask i p).2
  refine ⟨(SetTable.runEnd mask i - i) + 1 + k, by omega, ?_⟩
  rw [mK, aGz]
  exact h2
def orb (mask : Nat) : Nat -> Nat -> List Nat
 | 0, _ => []
 | n + 1, i => i :: orb mask n ((i * 5 + 1) % (mask + 1))
theorem rX (mask : Nat) : ∀ (n i q : Nat), q ∈ orb mask n i -> ∃ m, m < n /\ (lpN mask i 0 m).1 = q
 | n + 1, i, q, h => by
  rcases List.mem_cons.mp h with z | z
  ·exact ⟨0, Nat.succ_pos _, z.symm⟩
  ·obtain ⟨m, hm, e⟩ := rX mask n _ q z
   exact ⟨m + 1, Nat.succ_lt_succ hm, e⟩
def MOk (mask : Nat) : Prop := mask = 7 \/ mask = 31 \/ mask = 127
def aGj (l : List Nat) : Nat := l.foldl (fun a q => a ||| (1 <<< q)) 0
theorem w6 : ∀ (l : List Nat) (a q : Nat), (l.foldl (fun a q => a ||| (1 <<< q)) a).testBit q = true -> a.testBit q = true \/ q ∈ l
 | [], a, q, h => .inl h
 | x :: l, a, q, h => by
  rcases w6 l _ q h with z | z
  ·rw [Nat.testBit_or, Bool.or_eq_true] at z
   rcases z with z | z
   ·exact .inl z
   ·rw [Nat.one_shiftLeft, Nat.testBit_two_pow] at z
    exact .inr (by rw [<- of_decide_eq_true z]; exact .head _)
  ·exact .inr (.tail _ z)
theorem uS {mask : Nat} (hm : MOk mask) {i q : Nat} (hi : i <= mask) (hq : q <= mask) : q ∈ orb mask (mask + 1) i := by
 have key : ∀ mask, MOk mask -> (List.range (mask + 1)).all (fun i => Nat.beq (aGj (orb mask (mask + 1) i)) (2 ^ (mask + 1) - 1)) = true := by
  rintro _ (rfl | rfl | rfl) <;> decide +kernel
 have a := List.all_eq_true.mp (key mask hm) i (List.mem_range.mpr (Nat.lt_succ_of_le hi))
 have a := Nat.eq_of_beq_eq_true a
 have t : (aGj (orb mask (mask + 1) i)).testBit q = true := by
  rw [a, Nat.testBit_two_pow_sub_one]
  exact decide_eq_true (Nat.lt_succ_of_le hq)
 rcases w6 _ 0 q t with z | z
 ·rw [Nat.zero_testBit] at z
  cases z
 ·exact z
theorem qO (h : Int) : SetTable.bits h < 2 ^ 64 := by
 unfold SetTable.bits
 omega
theorem mP {mask : Nat} (hm : MOk mask) {i p q : Nat} (hi : i <= mask) (hp : p < 2 ^ 64) (hq : q <= mask) : ∃ m, m <= 13 + mask /\ (lpN mask i p m).1 = q := by
 have e2 : (lpN mask i p 13).2 = 0 := by
  rw [aCr]
  exact Nat.div_eq_of_lt (Nat.lt_of_lt_of_le hp (by decide))
 obtain ⟨m, h1, h2⟩ := rX mask _ _ _ (uS hm (aA8 mask 13 i p hi) hq)
 refine ⟨13 + m, by omega, ?_⟩
 rw [nL, e2]
 exact h2
theorem zJ {mask : Nat} (hm : MOk mask) (h : Int) {q : Nat} (hq : q <= mask) : ∃ k, k <= 10 * (13 + mask) /\ pth mask h k = q := by
 obtain ⟨m, m1, m2⟩ := mP hm (Nat.le_of_lt_succ (Nat.mod_lt (SetTable.bits h) (Nat.succ_pos mask))) (qO h) hq
 obtain ⟨k, k1, k2⟩ := mQ mask m (SetTable.bits h % (mask + 1)) (SetTable.bits h)
 refine ⟨k, by omega, ?_⟩
 show (oE mask k (uB mask _ _)).j = q
 rw [k2]
 exact m2
theorem miss {mask : Nat} {l : List Nat} (h : l.length <= mask) : ∃ q, q <= mask /\ q ∉ l := by
 by_cases z : ∀ q ∈ List.range (mask + 1), q ∈ l
 ·have := lW List.nodup_range z
  rw [List.length_range] at this
  omega
 ·obtain ⟨q, hq⟩ := Classical.not_forall.mp z
  obtain ⟨h1, h2⟩ := Classical.not_imp.mp hq
  exact ⟨q, Nat.le_of_lt_succ (List.mem_range.mp h1), h2⟩
def Ris (xs : Array Nat) : Prop := ∀ (i j a b : Nat), i < j -> xs[i]? = some a -> xs[j]? = some b -> a < b
theorem rA (xs : Array Nat) (j : Nat) (hr : Ris xs) : ∀ (fuel lo hi : Nat), hi - lo <= fuel -> lo <= hi -> hi <= xs.size -> (∀ i a, i < lo -> xs[i]? = some a -> a < j) -> (∀ i a, hi <= i -> xs[i]? = some a -> j <= a) ->
  SetTable.below.go xs j fuel lo hi <= xs.size /\ (∀ i a, i < SetTable.below.go xs j fuel lo hi -> xs[i]? = some a -> a < j) /\ (∀ i a, SetTable.below.go xs j fuel lo hi <= i -> xs[i]? = some a -> j <= a)
 | 0, lo, hi, hf, h1, h2, h3, h4 => by
  have : lo = hi := by omega
  subst this
  exact ⟨h2, h3, h4⟩
 | fuel + 1, lo, hi, hf, h1, h2, h3, h4 => by
  unfold SetTable.below.go
  by_cases z : lo < hi
  ·rw [if_pos z]
   dsimp only
   have m1 : lo <= (lo + hi) / 2 := by omega
   have m2 : (lo + hi) / 2 < hi := by omega
   have m3 : (lo + hi) / 2 < xs.size := by omega
   have g : xs.getD ((lo + hi) / 2) j = xs[(lo + hi) / 2] := by simp [Array.getD, m3]
   rw [g]
   have gm : xs[(lo + hi) / 2]? = some xs[(lo + hi) / 2] := Array.getElem?_eq_getElem m3
   by_cases y : xs[(lo + hi) / 2] < j
   ·rw [if_pos y]
    refine rA xs j hr fuel _ _ (by omega) (by omega) h2 (fun i a hi' e => ?_) h4
    rcases Nat.lt_or_ge i ((lo + hi) / 2) with w | w
    ·exact Nat.lt_trans (hr _ _ _ _ w e gm) y
    ·have : i = (lo + hi) / 2 := by omega
     subst this
     rw [gm] at e
     cases e
     exact y
   ·rw [if_neg y]
    refine rA xs j hr fuel _ _ (by omega) (by omega) (by omega) h3 (fun i a hi' e => ?_)
    rcases Nat.lt_or_ge ((lo + hi) / 2) i with w | w
    ·have := hr _ _ _ _ w gm e
     omega
    ·have : i = (lo + hi) / 2 := by omega
     subst this
     rw [gm] at e
     cases e
     omega
  ·rw [if_neg z]
   have : lo = hi := by omega
   subst this
   exact ⟨h2, h3, h4⟩
theorem kJ {xs : Array Nat} (hr : Ris xs) (j : Nat) : SetTable.below xs j <= xs.size /\ (∀ i a, i < SetTable.below xs j -> xs[i]? = some a -> a < j) /\ (∀ i a, SetTable.below xs j <= i -> xs[i]? = some a -> j <= a) := by
 unfold SetTable.below
 refine rA xs j hr _ _ _ (Nat.le_refl _) (Nat.zero_le _) (Nat.le_refl _) (fun i a h => absurd h (Nat.not_lt_zero _)) (fun i a h e => ?_)
 rw [Array.getElem?_eq_none h] at e
 cases e
theorem aBs {t : SetTable} (hr : Ris t.place) {j : Nat} (h : j ∈ t.place.toList) : ∃ i, t.slot j = .live i /\ t.place[i]? = some j := by
 obtain ⟨i, hi⟩ := List.mem_iff_getElem?.mp h
 rw [Array.getElem?_toList] at hi
 obtain ⟨b1, b2, b3⟩ := kJ hr j
 have e : SetTable.below t.place j = i := by
  rcases Nat.lt_trichotomy (SetTable.below t.place j) i with z | z | z
  ·have hb : SetTable.below t.place j < t.place.size := Nat.lt_trans z (Array.getElem?_eq_some_iff.mp hi).1
   have a := b3 _ _ (Nat.le_refl _) (Array.getElem?_eq_getElem hb)
   have b := hr _ _ _ _ z (Array.getElem?_eq_getElem hb) hi
   omega
  ·exact z
  ·have := b2 i j z hi
   omega
 refine ⟨i, ?_, hi⟩
 unfold SetTable.slot
 dsimp only
 rw [e, if_pos (by rw [hi]; exact beq_self_eq_true _)]
theorem aDk {t : SetTable} (hd : t.dummies = #[]) {j : Nat} (h : j ∉ t.place.toList) : t.slot j = .empty := by
 unfold SetTable.slot SetTable.has
 rw [hd]
 dsimp only
 have : (t.place[SetTable.below t.place j]? == some j) = false := by
  rw [beq_eq_false_iff_ne]
  exact fun z => h (Array.mem_toList_iff.mpr (Array.mem_of_getElem? z))
 rw [this]
 simp
theorem iA {α : Type} (xs : Array α) (p : Nat) (x : α) : (SetTable.insertAt xs p x).toList = xs.toList.take p ++ x :: xs.toList.drop p := by
 unfold SetTable.insertAt
 simp
 exact List.take_of_length_le (by simp)
theorem xJ {xs : Array Nat} (h : xs.toList.Pairwise (· < ·)) : Ris xs := fun i j a b hij hi hj => by
 rw [<- Array.getElem?_toList] at hi hj
 obtain ⟨h1, e1⟩ := List.getElem?_eq_some_iff.mp hi
 obtain ⟨h2, e2⟩ := List.getElem?_eq_some_iff.mp hj
 rw [<- e1, <- e2]
 exact List.pairwise_iff_getElem.mp h i j h1 h2 hij
theorem aC2 {xs : Array Nat} (h : Ris xs) : xs.toList.Pairwise (· < ·) := List.pairwise_iff_getElem.mpr fun i j h1 h2 hij => h i j _ _ hij (by rw [<- Array.getElem?_toList]; exact List.getElem?_eq_getElem h1) (by rw [<- Array.getElem?_toList]; exact List.getElem?_eq_getElem h2)
theorem aJg {xs : Array Nat} (hr : Ris xs) {j : Nat} (h : j ∉ xs.toList) : Ris (SetTable.insertAt xs (SetTable.below xs j) j) := by
 obtain ⟨b1, b2, b3⟩ := kJ hr j
 have l := aC2 hr
 refine xJ ?_
 rw [iA]
 have lo : ∀ a ∈ xs.toList.take (SetTable.below xs j), a < j := fun a ha => by
  obtain ⟨i, hi⟩ := List.mem_iff_getElem?.mp ha
  rw [List.getElem?_take] at hi
  split at hi
  ·rename_i z
   rw [Array.getElem?_toList] at hi
   exact b2 i a z hi
  ·cases hi
 have hi : ∀ a ∈ xs.toList.drop (SetTable.below xs j), j < a := fun a ha => by
  obtain ⟨i, hi⟩ := List.mem_iff_getElem?.mp ha
  rw [List.getElem?_drop, Array.getElem?_toList] at hi
  have := b3 _ a (Nat.le_add_right _ _) hi
  have ne : a ≠ j := fun z => h (z ▸ List.mem_of_mem_drop ha)
  omega
 rw [List.pairwise_append]
 refine ⟨List.Pairwise.sublist (List.take_sublist _ _) l, List.pairwise_cons.mpr ⟨hi, List.Pairwise.sublist (List.drop_sublist _ _) l⟩, fun a ha b hb => ?_⟩
 rcases List.mem_cons.mp hb with z | z
 ·rw [z]; exact lo a ha
 ·exact Nat.lt_trans (lo a ha) (hi b z)
theorem aLa {t : SetTable} (hd : t.dummies = #[]) (hr : Ris t.place) {f : Nat -> Int} {h : Int} : ∀ (n fuel k : Nat), n < fuel -> (pth t.mask h (k + n) ∉ t.place.toList \/ ∃ i, t.place[i]? = some (pth t.mask h (k + n)) /\ f i = h) ->
  (∃ k', k <= k' /\ k' <= k + n /\ pth t.mask h k' ∉ t.place.toList /\ (∀ q, k <= q -> q < k' -> ∃ i, t.place[i]? = some (pth t.mask h q) /\ f i ≠ h) /\ SetTable.probe.go t f h fuel (oE t.mask k (pst t.mask h)) = some (.empty (pth t.mask h k') none)) \/
  (∃ k' i, k <= k' /\ k' <= k + n /\ t.place[i]? = some (pth t.mask h k') /\ f i = h /\ (∀ q, k <= q -> q < k' -> ∃ i, t.place[i]? = some (pth t.mask h q) /\ f i ≠ h) /\ SetTable.probe.go t f h fuel (oE t.mask k (pst t.mask h)) = some (.candidate (pth t.mask h k') i (oE t.mask (k' + 1) (pst t.mask h))))
 | n, fuel + 1, k, hn, he => by
  unfold SetTable.probe.go
  by_cases z : pth t.mask h k ∈ t.place.toList
  ·obtain ⟨i, s1, s2⟩ := aBs hr z
   have s1 : t.slot (oE t.mask k (pst t.mask h)).j = .live i := s1
   rw [s1]
   dsimp only
   by_cases y : f i = h
   ·rw [if_pos (by rw [beq_iff_eq]; exact y)]
    exact .inr ⟨k, i, Nat.le_refl _, Nat.le_add_right _ _, s2, y, fun q h1 h2 => by omega, rfl⟩
   ·rw [if_neg (by rw [beq_iff_eq]; exact y)]
    cases n with
    | zero =>
     rcases he with e | ⟨i', e1, e2⟩
     ·exact absurd z e
     ·have : i = i' := by
       rcases Nat.lt_trichotomy i i' with w | w | w
       ·exact absurd (hr _ _ _ _ w s2 e1) (Nat.lt_irrefl _)
       ·exact w
       ·exact absurd (hr _ _ _ _ w e1 s2) (Nat.lt_irrefl _)
      rw [this] at y
      exact absurd e2 y
    | succ n =>
     have ad : t.advance (oE t.mask k (pst t.mask h)) = oE t.mask (k + 1) (pst t.mask h) := rfl
     rw [ad]
     have ek : k + 1 + n = k + (n + 1) := by omega
     rcases aLa hd hr n fuel (k + 1) (by omega) (by rw [ek]; exact he) with ⟨k', a1, a2, a3, a4, a5⟩ | ⟨k', i', a1, a2, a3, a4, a5, a6⟩
     ·refine .inl ⟨k', by omega, by omega, a3, fun q h1 h2 => ?_, a5⟩
      rcases Nat.lt_or_ge k q with w | w
      ·exact a4 q w h2
      ·have : q = k := by omega
       rw [this]; exact ⟨i, s2, y⟩
     ·refine .inr ⟨k', i', by omega, by omega, a3, a4, fun q h1 h2 => ?_, a6⟩
      rcases Nat.lt_or_ge k q with w | w
      ·exact a5 q w h2
      ·have : q = k := by omega
       rw [this]; exact ⟨i, s2, y⟩
  ·have s1 : t.slot (oE t.mask k (pst t.mask h)).j = .empty := aDk hd z
   rw [s1]
   dsimp only
   rw [aF2]
   exact .inl ⟨k, Nat.le_refl _, Nat.le_add_right _ _, z, fun q h1 h2 => by omega, rfl⟩
structure Tab (t : SetTable) (hs : List Int) : Prop where
 d : t.dummies = #[]
 m : MOk t.mask
 r : Ris t.place
 s : t.place.size = hs.length
 z : hs.length <= t.mask
 p : ∀ (i : Nat) h j, hs[i]? = some h -> t.place[i]? = some j -> ∃ k, k <= 10 * (13 + t.mask) /\ pth t.mask h k = j /\ ∀ q, q < k -> pth t.mask h q ∈ t.place.toList
theorem nM (t : SetTable) (j : Nat) : (t.put j).1.place = SetTable.insertAt t.place (SetTable.below t.place j) j /\ (t.put j).2 = SetTable.below t.place j := ⟨rfl, rfl⟩
theorem aHf {t : SetTable} (hd : t.dummies = #[]) (j : Nat) : (t.put j).1.dummies = #[] := by
 unfold SetTable.put
 rw [hd]
 rfl
theorem Tab.put {t : SetTable} {hs : List Int} (T : Tab t hs) {h : Int} {k : Nat} (hk : k <= 10 * (13 + t.mask)) (hn : pth t.mask h k ∉ t.place.toList) (hp : ∀ q, q < k -> pth t.mask h q ∈ t.place.toList) (hz : hs.length + 1 <= t.mask) :
  Tab (t.put (pth t.mask h k)).1 (hs.take (t.put (pth t.mask h k)).2 ++ h :: hs.drop (t.put (pth t.mask h k)).2) := by
 obtain ⟨b1, _, _⟩ := kJ T.r (pth t.mask h k)
 have pl := (nM t (pth t.mask h k)).1
 have pe := (nM t (pth t.mask h k)).2
 have sub : ∀ x ∈ t.place.toList, x ∈ (t.put (pth t.mask h k)).1.place.toList := fun x hx => by
  rw [pl, iA]
  rw [<- List.take_append_drop (SetTable.below t.place (pth t.mask h k)) t.place.toList] at hx
  rcases List.mem_append.mp hx with z | z
  ·exact List.mem_append_left _ z
  ·exact List.mem_append_right _ (.tail _ z)
 have lt : (hs.take (t.put (pth t.mask h k)).2).length = SetTable.below t.place (pth t.mask h k) := by
  rw [pe, List.length_take]
  have := T.s
  omega
 have lp : (t.place.toList.take (SetTable.below t.place (pth t.mask h k))).length = SetTable.below t.place (pth t.mask h k) := by
  rw [List.length_take, Array.length_toList]
  omega
 refine ⟨aHf T.d _, T.m, by rw [pl]; exact aJg T.r hn, ?_, ?_, fun i h' j e1 e2 => ?_⟩
 ·rw [<- Array.length_toList, pl, iA, List.length_append, List.length_append, List.length_cons, List.length_cons, lp, lt, List.length_drop, List.length_drop, Array.length_toList, pe, T.s]
 ·rw [List.length_append, List.length_cons, lt, List.length_drop, pe]
  have := T.s
  show _ <= t.mask
  omega
 ·have up : ∀ {h' j}, (∃ k, k <= 10 * (13 + t.mask) /\ pth t.mask h' k = j /\ ∀ q, q < k -> pth t.mask h' q ∈ t.place.toList) -> ∃ k', k' <= 10 * (13 + t.mask) /\ pth t.mask h' k' = j /\ ∀ q, q < k' -> pth t.mask h' q ∈ (t.put (pth t.mask h k)).1.place.toList := fun ⟨k', a, b, c⟩ => ⟨k', a, b, fun q hq => sub _ (c q hq)⟩
  rw [<- Array.getElem?_toList, pl, iA] at e2
  rcases Nat.lt_trichotomy i (SetTable.below t.place (pth t.mask h k)) with z | z | z
  ·rw [List.getElem?_append_left (by rw [lt]; exact z), List.getElem?_take] at e1
   rw [List.getElem?_append_left (by rw [lp]; exact z), List.getElem?_take] at e2
   rw [pe, if_pos z] at e1
   rw [if_pos z, Array.getElem?_toList] at e2
   exact up (T.p i h' j e1 e2)
  ·rw [List.getElem?_append_right (by rw [lt]; omega), lt, z, Nat.sub_self] at e1
   rw [List.getElem?_append_right (by rw [lp]; omega), lp, z, Nat.sub_self] at e2
   cases e1
   cases e2
   exact ⟨k, hk, rfl, fun q hq => sub _ (hp q hq)⟩
  ·rw [List.getElem?_append_right (by rw [lt]; omega), lt] at e1
   rw [List.getElem?_append_right (by rw [lp]; omega), lp] at e2
   obtain ⟨d, hd⟩ : ∃ d, i - SetTable.below t.place (pth t.mask h k) = d + 1 := ⟨i - SetTable.below t.place (pth t.mask h k) - 1, by omega⟩
   rw [hd, List.getElem?_cons_succ, List.getElem?_drop] at e1 e2
   rw [pe] at e1
   rw [Array.getElem?_toList] at e2
   exact up (T.p _ h' j e1 e2)
def sE (l : List (Option Nat)) : Nat := (l.filterMap id).length
theorem oN : ∀ (l : List (Option Nat)) (j k : Nat), l[j]? = some none -> sE (l.set j (some k)) = sE l + 1
 | none :: l, 0, k, _ => by simp [sE]
 | x :: l, j + 1, k, h => by
  have ih := oN l j k h
  cases x <;> simp_all [sE]
theorem sY : ∀ l : List (Option Nat), sE l < l.length -> ∃ q : Nat, l[q]? = some none
 | none :: l, _ => ⟨0, rfl⟩
 | some x :: l, h => by
  have h : sE l + 1 < l.length + 1 := h
  obtain ⟨q, hq⟩ := sY l (by omega)
  exact ⟨q + 1, hq⟩
theorem nF : ∀ n : Nat, sE (List.replicate n none) = 0
 | 0 => rfl
 | n + 1 => nF n
def Occ (ow : Array (Option Nat)) (j : Nat) : Prop := ∃ y, ow[j]? = some (some y)
theorem tR {mask : Nat} {ow : Array (Option Nat)} (hs : ow.size = mask + 1) {h : Int} : ∀ (m fuel i p b : Nat), m < fuel -> i <= mask -> oE mask b (pst mask h) = uB mask i p -> (∀ q, q < b -> Occ ow (pth mask h q)) -> ow[(lpN mask i p m).1]? = some none ->
  ∃ j n, SetTable.layClean.free mask ow fuel i p = some j /\ ow[j]? = some none /\ n <= b + 10 * m /\ pth mask h n = j /\ ∀ q, q < n -> Occ ow (pth mask h q)
 | m, fuel + 1, i, p, b, hk, hi, hb, hq, he => by
  unfold SetTable.layClean.free
  have rl : SetTable.runEnd mask i <= mask /\ i <= SetTable.runEnd mask i := by unfold SetTable.runEnd; split <;> omega
  have r9 := aPk mask i
  have gd : ∀ j, (ow.getD j (some 0)).isNone = true -> ow[j]? = some none := fun j z => by
   cases q : ow[j]? with
   | none => rw [Array.getD_eq_getD_getElem?, q] at z; cases z
   | some x => rw [Array.getD_eq_getD_getElem?, q] at z; cases x with
    | none => rfl
    | some y => cases z
  have go : ∀ j, j <= mask -> ¬ ((ow.getD j (some 0)).isNone = true) -> Occ ow j := fun j hj z => by
   have hl : j < ow.size := by omega
   cases q : ow[j]? with
   | none => rw [Array.getElem?_eq_getElem hl] at q; cases q
   | some x =>
    cases x with
    | none => rw [Array.getD_eq_getD_getElem?, q] at z; exact absurd rfl z
    | some y => exact ⟨y, q⟩
  have at' : ∀ r, r <= SetTable.runEnd mask i - i -> pth mask h (b + r) = i + r := fun r hr => by
   show (oE mask (b + r) (pst mask h)).j = _
   rw [mK, hb, y8 mask i p r hr]
  cases q : (List.range (SetTable.runEnd mask i + 1 - i)).find? fun k => (ow.getD (i + k) (some 0)).isNone with
  | some k =>
   obtain ⟨z1, as, bs, e1, e2⟩ := List.find?_eq_some_iff_append.mp q
   have hkr : k < SetTable.runEnd mask i + 1 - i := List.mem_range.mp (List.mem_of_find?_eq_some q)
   have bef : ∀ r, r < k -> Occ ow (i + r) := fun r hr => by
    refine go _ (by omega) fun w => ?_
    have hm : r ∈ List.range (SetTable.runEnd mask i + 1 - i) := List.mem_range.mpr (by omega)
    rw [e1] at hm
    rcases List.mem_append.mp hm with y | y
    ·have := e2 r y
     rw [w] at this
     cases this
    ·have srt : (as ++ k :: bs).Pairwise (· < ·) := by rw [<- e1]; exact List.pairwise_lt_range
     have := (List.pairwise_append.mp srt).2.1
     rcases List.mem_cons.mp y with x | x
     ·omega
     ·have := (List.pairwise_cons.mp this).1 r x
      omega
   refine ⟨i + k, b + k, rfl, gd _ z1, ?_, at' k (by omega), fun r hr => ?_⟩
   ·cases m with
    | zero =>
     have he : ow[i]? = some none := he
     rcases Nat.eq_zero_or_pos k with y | y
     ·omega
     ·obtain ⟨x, hx⟩ := bef 0 y
      rw [Nat.add_zero, he] at hx
      cases hx
    | succ m => omega
   ·rcases Nat.lt_or_ge r b with y | y
    ·exact hq r y
    ·have := bef (r - b) (by omega)
     have a := at' (r - b) (by omega)
     rw [show b + (r - b) = r by omega] at a
     rw [a]
     exact this
  | none =>
   dsimp only
   have all : ∀ r, r <= SetTable.runEnd mask i - i -> Occ ow (i + r) := fun r hr => go _ (by omega) fun w => by
    exact List.find?_eq_none.mp q r (List.mem_range.mpr (by omega)) w
   cases m with
   | zero =>
    have he : ow[i]? = some none := he
    obtain ⟨x, hx⟩ := all 0 (Nat.zero_le _)
    rw [Nat.add_zero, he] at hx
    cases hx
   | succ m =>
    have hb' : oE mask (b + (SetTable.runEnd mask i - i + 1)) (pst mask h) = uB mask (SetTable.leap mask i p).1 (SetTable.leap mask i p).2 := by
     rw [mK, hb, aGz]
    obtain ⟨j, n, f1, f2, f3, f4, f5⟩ := tR hs m fuel _ _ _ (by omega) (Nat.le_of_lt_succ (Nat.mod_lt _ (Nat.succ_pos _))) hb' (fun r hr => by
     rcases Nat.lt_or_ge r b with y | y
     ·exact hq r y
     ·have a := at' (r - b) (by omega)
      rw [show b + (r - b) = r by omega] at a
      rw [a]
      exact all (r - b) (by omega)) he
    exact ⟨j, n, f1, f2, by omega, f4, f5⟩
structure Ly (mask : Nat) (ow : Array (Option Nat)) (hs : List Int) (k : Nat) : Prop where
 s : ow.size = mask + 1
 c : sE ow.toList = k
 v : ∀ (j x : Nat), ow[j]? = some (some x) -> x < k
 i : ∀ (j j' x : Nat), ow[j]? = some (some x) -> ow[j']? = some (some x) -> j = j'
 p : ∀ (j x : Nat) h, ow[j]? = some (some x) -> hs[x]? = some h -> ∃ n, n <= 10 * (13 + mask) /\ pth mask h n = j /\ ∀ q, q < n -> Occ ow (pth mask h q)
theorem aHc {mask : Nat} (hm : MOk mask) {ow : Array (Option Nat)} {hs : List Int} {k : Nat} (o : Ly mask ow hs k) (hk : k <= mask) {h : Int} (hh : hs[k]? = some h) : ∃ j, SetTable.layClean.free mask ow (SetTable.turns mask) (SetTable.bits h % (mask + 1)) (SetTable.bits h) = some j /\ Ly mask (ow.setIfInBounds j (some k)) hs (k + 1) := by
 obtain ⟨q, hq⟩ := sY ow.toList (by rw [o.c, Array.length_toList, o.s]; omega)
 rw [Array.getElem?_toList] at hq
 have q1 : q <= mask := by
  have := (Array.getElem?_eq_some_iff.mp hq).1
  rw [o.s] at this
  omega
 have i0 : SetTable.bits h % (mask + 1) <= mask := Nat.le_of_lt_succ (Nat.mod_lt _ (Nat.succ_pos _))
 obtain ⟨m, m1, m2⟩ := mP hm i0 (qO h) q1
 obtain ⟨j, n, j1, j2, j3, j4, j5⟩ := tR (mask := mask) o.s (h := h) m (SetTable.turns mask) _ (SetTable.bits h) 0 (by unfold SetTable.turns; omega) i0 rfl (fun q hq => absurd hq (Nat.not_lt_zero _)) (by rw [m2]; exact hq)
 have jl := (Array.getElem?_eq_some_iff.mp j2).1
 have get : ∀ a, (ow.setIfInBounds j (some k))[a]? = if j = a then some (some k) else ow[a]? := fun a => by
  rw [Array.getElem?_setIfInBounds]
  split
  ·rfl
  ·rfl
 have up : ∀ a, Occ ow a -> Occ (ow.setIfInBounds j (some k)) a := fun a ⟨y, hy⟩ => by
  by_cases z : j = a
  ·exact ⟨k, by rw [get, if_pos z]⟩
  ·exact ⟨y, by rw [get, if_neg z]; exact hy⟩
 refine ⟨j, j1, by simp [o.s], ?_, fun a x z => ?_, fun a a' x z z' => ?_, fun a x h' z e => ?_⟩
 ·rw [Array.toList_setIfInBounds, oN _ _ _ (by rw [Array.getElem?_toList]; exact j2), o.c]
 ·rw [get] at z
  split at z
  ·cases z; omega
  ·have := o.v a x z; omega
 ·rw [get] at z z'
  split at z
  ·split at z'
   ·omega
   ·cases z
    exact absurd (o.v a' k z') (Nat.lt_irrefl _)
  ·split at z'
   ·cases z'
    exact absurd (o.v a k z) (Nat.lt_irrefl _)
   ·exact o.i a a' x z z'
 ·rw [get] at z
  split at z
  ·rename_i y
   cases z
   rw [hh] at e
   cases e
   exact ⟨n, by omega, by rw [j4, y], fun q hq => up _ (j5 q hq)⟩
  ·obtain ⟨n', a1, a2, a3⟩ := o.p a x h' z e
   exact ⟨n', a1, a2, fun q hq => up _ (a3 q hq)⟩
theorem yZ {mask : Nat} (hm : MOk mask) {hs : List Int} : ∀ (l : List Int) (ow : Array (Option Nat)) (k : Nat), Ly mask ow hs k -> k + l.length <= mask -> (∀ i, l[i]? = hs[k + i]?) -> ∃ ow', l.foldl (fun acc h => do
  let (owner, k) <- acc
  let j <- SetTable.layClean.free mask owner (SetTable.turns mask) (SetTable.bits h % (mask + 1)) (SetTable.bits h)
  pure (owner.setIfInBounds j (some k), k + 1)) (some (ow, k)) = some (ow', k + l.length) /\ Ly mask ow' hs (k + l.length)
 | [], ow, k, o, _, _ => ⟨ow, rfl, o⟩
 | h :: l, ow, k, o, hk, hl => by
  rw [List.length_cons] at hk
  obtain ⟨j, j1, j2⟩ := aHc hm o (by omega) (h := h) (hl 0).symm
  obtain ⟨ow', e, o'⟩ := yZ hm l _ _ j2 (by omega) (fun i => by
   have := hl (i + 1)
   rw [show k + 1 + i = k + (i + 1) by omega]
   exact this)
  rw [show k + 1 + l.length = k + (h :: l).length by rw [List.length_cons]; omega] at e o'
  refine ⟨ow', ?_, o'⟩
  rw [List.foldl_cons, <- e]
  congr 1
  show (SetTable.layClean.free mask ow _ _ _).bind _ = _
  rw [j1]
  rfl
theorem aN7 {mask : Nat} (hm : MOk mask) (hs : Array Int) (hk : hs.size <= mask) : ∃ ow, SetTable.layClean mask hs = some ow /\ Ly mask ow hs.toList hs.size := by
 have o0 : Ly mask (Array.replicate (mask + 1) none) hs.toList 0 := by
  have no : ∀ (j x : Nat), (Array.replicate (mask + 1) (none : Option Nat))[j]? ≠ some (some x) := fun j x z => by
   rw [Array.getElem?_replicate] at z
   split at z <;> cases z
  exact ⟨by simp, by rw [Array.toList_replicate]; exact nF _, fun j x z => absurd z (no j x), fun j _ x z => absurd z (no j x), fun j x _ z => absurd z (no j x)⟩
 obtain ⟨ow, e, o⟩ := yZ hm hs.toList _ 0 o0 (by rw [Array.length_toList]; omega) (fun i => by rw [Nat.zero_add])
 rw [Array.length_toList, Nat.zero_add] at e o
 refine ⟨ow, ?_, o⟩
 unfold SetTable.layClean
 rw [<- Array.foldl_toList]
 exact (congrArg (Option.map Prod.fst) e).trans rfl
theorem lU {α β : Type} {f : α -> Option β} : ∀ {l : List α}, (∀ x ∈ l, (f x).isSome = true) -> (l.filterMap f).length = l.length
 | [], _ => rfl
 | x :: l, h => by
  obtain ⟨y, hy⟩ := Option.isSome_iff_exists.mp (h x (.head _))
  rw [List.filterMap_cons, hy]
  dsimp only
  rw [List.length_cons, lU fun z hz => h z (.tail _ hz), List.length_cons]
theorem tH {α β : Type} {f : α -> Option β} : ∀ {l : List α} (i : Nat), (∀ x ∈ l, (f x).isSome = true) -> (l.filterMap f)[i]? = (l[i]?).bind f
 | [], i, _ => by simp
 | x :: l, i, h => by
  obtain ⟨y, hy⟩ := Option.isSome_iff_exists.mp (h x (.head _))
  rw [List.filterMap_cons, hy]
  dsimp only
  cases i with
  | zero => simp [hy]
  | succ i =>
   rw [List.getElem?_cons_succ, List.getElem?_cons_succ]
   exact tH i fun z hz => h z (.tail _ hz)
theorem aCo {α : Type} (g : Nat -> Option α) : ∀ l : List Nat, (l.filterMap fun j => (g j).map fun x => (j, x)).map Prod.fst = l.filter fun j => (g j).isSome
 | [] => rfl
 | x :: l => by
  rw [List.filterMap_cons, List.filter_cons]
  cases g x with
  | none => exact aCo g l
  | some y => exact congrArg (x :: ·) (aCo g l)
theorem jR {α : Type} (g : Nat -> Option α) : ∀ l : List Nat, (l.filterMap fun j => (g j).map fun x => (j, x)).length = ((l.map g).filterMap id).length
 | [] => rfl
 | x :: l => by
  rw [List.filterMap_cons, List.map_cons, List.filterMap_cons]
  cases g x with
  | none => exact jR g l
  | some y => exact congrArg Nat.succ (jR g l)
theorem kH (ow : Array (Option Nat)) : (List.range ow.size).map (fun j => ow.getD j none) = ow.toList := by
 apply List.ext_getElem
 ·simp
 ·intro i h1 h2
  have : i < ow.size := by simpa using h1
  simp [Array.getD, this]
theorem aEw {l : List Nat} {n : Nat} (nd : l.Nodup) (hl : l.length = n) (hb : ∀ x ∈ l, x < n) : l.Perm (List.range n) := by
 have key : ∀ {l m : List Nat}, l.Nodup -> (∀ x ∈ l, x ∈ m) -> m.length <= l.length -> l.Perm m := by
  intro l
  induction l with
  | nil =>
   intro m _ _ h
   have : m = [] := List.length_eq_zero_iff.mp (by simpa using h)
   rw [this]
  | cons x l ih =>
   intro m h s hl
   obtain ⟨h1, h2⟩ := List.nodup_cons.mp h
   have hx := s x (.head _)
   have q := ih (m := m.erase x) h2 (fun y hy => (List.mem_erase_of_ne (show y ≠ x from fun z => h1 (by rw [<- z]; exact hy))).mpr (s y (.tail _ hy))) (by rw [List.length_erase_of_mem hx]; rw [List.length_cons] at hl; omega)
   exact (q.cons x).trans (List.perm_cons_erase hx).symm
 exact key nd (fun x hx => List.mem_range.mpr (hb x hx)) (by rw [List.length_range, hl]; exact Nat.le_refl _)
theorem s9 {t : SetTable} {hs : List Int} {wanted : Nat} (hm : MOk (SetTable.sizeAbove wanted - 1)) (hk : hs.length <= SetTable.sizeAbove wanted - 1) : ∃ t' order, t.relaid hs.toArray wanted = some (t', order) /\ t'.mask = SetTable.sizeAbove wanted - 1 /\ t'.led = t.led /\ t'.plain = t.plain /\ order.toList.Perm (List.range hs.length) /\ Tab t' (order.toList.filterMap (hs[·]?)) := by
 obtain ⟨ow, e, o⟩ := aN7 hm hs.toArray (by rw [List.size_toArray]; exact hk)
 rw [List.size_toArray] at o
 generalize hM : SetTable.sizeAbove wanted - 1 = mask at *
 have hL : ∀ y, y ∈ ((List.range (mask + 1)).filterMap fun j => (ow.getD j none).map fun x => (j, x)) -> ow[y.1]? = some (some y.2) := fun y hy => by
  obtain ⟨j, hj, ej⟩ := List.mem_filterMap.mp hy
  have hj : j < ow.size := by rw [o.s]; exact List.mem_range.mp hj
  rw [Array.getD_eq_getD_getElem?, Array.getElem?_eq_getElem hj] at ej
  cases q : ow[j] with
  | none => rw [Option.getD_some, q] at ej; cases ej
  | some x =>
   rw [Option.getD_some, q] at ej
   cases ej
   rw [Array.getElem?_eq_getElem hj, q]
 have ll : ((List.range (mask + 1)).filterMap fun j => (ow.getD j none).map fun x => (j, x)).length = hs.length := by
  rw [jR, <- o.s, kH]
  exact o.c
 have fs := aCo (fun j => ow.getD j none) (List.range (mask + 1))
 generalize hlive : ((List.range (mask + 1)).filterMap fun j => (ow.getD j none).map fun x => (j, x)) = live at *
 have ris : (live.map Prod.fst).Pairwise (· < ·) := by
  rw [fs]
  exact List.Pairwise.sublist List.filter_sublist List.pairwise_lt_range
 have nd : (live.map Prod.snd).Nodup := by
  rw [List.Nodup, List.pairwise_map]
  have := List.pairwise_map.mp ris
  refine List.Pairwise.imp_of_mem (fun {a b} ha hb w z => ?_) this
  have a1 := hL a ha
  have b1 := hL b hb
  rw [z] at a1
  have := o.i _ _ _ a1 b1
  omega
 have hb : ∀ x ∈ live.map Prod.snd, x < hs.length := fun x hx => by
  obtain ⟨y, hy, rfl⟩ := List.mem_map.mp hx
  exact o.v _ _ (hL y hy)
 have some' : ∀ x ∈ live.map Prod.snd, (hs[x]?).isSome = true := fun x hx => by simp [hb x hx]
 unfold SetTable.relaid SetTable.laid
 rw [hM, e]
 refine ⟨_, _, rfl, rfl, rfl, rfl, ?_, ?_⟩
 ·show (List.map _ _).toArray.toList.Perm _
  rw [hlive, List.toList_toArray]
  exact aEw nd (by rw [List.length_map, ll]) hb
 ·have e1 : ∀ (P : Array Nat) (Od : Array Nat), P = (live.map Prod.fst).toArray -> Od = (live.map Prod.snd).toArray -> Tab { mask := mask, place := P, dummies := #[], finger := t.finger, led := t.led, moves := t.movedTo mask, plain := t.plain } (Od.toList.filterMap (hs[·]?)) := by
   rintro _ _ rfl rfl
   refine ⟨rfl, hm, xJ ris, ?_, ?_, fun i h j e1 e2 => ?_⟩
   ·show (live.map Prod.fst).toArray.size = _
    rw [List.size_toArray, List.length_map, lU some', List.length_map]
   ·rw [lU some', List.length_map, ll]
    exact hk
   ·rw [tH i some'] at e1
    have e2 : (live.map Prod.fst).toArray[i]? = some j := e2
    rw [List.getElem?_toArray, List.getElem?_map] at e2
    rw [List.getElem?_map] at e1
    cases q : live[i]? with
    | none => rw [q] at e2; cases e2
    | some y =>
     rw [q] at e1 e2
     cases e2
     obtain ⟨n, a1, a2, a3⟩ := o.p _ _ h (hL y (List.mem_of_getElem? q)) (by simpa using e1)
     refine ⟨n, a1, a2, fun r hr => ?_⟩
     obtain ⟨x, hx⟩ := a3 r hr
     show _ ∈ (live.map Prod.fst).toArray.toList
     rw [List.toList_toArray, fs, List.mem_filter]
     have hl := (Array.getElem?_eq_some_iff.mp hx).1
     refine ⟨List.mem_range.mpr (by rw [<- o.s]; exact hl), ?_⟩
     show (ow.getD (pth mask h r) none).isSome = true
     rw [Array.getD_eq_getD_getElem?, hx]
     rfl
  exact e1 _ _ (by rw [<- hlive]) (by rw [<- hlive])
open PySem.Spec PyProof.Rows
theorem uW {xs : Array Nat} (hr : Ris xs) {i j a : Nat} (h1 : xs[i]? = some a) (h2 : xs[j]? = some a) : i = j := by
 rcases Nat.lt_trichotomy i j with w | w | w
 ·exact absurd (hr _ _ _ _ w h1 h2) (Nat.lt_irrefl _)
 ·exact w
 ·exact absurd (hr _ _ _ _ w h2 h1) (Nat.lt_irrefl _)
section
variable {prog : Program} {w : World} {A : Around} {E : Value -> Shared -> Prop} {s : Shared}
abbrev IK (prog : Program) (w : World) (h : Heap) (k : List Int) (a : Addr) : Prop := IsTupleKey (intKind prog w) h k a
abbrev hK (prog : Program) (w : World) (k : List Int) : Int := tupleKeyHash (intKind prog w) k
theorem items_int {ks : List Int} {vs : List Value} (h : ItemsAre (intKind prog w) ks vs) : ∀ v ∈ vs, ∃ i t, v = .int i t := by
 induction h with
 | nil => intro v hv; exact nomatch hv
 | @cons k v ks vs h1 _ ih =>
  intro x hx
  rcases List.mem_cons.mp hx with z | z
  ·subst z
   cases x with
   | int i t => exact ⟨i, t, rfl⟩
   | _ => simp [intKind, Value.isInt] at h1
  ·exact ih x z
theorem aH0 {k : List Int} {a : Addr} {Q : Bool -> Shared -> Prop} (hk : IK prog w s.heap k a) (h : Q true s) : wpAny (model prog w) A (hashByValue 8 (.ref a)) Q E s := by
 have hT := hk.typeIs
 obtain ⟨o, items, n, ho, _, hd, hi⟩ := hk
 have bv := items_int hi
 unfold hashByValue
 refine wpAny_bind (wpAny_specialOf hT F.slot_tuple_hash.lookup ?_)
 dsimp only
 refine wpAny_bind (wpAny_seqItems ho hd ?_)
 refine wpAny_bind (wpAny_forIn_array' _ (fun rest b s' => s' = s /\ b.1 = none /\ ∀ v ∈ rest, ∃ i t, v = Value.int i t) _ ?_ ?_ _ _ ⟨rfl, rfl, bv⟩)
 ·rintro x rest b s1 ⟨rfl, _, hx⟩
  obtain ⟨i, t, rfl⟩ := hx x (.head _)
  exact wpAny_bind (wpAny_of_eq (a := true) rfl (wpAny_pure ⟨rfl, rfl, fun v hv => hx v (.tail _ hv)⟩))
 ·rintro ⟨b1, b2⟩ s1 ⟨rfl, hb, _⟩
  cases (show b1 = none from hb)
  exact wpAny_pure h
theorem aGb {k : List Int} {a : Addr} {Q : Bool -> Shared -> Prop} (hk : IK prog w s.heap k a) (h : Q false s) : wpAny (model prog w) A (ofAClassStatement 8 (.ref a)) Q E s := by
 have hT := hk.typeIs
 obtain ⟨o, items, n, ho, _, hd, hi⟩ := hk
 have bv := items_int hi
 unfold ofAClassStatement
 refine wpAny_bind (wpAny_typeOf hT ?_)
 dsimp only
 rw [if_pos (by decide)]
 refine wpAny_bind (wpAny_pure ?_)
 simp only [Bool.not_true, Bool.false_eq_true, if_false]
 refine wpAny_bind (wpAny_seqItems ho hd ?_)
 dsimp only
 refine wpAny_bind (wpAny_forIn_array' _ (fun rest b s' => s' = s /\ b.1 = none /\ ∀ v ∈ rest, ∃ i t, v = Value.int i t) _ ?_ ?_ _ _ ⟨rfl, rfl, bv⟩)
 ·rintro x rest b s1 ⟨rfl, _, hx⟩
  obtain ⟨i, t, rfl⟩ := hx x (.head _)
  exact wpAny_bind (wpAny_of_eq (a := false) rfl (wpAny_pure ⟨rfl, rfl, fun v hv => hx v (.tail _ hv)⟩))
 ·rintro ⟨b1, b2⟩ s1 ⟨rfl, hb, _⟩
  cases (show b1 = none from hb)
  exact wpAny_pure h
theorem aH3 {k : List Int} {a : Addr} {l : List Value} {Q : Bool -> Shared -> Prop} (hk : IK prog w s.heap k a) (hl : ∀ v ∈ l, ∃ b k', v = .ref b /\ IK prog w s.heap k' b) (h : Q false s) : wpAny (model prog w) A (searchCouldBeSeen (.ref a) l) Q E s := by
 unfold searchCouldBeSeen
 refine wpAny_bind (wpAny_forIn_list _ (fun rest b s' => s' = s /\ b.1 = none /\ ∀ v ∈ rest, ∃ b k', v = .ref b /\ IK prog w s.heap k' b) _ ?_ ?_ _ _ ⟨rfl, rfl, hl⟩)
 ·rintro x rest b s1 ⟨rfl, _, hx⟩
  obtain ⟨c, k', rfl, hc⟩ := hx x (.head _)
  have nx : wpAny (model prog w) A (pure (ForInStep.yield (none, ())) : Sem (ForInStep (Option Bool × Unit))) (fun r s' => match r with | .yield b' => s' = s1 /\ b'.1 = none /\ ∀ v ∈ rest, ∃ b k', v = .ref b /\ IK prog w s1.heap k' b | .done b' => wpAny (model prog w) A (match b'.1 with | some r => pure r | none => pure false) Q E s') E s1 := wpAny_pure ⟨rfl, rfl, fun v hv => hx v (.tail _ hv)⟩
  dsimp only
  split
  ·exact nx
  ·refine wpAny_bind (wpAny_eqIsQuiet_tuple hk ?_)
   simp only [Bool.not_true, Bool.false_eq_true, if_false]
   refine wpAny_bind (wpAny_eqIsQuiet_tuple hc ?_)
   simp only [Bool.not_true, Bool.false_eq_true, if_false]
   refine wpAny_bind (aGb hk ?_)
   simp only [Bool.false_eq_true, if_false]
   refine wpAny_bind (aGb hc ?_)
   simp only [Bool.false_eq_true, if_false]
   exact nx
 ·rintro ⟨b1, b2⟩ s1 ⟨rfl, hb, _⟩
  cases (show b1 = none from hb)
  exact wpAny_pure h
def Fit (mask n : Nat) : Prop := (mask = 7 /\ n <= 4) \/ (mask = 31 /\ n <= 18) \/ (mask = 127 /\ n <= 76)
structure SetR (prog : Program) (w : World) (h : Heap) (S : Addr) (ks : List (List Int)) (o : Obj) (es : Array (Int × Value)) (ep : Nat) (t : SetTable) : Prop where
 g : h.get? S = some o
 x : o.ExactSet
 d : o.data = .set es ep t
 pl : t.plain = true
 ld : t.led = !w.params.followText "set-order"
 tb : Tab t (ks.map (hK prog w))
 nd : ks.Nodup
 sz : es.size = ks.length
 at' : ∀ (i : Nat) k, ks[i]? = some k -> ∃ a, es[i]? = some (hK prog w k, .ref a) /\ IK prog w h k a
theorem SetR.fits {h : Heap} {S : Addr} {ks : List (List Int)} {o : Obj} {es : Array (Int × Value)} {ep : Nat} {t : SetTable} (R : SetR prog w h S ks o es ep t) : t.fits es.size = true := by
 unfold SetTable.fits SetTable.fill
 have a := R.tb.s
 have b := R.tb.z
 rw [List.length_map] at a b
 rw [R.tb.d, a, R.sz]
 simpa using b
theorem aB0 {k : List Int} {a : Addr} {l : List Value} {b : Bool} {m m' : Sem SetFound} {Q : SetFound -> Shared -> Prop} (hk : IK prog w s.heap k a) (hl : ∀ v ∈ l, ∃ b k', v = .ref b /\ IK prog w s.heap k' b) (h : wpAny (model prog w) A m Q E s) : wpAny (model prog w) A (if (!b) = true then (searchCouldBeSeen (.ref a) l >>= fun x => if x = true then m' else m) else m) Q E s := by
 split
 ·exact wpAny_bind (aH3 hk hl (by rw [if_neg (by decide)]; exact h))
 ·exact h
theorem tQ {S a : Addr} {ks : List (List Int)} {o : Obj} {es : Array (Int × Value)} {ep : Nat} {t : SetTable} {k : List Int} (R : SetR prog w s.heap S ks o es ep t) (hu : A.units < cLine) (hk : IK prog w s.heap k a) {Q : SetFound -> Shared -> Prop}
  (q1 : k ∈ ks -> Q (.there none) s) (q2 : k ∉ ks -> ∀ n, n <= 10 * (13 + t.mask) -> pth t.mask (hK prog w k) n ∉ t.place.toList -> (∀ q, q < n -> pth t.mask (hK prog w k) q ∈ t.place.toList) -> Q (.free (pth t.mask (hK prog w k) n) false) s) :
  ∀ (n fuel k0 : Nat) (stand : Option SetTable.Probe), n < fuel -> k0 + n <= 10 * (13 + t.mask) -> stand.getD (t.probeStart (hK prog w k)) = oE t.mask k0 (pst t.mask (hK prog w k)) -> (∀ q, q < k0 -> ∃ i : Nat, t.place[i]? = some (pth t.mask (hK prog w k) q) /\ ks[i]? ≠ some k) -> (pth t.mask (hK prog w k) (k0 + n) ∉ t.place.toList \/ ∃ i : Nat, t.place[i]? = some (pth t.mask (hK prog w k) (k0 + n)) /\ ks[i]? = some k) ->
  wpAny (model prog w) A (setSearchFrom S (.ref a) (hK prog w k) true fuel stand) Q E s
 | n, fuel + 1, k0, stand, hn, hB, hst, hN, hD => by
  have hf := R.fits
  have odd : t.gaveWay = false := by
   unfold SetTable.gaveWay
   rcases R.tb.m with z | z | z <;> rw [z] <;> rfl
  have psz : t.place.size = ks.length := by have := R.tb.s; rw [List.length_map] at this; exact this
  have inp : ∀ {i j : Nat}, t.place[i]? = some j -> j ∈ t.place.toList := fun e => Array.mem_toList_iff.mpr (Array.mem_of_getElem? e)
  have hash : ∀ (i : Nat) x, ks[i]? = some x -> (es[i]?.map (·.1)).getD 0 = hK prog w x := fun i x e => by
   obtain ⟨b, hb, _⟩ := R.at' i x e
   rw [hb]
   rfl
  have gk := aLa R.tb.d R.tb.r (f := fun i => (es[i]?.map (·.1)).getD 0) (h := hK prog w k) n (10 * SetTable.turns t.mask) k0 (by unfold SetTable.turns; omega) (hD.imp id fun ⟨i, e1, e2⟩ => ⟨i, e1, hash i k e2⟩)
  unfold setSearchFrom
  refine wpAny_bind (wpAny_setState_of R.g R.d hf ?_)
  dsimp only
  rw [odd]
  simp only [Bool.false_eq_true, if_false]
  generalize hg : t.probe _ (hK prog w k) _ = met
  have hg : SetTable.probe.go t (fun i => (es[i]?.map (·.1)).getD 0) (hK prog w k) (10 * SetTable.turns t.mask) (stand.getD (t.probeStart (hK prog w k))) = met := hg
  rw [hst] at hg
  rcases gk with ⟨k', a1, a2, a3, a4, a5⟩ | ⟨k', i, a1, a2, a3, a4, a5, a6⟩
  ·rw [a5] at hg
   subst hg
   dsimp only
   have occ : ∀ q, q < k' -> ∃ i : Nat, t.place[i]? = some (pth t.mask (hK prog w k) q) /\ ks[i]? ≠ some k := fun q hq => by
    rcases Nat.lt_or_ge q k0 with z | z
    ·exact hN q z
    ·obtain ⟨i, e1, e2⟩ := a4 q z hq
     exact ⟨i, e1, fun e => e2 (hash i k e)⟩
   refine wpAny_pure (q2 (fun z => ?_) k' (by omega) a3 fun q hq => inp (occ q hq).choose_spec.1)
   obtain ⟨i0, e0⟩ := List.mem_iff_getElem?.mp z
   have il : i0 < t.place.size := by rw [psz]; exact (List.getElem?_eq_some_iff.mp e0).1
   obtain ⟨m, _, m2, m3⟩ := R.tb.p i0 (hK prog w k) t.place[i0] (by rw [List.getElem?_map, e0]; rfl) (Array.getElem?_eq_getElem il)
   have pm : t.place[i0]? = some (pth t.mask (hK prog w k) m) := by rw [m2]; exact Array.getElem?_eq_getElem il
   rcases Nat.lt_trichotomy m k' with y | y | y
   ·obtain ⟨i, e1, e2⟩ := occ m y
    rw [uW R.tb.r e1 pm] at e2
    exact e2 e0
   ·rw [y] at pm
    exact a3 (inp pm)
   ·exact a3 (m3 k' y)
  ·rw [a6] at hg
   subst hg
   dsimp only
   have il : i < ks.length := by rw [<- psz]; exact (Array.getElem?_eq_some_iff.mp a3).1
   obtain ⟨b, hb, kb⟩ := R.at' i ks[i] (List.getElem?_eq_getElem il)
   have sto : ∀ v ∈ (es.filter (·.1 == hK prog w k)).toList.map (·.2), ∃ b k', v = Value.ref b /\ IK prog w s.heap k' b := fun v hv => by
    obtain ⟨e, he, rfl⟩ := List.mem_map.mp hv
    have he : e ∈ es := (Array.mem_filter.mp (Array.mem_toList_iff.mp he)).1
    obtain ⟨i5, e5⟩ := Array.mem_iff_getElem?.mp he
    have l5 : i5 < ks.length := by rw [<- R.sz]; exact (Array.getElem?_eq_some_iff.mp e5).1
    obtain ⟨b5, h5, k5⟩ := R.at' i5 ks[i5] (List.getElem?_eq_getElem l5)
    rw [h5] at e5
    cases e5
    exact ⟨b5, _, rfl, k5⟩
   rw [hb]
   dsimp only
   refine aB0 hk sto ?_
   refine wpAny_bind (wpAny_holding ((tupleKind (intKind prog w)).eqBool hu kb hk ?_))
   refine wpAny_bind (wpAny_setState_of R.g R.d hf ?_)
   dsimp only
   by_cases z : ks[i] = k
   ·rw [decide_eq_true z, if_pos (by decide)]
    exact wpAny_pure (q1 (z ▸ List.getElem_mem il))
   ·rw [decide_eq_false z, if_neg (by decide)]
    have sm : t.sameMemory t.moves t.mask = some true := by
     unfold SetTable.sameMemory
     rw [if_pos (beq_self_eq_true _)]
    rw [sm]
    dsimp only
    obtain ⟨i2, s1, s2⟩ := aBs R.tb.r (inp a3)
    rw [uW R.tb.r s2 a3] at s1
    rw [if_pos rfl, s1]
    dsimp only
    rw [hb]
    dsimp only
    have self : isSame (.ref b) (.ref b) = pure true := by
     unfold isSame
     simp
    refine wpAny_bind (wpAny_of_eq self (wpAny_bind (wpAny_pure ?_)))
    rw [if_pos rfl]
    dsimp only
    rw [if_neg (by decide)]
    have lt : k' < k0 + n := by
     rcases Nat.lt_or_ge k' (k0 + n) with y | y
     ·exact y
     ·have : k' = k0 + n := by omega
      subst this
      rcases hD with e | ⟨i3, e1, e2⟩
      ·exact absurd (inp a3) e
      ·have := uW R.tb.r a3 e1
       subst this
       rw [List.getElem?_eq_getElem il] at e2
       exact absurd (Option.some.inj e2) z
    obtain ⟨n', hn'⟩ : ∃ n', k' + 1 + n' = k0 + n := ⟨k0 + n - (k' + 1), by omega⟩
    refine tQ R hu hk q1 q2 n' fuel (k' + 1) _ (by omega) (by omega) rfl (fun q hq => ?_) (by rw [hn']; exact hD)
    rcases Nat.lt_or_ge q k0 with y | y
    ·exact hN q y
    ·rcases Nat.lt_or_ge q k' with x | x
     ·obtain ⟨i4, e1, e2⟩ := a5 q y x
      exact ⟨i4, e1, fun e => e2 (hash i4 k e)⟩
     ·have : q = k' := by omega
      subst this
      exact ⟨i, a3, by rw [List.getElem?_eq_getElem il]; exact fun e => z (Option.some.inj e)⟩
theorem IK.keep {h h' : Heap} {k : List Int} {a : Addr} (hk : IK prog w h k a) (q : ∀ o, h.get? a = some o -> h'.get? a = some o) : IK prog w h' k a := by
 obtain ⟨o, items, n, ho, r⟩ := hk
 exact ⟨o, items, n, q o ho, r⟩
theorem SetR.ne {h : Heap} {S a : Addr} {ks : List (List Int)} {o : Obj} {es : Array (Int × Value)} {ep : Nat} {t : SetTable} {k : List Int} (R : SetR prog w h S ks o es ep t) (hk : IK prog w h k a) : a ≠ S := fun z => by
 subst z
 obtain ⟨o', _, _, ho, hc, _⟩ := hk
 have g := R.g
 rw [ho] at g
 cases g
 have := R.x.1
 rw [hc] at this
 exact absurd this (by decide)
theorem aD9 {h : Heap} {S : Addr} {o : Obj} {es : Array (Int × Value)} {ep : Nat} {t : SetTable} (ho : h.get? S = some o) (hd : o.data = .set es ep t) (es' : Array (Int × Value)) (t' : SetTable) :
  (h.update S (Obj.putSet es' t')).get? S = some { o with data := .set es' (ep + 1) t' } := by
 have := Heap.get?_update_self (Obj.putSet es' t') ho (by rw [putSet_of es' t' hd]; rfl)
 rw [putSet_of es' t' hd] at this
 exact this
theorem SetR.write {h : Heap} {S : Addr} {ks ks' : List (List Int)} {o : Obj} {es es' : Array (Int × Value)} {ep : Nat} {t t' : SetTable} (R : SetR prog w h S ks o es ep t) (pl : t'.plain = true) (ld : t'.led = t.led) (tb : Tab t' (ks'.map (hK prog w))) (nd : ks'.Nodup) (sz : es'.size = ks'.length)
  (at' : ∀ (i : Nat) k, ks'[i]? = some k -> ∃ a, es'[i]? = some (hK prog w k, .ref a) /\ IK prog w h k a) : SetR prog w (h.update S (Obj.putSet es' t')) S ks' { o with data := .set es' (ep + 1) t' } es' (ep + 1) t' := by
 refine ⟨aD9 R.g R.d es' t', R.x, rfl, pl, by rw [ld]; exact R.ld, tb, nd, sz, fun i k e => ?_⟩
 obtain ⟨a, h1, h2⟩ := at' i k e
 refine ⟨a, h1, h2.keep fun o' ho' => ?_⟩
 rw [(Heap.SameBut.update h S (Obj.putSet es' t')).2 a (R.ne h2)]
 exact ho'
theorem aNa {α : Type} (l : List α) : (List.range l.length).filterMap (l[·]?) = l := by
 have h : ∀ x ∈ List.range l.length, (l[x]?).isSome = true := fun x hx => by simp [List.mem_range.mp hx]
 apply List.ext_getElem?
 intro i
 rw [tH i h]
 by_cases z : i < l.length
 ·rw [List.getElem?_range z]
  rfl
 ·rw [List.getElem?_eq_none (by rw [List.length_range]; omega), List.getElem?_eq_none (by omega)]
  rfl
theorem aDr {S : Addr} {ks : List (List Int)} {o : Obj} {es : Array (Int × Value)} {ep : Nat} {t : SetTable} {wanted : Nat} {Q : Unit -> Shared -> Prop} (R : SetR prog w s.heap S ks o es ep t) (hm : MOk (SetTable.sizeAbove wanted - 1)) (hl : SetTable.sizeAbove wanted <= 128) (hn : ks.length <= SetTable.sizeAbove wanted - 1)
  (q : ∀ h' ks' o' es' ep' t', Heap.SameBut S s.heap h' -> ks'.Perm ks -> t'.mask = SetTable.sizeAbove wanted - 1 -> (∀ e ∈ es', e ∈ es) -> SetR prog w h' S ks' o' es' ep' t' -> Q () { s with heap := h' }) : wpAny (model prog w) A (setRelay S wanted) Q E s := by
 have hf := R.fits
 have he : es.map (·.1) = (ks.map (hK prog w)).toArray := by
  apply Array.toList_inj.mp
  rw [Array.toList_map, List.toList_toArray]
  apply List.ext_getElem?
  intro i
  rw [List.getElem?_map, List.getElem?_map, Array.getElem?_toList]
  by_cases z : i < ks.length
  ·obtain ⟨a, h1, _⟩ := R.at' i ks[i] (List.getElem?_eq_getElem z)
   rw [h1, List.getElem?_eq_getElem z]
   rfl
  ·rw [Array.getElem?_eq_none (by rw [R.sz]; omega), List.getElem?_eq_none (by omega)]
   rfl
 obtain ⟨t', order, r1, r2, r3, r4, r5, r6⟩ := s9 (t := t) (hs := ks.map (hK prog w)) (wanted := wanted) hm (by rw [List.length_map]; exact hn)
 rw [List.length_map] at r5
 have hb : ∀ x ∈ order.toList, x < ks.length := fun x hx => List.mem_range.mp (r5.mem_iff.mp hx)
 have k1 : ∀ x ∈ order.toList, (ks[x]?).isSome = true := fun x hx => by simp [hb x hx]
 have k2 : ∀ x ∈ order.toList, (es[x]?).isSome = true := fun x hx => by simp [R.sz, hb x hx]
 have ol : order.toList.length = ks.length := by rw [r5.length_eq, List.length_range]
 have el : (order.filterMap (es[·]?)).size = ks.length := by
  rw [<- Array.length_toList, Array.toList_filterMap, lU k2, ol]
 have eh : order.toList.filterMap ((ks.map (hK prog w))[·]?) = (order.toList.filterMap (ks[·]?)).map (hK prog w) := by
  rw [List.map_filterMap]
  congr 1
  funext x
  exact List.getElem?_map ..
 rw [eh] at r6
 have pm : (order.toList.filterMap (ks[·]?)).Perm ks := by
  have := r5.filterMap (ks[·]?)
  rw [aNa] at this
  exact this
 unfold setRelay
 refine wpAny_bind (wpAny_setState_of R.g R.d hf ?_)
 dsimp only
 rw [if_neg (by rw [sizeLine_eq]; omega), he, r1]
 refine wpAny_bind ?_
 show wpAny (model prog w) A (if ((order.filterMap (es[·]?)).size != es.size) = true then (unsupported "internal:set-table-lost-an-element" >>= fun _ => pure (order.filterMap (es[·]?), t')) else pure (order.filterMap (es[·]?), t')) _ _ _
 rw [if_neg (by rw [el, R.sz]; simp)]
 refine wpAny_pure ?_
 dsimp only
 have nl : ks.length <= 128 := by omega
 refine wpAny_storeSet_of R.g R.d ?_ (by rw [el, sizeLine_eq]; omega)
 refine q _ _ _ _ _ _ (Heap.SameBut.update ..) pm r2 (fun e he => by
  obtain ⟨x, _, hx⟩ := Array.mem_filterMap.mp he
  exact Array.mem_of_getElem? hx) (R.write (by rw [r4]; exact R.pl) r3 r6 (pm.nodup_iff.mpr R.nd) (by rw [el, lU k1, ol]) fun i k e => ?_)
 rw [tH i k1] at e
 cases ei : order.toList[i]? with
 | none => rw [ei] at e; cases e
 | some x =>
  rw [ei] at e
  obtain ⟨a, h1, h2⟩ := R.at' x k e
  refine ⟨a, ?_, h2⟩
  rw [<- Array.getElem?_toList, Array.toList_filterMap, tH i k2, ei]
  exact h1
def SetK (prog : Program) (w : World) (h : Heap) (S : Addr) (ks : List (List Int)) (L : Addr -> Prop) : Prop := ∃ ks' o es ep t, ks'.Perm ks /\ Fit t.mask ks'.length /\ (∀ e ∈ es, ∃ a, e.2 = Value.ref a /\ L a) /\ SetR prog w h S ks' o es ep t
theorem aG4 {α : Type} (l : List α) (p : Nat) (hp : p <= l.length) (x : α) (i : Nat) : (l.take p ++ x :: l.drop p)[i]? = if i < p then l[i]? else if i = p then some x else l[i - 1]? := by
 have lt : (l.take p).length = p := by rw [List.length_take]; omega
 by_cases z : i < p
 ·rw [if_pos z, List.getElem?_append_left (by omega), List.getElem?_take, if_pos z]
 ·rw [if_neg z, List.getElem?_append_right (by omega), lt]
  by_cases y : i = p
  ·rw [if_pos y, y, Nat.sub_self]
   rfl
  ·rw [if_neg y]
   obtain ⟨d, hd⟩ : ∃ d, i - p = d + 1 := ⟨i - p - 1, by omega⟩
   rw [hd, List.getElem?_cons_succ, List.getElem?_drop]
   congr 1
   omega
theorem sI {S a : Addr} {L : Addr -> Prop} {ks : List (List Int)} {k : List Int} {Q : Bool -> Shared -> Prop} (K : SetK prog w s.heap S ks L) (hu : A.units < cLine) (hk : IK prog w s.heap k a) (aL : L a) (hz : ks.length < 76)
  (q : ∀ b h', Heap.SameBut S s.heap h' -> SetK prog w h' S (if k ∈ ks then ks else k :: ks) L -> Q b { s with heap := h' }) : wpAny (model prog w) A (setAddHashed S (.ref a) (hK prog w k)) Q E s := by
 obtain ⟨ks', o, es, ep, t, pm, ft, lo, R⟩ := K
 have ml : ks'.length = ks.length := pm.length_eq
 have hf := R.fits
 have psz : t.place.size = ks'.length := by have := R.tb.s; rw [List.length_map] at this; exact this
 unfold setAddHashed setAddHashedIn
 refine wpAny_holding (wpAny_bind (wpAny_setState_of R.g R.d hf ?_))
 dsimp only
 rw [show byScan (.ref a) es = false from rfl]
 simp only [Bool.false_eq_true, if_false]
 refine wpAny_bind ?_
 unfold setSearch
 have m127 : t.mask <= 127 := by rcases R.tb.m with z | z | z <;> omega
 obtain ⟨n, nB, nD⟩ : ∃ n, n <= 10 * (13 + t.mask) /\ (pth t.mask (hK prog w k) (0 + n) ∉ t.place.toList \/ ∃ i : Nat, t.place[i]? = some (pth t.mask (hK prog w k) (0 + n)) /\ ks'[i]? = some k) := by
  by_cases z : k ∈ ks'
  ·obtain ⟨i0, e0⟩ := List.mem_iff_getElem?.mp z
   have il : i0 < t.place.size := by rw [psz]; exact (List.getElem?_eq_some_iff.mp e0).1
   obtain ⟨m, m1, m2, _⟩ := R.tb.p i0 (hK prog w k) t.place[i0] (by rw [List.getElem?_map, e0]; rfl) (Array.getElem?_eq_getElem il)
   exact ⟨m, m1, .inr ⟨i0, by rw [Nat.zero_add, m2]; exact Array.getElem?_eq_getElem il, e0⟩⟩
  ·obtain ⟨j, j1, j2⟩ := miss (mask := t.mask) (l := t.place.toList) (by rw [Array.length_toList, psz]; have := R.tb.z; rw [List.length_map] at this; exact this)
   obtain ⟨m, m1, m2⟩ := zJ R.tb.m (hK prog w k) j1
   exact ⟨m, m1, .inl (by rw [Nat.zero_add, m2]; exact j2)⟩
 refine tQ R hu hk (fun z => ?_) (fun z kk hB hn hp => ?_) n 100000 0 none (by omega) (by omega) rfl (fun q hq => absurd hq (Nat.not_lt_zero _)) nD
 ·dsimp only
  refine wpAny_pure ?_
  have := q false s.heap (Heap.SameBut.refl S s.heap) (by rw [if_pos (pm.mem_iff.mp z)]; exact ⟨ks', o, es, ep, t, pm, ft, lo, R⟩)
  exact this
 ·dsimp only
  have nz : k ∉ ks := fun y => z (pm.mem_iff.mpr y)
  rw [if_neg nz] at q
  refine wpAny_bind (wpAny_setState_of R.g R.d hf ?_)
  dsimp only
  have zm : ks'.length + 1 <= t.mask := by rcases ft with y | y | y <;> omega
  have tb1 := R.tb.put (h := hK prog w k) hB hn hp (by rw [List.length_map]; exact zm)
  obtain ⟨b1, _, _⟩ := kJ R.tb.r (pth t.mask (hK prog w k) kk)
  have pe := (nM t (pth t.mask (hK prog w k) kk)).2
  have pl1 : (t.put (pth t.mask (hK prog w k) kk)).1.plain = true := R.pl
  have ld1 : (t.put (pth t.mask (hK prog w k) kk)).1.led = t.led := rfl
  have mk1 : (t.put (pth t.mask (hK prog w k) kk)).1.mask = t.mask := rfl
  generalize t.put (pth t.mask (hK prog w k) kk) = tp at *
  obtain ⟨t1, p⟩ := tp
  dsimp only at tb1 pe pl1 ld1 mk1 ⊢
  have hp1 : p <= ks'.length := by rw [pe]; omega
  rw [<- List.map_take, <- List.map_drop, <- List.map_cons, <- List.map_append] at tb1
  have pm1 : (ks'.take p ++ k :: ks'.drop p).Perm (k :: ks) := by
   refine List.perm_middle.trans (List.Perm.cons k ?_)
   rw [List.take_append_drop]
   exact pm
  have il : (SetTable.insertAt es p (hK prog w k, Value.ref a)).toList = es.toList.take p ++ (hK prog w k, Value.ref a) :: es.toList.drop p := iA _ _ _
  have hpe : p <= es.toList.length := by rw [Array.length_toList, R.sz]; exact hp1
  have sz1 : (SetTable.insertAt es p (hK prog w k, Value.ref a)).size = (ks'.take p ++ k :: ks'.drop p).length := by
   rw [<- Array.length_toList, il, List.length_append, List.length_append, List.length_cons, List.length_cons, List.length_take, List.length_take, List.length_drop, List.length_drop, Array.length_toList, R.sz]
  have ln1 : (ks'.take p ++ k :: ks'.drop p).length = ks'.length + 1 := by rw [pm1.length_eq, List.length_cons, ml]
  rw [pl1, if_pos rfl]
  refine wpAny_bind (aH0 hk ?_)
  rw [if_pos rfl]
  have nl : ks'.length <= 76 := by omega
  refine wpAny_bind (wpAny_storeSet_of R.g R.d ?_ (by rw [sz1, ln1, sizeLine_eq]; omega))
  have R1 := R.write (es' := SetTable.insertAt es p (hK prog w k, Value.ref a)) pl1 ld1 tb1 (pm1.nodup_iff.mpr (List.nodup_cons.mpr ⟨nz, pm.nodup_iff.mp R.nd⟩)) sz1 (fun i x e => by
   rw [aG4 ks' p hp1 k i] at e
   rw [<- Array.getElem?_toList, il, aG4 es.toList p hpe _ i]
   by_cases y : i < p
   ·rw [if_pos y] at e ⊢
    obtain ⟨c, h1, h2⟩ := R.at' i x e
    exact ⟨c, by rw [Array.getElem?_toList]; exact h1, h2⟩
   ·rw [if_neg y] at e ⊢
    by_cases y2 : i = p
    ·rw [if_pos y2] at e ⊢
     cases e
     exact ⟨a, rfl, hk⟩
    ·rw [if_neg y2] at e ⊢
     obtain ⟨c, h1, h2⟩ := R.at' _ x e
     exact ⟨c, by rw [Array.getElem?_toList]; exact h1, h2⟩)
  have sb := Heap.SameBut.update s.heap S (Obj.putSet (SetTable.insertAt es p (hK prog w k, Value.ref a)) t1)
  have lo1 : ∀ e ∈ SetTable.insertAt es p (hK prog w k, Value.ref a), ∃ a, e.2 = Value.ref a /\ L a := fun e he => by
   rw [<- Array.mem_toList_iff, il] at he
   rcases List.mem_append.mp he with y | y
   ·exact lo e (Array.mem_toList_iff.mp (List.mem_of_mem_take y))
   ·rcases List.mem_cons.mp y with x | x
    ·rw [x]; exact ⟨a, rfl, aL⟩
    ·exact lo e (Array.mem_toList_iff.mp (List.mem_of_mem_drop x))
  generalize (SetTable.insertAt es p (hK prog w k, Value.ref a)) = es1 at *
  have full : t1.tooFull = decide ((t.mask = 7 /\ ks'.length = 4) \/ (t.mask = 31 /\ ks'.length = 18)) := by
   unfold SetTable.tooFull SetTable.fill
   have a1 := tb1.s
   rw [List.length_map, ln1] at a1
   rw [tb1.d, a1, mk1]
   rcases ft with ⟨y, x⟩ | ⟨y, x⟩ | ⟨y, x⟩ <;> rw [y] <;> simp <;> omega
  rw [full]
  by_cases y : (t.mask = 7 /\ ks'.length = 4) \/ (t.mask = 31 /\ ks'.length = 18)
  ·rw [decide_eq_true y, if_pos (by decide), R.sz]
   have go : ∀ wn, SetTable.grown (ks'.length + 1) = wn -> MOk (SetTable.sizeAbove wn - 1) -> SetTable.sizeAbove wn <= 128 -> ks'.length + 1 <= SetTable.sizeAbove wn - 1 -> Fit (SetTable.sizeAbove wn - 1) (ks'.length + 1) -> wpAny (model prog w) A (do
     setRelay S (SetTable.grown (ks'.length + 1))
     pure true) Q E { s with heap := s.heap.update S (Obj.putSet es1 t1) } := fun wn e1 e2 e3 e4 e5 => by
    rw [e1]
    refine wpAny_bind (aDr R1 e2 e3 (by rw [ln1]; exact e4) fun h' ks2 o2 es2 ep2 t2 sb2 pm2 mk2 in2 R2 => wpAny_pure (q true h' (sb.trans sb2) ⟨ks2, o2, es2, ep2, t2, pm2.trans pm1, ?_, fun e he => lo1 e (in2 e he), R2⟩))
    rw [mk2, pm2.length_eq, ln1]
    exact e5
   rcases y with ⟨_, y⟩ | ⟨_, y⟩ <;> rw [y] at go ⊢
   ·exact go 20 (by decide) (by unfold MOk; decide) (by decide) (by decide) (by unfold Fit; decide)
   ·exact go 76 (by decide) (by unfold MOk; decide) (by decide) (by decide) (by unfold Fit; decide)
  ·rw [decide_eq_false y, if_neg (by decide)]
   refine wpAny_pure (q true _ sb ⟨_, _, _, _, t1, pm1, ?_, lo1, R1⟩)
   rw [mk1, ln1]
   unfold Fit at ft ⊢
   omega
theorem SetK.at {h h' : Heap} {S : Addr} {L : Addr -> Prop} {ks : List (List Int)} (K : SetK prog w h S ks L) (q : ∀ b o, (L b \/ b = S) -> h.get? b = some o -> h'.get? b = some o) : SetK prog w h' S ks L := by
 obtain ⟨ks', o, es, ep, t, pm, ft, lo, R⟩ := K
 refine ⟨ks', o, es, ep, t, pm, ft, lo, q _ _ (.inr rfl) R.g, R.x, R.d, R.pl, R.ld, R.tb, R.nd, R.sz, fun i k e => ?_⟩
 obtain ⟨a, h1, h2⟩ := R.at' i k e
 obtain ⟨b, e1, e2⟩ := lo _ (Array.mem_of_getElem? h1)
 cases e1
 exact ⟨a, h1, h2.keep fun o ho => q a o (.inl e2) ho⟩
def tW (w : World) : Obj := { cls := .type "set", dict := none, data := .set #[] 0 (.fresh 0 0 (!w.params.followText "set-order")) }
theorem SetK.new {h : Heap} {S : Addr} {L : Addr -> Prop} (hS : h.get? S = some (tW w)) : SetK prog w h S [] L := by
 refine ⟨[], tW w, #[], 0, .fresh 0 0 (!w.params.followText "set-order"), List.Perm.refl _, .inl ⟨rfl, Nat.zero_le _⟩, fun e he => by simp at he, hS, ⟨rfl, rfl, rfl⟩, rfl, rfl, rfl, ⟨rfl, .inl rfl, fun i j a b _ e => by simp [SetTable.fresh] at e, rfl, Nat.zero_le _, fun i h j e => by simp at e⟩, List.Pairwise.nil, rfl, fun i k e => by simp at e⟩
theorem aBt (x : Value) {Q₁ : Value -> Shared -> Prop} (h : Q₁ (.ref s.heap.objs.size) { s with heap := s.heap.push (tW w) }) :
  codeAny (model prog w) A (.call (.builtin "set.__new__") ⟨[.type "set", x], []⟩) (wants Q₁ E) s := by
 refine codeAny_of_tree (show wpAny _ A.in1 (do checkBuiltinCall "set.__new__" ⟨[.type "set", x], []⟩; again (.builtin "set.__new__" ⟨[.type "set", x], []⟩)) _ _ s from ?_)
 refine wpAny_bind (wpAny_of_eq (F.newCall_set_1 x) (wpAny_pure ⟨plainId_quiet F.plain_set_new _, codeAny_builtin F.entry_set_new ?_⟩))
 rw [Around.under_plainId F.plain_set_new _]
 unfold Builtin.«set.__new__» Builtin.Frozenset.newClass
 have hsub := sub_set_self
 obtain ⟨hp, g, d, tk, os⟩ := s
 dsimp only
 wp_walk
 refine wpAny_askSetting (wpAny_pure ?_)
 dsimp only
 simp only [newObj]
 exact wpAny_bind (wpAny_alloc (wpAny_pure (wpAny_pure h)))
def aAi (f : Nat -> List Int) : Nat -> List (List Int)
 | 0 => []
 | n + 1 => if f n ∈ aAi f n then aAi f n else f n :: aAi f n
theorem rB (f : Nat -> List Int) : ∀ n, (aAi f n).length <= n
 | 0 => Nat.le_refl _
 | n + 1 => by
  have := rB f n
  unfold aAi
  split
  ·omega
  ·rw [List.length_cons]; omega
theorem aEk {I : Addr} {fp wr : List Addr} {G : Array GenState -> Array GenState -> Prop} {n : Nat} {L : Addr -> Prop} {P : Nat -> Value -> Prop} {St : Nat -> Shared -> Prop} {R : Result -> Shared -> Prop} (W : WalksS prog w A.in1 I fp wr G n P St) (hu : A.in1.units < cLine) {S : Addr} (hSf : S ∉ fp) (hwL : ∀ b, L b -> b ∉ S :: wr) (ky : Nat -> List Int) (hb : n <= 76) :
  ∀ (k i : Nat) (s : Shared), n - i = k -> i <= n -> St i s -> SetK prog w s.heap S (aAi ky i) L -> (∀ i v, i < n -> P i v -> ∃ a, v = .ref a /\ L a /\ IK prog w s.heap (ky i) a) ->
   (∀ s', Moved (S :: wr) G s s' -> SetK prog w s'.heap S (aAi ky n) L -> R (.ok (.ret .none)) s') ->
   codeAny (model prog w) A (.builtin "set.update.loop" ⟨[.ref S, .ref I], []⟩) R s := by
 have hSw : S ∉ wr := fun z => hSf (W.sub _ z)
 have sub : ∀ b ∈ wr, b ∈ S :: wr := fun b z => .tail _ z
 have low : ∀ b, L b \/ b = S -> b ∉ wr := fun b z y => by
  rcases z with z | z
  ·exact hwL b z (.tail _ y)
  ·exact hSw (z ▸ y)
 intro k
 induction k with
 | zero =>
  intro i s hk hi st K _ q
  cases (show i = n by omega)
  refine codeAny_builtin PyProof.Rows.F.entry_set_update_loop ?_
  rw [Around.under_plainId PyProof.Rows.F.plain_set_update_loop _]
  unfold Builtin.«set.update.loop»
  refine wpAny_bind (W.done s _ _ st fun s' mv => ?_)
  exact wpAny_pure (q s' (mv.mono sub) (K.at fun b o hb e => mv.heap b o (low b hb) e))
 | succ k ih =>
  intro i s hk hi st K kt q
  have lt : i < n := by omega
  refine codeAny_builtin PyProof.Rows.F.entry_set_update_loop ?_
  rw [Around.under_plainId PyProof.Rows.F.plain_set_update_loop _]
  unfold Builtin.«set.update.loop»
  refine wpAny_bind (W.item i s _ _ lt st fun v s' hP st' mv => ?_)
  obtain ⟨a, rfl, aL, hka⟩ := kt i v lt hP
  have K' := K.at (h' := s'.heap) fun b o hb e => mv.heap b o (low b hb) e
  have hka' := IK.keep (h' := s'.heap) hka fun o e => mv.heap a o (low a (.inl aL)) e
  dsimp only
  refine wpAny_bind (wpAny_holding ?_)
  unfold setAdd
  refine wpAny_holding (wpAny_bind (wpAny_pyHash_tuple hu hka' ?_))
  refine sI (s := { s' with toks := s'.toks + ((ky i).length + 1) }) K' hu hka' aL (by have := rB ky i; omega) fun b h' sb K2 => ?_
  have mv2 : Moved (S :: wr) G s { s' with heap := h', toks := s'.toks + ((ky i).length + 1) } := (mv.mono sub).then_heap (Nat.le_add_right _ _) fun b o hb e => by
   rw [sb.2 b (fun z => hb (by rw [z]; exact .head _))]
   exact e
  refine wpAny_pure ⟨plainId_quiet PyProof.Rows.F.plain_set_update_loop _, ih (i + 1) _ (by omega) lt (W.frame _ s' _ _ st' (Nat.le_add_right _ _) fun b hb o e => ?_) K2 (fun j v hj hv => ?_) fun s2 m2 K3 => ?_⟩
  ·rw [sb.2 b (fun z => hSf (by rw [<- z]; exact hb))]
   exact e
  ·obtain ⟨c, rfl, cL, hkc⟩ := kt j v hj hv
   exact ⟨c, rfl, cL, IK.keep hkc fun o e => mv2.heap c o (hwL c cL) e⟩
  ·exact q s2 (Moved.trans W.gtrans mv2 m2) K3
theorem sW {x : Value} {Q : Value -> Shared -> Prop}
  (h : wpAny (model prog w) A.in1.in1 (Builtin.«set.__init__» ⟨[.ref s.heap.objs.size, x], []⟩)
   (fun fin s' => match fin with | .done f => wants (fun r s₂ => r = .none /\ Q (.ref s.heap.objs.size) s₂) E (.ok f) s' | .again c' => c'.quiet = true /\ codeAny (model prog w) A.in1 c' (wants (fun r s₂ => r = .none /\ Q (.ref s.heap.objs.size) s₂) E) s')
   (fun e s' => wants (fun r s₂ => r = .none /\ Q (.ref s.heap.objs.size) s₂) E (.error e) s') { s with heap := s.heap.push (tW w) }) :
  wpAny (model prog w) A (call (.type "set") [x]) Q E s := by
 have ft := F.called_set
 obtain ⟨c, tl, hmro⟩ := ft.mro
 have hmade := ft.made
 have hsub := ft.sub
 have h1 := ft.notType
 have h2 := ft.canCreate
 have hct := F.typeCall_set_1 x
 refine wpAny_call (codeAny_of_tree (wpAny_pure ⟨Code.quiet_builtin _ (by decide +kernel), codeAny_builtin F.entry_type_call ?_⟩))
 rw [Around.under_plain (weight_type_call_type "set" [x] []) rfl]
 repeat (any_goals (first | assumption | wp_step))
 refine codeAny_mono (aBt x (E := E) (Q₁ := fun obj s₁ => obj = .ref s.heap.objs.size /\ s₁ = { s with heap := s.heap.push (tW w) }) ⟨rfl, rfl⟩) fun r s₁ hr => ?_
 cases r with
 | error e => exact hr
 | ok fl =>
  cases fl with
  | ret obj =>
   obtain ⟨rfl, rfl⟩ := hr
   have hT : Shared.TypeIs { s with heap := s.heap.push (tW w) } (.ref s.heap.objs.size) "set" := ⟨_, Heap.get?_push_size _ rfl, rfl⟩
   have hli := ft.init.lookup
   have hbi := ft.init.bind (.ref s.heap.objs.size)
   repeat (any_goals (first | assumption | wp_step))
   refine codeAny_mono (codeAny_call_builtin ft.init.plain F.entry_set_init (check_set_init_1 hT h)) fun r₂ s₂ hr₂ => ?_
   cases r₂ with
   | error e => exact hr₂
   | ok f2 =>
    cases f2 with
    | ret u =>
     obtain ⟨rfl, hq⟩ := hr₂
     repeat (any_goals (first | assumption | wp_step))
    | _ => exact hr₂.elim
  | _ => exact hr.elim
theorem aE2 {l : Addr} {items : Array Value} (hh : A.handled = none) (hu : A.units + 10 < cLine) (ky : Nat -> List Int) (hl : s.heap.IsList l items) (hz : items.size <= 76)
  {L : Addr -> Prop} (hL : ∀ a, L a -> a < s.heap.objs.size) (hk : ∀ i v, items[i]? = some v -> ∃ a, v = .ref a /\ L a /\ IK prog w s.heap (ky i) a)
  {Q : Value -> Shared -> Prop} (q : ∀ h' tk, SetK prog w h' s.heap.objs.size (aAi ky items.size) L -> (∀ b o, s.heap.get? b = some o -> h'.get? b = some o) -> s.toks <= tk -> Q (.ref s.heap.objs.size) { s with heap := h', toks := tk }) :
  wpAny (model prog w) A (call (.type "set") [.ref l]) Q E s := by
 refine sW ?_
 obtain ⟨ol, hol, hcl, nl, hdl⟩ := id hl
 have hS : (s.heap.push (tW w)).get? s.heap.objs.size = some (tW w) := Heap.get?_push_size _ rfl
 have hl1 : (s.heap.push (tW w)).IsList l items := ⟨ol, Heap.get?_push_of_some _ hol, hcl, nl, hdl⟩
 have hls : l < s.heap.objs.size := Heap.lt_size hol
 obtain ⟨ocls, odict, odata, oslots⟩ := ol
 simp only at hcl hdl
 subst hcl hdl
 have hol' : (s.heap.push (tW w)).get? l = some { cls := .type "list", dict := odict, data := .seq items nl, slots := oslots } := Heap.get?_push_of_some _ hol
 have a1 := F.sub_list_set
 have a2 := F.sub_list_frozenset
 have a3 : (Value.type "list" == Value.type "dict") = false := by decide
 unfold tW at hS hol' hl1 ⊢
 unfold Builtin.«set.__init__» noKeywords Builtin.Frozenset.updateFrom
 generalize hPI : pyIter = PI
 wp_walk
 subst hPI
 refine wpAny_pyIter_list hl1 (wpAny_bind (wpAny_runValue ?_))
 generalize hO : ({ cls := Value.type "set", data := Data.set #[] 0 (SetTable.fresh 0 0 (!w.params.followText "set-order")) } : Obj) = O at *
 have eO : O = tW w := by rw [<- hO]; rfl
 have sz : (s.heap.push O).objs.size = s.heap.objs.size + 1 := by rw [Heap.size_push]
 have kp : ∀ b o, s.heap.get? b = some o -> ((s.heap.push O).push { cls := .type "list_iterator", data := .fields #[.ref l, .int 0 0] }).get? b = some o := fun b o e => Heap.get?_push_of_some _ (Heap.get?_push_of_some _ e)
 have nI : ∀ b, b <= s.heap.objs.size -> b ≠ (s.heap.push O).objs.size := fun b z y => by rw [sz] at y; omega
 refine aEk (A := A.in1.in1) (L := L) ((Walks.list (A := A.in1.in1.in1) hh (s.heap.push O).objs.size l (nI l (Nat.le_of_lt hls)) items).toS) (show A.units + 1 + 1 + 1 < cLine by omega) (S := s.heap.objs.size) (fun z => ?_) (fun b hb z => ?_) ky hz items.size 0 _ rfl (Nat.zero_le _) ⟨⟨_, Heap.get?_push_size _ rfl, rfl, rfl⟩, hl1.push _⟩ (SetK.new (by rw [<- eO]; exact Heap.get?_push_of_some _ hS)) (fun i v _ hv => ?_) fun s' mv T => ?_
 ·rcases List.mem_cons.mp z with z | z
  ·exact nI _ (Nat.le_refl _) z
  ·rw [List.mem_singleton.mp z] at hls
   exact Nat.lt_irrefl _ hls
 ·have lb := hL b hb
  rcases List.mem_cons.mp z with z | z
  ·rw [z] at lb
   exact Nat.lt_irrefl _ lb
  ·exact nI b (Nat.le_of_lt lb) (List.mem_singleton.mp z)
 ·obtain ⟨a, rfl, la, ka⟩ := hk i v hv
  exact ⟨a, rfl, la, ka.keep fun o e => kp a o e⟩
 ·refine wpAny_pure (wpAny_pure ⟨rfl, ?_⟩)
  obtain ⟨h', g', d', tk', os'⟩ := s'
  cases (show g' = s.gens from mv.gens)
  cases (show d' = s.drawn from mv.drawn)
  cases (show os' = s.os from mv.os)
  refine q h' tk' T (fun b o e => mv.heap b o (fun z => ?_) (kp b o e)) mv.toks
  have lb := Heap.lt_size e
  rcases List.mem_cons.mp z with z | z
  ·rw [z] at lb
   exact Nat.lt_irrefl _ lb
  ·exact nI b (Nat.le_of_lt lb) (List.mem_singleton.mp z)
end
theorem sl_next : Slot "set_iterator" "__next__" "set_iterator.__next__" :=
 .of (owner := "set_iterator") (n := "__next__") (by rw [typeLookup_type, builtinLookup_eq_fast]; kernel_rfl) (by decide +kernel) (by decide +kernel) (by decide +kernel) (by first | exact .inl (by decide +kernel) | exact .inr (by decide +kernel)) (by rw [isSubtype_type]; kernel_rfl)
theorem aBh : Slot "set_iterator" "__iter__" "set_iterator.__iter__" :=
 .of (owner := "set_iterator") (n := "__iter__") (by rw [typeLookup_type, builtinLookup_eq_fast]; kernel_rfl) (by decide +kernel) (by decide +kernel) (by decide +kernel) (by first | exact .inl (by decide +kernel) | exact .inr (by decide +kernel)) (by rw [isSubtype_type]; kernel_rfl)
theorem aGc : Manifest.owners.lookup (String.ofList ['r', 'o', 't', 'a', 'r', 'e', 't', 'i', '_', 't', 'e', 's'].reverse) = some Manifest.sig_set_iterator := by kernel_rfl
theorem aA0 : entryFor table "set_iterator.__next__" = some Builtin.«set_iterator.__next__» := entryFor_of_tree (by kernel_rfl)
theorem aHm : entryFor table "set_iterator.__iter__" = some Builtin.«dict_keyiterator.__iter__» := entryFor_alias (id' := "dict_keyiterator.__iter__") (by kernel_rfl) rfl (by decide +kernel) (by kernel_rfl)
theorem aC8 : entryFor table "set.__iter__" = some Builtin.«frozenset.__iter__» := entryFor_alias (id' := "frozenset.__iter__") (by kernel_rfl) rfl (by decide +kernel) (by kernel_rfl)
theorem zQ (a : Value) : argsOk "set_iterator.__next__" ⟨[a], []⟩ := by
 unfold argsOk
 rw [signature?_of (id := "set_iterator.__next__") (n := ['_', '_', 't', 'x', 'e', 'n', '_', '_']) (o := ['r', 'o', 't', 'a', 'r', 'e', 't', 'i', '_', 't', 'e', 's']) (by kernel_rfl) aGc]
 kernel_rfl
theorem aHb (a : Value) : argsOk "set_iterator.__iter__" ⟨[a], []⟩ := by
 unfold argsOk
 rw [signature?_of (id := "set_iterator.__iter__") (n := ['_', '_', 'r', 'e', 't', 'i', '_', '_']) (o := ['r', 'o', 't', 'a', 'r', 'e', 't', 'i', '_', 't', 'e', 's']) (by kernel_rfl) aGc]
 kernel_rfl
theorem aBk {α : Type} (next : Nat -> Nat) : ∀ (fuel k : Nat) (left : List α) (out : Array α), fuel = left.length -> (pickOrder.go next fuel k left out).toList.Perm (out.toList ++ left)
 | 0, k, left, out, h => by
  have : left = [] := List.length_eq_zero_iff.mp h.symm
  subst this
  unfold pickOrder.go
  rw [List.append_nil]
 | fuel + 1, k, left, out, h => by
  have hl : next k % left.length < left.length := Nat.mod_lt _ (by omega)
  unfold pickOrder.go
  rw [List.getElem?_eq_getElem hl]
  dsimp only
  refine (aBk next fuel (k + 1) _ _ (by rw [List.length_eraseIdx_of_lt hl]; omega)).trans ?_
  rw [Array.toList_push, List.append_assoc]
  refine List.Perm.append_left _ ?_
  rw [List.eraseIdx_eq_take_drop_succ]
  show (left[next k % left.length] :: (left.take (next k % left.length) ++ left.drop (next k % left.length + 1))).Perm left
  refine (List.perm_middle (l₁ := left.take (next k % left.length))).symm.trans ?_
  rw [List.getElem_cons_drop, List.take_append_drop]
theorem y4 {α : Type} (next : Nat -> Nat) (xs : Array α) : (pickOrder next xs).toList.Perm xs.toList := by
 have := aBk next xs.size 0 xs.toList #[] (Array.length_toList ..).symm
 exact this
def yJ (w : World) (S : Addr) (ep : Nat) (es : Array (Int × Value)) : Array (Int × Value) := if w.params.followText "set-order" = true then pickOrder (w.params.setOrder S ep) es else es
theorem wF (w : World) (S : Addr) (ep : Nat) (es : Array (Int × Value)) : (yJ w S ep es).toList.Perm es.toList := by
 unfold yJ
 split
 ·exact y4 _ _
 ·exact List.Perm.refl _
theorem qD (w : World) (S : Addr) (ep : Nat) (es : Array (Int × Value)) : (yJ w S ep es).size = es.size := by
 have := (wF w S ep es).length_eq
 rw [Array.length_toList, Array.length_toList] at this
 exact this
def slotAt (w : World) (t : SetTable) (i : Nat) : Nat := if w.params.followText "set-order" = true then 0 else match i with
 | 0 => 0
 | i + 1 => t.place.getD i 0 + 1
def IterAt (w : World) (h : Heap) (I S : Addr) (t : SetTable) (n ep i : Nat) : Prop := ∃ o, h.get? I = some o /\ o.cls = .type "set_iterator" /\ ∃ u0 u1 u2 u3, o.data = .fields #[.int (slotAt w t i : Nat) u0, .int (i : Nat) u1, .ref S, .int (n : Nat) u2, .int (ep : Nat) u3]
structure SetW (w : World) (h : Heap) (S : Addr) (hs : List Int) (o : Obj) (es : Array (Int × Value)) (ep : Nat) (t : SetTable) : Prop where
 g : h.get? S = some o
 x : o.ExactSet
 d : o.data = .set es ep t
 pl : t.plain = true
 ld : t.led = !w.params.followText "set-order"
 tb : Tab t hs
 sz : es.size = hs.length
theorem SetR.w {prog : Program} {w : World} {h : Heap} {S : Addr} {ks : List (List Int)} {o : Obj} {es : Array (Int × Value)} {ep : Nat} {t : SetTable} (R : SetR prog w h S ks o es ep t) : SetW w h S (ks.map (hK prog w)) o es ep t := ⟨R.g, R.x, R.d, R.pl, R.ld, R.tb, by rw [List.length_map]; exact R.sz⟩
theorem SetW.fits {w : World} {h : Heap} {S : Addr} {hs : List Int} {o : Obj} {es : Array (Int × Value)} {ep : Nat} {t : SetTable} (R : SetW w h S hs o es ep t) : t.fits es.size = true := by
 unfold SetTable.fits SetTable.fill
 have a := R.tb.s
 have b := R.tb.z
 rw [R.tb.d, a, R.sz]
 simpa using b
section
variable {prog : Program} {w : World} {A : Around} {E : Value -> Shared -> Prop} {s : Shared} {S I : Addr} {hs : List Int} {o : Obj} {es : Array (Int × Value)} {ep : Nat} {t : SetTable}
theorem IterAt.ty {n i : Nat} (h : IterAt w s.heap I S t n ep i) : s.TypeIs (.ref I) "set_iterator" := by
 obtain ⟨o, h1, h2, _⟩ := h
 exact ⟨o, h1, h2⟩
theorem SetW.ty (R : SetW w s.heap S hs o es ep t) : s.TypeIs (.ref S) "set" := ⟨o, R.g, R.x.1⟩
theorem aFg {Q : Value -> Shared -> Prop} (R : SetW w s.heap S hs o es ep t) (q : Q (.ref s.heap.objs.size) { s with heap := s.heap.push { cls := .type "set_iterator", data := .fields #[rawInt 0, rawInt 0, .ref S, rawInt es.size, rawInt ep] } }) : wpAny (model prog w) A (pyIter (.ref S)) Q E s := by
 have hf := R.fits
 refine wpAny_pyIter_slot R.ty F.slot_set_iter (wpAny_call_entry F.slot_set_iter R.ty aC8 ?_ (F.args_set_iter_1 _))
 unfold Builtin.«frozenset.__iter__»
 refine wpAny_bind (m := Builtin.Frozenset.slot0 "__iter__" _) (wpAny_pure ?_)
 unfold Builtin.Frozenset.sizeOf setEntries
 refine wpAny_bind (wpAny_bind (wpAny_bind (wpAny_setState_of R.g R.d hf (wpAny_pure (wpAny_pure ?_)))))
 dsimp only
 unfold setDrawn
 refine wpAny_bind (wpAny_bind (wpAny_setState_of R.g R.d hf ?_))
 dsimp only
 unfold setsByText
 refine wpAny_bind (wpAny_bind (wpAny_askSetting (wpAny_pure (wpAny_pure ?_))))
 generalize hg : (!(model prog w).w.params.followText "set-order" && _) = b
 have hg : (!w.params.followText "set-order" && (!t.plain && decide (es.size > 1))) = b := hg
 have : b = false := by
  rw [<- hg, R.pl]
  simp
 subst this
 rw [if_neg (by decide)]
 refine wpAny_bind (wpAny_pure ?_)
 unfold setEpoch
 refine wpAny_bind (wpAny_bind (wpAny_setState_of R.g R.d hf (wpAny_pure ?_)))
 dsimp only
 exact wpAny_bind (wpAny_newObj_type (wpAny_pure ⟨_, rfl, _, _, ⟨_, Heap.get?_push_size _ rfl, rfl⟩, sl_next.lookup, q⟩))
theorem below_at (R : SetW w s.heap S hs o es ep t) (hb : w.params.followText "set-order" = false) {i : Nat} (hi : i <= t.place.size) : SetTable.below t.place (slotAt w t i) = i := by
 obtain ⟨b1, b2, b3⟩ := kJ R.tb.r (slotAt w t i)
 unfold slotAt at b1 b2 b3 ⊢
 rw [if_neg (by rw [hb]; decide)] at b1 b2 b3 ⊢
 cases i with
 | zero =>
  dsimp only at b1 b2 b3 ⊢
  rcases Nat.eq_zero_or_pos (SetTable.below t.place 0) with z | z
  ·exact z
  ·have := b2 0 _ z (Array.getElem?_eq_getElem (by omega))
   omega
 | succ i =>
  dsimp only at b1 b2 b3 ⊢
  have il : i < t.place.size := hi
  have g : t.place.getD i 0 = t.place[i] := by simp [Array.getD, il]
  rw [g] at b1 b2 b3 ⊢
  rcases Nat.lt_trichotomy (SetTable.below t.place (t.place[i] + 1)) (i + 1) with z | z | z
  ·have := b3 i _ (by omega) (Array.getElem?_eq_getElem il)
   omega
  ·exact z
  ·have l1 : i + 1 < t.place.size := by omega
   have a := b2 (i + 1) _ z (Array.getElem?_eq_getElem l1)
   have b := R.tb.r i (i + 1) _ _ (Nat.lt_succ_self _) (Array.getElem?_eq_getElem il) (Array.getElem?_eq_getElem l1)
   omega
theorem aAk {Q : Option (Value × Nat) -> Shared -> Prop} (R : SetW w s.heap S hs o es ep t) {i : Nat} (hi : i <= es.size) (q : Q (((yJ w S ep es)[i]?).map fun e => (e.2, slotAt w t (i + 1))) s) : wpAny (model prog w) A (setNext S (slotAt w t i) i ep) Q E s := by
 have hf := R.fits
 have psz : t.place.size = es.size := by rw [R.tb.s, R.sz]
 unfold setNext
 refine wpAny_bind (wpAny_setState_of R.g R.d hf ?_)
 dsimp only
 unfold setsByText
 refine wpAny_bind (wpAny_bind (wpAny_askSetting (wpAny_pure ?_)))
 show wpAny (model prog w) A (if w.params.followText "set-order" = true then _ else _) Q E s
 cases hb : w.params.followText "set-order" with
 | true =>
  rw [if_pos rfl, if_neg (by simp)]
  unfold setWalk
  refine wpAny_bind (wpAny_bind (wpAny_setState_of R.g R.d hf ?_))
  dsimp only
  unfold setsByText
  refine wpAny_bind (wpAny_bind (wpAny_askSetting (wpAny_pure ?_)))
  show wpAny (model prog w) A (if w.params.followText "set-order" = true then _ else _) _ _ _
  rw [hb, if_pos rfl]
  refine wpAny_bind (wpAny_askSetting (wpAny_pure (wpAny_pure ?_)))
  have e : yJ w S ep es = pickOrder (w.params.setOrder S ep) es := by unfold yJ; rw [if_pos hb]
  have e0 : ∀ i, slotAt w t i = 0 := fun i => by unfold slotAt; rw [if_pos hb]
  rw [e, e0] at q
  rw [e0]
  exact q
 | false =>
  rw [if_neg (by decide)]
  have e : yJ w S ep es = es := by unfold yJ; rw [if_neg (by rw [hb]; decide)]
  rw [e] at q
  refine wpAny_ite_split (fun h => ?_) (fun _ => ?_)
  ·have h : (!t.plain && decide (es.size > 1)) = true := h
   rw [R.pl] at h
   simp at h
  ·have led : t.led = true := by rw [R.ld, hb]; rfl
   refine wpAny_bind ?_
   show wpAny (model prog w) A (if (!t.led && !es.isEmpty) = true then unsupported "set:maker-not-led" else pure ()) _ E s
   rw [led, if_neg (by simp)]
   refine wpAny_pure (wpAny_pure ?_)
   rw [below_at R hb (by rw [psz]; exact hi)]
   rcases Nat.lt_or_ge i es.size with z | z
   ·have pl : i < t.place.size := by rw [psz]; exact z
    have sa : slotAt w t (i + 1) = t.place[i] + 1 := by
     unfold slotAt
     rw [if_neg (by rw [hb]; decide)]
     simp [Array.getD, pl]
    rw [Array.getElem?_eq_getElem z, sa] at q
    rw [Array.getElem?_eq_getElem z, Array.getElem?_eq_getElem pl]
    exact q
   ·rw [Array.getElem?_eq_none z] at q
    rw [Array.getElem?_eq_none z]
    exact q
theorem aHh {Q : Option Value -> Shared -> Prop} {i : Nat} (hit : IterAt w s.heap I S t es.size ep i) (R : SetW w s.heap S hs o es ep t) (lt : i < es.size) {x : Int × Value} (hx : (yJ w S ep es)[i]? = some x)
  (q : ∀ h', IterAt w h' I S t es.size ep (i + 1) -> Heap.SameBut I s.heap h' -> Q (some x.2) { s with heap := h' }) : wpAny (model prog w) A (pyNext (.ref I)) Q E s := by
 have ty := hit.ty
 have hf := R.fits
 obtain ⟨oI, ho, hc, u0, u1, u2, u3, hd⟩ := hit
 unfold pyNext
 refine wpAny_bind (wpAny_attempt (wpAny_callSpecial?_slot (name := Str.ofString "__next__") ty sl_next (wpAny_call_entry sl_next ty aA0 ?_ (zQ _))))
 unfold Builtin.«set_iterator.__next__»
 refine wpAny_bind (m := slotArgs "__next__" 0 _) (wpAny_pure ?_)
 refine wpAny_bind (wpAny_fieldsOf ho hd ?_)
 dsimp only
 unfold setEntries
 refine wpAny_bind (wpAny_bind (wpAny_setState_of R.g R.d hf (wpAny_pure ?_)))
 dsimp only
 rw [if_neg (by simp)]
 refine wpAny_bind ?_
 rw [Int.toNat_natCast, Int.toNat_natCast, Int.toNat_natCast]
 refine aAk R (Nat.le_of_lt lt) ?_
 rw [hx]
 dsimp only [Option.map]
 have g1 := Heap.get?_update_self (Obj.mapFields (·.setIfInBounds 0 (rawInt (slotAt w t (i + 1) : Nat)))) ho (Obj.isFreed_of_fields (Obj.data_mapFields hd _))
 refine wpAny_bind (wpAny_setField ho hd (by simp) ?_)
 have d1 := Obj.data_mapFields hd (·.setIfInBounds 0 (rawInt (slotAt w t (i + 1) : Nat)))
 refine wpAny_bind (wpAny_setField g1 d1 (by simp) ?_)
 have g2 := Heap.get?_update_self (Obj.mapFields (·.setIfInBounds 1 (rawInt ((i : Int) + 1)))) g1 (Obj.isFreed_of_fields (Obj.data_mapFields d1 _))
 have d2 := Obj.data_mapFields d1 (·.setIfInBounds 1 (rawInt ((i : Int) + 1)))
 refine wpAny_pure ⟨_, rfl, wpAny_pure (q _ ⟨_, g2, (Obj.cls_mapFields ..).trans ((Obj.cls_mapFields ..).trans hc), 0, 0, u2, u3, d2.trans (by simp [rawInt])⟩ ((Heap.SameBut.update ..).trans (Heap.SameBut.update ..)))⟩
theorem aM8 {Q : Option Value -> Shared -> Prop} (hh : A.handled = none) (hit : IterAt w s.heap I S t es.size ep es.size) (R : SetW w s.heap S hs o es ep t) (q : ∀ h', Heap.ExtBut I s.heap h' -> Q none { s with heap := h' }) : wpAny (model prog w) A (pyNext (.ref I)) Q E s := by
 have ty := hit.ty
 have hf := R.fits
 obtain ⟨oI, ho, hc, u0, u1, u2, u3, hd⟩ := hit
 unfold pyNext
 refine wpAny_bind (wpAny_attempt (wpAny_callSpecial?_slot (name := Str.ofString "__next__") ty sl_next (wpAny_call_entry sl_next ty aA0 ?_ (zQ _))))
 unfold Builtin.«set_iterator.__next__»
 refine wpAny_bind (m := slotArgs "__next__" 0 _) (wpAny_pure ?_)
 refine wpAny_bind (wpAny_fieldsOf ho hd ?_)
 dsimp only
 unfold setEntries
 refine wpAny_bind (wpAny_bind (wpAny_setState_of R.g R.d hf (wpAny_pure ?_)))
 dsimp only
 rw [if_neg (by simp)]
 refine wpAny_bind ?_
 rw [Int.toNat_natCast, Int.toNat_natCast, Int.toNat_natCast]
 refine aAk R (Nat.le_refl _) ?_
 rw [Array.getElem?_eq_none (by rw [qD]; exact Nat.le_refl _)]
 dsimp only [Option.map]
 refine wpAny_bind (m := setField (.ref I) 2 .none) (wpAny_setField ho hd (by simp) ?_)
 refine wpAny_bind (m := newExc (.type "StopIteration") []) ?_
 simp only [newExc, newTuple]
 refine wpAny_bind (wpAny_newObj_type (wpAny_bind (m := firstArgMember _ _) (wpAny_of_eq (a := Value.none) (by first | rfl | (simp only [firstArgMember]; rfl)) ?_)) (by size_fits))
 refine wpAny_newObj_type ?_ (by size_fits)
 simp only [raiseNew]
 refine wpAny_bind (wpAny_handled ?_)
 rw [show A.in1.handled = none from hh]
 refine wpAny_bind (wpAny_pure (wpAny_throw ?_))
 refine wpAny_bind (wpAny_isInstance (T := "StopIteration") (b := true) ⟨_, Heap.get?_push_size _ rfl, rfl⟩ isSubtype_stop ?_)
 exact wpAny_pure (q _ (((Heap.SameBut.update ..).extBut.push _).push _))
theorem aDb {r : Addr} {Q : Bool -> Shared -> Prop} (hT : s.TypeIs (.ref r) "set") (h : Q false s) : wpAny (model prog w) A (Builtin.List.listLengthHint (.ref r)) Q E s := by
 unfold Builtin.List.listLengthHint
 refine wpAny_bind (wpAny_specialOf hT F.slot_set_len.lookup ?_)
 generalize hid : ("set.__len__" : String) = id0
 wp_delta
 rw [show splitId id0 = some ("set", "__len__") from by subst hid; decide +kernel]
 subst hid
 refine wpAny_bind (wpAny_isInstance (T := "set") (b := true) hT sub_set_self ?_)
 refine wpAny_ite_split (fun hab => absurd hab (by decide)) (fun _ => ?_)
 refine wpAny_ite_split (fun _ => ?_) (fun hab => absurd (by decide +kernel) hab)
 exact wpAny_bind (wpAny_typeOf hT (wpAny_pure h))
theorem aIg {Q : Value -> Shared -> Prop} {n i : Nat} (hit : IterAt w s.heap I S t n ep i) (h : Q (.ref I) s) : wpAny (model prog w) A (pyIter (.ref I)) Q E s := by
 refine wpAny_pyIter_slot hit.ty aBh (wpAny_call_entry aBh hit.ty aHm ?_ (aHb _))
 show wpAny _ _ (ret (.ref I)) _ _ s
 exact wpAny_pure ⟨_, rfl, "set_iterator", _, hit.ty, sl_next.lookup, h⟩
theorem aBu (hh : A.handled = none) (hne : S ≠ I) :
  Walks prog w A I [I, S] [I] es.size (fun i v => ∃ e, (yJ w S ep es)[i]? = some e /\ v = e.2) (fun i h => IterAt w h I S t es.size ep i /\ ∃ o, SetW w h S hs o es ep t) where
 sub := fun b hb => List.mem_cons.mpr (.inl (List.mem_singleton.mp hb))
 frame := fun i h h' st hk => by
  obtain ⟨⟨oI, h1, h2, h3⟩, o, R⟩ := st
  exact ⟨⟨oI, hk I (by simp) oI h1, h2, h3⟩, o, ⟨hk S (by simp) o R.g, R.x, R.d, R.pl, R.ld, R.tb, R.sz⟩⟩
 item := fun i s Q E hi st hQ => by
  obtain ⟨st1, o, R⟩ := st
  have ol : i < (yJ w S ep es).size := by rw [qD]; exact hi
  refine aHh st1 R hi (Array.getElem?_eq_getElem ol) fun h' hit' sb => hQ _ h' s.toks ⟨_, Array.getElem?_eq_getElem ol, rfl⟩ ⟨hit', o, ⟨(sb.2 S hne).trans R.g, R.x, R.d, R.pl, R.ld, R.tb, R.sz⟩⟩ fun b o hb e => (sb.2 b fun z => hb (by simp [z])).trans e
 done := fun s Q E st hQ => by
  obtain ⟨st1, o, R⟩ := st
  exact aM8 hh st1 R fun h' he' => hQ h' s.toks fun b o hb e => he' b o (fun z => hb (by simp [z])) e
 self := fun _ _ _ _ st hQ => aIg st.1 hQ
theorem aI3 : PySem.W.KdlSrc prog w "set" S S es.size (fun i v => ∃ e, (yJ w S ep es)[i]? = some e /\ v = e.2) (fun h => ∃ o, SetW w h S hs o es ep t) where
 type := fun s ⟨o, R⟩ => R.ty
 there := fun h ⟨o, R⟩ => ⟨Heap.lt_size R.g, Heap.lt_size R.g⟩
 keep := fun h h' ⟨o, R⟩ hk => ⟨o, ⟨hk S (.inl rfl) o R.g, R.x, R.d, R.pl, R.ld, R.tb, R.sz⟩⟩
 notList := by decide
 notTuple := by decide
 hint := fun A E s Q ⟨o, R⟩ hq => aDb R.ty hq
 iter := fun A s hh ⟨o, R⟩ => ⟨_, _, (fun E Q hq => aFg R hq), aBu (hs := hs) (t := t) hh (Nat.ne_of_lt (Heap.lt_size R.g)), ⟨_, Heap.get?_push_size _ rfl, rfl, 0, 0, 0, 0, by
  have : slotAt w t 0 = 0 := by unfold slotAt; split <;> rfl
  rw [this]
  rfl⟩, o, ⟨Heap.get?_push_of_some _ R.g, R.x, R.d, R.pl, R.ld, R.tb, R.sz⟩⟩
end
end HS
namespace L2
open PySem PySem.Spec PyProof.Rows
theorem aAh {α β : Type} (f : α -> β) {a b : List β} (h : a.Perm b) : ∀ m : List α, m.map f = b -> ∃ l : List α, l.Perm m /\ l.map f = a := by
 induction h with
 | nil =>
  intro m e
  rw [List.map_eq_nil_iff.mp e]
  exact ⟨[], List.Perm.refl _, rfl⟩
 | cons x _ ih =>
  intro m e
  cases m with
  | nil => cases e
  | cons y m =>
   injection e with e1 e2
   obtain ⟨l, p, q⟩ := ih m e2
   exact ⟨y :: l, p.cons y, by rw [List.map_cons, q, e1]⟩
 | swap x y l =>
  intro m e
  match m, e with
  | p :: q :: m, e =>
   injection e with e1 e2
   injection e2 with e2 e3
   exact ⟨q :: p :: m, List.Perm.swap p q m, by rw [List.map_cons, List.map_cons, e1, e2, e3]⟩
 | trans _ _ ih1 ih2 =>
  intro m e
  obtain ⟨l, p, q⟩ := ih2 m e
  obtain ⟨l2, p2, q2⟩ := ih1 l q
  exact ⟨l2, p2.trans p, q2⟩
theorem y6 {α : Type} [DecidableEq α] : ∀ {l m : List α}, l.Nodup -> m.Nodup -> (∀ x, x ∈ l ↔ x ∈ m) -> l.Perm m
 | [], m, _, _, h => by
  cases m with
  | nil => exact List.Perm.refl _
  | cons x m => exact absurd ((h x).mpr (.head _)) (List.not_mem_nil)
 | x :: l, m, h1, h2, h => by
  obtain ⟨n1, n2⟩ := List.nodup_cons.mp h1
  have hx := (h x).mp (.head _)
  have p := List.perm_cons_erase hx
  refine (List.Perm.cons x (y6 n2 (List.Pairwise.sublist (List.erase_sublist) h2) fun y => ?_)).trans p.symm
  by_cases e : y = x
  ·subst e
   constructor
   ·exact fun z => absurd z n1
   ·exact fun z => absurd z (by
     have := p.nodup_iff.mp h2
     exact (List.nodup_cons.mp this).1)
  ·rw [List.mem_erase_of_ne e, <- h y, List.mem_cons]
   exact ⟨fun z => .inr z, fun z => z.resolve_left e⟩
theorem zR {f : Nat -> List Int} {k : List Int} : ∀ {n : Nat}, k ∈ HS.aAi f n ↔ ∃ i, i < n /\ f i = k
 | 0 => ⟨(fun h => nomatch h), fun ⟨i, h, _⟩ => absurd h (Nat.not_lt_zero _)⟩
 | n + 1 => by
  have ih := zR (f := f) (k := k) (n := n)
  unfold HS.aAi
  constructor
  ·intro h
   split at h
   ·obtain ⟨i, h1, h2⟩ := ih.mp h
    exact ⟨i, Nat.lt_succ_of_lt h1, h2⟩
   ·rcases List.mem_cons.mp h with z | z
    ·exact ⟨n, Nat.lt_succ_self _, z.symm⟩
    ·obtain ⟨i, h1, h2⟩ := ih.mp z
     exact ⟨i, Nat.lt_succ_of_lt h1, h2⟩
  ·rintro ⟨i, h1, h2⟩
   rcases Nat.lt_or_ge i n with z | z
   ·have := ih.mpr ⟨i, z, h2⟩
    split
    ·exact this
    ·exact .tail _ this
   ·have : i = n := by omega
    subst this
    split
    ·rename_i y
     rw [<- h2]; exact y
    ·rw [h2]; exact .head _
section
variable {X : Cx}
def vOf (v : Value) : V := match v with
 | .ref b => .ref b
 | _ => .non
theorem aJw : bootBuiltins "set" = some (.type "set") := by decide +kernel
theorem x5 : bootBuiltins "sorted" = some (.builtin "sorted") := by decide +kernel
def tSS (K : PySem.W.Frag) (te : TE) : TE := fun σ H Q => te σ H fun x H1 => ∃ a xs ks, x = .ref a /\ SqL K H1 a xs /\ SRT.aG2 H1 xs ks /\ ks.length < 64 /\
 ∀ ts ks2 D q, ks2.Nodup -> (∀ k, k ∈ ks2 ↔ k ∈ ks) -> SRT.aG2 H1 ts ks2 -> H1 D = none -> SRT.Pm ts.length q -> SRT.Sd (SRT.aC5 ks2) q ts.length -> Q (.ref D) (upd H1 D (.lst (q.toList.map fun i => ts.getD i .non)))
theorem vQ : ∀ {xs : List V} {us : List Value}, Vals xs us -> ∀ (i : Nat) v, us[i]? = some v -> ∃ x, xs[i]? = some x /\ RelV x v
 | _, _, .nil, i, v, h => by simp at h
 | _, _, .cons r t, 0, v, h => by
  simp at h
  exact ⟨_, rfl, h ▸ r⟩
 | _, _, .cons r t, i + 1, v, h => vQ t i v h
theorem aIv {P : Program} {w : World} {H : Hp} {h : Heap} {b : Addr} {k : List Int} (ok : HOk P w H h) (e : H b = some (.tup (k.map V.int))) : HS.IK P w h k b := by
 obtain ⟨_, its, rv, o, ho, hc, n, hd⟩ := (show ObjOk P w H h b (.tup (k.map V.int)) from ok b _ e)
 refine ⟨o, its.toArray, n, ho, hc, hd, ?_⟩
 rw [List.toList_toArray]
 have key : ∀ {ns : List Int} {vs : List Value}, IntsAre vs ns -> ItemsAre (intKind P w) ns vs := by
  intro ns vs q
  induction q with
  | nil => exact .nil
  | cons i t _ ih => exact .cons (intKind_is _ _ _ _) ih
 exact key (intsAre_of rv)
theorem aEo {pins : List (Addr × Obj)} {s1 : Shared} {σ : St} {H1 : Hp} {a : Addr} {xs : List V} {ks : List (List Int)} {A : Around} {E : Value -> Shared -> Prop} {Q : Value -> Shared -> Prop} (I1 : Inv X pins σ H1 s1) (hh : A.handled = none) (hu : A.units + 10 < cLine) (hq : SqL X.K H1 a xs) (hr : SRT.aG2 H1 xs ks) (h64 : ks.length < 64)
  (q : ∀ h' tk, HS.SetK X.prog X.w h' s1.heap.objs.size (HS.aAi (fun i => ks.getD i []) ks.length) (fun b => ∃ k : List Int, H1 b = some (.tup (k.map V.int))) -> (∀ b o, s1.heap.get? b = some o -> h'.get? b = some o) -> Q (.ref s1.heap.objs.size) { s1 with heap := h', toks := tk }) :
  wpAny (model X.prog X.w) A (call (.type "set") [.ref a]) Q E s1 := by
 obtain ⟨its, rv, pl, _⟩ := I1.list hq
 have hlen := rv.length
 have sz : its.toArray.size = ks.length := by rw [List.size_toArray, <- hlen, hr.1]
 refine HS.aE2 (prog := X.prog) (w := X.w) hh hu (fun i => ks.getD i []) pl.isList (by rw [sz]; omega) (L := fun b => ∃ k : List Int, H1 b = some (.tup (k.map V.int))) (fun b ⟨k, hb⟩ => ?_) (fun i v hv => ?_) fun h' tk T kp ht => ?_
 ·obtain ⟨o, _, _, ho, _⟩ := aIv I1.hok hb
  exact Heap.lt_size ho
 ·rw [List.getElem?_toArray] at hv
  obtain ⟨x, hx, rx⟩ := vQ rv i v hv
  have il : i < ks.length := by rw [<- hr.1]; exact (List.getElem?_eq_some_iff.mp hx).1
  obtain ⟨⟨b, eb, hb⟩, _⟩ := hr.2 i x ks[i] hx (List.getElem?_eq_getElem il)
  subst eb
  refine ⟨b, rx, ⟨_, hb⟩, ?_⟩
  have : ks.getD i [] = ks[i] := by simp [List.getD, il]
  rw [this]
  exact aIv I1.hok hb
 ·rw [sz] at T
  exact q h' tk T kp
theorem yD {e : Expr} {te : TE} {p1 p2 pos1 pos2 : Pos} (hc : X.calm = true) (hu : X.A.units + 64 < cLine) (hg1 : Gl X "sorted") (hm1 : X.mg "sorted" = none) (hg2 : Gl X "set") (hm2 : X.mg "set" = none) (he : PE X e te)
  (hs1 : starEach [.Call (.Name "set" p2) [e] [] pos2] X.env = (false, eval (.Call (.Name "set" p2) [e] [] pos2) X.env) :: starEach [] X.env := by rfl) (hs2 : starEach [e] X.env = (false, eval e X.env) :: starEach [] X.env := by rfl) :
  PE X (.Call (.Name "sorted" p1) [.Call (.Name "set" p2) [e] [] pos2] [] pos1) (tSS X.K te) := by
 intro pins s σ H Q I h
 refine wpAny_Call_Name_kw (jJ I hg1 hm1 x5 (PyProof.Rows.callWith_builtin1 ?_ hs1 rfl))
 rw [hs1]
 show wpAny _ _ (spliced ((false, eval _ X.env) :: backTo pos1 (starEach [] X.env))) _ _ s
 refine Calls.spliced_cons (wpAny_Call_Name_kw (jJ I hg2 hm2 aJw (PyProof.Rows.callWith_type1 ?_ hs2 rfl)))
 rw [hs2]
 show wpAny _ _ (spliced ((false, eval _ X.env) :: backTo pos2 (starEach [] X.env))) _ _ s
 refine Calls.spliced_cons (thn (he pins s σ H _ I h) fun u s1 ⟨x, H1, I1, r1, a, xs, ks, ex, hq, hr, h64, q⟩ => Calls.spliced_nil ?_)
 subst ex
 cases (show u = Value.ref a from r1)
 refine aEo I1 (I.ok.hd hc) (by omega) hq hr h64 fun h' tk T kp => Calls.spliced_nil ?_
 obtain ⟨ks', o, es, ep, t, pm, ft, lo, R⟩ := T
 have I2 : Inv X pins σ H1 { s1 with heap := h', toks := tk } := I1.kept (t' := tk) kp
 have mem : ∀ k, k ∈ ks' ↔ k ∈ ks := fun k => by
  rw [pm.mem_iff, zR]
  constructor
  ·rintro ⟨i, h1, h2⟩
   rw [<- h2]
   have : ks.getD i [] = ks[i] := by simp [List.getD, h1]
   rw [this]
   exact List.getElem_mem h1
  ·intro hk
   obtain ⟨i, hi, e⟩ := List.mem_iff_getElem.mp hk
   exact ⟨i, hi, by rw [<- e]; simp [List.getD, hi]⟩
 have pl : ks'.length < 64 := by
  have := HS.rB (fun i => ks.getD i []) ks.length
  rw [pm.length_eq]
  omega
 have hes : (es.toList.zip ks').map Prod.fst = es.toList := by
  rw [List.map_fst_zip]
  rw [Array.length_toList, R.sz]
  exact Nat.le_refl _
 obtain ⟨pr, pp, pe⟩ := aAh Prod.fst (HS.wF X.w s1.heap.objs.size ep es) (es.toList.zip ks') hes
 have pk : (pr.map Prod.snd).Perm ks' := by
  have := pp.map Prod.snd
  rw [List.map_snd_zip (by have := R.sz; rw [<- Array.length_toList] at this; omega)] at this
  exact this
 have each : ∀ p ∈ pr, ∃ b, p.1.2 = Value.ref b /\ H1 b = some (.tup (p.2.map V.int)) := fun p hp => by
  have hz := pp.mem_iff.mp hp
  obtain ⟨i, hi, e⟩ := List.mem_iff_getElem.mp hz
  rw [List.getElem_zip] at e
  rw [List.length_zip] at hi
  have ik : i < ks'.length := by omega
  obtain ⟨b, h1, h2⟩ := R.at' i ks'[i] (List.getElem?_eq_getElem ik)
  have ie : i < es.size := by rw [R.sz]; exact ik
  rw [Array.getElem?_eq_getElem ie] at h1
  have h1 := Option.some.inj h1
  obtain ⟨c, e1, k2, e2⟩ := lo _ (Array.getElem_mem ie)
  rw [h1] at e1
  cases e1
  have ik2 := aIv I2.hok e2
  have : k2 = ks'[i] := ik2.inj h2
  rw [<- e]
  refine ⟨b, ?_, ?_⟩
  ·show (es.toList[i]).2 = _
   rw [Array.getElem_toList, h1]
  ·show H1 b = some (.tup ((ks'[i]).map V.int))
   rw [<- this]
   exact e2
 have rts : SRT.aG2 H1 (pr.map fun p => vOf p.1.2) (pr.map Prod.snd) := by
  refine ⟨by rw [List.length_map, List.length_map], fun i t k e1 e2 => ?_⟩
  rw [List.getElem?_map] at e1 e2
  cases ep' : pr[i]? with
  | none => rw [ep'] at e1; cases e1
  | some p =>
   rw [ep'] at e1 e2
   cases e1
   cases e2
   have hp := List.mem_of_getElem? ep'
   obtain ⟨b, h1, h2⟩ := each p hp
   refine ⟨⟨b, by show vOf p.1.2 = _; rw [h1]; rfl, h2⟩, ?_⟩
   have hk : p.2 ∈ ks := (mem _).mp (pk.mem_iff.mp (List.mem_map.mpr ⟨p, hp, rfl⟩))
   obtain ⟨j, hj, ej⟩ := List.mem_iff_getElem.mp hk
   have xl : j < xs.length := by rw [hr.1]; exact hj
   have := (hr.2 j xs[j] ks[j] (List.getElem?_eq_getElem xl) (List.getElem?_eq_getElem hj)).2
   rw [<- ej]
   exact this
 have rv : Vals (pr.map fun p => vOf p.1.2) (pr.map fun p => p.1.2) := by
  have : ∀ l : List ((Int × Value) × List Int), (∀ p ∈ l, ∃ b, p.1.2 = Value.ref b /\ H1 b = some (.tup (p.2.map V.int))) -> Vals (l.map fun p => vOf p.1.2) (l.map fun p => p.1.2) := by
   intro l
   induction l with
   | nil => exact fun _ => .nil
   | cons p l ih =>
    intro hl
    obtain ⟨b, h1, _⟩ := hl p (.head _)
    refine .cons ?_ (ih fun x hx => hl x (.tail _ hx))
    show RelV (vOf p.1.2) p.1.2
    rw [h1]
    rfl
  exact this pr each
 have prl : pr.length = ks'.length := by
  have := pk.length_eq
  rw [List.length_map] at this
  exact this
 have ev : (HS.yJ X.w s1.heap.objs.size ep es).toList.map (·.2) = pr.map fun p => p.1.2 := by
  rw [<- pe, List.map_map]
  rfl
 refine SRT.pN (s := { s1 with heap := h', toks := tk }) (Ok := fun vs => vs = pr.map fun p => p.1.2) (fun R0 hR => ?_) (pr.map Prod.snd) (fun vs e => ⟨e ▸ SRT.sX I2.hok rts rv, by rw [e, List.length_map]; omega⟩) fun h2 hf tk2 c vs q' k1 k2 e p1 p2 hc2 => ?_
 ·refine PySem.W.kdu_collect (A := X.A.in1) (s := { s1 with heap := h', toks := tk }) (HS.aI3 (prog := X.prog) (w := X.w) (hs := ks'.map (HS.hK X.prog X.w)) (t := t) (es := es) (ep := ep)) (I.ok.hd hc) ⟨o, R.w⟩ (by rw [R.sz, sizeLine_eq]; omega) fun h2 tk2 acc hk hacc => hR h2 tk2 _ hk ?_
  rw [<- ev]
  apply List.ext_getElem?
  intro i
  rw [Array.getElem?_toList, List.getElem?_map, Array.getElem?_toList]
  rcases Nat.lt_or_ge i acc.size with z | z
  ·obtain ⟨x, e1, e2⟩ := hacc.2 i acc[i] (Array.getElem?_eq_getElem z)
   rw [Array.getElem?_eq_getElem z, e1, e2]
   rfl
  ·rw [Array.getElem?_eq_none z, Array.getElem?_eq_none (by rw [HS.qD, <- hacc.1]; exact z)]
   rfl
 ·have hlen := rv.length
  subst e
  exact SRT.vO I2 rv (by rw [List.length_map]; omega) k1 k2 p1 hc2 fun D hD => q _ _ D q' (pk.nodup_iff.mpr R.nd) (fun k => by rw [pk.mem_iff]; exact mem k) rts hD (hlen ▸ p1) (hlen ▸ p2)
end
end L2
namespace M
open PySem PySem.Spec PyProof.Rows L2
def ddK : List (List Int) -> List (List Int)
 | [] => []
 | k :: r => if k ∈ ddK r then ddK r else k :: ddK r
theorem ddK_mem {x : List Int} : ∀ {ks : List (List Int)}, x ∈ ddK ks ↔ x ∈ ks
 | [] => Iff.rfl
 | k :: r => by
  have ih := ddK_mem (x := x) (ks := r)
  unfold ddK
  split
  ·rename_i z
   rw [ih, List.mem_cons]
   constructor
   ·exact .inr
   ·rintro (e | e)
    ·rw [e]; exact ddK_mem.mp z
    ·exact e
  ·rw [List.mem_cons, List.mem_cons, ih]
theorem v7 : ∀ ks : List (List Int), (ddK ks).Nodup
 | [] => List.Pairwise.nil
 | k :: r => by
  unfold ddK
  split
  ·exact v7 r
  ·rename_i z
   exact List.nodup_cons.mpr ⟨z, v7 r⟩
def g5 (x : Ev) : Res Ev := match gF x with
 | some ds => match pT ds with
  | some ks => if (ks.all fun k => !k.isEmpty) = true /\ ks.length < 64 then .ok (.f (.list ((iL (ddK ks)).map mU))) else .bad
  | none => .bad
 | none => .bad
theorem aK3 {ks : List (List Int)} (h : (ks.all fun k => !k.isEmpty) = true) : ∀ k ∈ ks, k ≠ [] := fun k hk z => by
 have := List.all_eq_true.mp h k hk
 rw [z] at this
 cases this
theorem aJa {ks ks2 : List (List Int)} (nd : ks2.Nodup) (hm : ∀ k, k ∈ ks2 ↔ k ∈ ks) : ks2.Perm (ddK ks) := y6 nd (v7 ks) fun x => by rw [hm, ddK_mem]
theorem pI {X : Cx} {E : L2.St -> XK} {e : Expr} {fe : En -> Res Ev} {p1 p2 pos1 pos2 : Pos} (hc : X.calm = true) (hu : X.A.units + 64 < cLine) (hg1 : Gl X "sorted") (hm1 : X.mg "sorted" = none) (hg2 : Gl X "set") (hm2 : X.mg "set" = none) (he : DE X E e fe)
  (hs1 : starEach [.Call (.Name "set" p2) [e] [] pos2] X.env = (false, eval (.Call (.Name "set" p2) [e] [] pos2) X.env) :: starEach [] X.env := by rfl) (hs2 : starEach [e] X.env = (false, eval e X.env) :: starEach [] X.env := by rfl) :
  DE X E (.Call (.Name "sorted" p1) [.Call (.Name "set" p2) [e] [] pos2] [] pos1) (mUn g5 fe) := by
 obtain ⟨t, q, m⟩ := he.out
 refine DE.in ⟨_, yD hc hu hg1 hm1 hg2 hm2 q hs1 hs2, fun B G0 G W H σ en Q hh hs hw => m B G0 G W H σ en _ hh hs ?_⟩
 have hw : wpR ((fe en).bind _) _ _ := hw
 rw [bS] at hw
 refine bA hw (fun r hr G1 H1 v s e => ?_) fun C h => h
 obtain ⟨G2, s2, e2⟩ := e.c s
 unfold g5 at hr
 cases el : gF r.c with
 | none => rw [el] at hr; exact hr.elim
 | some ds =>
  rw [el] at hr
  dsimp only at hr
  cases ek : pT ds with
  | none => rw [ek] at hr; exact hr.elim
  | some ks =>
   rw [ek] at hr
   dsimp only at hr
   by_cases hz : (ks.all fun k => !k.isEmpty) = true /\ ks.length < 64
   ·rw [if_pos hz] at hr
    obtain ⟨a, xs, rfl, h1, h2⟩ := pD s2.gh e2 el
    cases (rC ek)
    refine ⟨a, xs, ks, rfl, .inl h1, aAf s2.gh h2 (aK3 hz.1), hz.2, fun ts ks2 D q nd hm rf hD hp hS => ?_⟩
    have hl : ts.length = ks2.length := rf.1
    have pk := picked hl hp hS
    have se : iL ks2 = iL (ddK ks) := jT ((cQ ks2).trans ((aJa nd hm).trans (cQ _).symm)) (fX _) (fX _)
    have st := (s2.trans (yW s2.gh)).trans (Step.lay (o := .lst (q.toList.map fun i => ts.getD i .non)) (aB1 s2.gh) hD)
    refine hr _ _ _ st ⟨D, _, rfl, s2.h.free hD, (aB1 s2.gh).free hD, bQ, .lst ?_⟩
    rw [<- se, <- pk]
    refine nG (fun i hi => ?_) _ (fun i hi => by rw [<- hl]; exact aL2 hp i hi)
    have hi' : i < ts.length := by omega
    obtain ⟨⟨b, eb, hb⟩, _⟩ := rf.2 i ts[i] ks2[i] (List.getElem?_eq_getElem hi') (List.getElem?_eq_getElem hi)
    have e1 : ts.getD i .non = ts[i] := by simp [hi']
    have e2 : ks2.getD i [] = ks2[i] := by simp [hi]
    rw [e1, e2, eb]
    exact wJ (aG3 s2.gh hb)
   ·rw [if_neg hz] at hr
    exact hr.elim
end M
namespace HS
open PySem PySem.Spec PyProof.Rows
section
open PySem.SeqAt
open PySem.AutoSeq1 (wpAny_loadPart')
open PySem.MeetsSeq PySem.MeetsSeq2 PySem.MeetsSeq3
end
section
variable {prog : Program} {w : World} {A : Around} {E : Value -> Shared -> Prop} {s : Shared}
end
section
variable {prog : Program} {w : World} {A : Around} {R : Result -> Shared -> Prop} {I S : Addr} {fp wr : List Addr} {n : Nat} {P : Nat -> Value -> Prop} {St : Nat -> Heap -> Prop} {Ok : Heap -> Prop} {bt : Nat -> Nat -> Bool}
end
section
variable {prog : Program} {w : World} {A : Around} {E : Value -> Shared -> Prop} {s : Shared}
end
section
variable {prog : Program} {w : World} {A : Around} {R : Result -> Shared -> Prop} {I S : Addr} {fp wr : List Addr} {n : Nat} {P : Nat -> Value -> Prop} {St : Nat -> Heap -> Prop} {Ok : Heap -> Prop} {bt : Nat -> Nat -> Bool}
end
section
variable {prog : Program} {w : World} {A : Around} {E : Value -> Shared -> Prop} {s : Shared}
end
end HS
namespace L2
open PySem PySem.Spec PyProof.Rows
section
variable {X : Cx}
end
end L2
namespace M
open PySem PySem.Spec PyProof.Rows L2
section
variable {K : PySem.W.Frag} {f : List (List Int) -> Nat -> Nat -> Bool}
end
end M
namespace N
open PySem PySem.Spec PyProof.Rows L2 M
def frD (x : Int × Int) : D := .tuple [.int x.1, .int x.2]
abbrev Pl := Int × Int × (Int × Int)
def plD (p : Pl) : D := .tuple [.int p.1, .int p.2.1, frD p.2.2]
def slD (p : Int × Int) : D := .tuple [.int p.1, .int p.2]
theorem at0 {α : Type} (x : α) (r : List α) : atI (x :: r) 0 = some x := lF (j := 0) rfl
theorem at1 {α : Type} (x y : α) (r : List α) : atI (x :: y :: r) 1 = some y := lF (j := 1) rfl
theorem at2 {α : Type} (x y z : α) (r : List α) : atI (x :: y :: z :: r) 2 = some z := lF (j := 2) rfl
theorem gY (i j : Int) : PyData.eqv (.int i) (.int j) = (i == j) := by simp [PyData.eqv]
theorem gQ (i : Int) : SeqAt.shaped (.int i) = true := by simp [SeqAt.shaped, PyData.canLay0, PyData.depth]
def aMi {α : Type} (f : D -> Option α) : List D -> Option (List α)
 | [] => some []
 | d :: r => match f d with
  | none => none
  | some a => match aMi f r with
   | none => none
   | some as => some (a :: as)
theorem kF {α : Type} {f : D -> Option α} {enc : α -> D} (h : ∀ a, f (enc a) = some a) : ∀ xs : List α, aMi f (xs.map enc) = some xs
 | [] => rfl
 | x :: xs => by
  show (match f (enc x) with | none => none | some a => match aMi f (xs.map enc) with | none => none | some as => some (a :: as)) = _
  rw [h x, kF h xs]
def aNz : D -> Option (Int × Int)
 | .tuple [.int a, .int b] => some (a, b)
 | _ => none
def aO6 : D -> Option Pl
 | .tuple [.int i, .int j, .tuple [.int a, .int b]] => some (i, j, (a, b))
 | _ => none
theorem xG (x : Int × Int) : aNz (frD x) = some x := rfl
theorem wN (x : Pl) : aO6 (plD x) = some x := rfl
theorem kM {α : Type} {g : D -> Option (Option D)} {enc : α -> D} {out : α -> D} : ∀ xs : List α, (∀ x ∈ xs, g (enc x) = some (some (out x))) -> t5 g (xs.map enc) = some (xs.map out)
 | [], _ => rfl
 | x :: xs, h => by
  show (match g (enc x) with | none => none | some o => match t5 g (xs.map enc) with | none => none | some r => some (match o with | some y => y :: r | none => r)) = _
  rw [h x (.head _), kM xs fun y hy => h y (.tail _ hy)]
  rfl
def ltF (x y : Int × Int) : Bool := decide (x.1 * y.2 < y.1 * x.2)
def best (b : Int × Int) : List (Int × Int) -> Int × Int
 | [] => b
 | x :: r => best (if ltF b x = true then x else b) r
def Good (n : Nat) (x : Int × Int) : Prop := 1 <= x.2 /\ Sz n x.1 /\ Sz n x.2
theorem Good.mono {m n : Nat} {x : Int × Int} (h : Good m x) (l : m <= n) : Good n x := ⟨h.1, h.2.1.mono l, h.2.2.mono l⟩
theorem aJf {n : Nat} {t b : Int} (ht : Sz n t) (hb : Sz n b) (h0 : b ≠ 0) : Good n (FR.mk t b) := ⟨(FR.y9 h0).1.pos, Sz.le ht (natAbs_fdiv_le _ _), Sz.le hb (natAbs_fdiv_le _ _)⟩
def hT (i : Int) (x : Int × Int) : Int × Int := FR.mk (i * x.1) (1 * x.2)
def hP (x y : Int × Int) : Int × Int := FR.mk (x.1 * y.2 + y.1 * x.2) (x.2 * y.2)
def hgt (p : Pl) (pt : (Int × Int) × (Int × Int)) : Int × Int := hP (hP (hT p.1 pt.1) (hT p.2.1 pt.2)) p.2.2
structure gT (p : Pl) (pt : (Int × Int) × (Int × Int)) : Prop where
 i : Sz 100 p.1
 j : Sz 100 p.2.1
 h : Good 200 p.2.2
 x : Good 300 pt.1
 y : Good 300 pt.2
open Classical in
noncomputable def mOf {α : Type} (enc : α -> List L) (P : α -> Prop) (g : α -> Res L) (ls : List L) : Res L := if h : ∃ a, enc a = ls /\ P a then g h.choose else .bad
theorem gP {α : Type} {enc : α -> List L} {P : α -> Prop} {g : α -> Res L} (inj : ∀ a b, enc a = enc b -> a = b) {a : α} (h : P a) : mOf enc P g (enc a) = g a := by
 have hx : ∃ b, enc b = enc a /\ P b := ⟨a, rfl, h⟩
 unfold mOf
 rw [dif_pos hx, inj _ _ hx.choose_spec.1]
theorem gL {α : Type} {enc : α -> List L} {P : α -> Prop} {g : α -> Res L} {n : Nat} {f : MS} (h : ∀ a, P a -> fY n f (enc a) = g a) : ∀ ls, mOf enc P g ls = .bad \/ fY n f ls = mOf enc P g ls := by
 intro ls
 unfold mOf
 by_cases hx : ∃ a, enc a = ls /\ P a
 ·rw [dif_pos hx]
  exact .inr ((congrArg _ hx.choose_spec.1.symm).trans (h _ hx.choose_spec.2))
 ·exact .inl (dif_neg hx)
theorem frI {a b : Int × Int} (h : frD a = frD b) : a = b := Option.some.inj (congrArg aNz h)
theorem plI {a b : Pl} (h : plD a = plD b) : a = b := Option.some.inj (congrArg aO6 h)
theorem aPz {a b : List Pl} (h : a.map plD = b.map plD) : a = b := by
 have e := congrArg (aMi aO6) h
 rw [kF wN, kF wN] at e
 exact Option.some.inj e
theorem ptI {x y : (Int × Int) × (Int × Int)} (h : PyData.tuple [frD x.1, frD x.2] = .tuple [frD y.1, frD y.2]) : x = y := by
 injection h with h
 injection h with h1 h2
 injection h2 with h2 _
 exact Prod.ext (frI h1) (frI h2)
def eHA (a : List Pl × (Int × Int) × (Int × Int)) : List L := [.p (.list (a.1.map plD)), .p (.tuple [frD a.2.1, frD a.2.2])]
theorem u9 (a b : List Pl × (Int × Int) × (Int × Int)) (h : eHA a = eHA b) : a = b := by
 unfold eHA at h
 injection h with h1 h2
 injection h2 with h2 _
 injection h1 with h1
 injection h1 with h1
 injection h2 with h2
 exact Prod.ext (aPz h1) (ptI h2)
theorem iS (a : D) (r : List D) : ixE (.p (.tuple (a :: r))) (.p (.int 0)) = .ok (.p a) := by simp [ixE, g8, at0]
theorem i9 (a b : D) (r : List D) : ixE (.p (.tuple (a :: b :: r))) (.p (.int 1)) = .ok (.p b) := by simp [ixE, g8, at1]
theorem rR (a b d : D) (r : List D) : ixE (.p (.tuple (a :: b :: d :: r))) (.p (.int 2)) = .ok (.p d) := by simp [ixE, g8, at2]
theorem lT (p : Pl) : ixE (.p (plD p)) (.p (.int 0)) = .ok (.p (.int p.1)) := iS _ _
theorem lO (p : Pl) : ixE (.p (plD p)) (.p (.int 1)) = .ok (.p (.int p.2.1)) := i9 _ _ _
theorem lX (p : Pl) : ixE (.p (plD p)) (.p (.int 2)) = .ok (.p (frD p.2.2)) := rR _ _ _ _
theorem jE (p : Int × Int) : ixE (.p (frD p)) (.p (.int 0)) = .ok (.p (.int p.1)) := iS _ _
theorem i7 (p : Int × Int) : ixE (.p (frD p)) (.p (.int 1)) = .ok (.p (.int p.2)) := i9 _ _ _
section
variable {κ α : Type} [DecidableEq κ]
def iW : List (κ × α) -> κ -> Option α
 | [], _ => none
 | p :: r, k => if p.1 = k then some p.2 else iW r k
def aAo (k : κ) (v : α) : List (κ × α) -> List (κ × α)
 | [] => []
 | p :: r => (if p.1 = k then (p.1, v) else p) :: aAo k v r
def x4 (m : List (κ × α)) (k : κ) (v : α) : List (κ × α) := if (iW m k).isSome = true then aAo k v m else m ++ [(k, v)]
def encM (ek : κ -> D) (ev : α -> D) (m : List (κ × α)) : List (D × D) := m.map fun p => (ek p.1, ev p.2)
variable {ek : κ -> D} {ev : α -> D} (inj : ∀ a b, ek a = ek b -> a = b)
include inj
theorem qQ (k : κ) : ∀ m : List (κ × α), wH (encM ek ev m) (ek k) = (iW m k).map ev
 | [] => rfl
 | p :: r => by
  unfold encM
  rw [List.map_cons]
  unfold wH iW
  by_cases e : p.1 = k
  ·rw [if_pos (by rw [e]), if_pos e]; rfl
  ·rw [if_neg (fun z => e (inj _ _ z)), if_neg e]
   exact qQ k r
theorem xB (k : κ) (v : α) : ∀ m : List (κ × α), aF9 (ek k) (ev v) (encM ek ev m) = encM ek ev (aAo k v m)
 | [] => rfl
 | p :: r => by
  have ih := xB k v r
  unfold encM at ih ⊢
  rw [List.map_cons]
  unfold aF9 aAo
  rw [List.map_cons, ih]
  by_cases e : p.1 = k
  ·rw [if_pos (by rw [e]), if_pos e]
  ·rw [if_neg (fun z => e (inj _ _ z)), if_neg e]
theorem aFm (k : κ) (v : α) (m : List (κ × α)) : aCz (encM ek ev m) (ek k) (ev v) = encM ek ev (x4 m k v) := by
 unfold aCz x4
 rw [qQ inj]
 cases e : iW m k with
 | none =>
  rw [if_neg (by simp), if_neg (by simp)]
  unfold encM
  rw [List.map_append]
  rfl
 | some x =>
  rw [if_pos (by rfl), if_pos (by rfl)]
  exact xB inj k v m
end
theorem jP (a b : Int × Int) (h : slD a = slD b) : a = b := by
 unfold slD at h
 injection h with h
 injection h with h1 h2
 injection h2 with h2 _
 injection h1 with h1
 injection h2 with h2
 exact Prod.ext h1 h2
theorem xQ {α : Type} {ev : α -> D} (m : List ((Int × Int) × α)) : dsp (encM slD ev m) = (false, encM slD ev m) := by
 cases m <;> rfl
theorem aBq (s : Int × Int) : (aJ5 (slD s)).isSome = true := rfl
theorem wO {α : Type} {ev : α -> D} (m : List ((Int × Int) × α)) (s : Int × Int) : u5 (encM slD ev m) (slD s) = some ((iW m s).map ev) := by
 unfold u5
 rw [xQ]
 dsimp only
 rw [if_pos (aBq s), qQ jP]
theorem aJh {α : Type} {ev : α -> D} (m : List ((Int × Int) × α)) (s : Int × Int) (v : α) (h : m.length <= 100000) : aEe (encM slD ev m) (slD s) (ev v) = some (encM slD ev (x4 m s v)) := by
 unfold aEe
 rw [xQ]
 dsimp only
 rw [if_pos ⟨aBq s, by unfold encM; rw [List.length_map]; exact h⟩, aFm jP]
theorem xI {α κ : Type} [DecidableEq κ] (k : κ) (v : α) : ∀ m : List (κ × α), (aAo k v m).length = m.length
 | [] => rfl
 | _ :: r => by unfold aAo; rw [List.length_cons, List.length_cons, xI k v r]
theorem xO {α κ : Type} [DecidableEq κ] (m : List (κ × α)) (k : κ) (v : α) : (x4 m k v).length <= m.length + 1 := by
 unfold x4
 split
 ·rw [xI]; exact Nat.le_succ _
 ·rw [List.length_append]; exact Nat.le_refl _
theorem rS {α κ : Type} [DecidableEq κ] (k : κ) (v : α) (j : κ) : ∀ m : List (κ × α), iW (aAo k v m) j = if j = k then (iW m k).map (fun _ => v) else iW m j
 | [] => by unfold aAo iW; split <;> rfl
 | p :: r => by
  have ih := rS k v j r
  unfold aAo iW
  by_cases e : p.1 = k
  ·rw [if_pos e]
   by_cases e2 : p.1 = j
   ·have : j = k := by rw [<- e2, e]
    rw [if_pos e2, if_pos this, if_pos e]; rfl
   ·have : j ≠ k := fun z => e2 (by rw [e, z])
    rw [if_neg e2, if_neg this, if_neg e2]
    rw [if_neg this] at ih
    exact ih
  ·rw [if_neg e]
   by_cases e2 : p.1 = j
   ·have : j ≠ k := fun z => e (by rw [e2, z])
    rw [if_pos e2, if_neg this, if_pos e2]
   ·rw [if_neg e2, ih]
    by_cases e3 : j = k
    ·rw [if_pos e3, if_pos e3, if_neg e]
    ·rw [if_neg e3, if_neg e3, if_neg e2]
theorem vS {α κ : Type} [DecidableEq κ] (j : κ) (l : List (κ × α)) : ∀ m : List (κ × α), iW (m ++ l) j = match iW m j with
  | some x => some x
  | none => iW l j
 | [] => rfl
 | p :: r => by
  have ih := vS j l r
  rw [List.cons_append]
  show (if p.1 = j then some p.2 else iW (r ++ l) j) = match (if p.1 = j then some p.2 else iW r j) with
   | some x => some x
   | none => iW l j
  by_cases e : p.1 = j
  ·rw [if_pos e, if_pos e]
  ·rw [if_neg e, if_neg e]; exact ih
theorem sF {α κ : Type} [DecidableEq κ] (m : List (κ × α)) (k : κ) (v : α) (j : κ) : iW (x4 m k v) j = if j = k then some v else iW m j := by
 unfold x4
 cases e : iW m k with
 | none =>
  rw [if_neg (by simp), vS]
  by_cases ej : j = k
  ·subst ej; rw [e, if_pos rfl]; unfold iW; rw [if_pos rfl]
  ·rw [if_neg ej]
   cases e2 : iW m j with
   | some x => rfl
   | none => unfold iW; rw [if_neg (fun z => ej z.symm)]; rfl
 | some x =>
  rw [if_pos (by rfl), rS]
  by_cases ej : j = k
  ·rw [if_pos ej, if_pos ej, e]; rfl
  ·rw [if_neg ej, if_neg ej]
def slp (p : Pl) : Int × Int := (p.1, p.2.1)
def kys {α : Type} (m : List ((Int × Int) × α)) : List (List Int) := m.map fun e => [e.1.1, e.1.2]
def un2 (k : List Int) : Int × Int := (k.getD 0 0, k.getD 1 0)
def aK7 {α : Type} (m : List ((Int × Int) × α)) (d : α) (k : List Int) : α := (iW m (un2 k)).getD d
theorem aEh {α : Type} {ev : α -> D} (m : List ((Int × Int) × α)) : (encM slD ev m).map (·.1) = (kys m).map mU := by
 unfold encM kys
 rw [List.map_map, List.map_map]
 rfl
theorem aLx {α : Type} (m : List ((Int × Int) × α)) : ((kys m).all fun k => !k.isEmpty) = true := by
 unfold kys
 rw [List.all_map]
 exact List.all_eq_true.mpr fun _ _ => rfl
theorem aCl {α : Type} {ev : α -> D} (m : List ((Int × Int) × α)) (h : m.length < 64) : gE [.p (.dict (encM slD ev m))] = .ok (.f (.list ((iL (kys m)).map mU))) := by
 unfold gE
 simp only [oQ, xQ, aEh, n8]
 rw [if_pos trivial, if_pos ⟨aLx m, by unfold kys; rw [List.length_map]; exact h⟩]
theorem xA {α κ : Type} [DecidableEq κ] : ∀ {m : List (κ × α)} {e : κ × α}, e ∈ m -> ∃ v, iW m e.1 = some v
 | p :: r, e, h => by
  unfold iW
  by_cases q : p.1 = e.1
  ·rw [if_pos q]; exact ⟨_, rfl⟩
  ·rw [if_neg q]
   rcases List.mem_cons.mp h with z | z
   ·exact absurd (by rw [z]) q
   ·exact xA z
theorem aF0 {α : Type} {m : List ((Int × Int) × α)} {k : List Int} (h : k ∈ iL (kys m)) (d : α) : mU k = slD (un2 k) /\ k = [(un2 k).1, (un2 k).2] /\ iW m (un2 k) = some (aK7 m d k) := by
 have h1 := (cQ (kys m)).mem_iff.mp h
 obtain ⟨e, he, rfl⟩ := List.mem_map.mp h1
 obtain ⟨v, hv⟩ := xA he
 have hu : un2 [e.1.1, e.1.2] = e.1 := rfl
 refine ⟨rfl, rfl, ?_⟩
 unfold aK7
 rw [hu, hv]
 rfl
theorem aM1 {x : Int} (n : Nat) (h : x.natAbs < 2 ^ n) : Sz n x := h
theorem cm {i j : Int} {m n : Nat} (h1 : Sz m i) (h2 : Sz n j) (hm : m <= 60000) (hn : n <= 60000) : CMulW i j := ⟨h1.mono hm, h2.mono hn⟩
theorem b8 {a b : Int} (hb : 0 < b) : 0 <= a.fmod b /\ a.fmod b < b := by
 rw [Int.fmod_eq_emod_of_nonneg a (Int.le_of_lt hb)]
 exact ⟨Int.emod_nonneg a (by omega), Int.emod_lt_of_pos a hb⟩
theorem aK {f g : MS} {en e1 : En} (h : f en = some (.nx e1)) : bP f g en = g e1 := by unfold bP; rw [h]
theorem iC {f g : MS} {en : En} {l : L} (h : f en = some (.rt l)) : bP f g en = some (.rt l) := by unfold bP; rw [h]
theorem cA {i : Nat} {fe : En -> Res Ev} {en : En} {d : D} (h : fe en = .ok (.p d)) : cP i fe en = some (.nx (en.set i (some (.p d)))) := by unfold cP; rw [h]
theorem kL {i : Nat} {fe : En -> Res Ev} {en : En} {d : D} (h : fe en = .ok (.f d)) : cP i fe en = some (.nx (en.set i (some (.o d)))) := by unfold cP; rw [h]
theorem mV {ft : En -> Res Bool} {f g : MS} {en : En} (h : ft en = .ok true) : iD ft f g en = f en := by unfold iD; rw [h]; rfl
theorem jU {ft : En -> Res Bool} {f g : MS} {en : En} (h : ft en = .ok false) : iD ft f g en = g en := by unfold iD; rw [h]; rfl
theorem cY {n : Nat} {f : MS} {ls : List L} {l : L} (h : f (bL n ls) = some (.rt l)) : fY n f ls = .ok l := by unfold fY; rw [h]
theorem aBf {α : Type} (f : α -> D) (h : ∀ a, PyData.canLay0 (f a) = true) : ∀ xs : List α, PyData.canLayAll0 (xs.map f) = true
 | [] => rfl
 | x :: xs => by rw [List.map_cons, PyData.canLayAll0, h x, aBf f h xs]; rfl
theorem zM {α : Type} (f : α -> D) (n : Nat) (h : ∀ a, PyData.depth (f a) <= n) : ∀ xs : List α, PyData.depthAll (xs.map f) <= n
 | [] => Nat.zero_le _
 | x :: xs => by
  rw [List.map_cons, PyData.depthAll]
  exact Nat.max_le.mpr ⟨h x, zM f n h xs⟩
theorem aM3 (p : Pl) : PyData.canLay0 (plD p) = true := by simp [plD, frD, PyData.canLay0, PyData.canLayAll0]
theorem aM7 (p : Pl) : PyData.depth (plD p) <= 9 := by simp [plD, frD, PyData.depth, PyData.depthAll]
theorem aAc {α : Type} (f : α -> D) (h1 : ∀ a, PyData.canLay0 (f a) = true) (h2 : ∀ a, PyData.depth (f a) <= 9) (xs : List α) : SeqAt.shaped (.list (xs.map f)) = true := by
 have a : PyData.canLay0 (.list (xs.map f)) = true := by rw [PyData.canLay0]; exact aBf f h1 xs
 have b : PyData.depth (.list (xs.map f)) <= 64 := by
  rw [PyData.depth]
  have := zM f 9 h2 xs
  omega
 unfold SeqAt.shaped
 rw [a, decide_eq_true b]
 rfl
theorem pV {x y : Ev} {d : D} (h1 : dat x = some d) (h2 : dat y = some d) (hs : SeqAt.shaped d = true) (ng : Bool) : eqE ng x y = .ok (.p (.bool (!ng))) := by
 have hc : PyData.canLay0 d = true := by
  unfold SeqAt.shaped at hs
  exact (Bool.and_eq_true_iff.mp hs).1
 unfold eqE
 rw [h1, h2]
 dsimp only
 rw [if_pos ⟨hs, hs⟩, SeqAt.eqv_refl d hc]
 cases ng <;> rfl
theorem aLd (ps : List Pl) : SeqAt.shaped (.list (ps.map plD)) = true := aAc plD aM3 aM7 ps
theorem l4 {fi : En -> Res (List D)} {tg : D -> En -> Option En} {f : MS} {en : En} {ds : List D} (h : fi en = .ok ds) : v9 fi tg f en = fE tg f ds en := by unfold v9; rw [h]
theorem vW {α : Type} {g : D -> Option (Option D)} {enc : α -> D} {out : α -> D} {p : α -> Bool} : ∀ xs : List α, (∀ x ∈ xs, g (enc x) = some (if p x = true then some (out x) else none)) -> t5 g (xs.map enc) = some ((xs.filter p).map out)
 | [], _ => rfl
 | x :: xs, h => by
  show (match g (enc x) with | none => none | some o => match t5 g (xs.map enc) with | none => none | some r => some (match o with | some y => y :: r | none => r)) = _
  rw [h x (.head _), vW xs fun y hy => h y (.tail _ hy), List.filter_cons]
  cases p x <;> rfl
theorem w5 {α : Type} (f g : α -> D) : ∀ xs : List α, yL (xs.map f) (xs.map g) = xs.map fun x => .tuple [f x, g x]
 | [] => rfl
 | x :: xs => by
  show PyData.tuple [f x, g x] :: yL (xs.map f) (xs.map g) = _
  rw [w5 f g xs]
  rfl
theorem aGv (x y : Int × Int) : PyData.eqv (frD x) (frD y) = decide (x = y) := by
 have : PyData.eqv (frD x) (frD y) = (x.1 == y.1 && (x.2 == y.2 && true)) := by simp [frD, PyData.eqv, PyData.eqvAll]
 rw [this]
 by_cases h : x = y
 ·subst h; simp
 ·rw [decide_eq_false h]
  by_cases h1 : x.1 = y.1
  ·have h2 : ¬ x.2 = y.2 := fun h2 => h (Prod.ext h1 h2)
   simp [h1, h2]
  ·simp [h1]
theorem zT {α : Type} (f : α -> D) (h : ∀ a, lfD (f a) = true) : ∀ xs : List α, lfA (xs.map f) = true
 | [] => by simp [lfA]
 | x :: xs => by rw [List.map_cons]; unfold lfA; rw [h x, zT f h xs]; rfl
theorem aOl (x : Int × Int) : lfD (slD x) = true := by simp [slD, lfD, lfA]
theorem Sz.addM {m n : Nat} {x y : Int} (hx : Sz m x) (hy : Sz n y) : Sz (max m n + 1) (x + y) := Sz.add (hx.mono (Nat.le_max_left _ _)) (hy.mono (Nat.le_max_right _ _))
theorem Sz.subM {m n : Nat} {x y : Int} (hx : Sz m x) (hy : Sz n y) : Sz (max m n + 1) (x - y) := Sz.sub (hx.mono (Nat.le_max_left _ _)) (hy.mono (Nat.le_max_right _ _))
theorem u4 {n : Nat} {a b : Int} (h : 0 < b) (hb : Sz n b) : Sz n (a.fmod b) := by
 have := b8 (a := a) h
 exact Sz.le hb (by omega)
theorem cm2 {m n : Nat} {i j : Int} (h1 : Sz m i) (h2 : Sz n j) (hm : m <= 60000) (hn : n <= 60000) : CMulW i j := ⟨h1.mono hm, h2.mono hn⟩
theorem lM {i j : Int} (h : CMulW i j) : d8 (.p (.int i)) (.p (.int j)) = .ok (.p (.int (i * j))) := by simp [d8, wX, h]
theorem fZ {i j : Int} (h : fI i j) : eU (.p (.int i)) (.p (.int j)) = .ok (.p (.int (i.fdiv j))) := by simp [eU, wX, h]
theorem fW {i j : Int} (h : j ≠ 0) : eS (.p (.int i)) (.p (.int j)) = .ok (.p (.int (i.fmod j))) := by simp [eS, wX, h]
theorem sG {i j : Int} (h : aDq i j) : oV (.p (.int i)) (.p (.int j)) = .ok (.p (.int (i ^ j.toNat))) := by simp [oV, wX, h]
theorem sI (i j : Int) : eK (.p (.int i)) (.p (.int j)) = .ok (.p (.int (i + j))) := by simp [eK]
def eII (a : Int × Int) : List L := [.p (.int a.1), .p (.int a.2)]
theorem uP (a b : Int × Int) (h : eII a = eII b) : a = b := by
 unfold eII at h
 injection h with h1 h2
 injection h2 with h2 _
 injection h1 with h1
 injection h2 with h2
 injection h1 with h1
 injection h2 with h2
 exact Prod.ext h1 h2
theorem aPs {a b : List (Int × Int)} (h : a.map frD = b.map frD) : a = b := by
 have e := congrArg (aMi aNz) h
 rw [kF xG, kF xG] at e
 exact Option.some.inj e
def eFs (hs : List (Int × Int)) : List L := [.p (.list (hs.map frD))]
theorem aG9 (a b : List (Int × Int)) (h : eFs a = eFs b) : a = b := by
 unfold eFs at h
 injection h with h _
 injection h with h
 injection h with h
 exact aPs h
abbrev Pt := (Int × Int) × (Int × Int)
theorem qC {α β : Type} (a : α) (f : α -> Res β) : (Res.ok a).bind f = f a := rfl
theorem aD3 {fe : En -> Res Ev} {en : En} {d : D} (h : fe en = .ok (.f d)) : eA fe en = some (.rt (.o d)) := by unfold eA; rw [h]; rfl
theorem eV {fe : En -> Res Ev} {en : En} {d : D} (h : fe en = .ok (.p d)) : eA fe en = some (.rt (.p d)) := by unfold eA; rw [h]; rfl
theorem aCc {n : Nat} {js : List Nat} {fi : En -> Res (List D)} {tg : D -> En -> Option En} {ft : En -> Res Bool} {fe : En -> Res Ev} {en : En} {ds es : List D} (h1 : fi en = .ok ds) (h2 : ds.length <= 100000) (h3 : t5 (cS n js tg ft fe en) ds = some es) : jH n js fi tg ft fe en = .ok (.f (.list es)) := by
 unfold jH
 rw [h1, qC]
 unfold aAp
 rw [if_pos h2, h3]
theorem vV {tg : D -> En -> Option En} {f : MS} (I : Nat -> En -> Prop) : ∀ (ds : List D) (k : Nat) (en : En), I k en -> (∀ j d e, ds[j]? = some d -> I (k + j) e -> ∃ e1 e2, tg d e = some e1 /\ f e1 = some (.nx e2) /\ I (k + j + 1) e2) -> ∃ e', I (k + ds.length) e' /\ fE tg f ds en = some (.nx e')
 | [], k, en, h, _ => ⟨en, h, rfl⟩
 | d :: ds, k, en, h, st => by
  obtain ⟨e1, e2, h1, h2, h3⟩ := st 0 d en rfl h
  obtain ⟨e', g1, g2⟩ := vV I ds (k + 1) e2 h3 fun j d' e hd hi => by
   have := st (j + 1) d' e hd (by rw [show k + (j + 1) = k + 1 + j by omega]; exact hi)
   rw [show k + (j + 1) + 1 = k + 1 + j + 1 by omega] at this
   exact this
  refine ⟨e', by rw [show k + (d :: ds).length = k + 1 + ds.length by rw [List.length_cons]; omega]; exact g1, ?_⟩
  unfold fE
  rw [h1]
  dsimp only
  rw [h2]
  exact g2
theorem aJk (lo : Int) (n j : Nat) (d : D) (h : (qT lo n)[j]? = some d) : j < n /\ d = .int (lo + (j : Int)) := by
 unfold qT at h
 rw [List.getElem?_map, Option.map_eq_some_iff] at h
 obtain ⟨a, h1, h2⟩ := h
 have q : j < n := by
  by_cases q : j < n
  ·exact q
  ·rw [List.getElem?_eq_none (by simp; omega)] at h1; cases h1
 rw [List.getElem?_range q] at h1
 cases h1
 exact ⟨q, h2.symm⟩
end N
local macro_rules | `(tactic| walk_at "z") => `(tactic| repeat (first | assumption | apply L2.Sz.mul | apply N.Sz.addM | apply N.Sz.subM | apply L2.Sz.neg | apply N.sz_fdiv | (apply N.u4; (first | decide | omega)) | exact N.sz_lit4 (by decide) | exact N.sz_lit (by decide) | exact N.sz_lit70 (by decide) | exact N.sz_big (by decide)))
local macro_rules | `(tactic| walk_at "d") => `(tactic| first | assumption | (first | apply N.cm2 | apply N.cd2) <;> (first | decide | omega | (walk_at "z")) | decide | omega)
namespace N
open PySem PySem.Spec PyProof.Rows L2 M
def leF (x y : Int × Int) : Prop := x.1 * y.2 <= y.1 * x.2
theorem qH (x : Int × Int) : leF x x := Int.le_refl _
theorem aG0 {x y : Int × Int} (h : ltF y x = false) : leF x y := by
 unfold ltF at h
 have := of_decide_eq_false h
 unfold leF
 omega
theorem aLz {x y : Int × Int} (h : ltF x y = true) : leF x y := by
 unfold ltF at h
 have := of_decide_eq_true h
 unfold leF
 omega
theorem j9 {x y z : Int × Int} (hx : 1 <= x.2) (hy : 1 <= y.2) (hz : 1 <= z.2) (h1 : leF x y) (h2 : leF y z) : leF x z := by
 unfold leF at *
 have a := Int.mul_le_mul_of_nonneg_right h1 (show 0 <= z.2 by omega)
 have b := Int.mul_le_mul_of_nonneg_right h2 (show 0 <= x.2 by omega)
 refine Int.le_of_mul_le_mul_right (a := y.2) ?_ (by omega)
 have e1 : x.1 * z.2 * y.2 = x.1 * y.2 * z.2 := by ac_rfl
 have e2 : z.1 * x.2 * y.2 = z.1 * y.2 * x.2 := by ac_rfl
 have e3 : y.1 * x.2 * z.2 = y.1 * z.2 * x.2 := by ac_rfl
 omega
theorem yX {a b d : Int} (h : d ∣ a * b) (g : Int.gcd a d = 1) : d ∣ b := by
 have h1 : d.natAbs ∣ a.natAbs * b.natAbs := by
  rw [<- Int.natAbs_mul]
  exact Int.natAbs_dvd_natAbs.mpr h
 have c : Nat.Coprime d.natAbs a.natAbs := by
  show Nat.gcd d.natAbs a.natAbs = 1
  rw [Nat.gcd_comm]
  exact g
 exact Int.natAbs_dvd_natAbs.mp (Nat.Coprime.dvd_of_dvd_mul_left c h1)
theorem zO {x y : Int × Int} (hx : FR.Fr x) (hy : FR.Fr y) (h1 : leF x y) (h2 : leF y x) : x = y := by
 have e : x.1 * y.2 = y.1 * x.2 := Int.le_antisymm h1 h2
 have p1 := hx.pos
 have p2 := hy.pos
 have d1 : x.2 ∣ y.2 := by
  have : x.2 ∣ x.1 * y.2 := ⟨y.1, by rw [e]; ac_rfl⟩
  exact yX this hx.low
 have d2 : y.2 ∣ x.2 := by
  have : y.2 ∣ y.1 * x.2 := ⟨x.1, by rw [<- e]; ac_rfl⟩
  exact yX this hy.low
 have eb : x.2 = y.2 := Int.dvd_antisymm (by omega) (by omega) d1 d2
 have et : x.1 = y.1 := by
  rw [eb] at e
  exact Int.eq_of_mul_eq_mul_right (by omega) e
 exact Prod.ext et eb
theorem kI : ∀ (xs : List (Int × Int)) (b : Int × Int), best b xs = b \/ best b xs ∈ xs
 | [], b => .inl rfl
 | x :: xs, b => by
  show best (if ltF b x = true then x else b) xs = b \/ best (if ltF b x = true then x else b) xs ∈ x :: xs
  rcases kI xs (if ltF b x = true then x else b) with h | h
  ·rw [h]
   split
   ·exact .inr (.head _)
   ·exact .inl rfl
  ·exact .inr (.tail _ h)
theorem p8 : ∀ (xs : List (Int × Int)) (b : Int × Int), 1 <= b.2 -> (∀ x ∈ xs, 1 <= x.2) -> leF b (best b xs) /\ (∀ x ∈ xs, leF x (best b xs)) /\ 1 <= (best b xs).2
 | [], b, h, _ => ⟨qH b, (fun _ z => nomatch z), h⟩
 | x :: xs, b, h, hx => by
  have hx0 := hx x (.head _)
  have hb2 : 1 <= (if ltF b x = true then x else b).2 := by split <;> assumption
  have g : best b (x :: xs) = best (if ltF b x = true then x else b) xs := rfl
  obtain ⟨i1, i2, i3⟩ := p8 xs (if ltF b x = true then x else b) hb2 fun y hy => hx y (.tail _ hy)
  rw [g]
  have l1 : leF b (if ltF b x = true then x else b) := by
   split
   ·rename_i z; exact aLz z
   ·exact qH b
  have l2 : leF x (if ltF b x = true then x else b) := by
   split
   ·exact qH x
   ·rename_i z; exact aG0 (by simpa using z)
  refine ⟨j9 h hb2 i3 l1 i1, fun y hy => ?_, i3⟩
  rcases List.mem_cons.mp hy with z | z
  ·rw [z]; exact j9 hx0 hb2 i3 l2 i1
  ·exact i2 y z
structure AF (x y : Int × Int) : Prop where
 a : 1 <= x.2
 b : 1 <= y.2
 e : x.1 * y.2 = y.1 * x.2
theorem AF.refl {x : Int × Int} (h : 1 <= x.2) : AF x x := ⟨h, h, rfl⟩
theorem jX {x y : Int} (hx : 1 <= x) (hy : 1 <= y) : 1 <= x * y := by
 have := Int.mul_pos (show 0 < x by omega) (show 0 < y by omega)
 omega
theorem aLb {t b : Int} {y : Int × Int} (hb : 1 <= b) (hy : 1 <= y.2) (h : t * y.2 = y.1 * b) : AF (FR.mk t b) y := by
 obtain ⟨f1, e1⟩ := FR.y9 (t := t) (b := b) (by omega)
 refine ⟨f1.pos, hy, ?_⟩
 have h2 : (FR.mk t b).1 * y.2 * b = y.1 * (FR.mk t b).2 * b := by
  have e3 : (FR.mk t b).1 * y.2 * b = (FR.mk t b).1 * b * y.2 := by ac_rfl
  rw [e3, e1]
  have e4 : t * (FR.mk t b).2 * y.2 = t * y.2 * (FR.mk t b).2 := by ac_rfl
  rw [e4, h]
  ac_rfl
 exact Int.eq_of_mul_eq_mul_right (by omega) h2
theorem aJ9 {i : Int} {x x' : Int × Int} (h : AF x x') : AF (hT i x) (i * x'.1, x'.2) := by
 obtain ⟨a, b, e⟩ := h
 refine aLb (by omega) b ?_
 show i * x.1 * x'.2 = i * x'.1 * (1 * x.2)
 rw [Int.mul_assoc, e, Int.one_mul, Int.mul_assoc]
theorem aNd {x x' y y' : Int × Int} (h : AF x x') (g : AF y y') : AF (hP x y) (x'.1 * y'.2 + y'.1 * x'.2, x'.2 * y'.2) := by
 obtain ⟨a, b, e⟩ := h
 obtain ⟨a2, b2, e2⟩ := g
 refine aLb (jX a a2) (jX b b2) ?_
 show (x.1 * y.2 + y.1 * x.2) * (x'.2 * y'.2) = (x'.1 * y'.2 + y'.1 * x'.2) * (x.2 * y.2)
 rw [Int.add_mul, Int.add_mul]
 have e3 : x.1 * y.2 * (x'.2 * y'.2) = x.1 * x'.2 * (y.2 * y'.2) := by ac_rfl
 have e4 : y.1 * x.2 * (x'.2 * y'.2) = y.1 * y'.2 * (x.2 * x'.2) := by ac_rfl
 rw [e3, e4, e, e2]
 have e5 : x'.1 * x.2 * (y.2 * y'.2) = x'.1 * y'.2 * (x.2 * y.2) := by ac_rfl
 have e6 : y'.1 * y.2 * (x.2 * x'.2) = y'.1 * x'.2 * (x.2 * y.2) := by ac_rfl
 rw [e5, e6]
theorem aO0 {x x' y y' : Int × Int} (h : AF x x') (g : AF y y') : ltF x y = ltF x' y' := by
 obtain ⟨a, b, e⟩ := h
 obtain ⟨a2, b2, e2⟩ := g
 unfold ltF
 have k : (y.1 * x.2 - x.1 * y.2) * (x'.2 * y'.2) = (y'.1 * x'.2 - x'.1 * y'.2) * (x.2 * y.2) := by
  rw [Int.sub_mul, Int.sub_mul]
  have e3 : y.1 * x.2 * (x'.2 * y'.2) = y.1 * y'.2 * (x.2 * x'.2) := by ac_rfl
  have e4 : x.1 * y.2 * (x'.2 * y'.2) = x.1 * x'.2 * (y.2 * y'.2) := by ac_rfl
  rw [e3, e4, e, e2]
  have e5 : y'.1 * y.2 * (x.2 * x'.2) = y'.1 * x'.2 * (x.2 * y.2) := by ac_rfl
  have e6 : x'.1 * x.2 * (y.2 * y'.2) = x'.1 * y'.2 * (x.2 * y.2) := by ac_rfl
  rw [e5, e6]
 have p1 := jX b b2
 have p2 := jX a a2
 have iff : 0 < (y.1 * x.2 - x.1 * y.2) ↔ 0 < (y'.1 * x'.2 - x'.1 * y'.2) := by
  constructor
  ·intro q
   have := Int.mul_pos q (show 0 < x'.2 * y'.2 by omega)
   rw [k] at this
   exact Int.pos_of_mul_pos_left this (by omega)
  ·intro q
   have := Int.mul_pos q (show 0 < x.2 * y.2 by omega)
   rw [<- k] at this
   exact Int.pos_of_mul_pos_left this (by omega)
 rw [decide_eq_decide]
 constructor
 ·intro q; have := iff.mp (by omega); omega
 ·intro q; have := iff.mpr (by omega); omega
abbrev R2 := Int × Int
abbrev R3 := Int × Int × Int
def hM (x y : Int × Int) : Int × Int := FR.mk (x.1 * y.2 - y.1 * x.2) (x.2 * y.2)
def hO (x y : Int × Int) : Int × Int := FR.mk (x.1 * y.2) (x.2 * y.1)
def aHw (l h : R3) : R2 := (l.2.1 * h.1 - h.2.1 * l.1, l.2.1 * h.2.2 - h.2.1 * l.2.2)
def aNn (rows : List R3) : List R2 := (rows.filter fun r => decide (r.2.1 = 0)).map fun r => (r.1, r.2.2)
def aOe (rows : List R3) : List R3 := rows.filter fun r => decide (r.2.1 < 0)
def aPb (highs : List R3) (k : List R2) (l : R3) : List R2 := if 0 < l.2.1 then k ++ highs.map (aHw l) else k
def elim (rows : List R3) : List R2 := rows.foldl (aPb (aOe rows)) (aNn rows)
end N
namespace N
abbrev Q2 := Int × Int
def aI (a b c : Q2) : Int := (b.1 - a.1) * (c.2 - a.2) - (b.2 - a.2) * (c.1 - a.1)
def gI (p : Q2) : List Q2 -> List Q2
 | k1 :: k2 :: r => if aI k2 k1 p <= 0 then gI p (k2 :: r) else k1 :: k2 :: r
 | s => s
def pushS (s : List Q2) (p : Q2) : List Q2 := p :: gI p s
def bD (ps : List Q2) : List Q2 := ps.foldl pushS []
def iN : List Q2 -> List (Q2 × Q2)
 | a :: b :: r => (b, a) :: iN (b :: r)
 | _ => []
def oY : List Q2 -> Prop
 | a :: b :: c :: r => 0 < aI c b a /\ oY (b :: c :: r)
 | _ => True
def yK (l : List Q2) : Prop := l.Pairwise fun a b => a.1 < b.1
theorem x3 {a b : Int} (ha : a <= 0) (hb : 0 <= b) : a * b <= 0 := by
 have := Int.mul_nonneg (show 0 <= -a by omega) hb
 rw [Int.neg_mul] at this
 omega
theorem aBv {a b : Int} (ha : a < 0) (h : a * b <= 0) : 0 <= b := by
 by_cases z : 0 <= b
 ·exact z
 ·have := Int.mul_pos_of_neg_of_neg ha (show b < 0 by omega)
  omega
theorem aMt {a b : Int} (ha : a < 0) (h : a * b < 0) : 0 < b := by
 by_cases z : 0 < b
 ·exact z
 ·have := Int.mul_nonneg_of_nonpos_of_nonpos (Int.le_of_lt ha) (show b <= 0 by omega)
  omega
theorem aDd {a b c p : Q2} (h1 : b.1 < a.1) (h2 : c.1 < b.1) (h3 : p.1 < c.1) (t1 : 0 < aI a b c) (t2 : 0 < aI b c p) : 0 < aI a b p := by
 refine aMt (a := c.1 - b.1) (by omega) ?_
 have e : (c.1 - b.1) * aI a b p = (p.1 - b.1) * aI a b c + (b.1 - a.1) * aI b c p := by unfold aI; grind
 rw [e]
 have x := Int.mul_neg_of_neg_of_pos (show p.1 - b.1 < 0 by omega) t1
 have y := Int.mul_neg_of_neg_of_pos (show b.1 - a.1 < 0 by omega) t2
 omega
theorem zB {k2 k1 p q : Q2} (h1 : k1.1 < k2.1) (h2 : p.1 < k2.1) (hq : q.1 <= k2.1) (l : 0 <= aI k2 k1 q) (t : aI k2 k1 p <= 0) : 0 <= aI k2 p q := by
 refine aBv (a := k1.1 - k2.1) (by omega) ?_
 have e : (k1.1 - k2.1) * aI k2 p q = (p.1 - k2.1) * aI k2 k1 q + (k2.1 - q.1) * aI k2 k1 p := by unfold aI; grind
 rw [e]
 have x := x3 (show p.1 - k2.1 <= 0 by omega) l
 have y := Int.mul_nonpos_of_nonneg_of_nonpos (show 0 <= k2.1 - q.1 by omega) t
 omega
theorem vF {k2 k1 p q : Q2} (h1 : k1.1 < k2.1) (h2 : p.1 < k1.1) (hq : p.1 <= q.1) (l : 0 <= aI k1 p q) (t : aI k2 k1 p <= 0) : 0 <= aI k2 p q := by
 have e : (k1.1 - p.1) * aI k2 p q = (k2.1 - p.1) * aI k1 p q + (q.1 - p.1) * (- aI k2 k1 p) := by unfold aI; grind
 have x := Int.mul_nonneg (show 0 <= k2.1 - p.1 by omega) l
 have y := Int.mul_nonneg (show 0 <= q.1 - p.1 by omega) (show 0 <= - aI k2 k1 p by omega)
 have z : 0 <= (k1.1 - p.1) * aI k2 p q := by rw [e]; omega
 by_cases w : 0 <= aI k2 p q
 ·exact w
 ·have := Int.mul_neg_of_pos_of_neg (show 0 < k1.1 - p.1 by omega) (show aI k2 p q < 0 by omega)
  omega
theorem yE {k' k p q : Q2} (h1 : k.1 < k'.1) (h2 : p.1 < k.1) (hq : k.1 <= q.1) (l : 0 <= aI k' k q) (t : 0 < aI k' k p) : 0 <= aI k p q := by
 have e : (k'.1 - k.1) * aI k p q = (k.1 - p.1) * aI k' k q + (q.1 - k.1) * aI k' k p := by unfold aI; grind
 have x := Int.mul_nonneg (show 0 <= k.1 - p.1 by omega) l
 have y := Int.mul_nonneg (show 0 <= q.1 - k.1 by omega) (Int.le_of_lt t)
 have z : 0 <= (k'.1 - k.1) * aI k p q := by rw [e]; omega
 by_cases w : 0 <= aI k p q
 ·exact w
 ·have := Int.mul_neg_of_pos_of_neg (show 0 < k'.1 - k.1 by omega) (show aI k p q < 0 by omega)
  omega
structure ChI (seen s : List Q2) : Prop where
 sub : s.Sublist seen
 hd : s.head? = seen.head?
 ls : s.getLast? = seen.getLast?
 conv : oY s
 left : ∀ e ∈ iN s, ∀ q ∈ seen, 0 <= aI e.1 e.2 q
theorem fF (p : Q2) : ∀ s : List Q2, gI p s <:+ s
 | [] => by unfold gI; exact List.suffix_refl _
 | [a] => by unfold gI; exact List.suffix_refl _
 | k1 :: k2 :: r => by
  unfold gI
  split
  ·exact (fF p (k2 :: r)).trans (List.suffix_cons _ _)
  ·exact List.suffix_refl _
theorem vZ : ∀ (u t : List Q2), oY (u ++ t) -> oY t
 | [], _, h => h
 | a :: u, t, h => by
  refine vZ u t ?_
  rw [List.cons_append] at h
  revert h
  generalize u ++ t = l
  intro h
  cases l with
  | nil => exact trivial
  | cons b l =>
   cases l with
   | nil => exact trivial
   | cons c r => exact h.2
theorem t7 {s t : List Q2} (h : t <:+ s) (hc : oY s) : oY t := by
 obtain ⟨u, e⟩ := h
 rw [<- e] at hc
 exact vZ u t hc
theorem sA (e : Q2 × Q2) : ∀ (u t : List Q2), e ∈ iN t -> e ∈ iN (u ++ t)
 | [], _, h => h
 | a :: u, t, h => by
  have ih := sA e u t h
  rw [List.cons_append]
  revert ih
  generalize u ++ t = l
  intro ih
  cases l with
  | nil => exact nomatch ih
  | cons b r => exact .tail _ ih
theorem lP {s t : List Q2} (h : t <:+ s) (e : Q2 × Q2) (he : e ∈ iN t) : e ∈ iN s := by
 obtain ⟨u, eu⟩ := h
 rw [<- eu]
 exact sA e u t he
theorem aAu {p : Q2} {seen : List Q2} : ∀ {s : List Q2}, (∀ k ∈ s, p.1 < k.1) -> yK s -> (∀ e ∈ iN s, ∀ q ∈ seen, 0 <= aI e.1 e.2 q) -> (∀ q ∈ seen, p.1 <= q.1) -> (∀ k ∈ s.head?, ∀ q ∈ seen, q.1 <= k.1 -> 0 <= aI k p q) ->
  (∀ k ∈ (gI p s).head?, ∀ q ∈ seen, q.1 <= k.1 -> 0 <= aI k p q) /\ ∀ k1 k2 r, gI p s = k1 :: k2 :: r -> 0 < aI k2 k1 p
 | [], _, _, _, _, h => ⟨by unfold gI; exact h, fun k1 k2 r e => by unfold gI at e; cases e⟩
 | [a], _, _, _, _, h => ⟨by unfold gI; exact h, fun k1 k2 r e => by unfold gI at e; cases e⟩
 | k1 :: k2 :: r, hp, hf, hl, hq, h => by
  unfold gI
  split
  ·rename_i z
   have f := List.pairwise_cons.mp hf
   have f2 : k1.1 < k2.1 := f.1 k2 (.head _)
   refine aAu (fun k hk => hp k (.tail _ hk)) f.2 (fun e he => hl e (.tail _ he)) hq ?_
   intro k hk q hqs hle
   have : k2 = k := by simpa using hk
   subst this
   by_cases c : q.1 <= k1.1
   ·exact vF f2 (hp k1 (.head _)) (hq q hqs) (h k1 rfl q hqs c) z
   ·exact zB f2 (hp k2 (.tail _ (.head _))) hle (hl (k2, k1) (.head _) q hqs) z
  ·rename_i z
   refine ⟨h, fun a b c e => ?_⟩
   injection e with e1 e2
   injection e2 with e2 _
   subst e1 e2
   omega
theorem pM {p : Q2} : ∀ {s : List Q2}, (∀ k ∈ s, p.1 < k.1) -> yK s -> oY s -> (∀ k1 k2 r, s = k1 :: k2 :: r -> 0 < aI k2 k1 p) -> ∀ e ∈ iN s, 0 < aI e.1 e.2 p
 | [], _, _, _, _, e, he => nomatch he
 | [a], _, _, _, _, e, he => nomatch he
 | k1 :: k2 :: r, hp, hf, hc, h, e, he => by
  have f := List.pairwise_cons.mp hf
  rcases List.mem_cons.mp he with z | z
  ·rw [z]; exact h k1 k2 r rfl
  ·refine pM (fun k hk => hp k (.tail _ hk)) f.2 ?_ ?_ e z
   ·match r, hc with
    | [], _ => exact trivial
    | c :: r', hc => exact hc.2
   ·intro a b c e2
    injection e2 with e1 e3
    subst e1
    subst e3
    have g := List.pairwise_cons.mp f.2
    exact aDd (g.1 b (.head _)) (f.1 k2 (.head _)) (hp k1 (.head _)) hc.1 (h k1 k2 (b :: c) rfl)
theorem aDx {l : List Q2} (hf : yK l) {k : Q2} (h : l.getLast? = some k) : ∀ q ∈ l, q.1 <= k.1 := by
 induction l with
 | nil => cases h
 | cons a l ih =>
  intro q hq
  have f := List.pairwise_cons.mp hf
  cases l with
  | nil =>
   have : a = k := by simpa using h
   rw [List.mem_singleton.mp hq, this]
   exact Int.le_refl _
  | cons b r =>
   have h' : (b :: r).getLast? = some k := by simpa using h
   have ih := ih f.2 h'
   rcases List.mem_cons.mp hq with z | z
   ·rw [z]
    have := f.1 b (.head _)
    have := ih b (.head _)
    omega
   ·exact ih q z
theorem aD7 {seen s : List Q2} {p : Q2} (h : ChI seen s) (hn : seen ≠ []) (hf : yK (p :: seen)) : ChI (p :: seen) (pushS s p) := by
 have f := List.pairwise_cons.mp hf
 have fs : yK s := List.Pairwise.sublist h.sub f.2
 have ps : ∀ k ∈ s, p.1 < k.1 := fun k hk => f.1 k (h.sub.subset hk)
 have s0 : s ≠ [] := fun z => by
  have := h.hd
  rw [z] at this
  cases seen with
  | nil => exact hn rfl
  | cons a r => cases this
 obtain ⟨a1, a2⟩ := aAu (p := p) (seen := seen) ps fs h.left (fun q hq => Int.le_of_lt (f.1 q hq)) (fun k hk q hq hle => by
  rw [h.hd] at hk
  cases seen with
  | nil => exact nomatch hk
  | cons b r =>
   have : b = k := by simpa using hk
   subst this
   rcases List.mem_cons.mp hq with z | z
   ·rw [z]; unfold aI; simp
   ·have := (List.pairwise_cons.mp f.2).1 q z
    omega)
 have suf := fF p s
 have fs' : yK (gI p s) := List.Pairwise.sublist suf.sublist fs
 have ps' : ∀ k ∈ gI p s, p.1 < k.1 := fun k hk => ps k (suf.subset hk)
 have cs' := t7 suf h.conv
 have el := pM ps' fs' cs' a2
 have ne : gI p s ≠ [] := by
  intro z
  match s, s0 with
  | [a], _ => unfold gI at z; cases z
  | k1 :: k2 :: r, _ =>
   have : ∀ t : List Q2, t ≠ [] -> gI p t ≠ [] := fun t => by
    induction t with
    | nil => intro h; exact absurd rfl h
    | cons x t ih =>
     intro _
     cases t with
     | nil => unfold gI; exact List.cons_ne_nil _ _
     | cons y t =>
      unfold gI
      split
      ·exact ih (List.cons_ne_nil _ _)
      ·exact List.cons_ne_nil _ _
   exact this _ (List.cons_ne_nil _ _) z
 have lst : (gI p s).getLast? = seen.getLast? := by
  obtain ⟨u, e⟩ := suf
  have e2 := congrArg List.getLast? e
  rw [List.getLast?_append] at e2
  rw [<- h.ls, <- e2]
  cases hg : (gI p s).getLast? with
  | none => exact absurd (List.getLast?_eq_none_iff.mp hg) ne
  | some x => rfl
 refine ⟨(suf.sublist.trans h.sub).cons₂ p, rfl, ?_, ?_, ?_⟩
 ·unfold pushS
  cases hs : gI p s with
  | nil => exact absurd hs ne
  | cons k r =>
   rw [List.getLast?_cons_cons, <- hs, lst]
   cases seen with
   | nil => exact absurd rfl hn
   | cons b t => rw [List.getLast?_cons_cons]
 ·unfold pushS
  match hs : gI p s, cs', a2 with
  | [], _, _ => exact trivial
  | [k], _, _ => exact trivial
  | k1 :: k2 :: r, c, a2 => exact ⟨a2 k1 k2 r rfl, c⟩
 ·intro e he q hq
  unfold pushS at he
  cases hs : gI p s with
  | nil => exact absurd hs ne
  | cons k r =>
   rw [hs] at he
   rcases List.mem_cons.mp he with z | z
   ·rw [z]
    show 0 <= aI k p q
    rcases List.mem_cons.mp hq with y | y
    ·rw [y]; unfold aI; rw [Int.mul_comm]; omega
    ·by_cases c : q.1 <= k.1
     ·exact a1 k (by rw [hs]; rfl) q y c
     ·cases r with
      | nil =>
       have : seen.getLast? = some k := by rw [<- lst, hs]; rfl
       exact absurd (aDx f.2 this q y) c
      | cons k' r =>
       have kk := List.pairwise_cons.mp (show yK (k :: k' :: r) by rw [<- hs]; exact fs')
       have em : ((k', k) : Q2 × Q2) ∈ iN s := lP suf _ (by rw [hs]; exact .head _)
       exact yE (kk.1 k' (.head _)) (ps' k (by rw [hs]; exact .head _)) (by omega) (h.left _ em q y) (a2 k k' r hs)
   ·rcases List.mem_cons.mp hq with y | y
    ·rw [y]; exact Int.le_of_lt (el e (by rw [hs]; exact z))
    ·exact h.left e (lP suf e (by rw [hs]; exact z)) q y
theorem tO : ∀ (ps seen s : List Q2), ChI seen s -> seen ≠ [] -> yK (ps.reverse ++ seen) -> ChI (ps.reverse ++ seen) (ps.foldl pushS s)
 | [], seen, s, h, _, _ => h
 | p :: ps, seen, s, h, hn, hf => by
  rw [List.reverse_cons, List.append_assoc] at hf ⊢
  have hf2 : yK (p :: seen) := (List.pairwise_append.mp hf).2.1
  rw [List.foldl_cons]
  exact tO ps (p :: seen) (pushS s p) (aD7 h hn hf2) (List.cons_ne_nil _ _) hf
theorem aDf {p : Q2} {ps : List Q2} (hf : yK (p :: ps).reverse) : ChI (p :: ps).reverse (bD (p :: ps)) := by
 rw [List.reverse_cons] at hf ⊢
 have h1 : ChI [p] [p] := ⟨List.Sublist.refl _, rfl, rfl, trivial, fun e he => nomatch he⟩
 exact tO ps [p] [p] h1 (List.cons_ne_nil _ _) hf
theorem aOj {x y a b : Int × Int} (hx : FR.Fr x) (hy : FR.Fr y) (h : AF x a) (g : AF y b) (e : a.1 * b.2 = b.1 * a.2) : x = y := by
 have q : x.1 * y.2 = y.1 * x.2 := by
  have e1 := h.e
  have e2 := g.e
  have p := jX h.b g.b
  have z : x.1 * y.2 * (a.2 * b.2) = y.1 * x.2 * (a.2 * b.2) := by grind
  exact Int.eq_of_mul_eq_mul_right (by omega) z
 exact zO hx hy (Int.le_of_eq q) (Int.le_of_eq q.symm)
def ng (x : Int × Int) : Int × Int := hM (0, 1) x
theorem aK5 {p : Pl} {pt : Pt} {a b c : Int × Int} (h1 : AF pt.1 a) (h2 : AF pt.2 b) (h3 : AF p.2.2 c) : AF (hgt p pt) ((p.1 * a.1 * b.2 + p.2.1 * b.1 * a.2) * c.2 + c.1 * (a.2 * b.2), a.2 * b.2 * c.2) := aNd (aNd (aJ9 h1) (aJ9 h2)) h3
def Pos (ps : List Pl) : Prop := ∀ p ∈ ps, 1 <= p.2.2.2
end N
namespace N
def ltQ (a b : Q2) : Prop := a.1 < b.1 \/ (a.1 = b.1 /\ a.2 < b.2)
def phi (M e : Int) (p : Q2) : Q2 := (e * ((2 * M + 1) * p.1 + p.2), e * p.2)
theorem qV {M e : Int} (he : e = 1 \/ e = -1) (a b c : Q2) : aI (phi M e a) (phi M e b) (phi M e c) = (2 * M + 1) * aI a b c := by
 unfold aI phi
 rcases he with z | z <;> subst z <;> grind
theorem aF4 {M : Int} {a b : Q2} (ha : -M <= a.2 /\ a.2 <= M) (hb : -M <= b.2 /\ b.2 <= M) (h : ltQ a b) : (2 * M + 1) * a.1 + a.2 < (2 * M + 1) * b.1 + b.2 := by
 rcases h with h | ⟨h1, h2⟩
 ·have e : (2 * M + 1) * b.1 = (2 * M + 1) * a.1 + (2 * M + 1) * (b.1 - a.1) := by grind
  have k := Int.mul_le_mul_of_nonneg_left (show 1 <= b.1 - a.1 by omega) (show 0 <= 2 * M + 1 by omega)
  omega
 ·rw [h1]
  omega
theorem aAn (p a b : Q2) (r : List Q2) : gI p (a :: b :: r) = if aI b a p <= 0 then gI p (b :: r) else a :: b :: r := by
 conv => lhs; unfold gI
theorem aA7 {M e : Int} (hM : 0 <= M) (he : e = 1 \/ e = -1) (p : Q2) : ∀ s : List Q2, gI (phi M e p) (s.map (phi M e)) = (gI p s).map (phi M e)
 | [] => rfl
 | [a] => rfl
 | a :: b :: r => by
  have t := qV (M := M) he b a p
  have ih := aA7 hM he p (b :: r)
  rw [aAn p a b r]
  have e : gI (phi M e p) ((a :: b :: r).map (phi M e)) = _ := aAn (phi M e p) (phi M e a) (phi M e b) (r.map (phi M e))
  rw [e, t]
  by_cases z : aI b a p <= 0
  ·rw [if_pos z, if_pos (Int.mul_nonpos_of_nonneg_of_nonpos (by omega) z)]
   exact ih
  ·have := Int.mul_pos (show 0 < 2 * M + 1 by omega) (show 0 < aI b a p by omega)
   rw [if_neg z, if_neg (by omega)]
   rfl
theorem sZ {M e : Int} (hM : 0 <= M) (he : e = 1 \/ e = -1) : ∀ (ps s : List Q2), (ps.map (phi M e)).foldl pushS (s.map (phi M e)) = (ps.foldl pushS s).map (phi M e)
 | [], s => rfl
 | p :: ps, s => by
  rw [List.map_cons, List.foldl_cons, List.foldl_cons]
  have : pushS (s.map (phi M e)) (phi M e p) = (pushS s p).map (phi M e) := by
   unfold pushS
   rw [aA7 hM he]
   rfl
  rw [this]
  exact sZ hM he ps _
theorem rV : ∀ (ps s seen : List Q2), s.Sublist seen -> (ps.foldl pushS s).Sublist (ps.reverse ++ seen)
 | [], s, seen, h => h
 | p :: ps, s, seen, h => by
  rw [List.foldl_cons, List.reverse_cons, List.append_assoc]
  exact rV ps _ (p :: seen) (((fF p s).sublist.trans h).cons₂ p)
theorem aCq : ∀ (s : List Q2) (i : Nat) (h : i + 1 < s.length), (s[i + 1], s[i]) ∈ iN s
 | a :: b :: r, 0, _ => .head _
 | a :: b :: r, i + 1, h => .tail _ (aCq (b :: r) i (by simpa using h))
theorem aBl : ∀ (s : List Q2), oY s -> ∀ (i : Nat) (h : i + 2 < s.length), 0 < aI s[i + 2] s[i + 1] s[i]
 | a :: b :: c :: r, hc, 0, _ => hc.1
 | a :: b :: c :: r, hc, i + 1, h => aBl (b :: c :: r) hc.2 i (by simpa using h)
theorem vR (f : Q2 -> Q2) : ∀ (s : List Q2) (a b : Q2), (a, b) ∈ iN s -> (f a, f b) ∈ iN (s.map f)
 | x :: y :: r, a, b, h => by
  rcases List.mem_cons.mp h with z | z
  ·injection z with z1 z2
   rw [z1, z2]
   exact .head _
  ·exact .tail _ (vR f (y :: r) a b z)
theorem xR {M e : Int} (hM : 0 <= M) (he : e = 1 \/ e = -1) : ∀ s : List Q2, oY (s.map (phi M e)) -> oY s
 | [], _ => trivial
 | [_], _ => trivial
 | [_, _], _ => trivial
 | a :: b :: c :: r, h => by
  have t := qV (M := M) he c b a
  have h1 : 0 < aI (phi M e c) (phi M e b) (phi M e a) := h.1
  rw [t] at h1
  refine ⟨?_, xR hM he (b :: c :: r) h.2⟩
  by_cases z : 0 < aI c b a
  ·exact z
  ·have := Int.mul_nonpos_of_nonneg_of_nonpos (show 0 <= 2 * M + 1 by omega) (show aI c b a <= 0 by omega)
   omega
structure Way (P T : List Q2) (lt : Q2 -> Q2 -> Prop) (x y : Q2) : Prop where
 sub : T.Sublist P
 h0 : T.head? = some x
 h1 : T.getLast? = some y
 left : ∀ (i : Nat) (h : i + 1 < T.length), ∀ q ∈ P, 0 <= aI T[i] T[i + 1] q
 conv : ∀ (i : Nat) (h : i + 2 < T.length), 0 < aI T[i] T[i + 1] T[i + 2]
theorem aPn : ∀ ps : List Q2, ∃ M : Int, 0 <= M /\ ∀ p ∈ ps, -M <= p.2 /\ p.2 <= M
 | [] => ⟨0, Int.le_refl _, fun _ h => nomatch h⟩
 | p :: ps => by
  obtain ⟨M, m1, m2⟩ := aPn ps
  refine ⟨M + p.2.natAbs, by omega, fun q hq => ?_⟩
  rcases List.mem_cons.mp hq with z | z
  ·rw [z]; omega
  ·have := m2 q z; omega
theorem aGr {e : Int} (he : e = 1 \/ e = -1) {ps : List Q2} {x y : Q2} (hx : ps.head? = some x) (hy : ps.getLast? = some y) (hs : ps.Pairwise fun a b => if e = 1 then ltQ b a else ltQ a b) : Way ps (bD ps).reverse ltQ x y := by
 obtain ⟨M, hM, hb⟩ := aPn ps
 cases ps with
 | nil => cases hx
 | cons p ps =>
 have hx : p = x := by simpa using hx
 subst hx
 have cp := sZ hM he (p :: ps) []
 have cp : bD ((p :: ps).map (phi M e)) = (bD (p :: ps)).map (phi M e) := cp
 have fl : yK ((p :: ps).map (phi M e)).reverse := by
  unfold yK
  rw [List.pairwise_reverse, List.pairwise_map]
  refine List.Pairwise.imp_of_mem (fun {a b} ha hb' w => ?_) hs
  have na := hb a ha
  have nb := hb b hb'
  unfold phi
  dsimp only
  rcases he with z | z
  ·rw [if_pos z] at w
   have := aF4 nb na w
   rw [z]
   omega
  ·rw [if_neg (by omega)] at w
   have := aF4 na nb w
   rw [z]
   omega
 have ch := aDf (p := phi M e p) (ps := ps.map (phi M e)) fl
 have ch : ChI (((p :: ps).map (phi M e)).reverse) (bD ((p :: ps).map (phi M e))) := ch
 rw [cp] at ch
 have sb := rV (p :: ps) [] [] (List.Sublist.refl _)
 rw [List.append_nil] at sb
 have sb : (bD (p :: ps)).Sublist (p :: ps).reverse := sb
 have lenT : (bD (p :: ps)).reverse.length = (bD (p :: ps)).length := List.length_reverse
 refine ⟨?_, ?_, ?_, fun i h q hq => ?_, fun i h => ?_⟩
 ·have := List.reverse_sublist.mpr sb
  rw [List.reverse_reverse] at this
  exact this
 ·have := ch.ls
  rw [List.getLast?_map, List.getLast?_reverse, List.map_cons, List.head?_cons] at this
  rw [List.head?_reverse]
  cases q : (bD (p :: ps)).getLast? with
  | none => rw [q] at this; cases this
  | some z =>
   rw [q] at this
   have e1 : phi M e z = phi M e p := Option.some.inj this
   unfold phi at e1
   injection e1 with e2 e3
   have e3 : z.2 = p.2 := by rcases he with w | w <;> rw [w] at e3 <;> omega
   have e4 : (2 * M + 1) * z.1 = (2 * M + 1) * p.1 := by rcases he with w | w <;> rw [w] at e2 <;> omega
   have := Int.eq_of_mul_eq_mul_left (show 2 * M + 1 ≠ 0 by omega) e4
   rw [Prod.ext this e3]
 ·rw [List.getLast?_reverse, <- hy]
  have := ch.hd
  rw [List.head?_map, List.head?_reverse, List.getLast?_map, hy] at this
  cases q : (bD (p :: ps)).head? with
  | none => rw [q] at this; cases this
  | some z =>
   rw [q] at this
   have e1 : phi M e z = phi M e y := Option.some.inj this
   unfold phi at e1
   injection e1 with e2 e3
   have e3 : z.2 = y.2 := by rcases he with w | w <;> rw [w] at e3 <;> omega
   have e4 : (2 * M + 1) * z.1 = (2 * M + 1) * y.1 := by rcases he with w | w <;> rw [w] at e2 <;> omega
   have := Int.eq_of_mul_eq_mul_left (show 2 * M + 1 ≠ 0 by omega) e4
   rw [Prod.ext this e3, hy]
 ·rw [List.length_reverse] at h
  rw [List.getElem_reverse, List.getElem_reverse]
  have em := aCq (bD (p :: ps)) ((bD (p :: ps)).length - 1 - (i + 1)) (by omega)
  have ee := vR (phi M e) _ _ _ em
  have := ch.left _ ee (phi M e q) (List.mem_reverse.mpr (List.mem_map.mpr ⟨q, hq, rfl⟩))
  dsimp only at this
  rw [qV he] at this
  have i1 : (bD (p :: ps)).length - 1 - (i + 1) + 1 = (bD (p :: ps)).length - 1 - i := by omega
  simp only [i1] at this
  by_cases z : 0 <= aI (bD (p :: ps))[(bD (p :: ps)).length - 1 - i] (bD (p :: ps))[(bD (p :: ps)).length - 1 - (i + 1)] q
  ·exact z
  ·have := Int.mul_neg_of_pos_of_neg (show 0 < 2 * M + 1 by omega) (Int.not_le.mp z)
   omega
 ·rw [List.length_reverse] at h
  rw [List.getElem_reverse, List.getElem_reverse, List.getElem_reverse]
  have cv := aBl _ (xR hM he _ ch.conv) ((bD (p :: ps)).length - 1 - (i + 2)) (by omega)
  have i1 : (bD (p :: ps)).length - 1 - (i + 2) + 1 = (bD (p :: ps)).length - 1 - (i + 1) := by omega
  have i2 : (bD (p :: ps)).length - 1 - (i + 2) + 2 = (bD (p :: ps)).length - 1 - i := by omega
  simp only [i1, i2] at cv
  exact cv
def LP (a1 a2 : Int) : Prop := 0 < a1 \/ (a1 = 0 /\ 0 < a2)
theorem aH4 {a1 a2 b1 b2 s t : Int} (ha : LP a1 a2) (hb : LP b1 b2) (hs : s <= 0) (ht : 0 <= t) (e1 : t * a1 = s * b1) (e2 : t * a2 = s * b2) : s = 0 := by
 by_cases z : s = 0
 ·exact z
 have hs : s < 0 := by omega
 have h0 : t = 0 \/ 0 < t := by omega
 rcases h0 with h | h
 ·subst h
  rw [Int.zero_mul] at e1 e2
  rcases hb with b | ⟨b, b'⟩
  ·have := Int.mul_neg_of_neg_of_pos hs b
   omega
  ·have := Int.mul_neg_of_neg_of_pos hs b'
   omega
 ·rcases ha with a | ⟨a, a'⟩
  ·have p := Int.mul_pos h a
   have : s * b1 <= 0 := Int.mul_nonpos_of_nonpos_of_nonneg (Int.le_of_lt hs) (by rcases hb with b | ⟨b, _⟩ <;> omega)
   omega
  ·have p := Int.mul_pos h a'
   subst a
   rw [Int.mul_zero] at e1
   have b0 : b1 = 0 := by
    rcases Int.mul_eq_zero.mp e1.symm with w | w
    ·omega
    ·exact w
   rcases hb with b | ⟨b, b'⟩
   ·omega
   ·have := Int.mul_neg_of_neg_of_pos hs b'
    omega
theorem aFd {a1 a2 c1 c2 f1 f2 p q r : Int} (ha : LP a1 a2) (hc : LP c1 c2) (hf : LP f1 f2) (hp : 0 <= p) (hq : 0 < q) (hr : 0 <= r) (e1 : p * c1 + q * f1 + r * a1 = 0) (e2 : p * c2 + q * f2 + r * a2 = 0) : False := by
 have ge : ∀ {x y s : Int}, LP x y -> 0 <= s -> 0 <= s * x /\ (s * x = 0 -> 0 <= s * y) := fun {x y s} h hs => by
  rcases h with h | ⟨h, h'⟩
  ·refine ⟨Int.mul_nonneg hs (Int.le_of_lt h), fun e => ?_⟩
   rcases Int.mul_eq_zero.mp e with w | w
   ·rw [w, Int.zero_mul]; exact Int.le_refl _
   ·omega
  ·rw [h, Int.mul_zero]
   exact ⟨Int.le_refl _, fun _ => Int.mul_nonneg hs (Int.le_of_lt h')⟩
 have g1 := ge hc hp
 have g2 := ge hf (Int.le_of_lt hq)
 have g3 := ge ha hr
 have z1 := g1.2 (by omega)
 have z3 := g3.2 (by omega)
 have z2 : q * f1 = 0 := by omega
 have f0 : f1 = 0 := by
  rcases Int.mul_eq_zero.mp z2 with w | w
  ·omega
  ·exact w
 rcases hf with b | ⟨b, b'⟩
 ·omega
 ·have := Int.mul_pos hq b'
  omega
theorem vH {a b : Q2} (h : ltQ a b) : LP (b.1 - a.1) (b.2 - a.2) := by
 rcases h with h | ⟨h, h'⟩
 ·exact .inl (by omega)
 ·exact .inr (by omega)
theorem aGo {e : Int} (he : e = 1 \/ e = -1) {u y v q x : Q2} (hu : LP (e * (y.1 - u.1)) (e * (y.2 - u.2))) (hv : LP (e * (y.1 - v.1)) (e * (y.2 - v.2))) (h0 : aI u y v = 0) (q1 : 0 <= aI u y q) (q2 : 0 <= aI y v q) (x1 : 0 <= aI u y x) (x2 : 0 <= aI y v x) : aI x y q = 0 := by
 have key : ∀ w : Q2, 0 <= aI u y w -> 0 <= aI y v w -> aI u y w = 0 := fun w w1 w2 => by
  have := aH4 hu hv (s := - aI u y w) (t := aI y v w) (by omega) w2 (by unfold aI at h0 ⊢; grind) (by unfold aI at h0 ⊢; grind)
  omega
 have kq := key q q1 q2
 have kx := key x x1 x2
 have e1 : aI x y q * (y.1 - u.1) = 0 := by unfold aI at kq kx ⊢; grind
 have e2 : aI x y q * (y.2 - u.2) = 0 := by unfold aI at kq kx ⊢; grind
 rcases Int.mul_eq_zero.mp e1 with w | w
 ·exact w
 rcases Int.mul_eq_zero.mp e2 with w' | w'
 ·exact w'
 rw [w, w', Int.mul_zero] at hu
 rcases hu with h | ⟨_, h⟩ <;> omega
theorem aCe {x y p q : Q2} (hxy : x ≠ y) (hp : aI x y p = 0) (hq : aI x y q = 0) : aI x p q = 0 /\ aI y p q = 0 := by
 have d : y.1 - x.1 = 0 -> y.2 - x.2 = 0 -> False := fun h1 h2 => hxy (Prod.ext (by omega) (by omega))
 have e1 : aI x p q * (y.1 - x.1) = 0 := by unfold aI at hp hq ⊢; grind
 have e2 : aI x p q * (y.2 - x.2) = 0 := by unfold aI at hp hq ⊢; grind
 have e3 : aI y p q * (y.1 - x.1) = 0 := by unfold aI at hp hq ⊢; grind
 have e4 : aI y p q * (y.2 - x.2) = 0 := by unfold aI at hp hq ⊢; grind
 refine ⟨?_, ?_⟩
 ·rcases Int.mul_eq_zero.mp e1 with w | w
  ·exact w
  rcases Int.mul_eq_zero.mp e2 with w' | w'
  ·exact w'
  exact (d w w').elim
 ·rcases Int.mul_eq_zero.mp e3 with w | w
  ·exact w
  rcases Int.mul_eq_zero.mp e4 with w' | w'
  ·exact w'
  exact (d w w').elim
theorem apart {p a c f : Q2} (ha : ltQ a p) (hc : ltQ p c) (hf : ltQ p f) (h1 : 0 < aI a p c) (h2 : 0 <= aI f p a) (h3 : 0 <= aI f p c) : False := by
 refine aFd (p := aI f p a) (q := aI a p c) (r := aI f p c) (vH ha) (vH hc) (vH hf) h2 h1 h3 ?_ ?_ <;> unfold aI <;> grind
theorem kC (x y q : Q2) : aI y x q = - aI x y q := by unfold aI; grind
theorem zZ (x q : Q2) : aI x x q = 0 := by unfold aI; grind
def pr (R : List Q2) (k d : Nat) : Q2 := R.getD (if k < d then R.length + k - d else k - d) (0, 0)
structure RingOk (R ps : List Q2) (x : Q2) : Prop where
 len : 3 <= R.length
 h0 : R.getD 0 (0, 0) = x
 nd : R.Nodup
 sub : ∀ p ∈ R, p ∈ ps
 conv : ∀ k, k < R.length -> 0 < aI (pr R k 2) (pr R k 1) (R.getD k (0, 0))
 left : ∀ k, k < R.length -> ∀ q ∈ ps, 0 <= aI (pr R k 1) (R.getD k (0, 0)) q
theorem n9 {a b : Q2} (h : ltQ a b) : a ≠ b := fun e => by
 subst e
 rcases h with h | ⟨_, h⟩ <;> omega
theorem getD_get {T : List Q2} {i : Nat} (h : i < T.length) : T.getD i (0, 0) = T[i] := by
 rw [List.getD_eq_getElem?_getD, List.getElem?_eq_getElem h]
 rfl
theorem kP {lt : Q2 -> Q2 -> Prop} {T : List Q2} (h : T.Pairwise lt) {i j : Nat} (hij : i < j) (hj : j < T.length) : lt (T.getD i (0, 0)) (T.getD j (0, 0)) := by
 rw [getD_get (Nat.lt_trans hij hj), getD_get hj]
 exact List.pairwise_iff_getElem.mp h i j (Nat.lt_trans hij hj) hj hij
theorem u6 {P T : List Q2} {lt : Q2 -> Q2 -> Prop} {x y : Q2} (w : Way P T lt x y) (hxy : x ≠ y) : 2 <= T.length /\ T.getD 0 (0, 0) = x /\ T.getD (T.length - 1) (0, 0) = y := by
 have h0 := w.h0
 have h1 := w.h1
 match T, h0, h1 with
 | [a], h0, h1 => exact absurd ((Option.some.inj h0).symm.trans (Option.some.inj h1)) hxy
 | a :: b :: r, h0, h1 =>
  refine ⟨by simp, Option.some.inj h0, ?_⟩
  rw [List.getLast?_eq_getElem?] at h1
  rw [List.getD_eq_getElem?_getD, h1]
  rfl
theorem aIx {ps T B : List Q2} {x y : Q2} (hs : ps.Pairwise ltQ) (wt : Way ps T ltQ x y) (wb : Way ps.reverse B ltQ y x) (hxy : x ≠ y) (hf : ∃ q ∈ ps, aI x y q ≠ 0) : RingOk (T.dropLast ++ B.dropLast) ps x := by
 obtain ⟨m2, t0, t1⟩ := u6 wt hxy
 obtain ⟨n2, b0, b1⟩ := u6 wb (fun e => hxy e.symm)
 have pt : T.Pairwise ltQ := hs.sublist wt.sub
 have pb : B.Pairwise fun a b => ltQ b a := (List.pairwise_reverse.mpr hs).sublist wb.sub
 have mT : ∀ {i}, i < T.length -> T.getD i (0, 0) ∈ ps := fun {i} h => wt.sub.subset (by rw [getD_get h]; exact List.getElem_mem h)
 have mB : ∀ {i}, i < B.length -> B.getD i (0, 0) ∈ ps := fun {i} h => List.mem_reverse.mp (wb.sub.subset (by rw [getD_get h]; exact List.getElem_mem h))
 have eT : ∀ {i}, i + 1 < T.length -> ∀ q ∈ ps, 0 <= aI (T.getD i (0, 0)) (T.getD (i + 1) (0, 0)) q := fun {i} h q hq => by
  rw [getD_get h, getD_get (Nat.lt_of_succ_lt h)]
  exact wt.left i h q hq
 have eB : ∀ {i}, i + 1 < B.length -> ∀ q ∈ ps, 0 <= aI (B.getD i (0, 0)) (B.getD (i + 1) (0, 0)) q := fun {i} h q hq => by
  rw [getD_get h, getD_get (Nat.lt_of_succ_lt h)]
  exact wb.left i h q (List.mem_reverse.mpr hq)
 have cT : ∀ {i}, i + 2 < T.length -> 0 < aI (T.getD i (0, 0)) (T.getD (i + 1) (0, 0)) (T.getD (i + 2) (0, 0)) := fun {i} h => by
  rw [getD_get h, getD_get (show i + 1 < T.length by omega), getD_get (show i < T.length by omega)]
  exact wt.conv i h
 have cB : ∀ {i}, i + 2 < B.length -> 0 < aI (B.getD i (0, 0)) (B.getD (i + 1) (0, 0)) (B.getD (i + 2) (0, 0)) := fun {i} h => by
  rw [getD_get h, getD_get (show i + 1 < B.length by omega), getD_get (show i < B.length by omega)]
  exact wb.conv i h
 have mx : x ∈ ps := t0 ▸ mT (by omega)
 have my : y ∈ ps := b0 ▸ mB (by omega)
 obtain ⟨q, hq, hne⟩ := hf
 have len : 3 <= T.length - 1 + (B.length - 1) := by
  by_cases z : 3 <= T.length - 1 + (B.length - 1)
  ·exact z
  have e1 : T.length = 2 := by omega
  have e2 : B.length = 2 := by omega
  have a := eT (i := 0) (by omega) q hq
  have b := eB (i := 0) (by omega) q hq
  rw [e1] at t1
  rw [e2] at b1
  have t1 : T.getD (0 + 1) (0, 0) = y := t1
  have b1 : B.getD (0 + 1) (0, 0) = x := b1
  rw [t0, t1] at a
  rw [b0, b1] at b
  rw [kC] at b
  omega
 have cy : 0 < aI (T.getD (T.length - 2) (0, 0)) y (B.getD 1 (0, 0)) := by
  have l1 := eT (i := T.length - 2) (by omega)
  have l2 := eB (i := 0) (by omega)
  rw [show T.length - 2 + 1 = T.length - 1 by omega, t1] at l1
  rw [b0] at l2
  have l0 := l1 _ (mB (i := 1) (by omega))
  by_cases z : aI (T.getD (T.length - 2) (0, 0)) y (B.getD 1 (0, 0)) = 0
  ·have u := kP pt (show T.length - 2 < T.length - 1 by omega) (by omega)
   have v := kP pb (show 0 < 1 by omega) (show 1 < B.length by omega)
   rw [t1] at u
   rw [b0] at v
   exact absurd (aGo (e := 1) (.inl rfl) (by simpa using vH u) (by simpa using vH v) z (l1 q hq) (l2 q hq) (l1 x mx) (l2 x mx)) hne
  ·omega
 have cx : 0 < aI (B.getD (B.length - 2) (0, 0)) x (T.getD 1 (0, 0)) := by
  have l1 := eB (i := B.length - 2) (by omega)
  have l2 := eT (i := 0) (by omega)
  rw [show B.length - 2 + 1 = B.length - 1 by omega, b1] at l1
  rw [t0] at l2
  have l0 := l1 _ (mT (i := 1) (by omega))
  by_cases z : aI (B.getD (B.length - 2) (0, 0)) x (T.getD 1 (0, 0)) = 0
  ·have u := kP pb (show B.length - 2 < B.length - 1 by omega) (by omega)
   have v := kP pt (show 0 < 1 by omega) (show 1 < T.length by omega)
   rw [b1] at u
   rw [t0] at v
   have u := vH u
   have v := vH v
   have n : ∀ a b : Int, -1 * (a - b) = b - a := fun a b => by omega
   have := aGo (e := -1) (.inr rfl) (by rw [n, n]; exact u) (by rw [n, n]; exact v) z (l1 q hq) (l2 q hq) (l1 y my) (l2 y my)
   rw [kC] at this
   omega
  ·omega
 have hR : (T.dropLast ++ B.dropLast).length = T.length - 1 + (B.length - 1) := by simp
 have gt : ∀ i, i < T.length -> (T.dropLast ++ B.dropLast).getD i (0, 0) = T.getD i (0, 0) := fun i h => by
  by_cases z : i < T.length - 1
  ·rw [List.getD_eq_getElem?_getD, List.getElem?_append_left (by simpa using z), List.getElem?_dropLast, if_pos z]
   rfl
  ·have e : i = T.length - 1 := by omega
   rw [e, t1, List.getD_eq_getElem?_getD, List.getElem?_append_right (by simp), List.length_dropLast, Nat.sub_self, List.getElem?_dropLast, if_pos (by omega), <- b0]
   rfl
 have gb : ∀ j, j < B.length - 1 -> (T.dropLast ++ B.dropLast).getD (T.length - 1 + j) (0, 0) = B.getD j (0, 0) := fun j h => by
  rw [List.getD_eq_getElem?_getD, List.getElem?_append_right (by simp), List.length_dropLast, Nat.add_sub_cancel_left, List.getElem?_dropLast, if_pos h]
  rfl
 let g : Nat -> Q2 := fun i => if i < T.length then T.getD i (0, 0) else B.getD (i - (T.length - 1)) (0, 0)
 have g1 : ∀ i, i < T.length -> g i = T.getD i (0, 0) := fun i h => if_pos h
 have g2 : ∀ j, g (T.length - 1 + j) = B.getD j (0, 0) := fun j => by
  show (if _ then _ else _) = _
  by_cases z : j = 0
  ·rw [z, if_pos (by omega), Nat.add_zero, t1, b0]
  ·rw [if_neg (by omega), Nat.add_sub_cancel_left]
 have gR : ∀ i, i < T.length - 1 + (B.length - 1) -> (T.dropLast ++ B.dropLast).getD i (0, 0) = g i := fun i h => by
  by_cases z : i < T.length
  ·rw [gt i z, g1 i z]
  ·rw [show i = T.length - 1 + (i - (T.length - 1)) by omega, gb _ (by omega), g2]
 have gl : g (T.length - 1 + (B.length - 1)) = x := by rw [g2, b1]
 have g0 : g 0 = x := by rw [g1 0 (by omega), t0]
 have A : ∀ i, i + 2 <= T.length - 1 + (B.length - 1) -> 0 < aI (g i) (g (i + 1)) (g (i + 2)) := fun i h => by
  by_cases z : i + 2 < T.length
  ·rw [g1 _ z, g1 _ (by omega), g1 _ (by omega)]
   exact cT z
  ·by_cases z' : i + 2 = T.length
   ·have q1 := g1 i (by omega)
    have q2 := g1 (i + 1) (by omega)
    have q3 := g2 1
    rw [show T.length - 1 + 1 = i + 2 by omega] at q3
    rw [q1, q2, q3, show i = T.length - 2 by omega, show T.length - 2 + 1 = T.length - 1 by omega, t1]
    exact cy
   ·obtain ⟨j, rfl⟩ : ∃ j, i = T.length - 1 + j := ⟨i - (T.length - 1), by omega⟩
    rw [Nat.add_assoc, Nat.add_assoc, g2, g2, g2]
    exact cB (by omega)
 have E : ∀ i, i + 1 <= T.length - 1 + (B.length - 1) -> ∀ q ∈ ps, 0 <= aI (g i) (g (i + 1)) q := fun i h q hq => by
  by_cases z : i + 1 < T.length
  ·rw [g1 _ z, g1 _ (by omega)]
   exact eT z q hq
  ·obtain ⟨j, rfl⟩ : ∃ j, i = T.length - 1 + j := ⟨i - (T.length - 1), by omega⟩
   rw [Nat.add_assoc, g2, g2]
   exact eB (by omega) q hq
 refine ⟨by omega, by rw [gR 0 (by omega), g0], ?_, ?_, fun k hk => ?_, fun k hk q hq => ?_⟩
 ·have ndT : T.Nodup := pt.imp n9
  have ndB : B.Nodup := pb.imp fun h => (n9 h).symm
  refine List.nodup_append.mpr ⟨ndT.sublist (List.dropLast_sublist _), ndB.sublist (List.dropLast_sublist _), fun a ha b hb e => ?_⟩
  subst e
  obtain ⟨i, hi, ei⟩ := List.getElem_of_mem ha
  obtain ⟨j, hj, ej⟩ := List.getElem_of_mem hb
  rw [List.length_dropLast] at hi hj
  rw [List.getElem_dropLast] at ei ej
  have ei : T.getD i (0, 0) = a := (getD_get (by omega)).trans ei
  have ej : B.getD j (0, 0) = a := (getD_get (by omega)).trans ej
  have i0 : 0 < i := Nat.pos_of_ne_zero fun z => by
   subst z
   have := n9 (kP pb (show j < B.length - 1 by omega) (by omega))
   rw [b1, ej] at this
   exact this (t0.symm.trans ei)
  have j0 : 0 < j := Nat.pos_of_ne_zero fun z => by
   subst z
   have := n9 (kP pt (show i < T.length - 1 by omega) (by omega))
   rw [t1, ei] at this
   exact this (ej.symm.trans b0)
  have c1 := cT (i := i - 1) (by omega)
  have o1 := kP pt (show i - 1 < i by omega) (by omega)
  have o2 := kP pt (show i < i + 1 by omega) (by omega)
  have o3 := kP pb (show j - 1 < j by omega) (by omega)
  have l1 := eB (i := j - 1) (by omega) _ (mT (i := i - 1) (by omega))
  have l2 := eB (i := j - 1) (by omega) _ (mT (i := i + 1) (by omega))
  rw [show i - 1 + 1 = i by omega, show i - 1 + 2 = i + 1 by omega, ei] at c1
  rw [show j - 1 + 1 = j by omega, ej] at l1 l2
  rw [ei] at o1 o2
  rw [ej] at o3
  exact apart o1 o2 o3 c1 l1 l2
 ·intro p hp
  rcases List.mem_append.mp hp with z | z
  ·exact wt.sub.subset ((List.dropLast_sublist _).subset z)
  ·exact List.mem_reverse.mp (wb.sub.subset ((List.dropLast_sublist _).subset z))
 ·rw [hR] at hk
  unfold pr
  rw [hR, gR k hk]
  by_cases k0 : k = 0
  ·subst k0
   rw [if_pos (by omega), if_pos (by omega), gR _ (by omega), gR _ (by omega), g0, <- gl]
   have := A (T.length - 1 + (B.length - 1) - 2) (by omega)
   rw [show T.length - 1 + (B.length - 1) - 2 + 1 = T.length - 1 + (B.length - 1) + 0 - 1 by omega, show T.length - 1 + (B.length - 1) - 2 + 2 = T.length - 1 + (B.length - 1) by omega] at this
   exact this
  ·by_cases k1 : k = 1
   ·subst k1
    rw [if_pos (by omega), if_neg (by omega), gR _ (by omega), gR _ (by omega), g0, show T.length - 1 + (B.length - 1) + 1 - 2 = T.length - 1 + (B.length - 2) by omega, g2, g1 1 (by omega)]
    exact cx
   ·rw [if_neg (by omega), if_neg (by omega), gR _ (by omega), gR _ (by omega)]
    have := A (k - 2) (by omega)
    rw [show k - 2 + 1 = k - 1 by omega, show k - 2 + 2 = k by omega] at this
    exact this
 ·rw [hR] at hk
  unfold pr
  rw [hR, gR k hk]
  by_cases k0 : k = 0
  ·subst k0
   rw [if_pos (by omega), gR _ (by omega), g0, <- gl]
   have := E (T.length - 1 + (B.length - 1) - 1) (by omega) q hq
   rw [show T.length - 1 + (B.length - 1) - 1 + 1 = T.length - 1 + (B.length - 1) by omega] at this
   exact this
  ·rw [if_neg (by omega), gR _ (by omega)]
   have := E (k - 1) (by omega) q hq
   rw [show k - 1 + 1 = k by omega] at this
   exact this
theorem vP {P T : List Q2} {lt : Q2 -> Q2 -> Prop} {x y : Q2} (w : Way P T lt x y) (hxy : x ≠ y) (hf : ∀ q ∈ P, aI x y q = 0) : T = [x, y] := by
 obtain ⟨m2, t0, t1⟩ := u6 w hxy
 match T, w, m2, t0, t1 with
 | [a, b], _, _, t0, t1 =>
  have t0 : a = x := t0
  have t1 : b = y := t1
  rw [t0, t1]
 | a :: b :: c :: r, w, _, t0, _ =>
  have t0 : a = x := t0
  have := w.conv 0 (by simp)
  have this : 0 < aI a b c := this
  rw [t0, (aCe hxy (hf b (w.sub.subset (.tail _ (.head _)))) (hf c (w.sub.subset (.tail _ (.tail _ (.head _)))))).1] at this
  omega
def gK (ps : List Q2) : List Q2 := if ps.length = 1 then ps else (bD ps).reverse.dropLast ++ (bD ps.reverse).reverse.dropLast
theorem aBa {ps : List Q2} {x y : Q2} (hs : ps.Pairwise ltQ) (hx : ps.head? = some x) (hy : ps.getLast? = some y) : if ∀ q ∈ ps, aI x y q = 0 then gK ps = if x = y then [x] else [x, y] else RingOk (gK ps) ps x := by
 match ps, hs, hx, hy with
 | [p], _, hx, hy =>
  have hx : p = x := Option.some.inj hx
  have hy : p = y := Option.some.inj hy
  subst hx
  subst hy
  rw [if_pos (fun q hq => by exact zZ _ _), if_pos rfl]
  rfl
 | p :: p' :: r, hs, hx, hy =>
  have hxy : x ≠ y := by
   have hx : p = x := Option.some.inj hx
   subst hx
   have hm : y ∈ p' :: r := by
    rw [List.getLast?_cons_cons] at hy
    exact List.mem_of_getLast? hy
   exact n9 (List.rel_of_pairwise_cons hs hm)
  have wt := aGr (e := -1) (.inr rfl) hx hy (by simpa using hs)
  have wb := aGr (e := 1) (.inl rfl) (ps := (p :: p' :: r).reverse) (x := y) (y := x) (by rw [List.head?_reverse]; exact hy) (by rw [List.getLast?_reverse]; exact hx) (by rw [List.pairwise_reverse]; exact hs.imp fun h => by rw [if_pos rfl]; exact h)
  have eh : gK (p :: p' :: r) = (bD (p :: p' :: r)).reverse.dropLast ++ (bD (p :: p' :: r).reverse).reverse.dropLast := if_neg (by simp)
  by_cases z : ∀ q ∈ p :: p' :: r, aI x y q = 0
  ·rw [if_pos z, if_neg hxy, eh, vP wt hxy z, vP wb (fun e => hxy e.symm) (fun q hq => by
    have := z q (List.mem_reverse.mp hq)
    rw [kC]
    omega)]
   rfl
  ·rw [if_neg z, eh]
   refine aIx hs wt wb hxy ?_
   by_cases w : ∃ q ∈ p :: p' :: r, aI x y q ≠ 0
   ·exact w
   ·exact absurd (fun q hq => Decidable.byContradiction fun h => w ⟨q, hq, h⟩) z
end N
namespace N
def edg (R : List Q2) : List (Q2 × Q2) := (List.range R.length).map fun k => (pr R k 1, R.getD k (0, 0))
theorem aN2 {R : List Q2} {k : Nat} (hk : k < R.length) : pr R k 1 = R.getD (if k = 0 then R.length - 1 else k - 1) (0, 0) := by
 unfold pr
 by_cases z : k = 0
 ·rw [if_pos z, if_pos (by omega), z, Nat.add_zero]
 ·rw [if_neg z, if_neg (by omega)]
theorem aPq {R : List Q2} {k : Nat} (hk : k < R.length) (h2 : 2 <= R.length) : pr R k 2 = pr R (if k = 0 then R.length - 1 else k - 1) 1 := by
 unfold pr
 by_cases z : k = 0
 ·rw [if_pos z, if_pos (by omega), if_neg (by omega), z]
  congr 1
 ·rw [if_neg z]
  by_cases w : k = 1
  ·rw [w, if_pos (by omega), if_pos (by omega)]
   congr 1
  ·rw [if_neg (by omega), if_neg (by omega)]
   congr 1
theorem aOw {R : List Q2} {i : Nat} (hi : i < R.length) : ∃ k, k < R.length /\ pr R k 1 = R.getD i (0, 0) /\ (2 <= R.length -> pr R k 2 = pr R i 1) := by
 refine ⟨if i + 1 = R.length then 0 else i + 1, by split <;> omega, ?_, fun h2 => ?_⟩
 ·rw [aN2 (by split <;> omega)]
  congr 1
  split <;> split <;> omega
 ·rw [aPq (by split <;> omega) h2]
  congr 1
  split <;> split <;> omega
theorem aAm {R : List Q2} {k d : Nat} (hk : k < R.length) (hd : d <= R.length) : pr R k d ∈ R := by
 unfold pr
 have : (if k < d then R.length + k - d else k - d) < R.length \/ d = 0 := by split <;> omega
 rcases this with h | h
 ·rw [getD_get h]; exact List.getElem_mem h
 ·subst h
  rw [if_neg (by omega), Nat.sub_zero, getD_get hk]; exact List.getElem_mem hk
theorem get_mem {R : List Q2} {k : Nat} (hk : k < R.length) : R.getD k (0, 0) ∈ R := by rw [getD_get hk]; exact List.getElem_mem hk
section
variable {R P : List Q2} {x : Q2}
theorem RingOk.left2 (ok : RingOk R P x) {k : Nat} (hk : k < R.length) : ∀ q ∈ P, 0 <= aI (pr R k 2) (pr R k 1) q := fun q hq => by
 have h3 := ok.len
 rw [aPq hk (by omega), aN2 hk]
 exact ok.left _ (by split <;> omega) q hq
def Edg (P : List Q2) (u v : Q2) : Prop := u ∈ P /\ v ∈ P /\ u ≠ v /\ ∀ q ∈ P, 0 <= aI u v q /\ (aI u v q = 0 -> ∀ w ∈ P, 0 <= aI q v w /\ 0 <= aI u q w)
theorem o8 {a b c : Int} (hb : 0 < b) (h : a * b = c) (hc : 0 <= c) : 0 <= a := by
 by_cases z : 0 <= a
 ·exact z
 ·have := Int.mul_neg_of_neg_of_pos (Int.not_le.mp z) hb
  omega
theorem aA9 (ok : RingOk R P x) {u v : Q2} (h : (u, v) ∈ edg R) : Edg P u v := by
 unfold edg at h
 obtain ⟨k, hk, e⟩ := List.mem_map.mp h
 have hk := List.mem_range.mp hk
 have h3 := ok.len
 injection e with e1 e2
 obtain ⟨j, hj, j1, j2⟩ := aOw hk
 have j2 := j2 (by omega)
 have c1 := ok.conv k hk
 have c2 := ok.conv j hj
 have l1 := ok.left2 hk
 have l2 := ok.left k hk
 have l3 := ok.left j hj
 rw [e1, e2] at c1
 rw [j1, j2, e1, e2] at c2
 rw [e1] at l1
 rw [e1, e2] at l2
 rw [j1, e2] at l3
 generalize pr R k 2 = s at c1 l1
 generalize R.getD j (0, 0) = t at c2 l3
 refine ⟨e1 ▸ ok.sub _ (aAm hk (by omega)), e2 ▸ ok.sub _ (get_mem hk), fun z => ?_, fun q hq => ⟨l2 q hq, fun h0 w hw => ⟨?_, ?_⟩⟩⟩
 ·subst z
  have : aI s u u = 0 := by unfold aI; grind
  omega
 ·have w1 := l2 w hw
  have q1 := l3 q hq
  refine o8 (b := aI u v t) (c := aI v t q * aI u v w) c2 ?_ (Int.mul_nonneg q1 w1)
  unfold aI at h0 ⊢
  grind
 ·have w1 := l2 w hw
  have q1 := l1 q hq
  refine o8 (b := aI s u v) (c := aI s u q * aI u v w) c1 ?_ (Int.mul_nonneg q1 w1)
  unfold aI at h0 ⊢
  grind
theorem aFe (ok : RingOk R P x) {u v : Q2} (hne : u ≠ v) : ∃ z ∈ P, aI u v z ≠ 0 := by
 by_cases h : ∃ z ∈ P, aI u v z ≠ 0
 ·exact h
 have h : ∀ z ∈ P, aI u v z = 0 := fun z hz => Decidable.byContradiction fun w => h ⟨z, hz, w⟩
 have h3 := ok.len
 have cv := ok.conv 0 (by omega)
 have m0 := h _ (ok.sub _ (aAm (d := 2) (k := 0) (by omega) (by omega)))
 have m1 := h _ (ok.sub _ (aAm (d := 1) (k := 0) (by omega) (by omega)))
 have m2 := h _ (ok.sub _ (get_mem (k := 0) (by omega)))
 generalize pr R 0 2 = a at cv m0
 generalize pr R 0 1 = b at cv m1
 generalize R.getD 0 (0, 0) = d at cv m2
 have e1 : aI a b d * (v.1 - u.1) = 0 := by unfold aI at m0 m1 m2 ⊢; grind
 have e2 : aI a b d * (v.2 - u.2) = 0 := by unfold aI at m0 m1 m2 ⊢; grind
 rcases Int.mul_eq_zero.mp e1 with w | w
 ·omega
 rcases Int.mul_eq_zero.mp e2 with w' | w'
 ·omega
 exact absurd (Prod.ext (by omega) (by omega)) hne
end
end N
namespace N
theorem kH {β : Type} (h : Q2 -> β) : ∀ L : List Q2, (List.range L.length).map (fun i => h (L.getD i (0, 0))) = L.map h := fun L => by
 refine List.ext_getElem (by simp) fun i h1 h2 => ?_
 rw [List.length_map, List.length_range] at h1
 rw [List.getElem_map, List.getElem_map, List.getElem_range, getD_get h1]
theorem lW {α : Type} [DecidableEq α] : ∀ {l m : List α}, l.Nodup -> (∀ x ∈ l, x ∈ m) -> l.length <= m.length
 | [], m, _, _ => Nat.zero_le _
 | a :: l, m, h, hs => by
  obtain ⟨h1, h2⟩ := List.nodup_cons.mp h
  have am := hs a (.head _)
  have := lW (l := l) (m := m.erase a) h2 fun x hx => (List.mem_erase_of_ne fun e => h1 (by rw [<- e]; exact hx)).mpr (hs x (.tail _ hx))
  rw [List.length_erase_of_mem am] at this
  have := List.length_pos_of_mem am
  rw [List.length_cons]
  omega
end N
namespace N
def ab (i : Int) : Int := if i < 0 then -i else i
def dst (p q : Q2) : Int := ab (q.1 - p.1) + ab (q.2 - p.2)
def lR (r far p : Q2) : Bool := if aI r far p ≠ 0 then decide (aI r far p < 0) else decide (dst r far < dst r p)
def jW (r : Q2) (far : Option Q2) (p : Q2) : Option Q2 := match far with
 | none => if p ≠ r then some p else none
 | some f => if p ≠ r /\ lR r f p = true then some p else some f
def l6 (ps : List Q2) (r : Q2) : Option Q2 := ps.foldl (jW r) none
structure Nxt (ps : List Q2) (r v : Q2) : Prop where
 mem : v ∈ ps
 ne : v ≠ r
 stay : ∀ p ∈ ps, lR r v p = false
 win : ∀ p ∈ ps, p ≠ r -> p ≠ v -> lR r p v = true
theorem rY {ps : List Q2} {r v : Q2} : ∀ qs : List Q2, (∀ p ∈ qs, lR r v p = false) -> qs.foldl (jW r) (some v) = some v
 | [], _ => rfl
 | q :: qs, h => by
  rw [List.foldl_cons]
  have e : jW r (some v) q = some v := by
   show (if q ≠ r /\ lR r v q = true then some q else some v) = some v
   rw [if_neg]
   rintro ⟨_, z⟩
   rw [h q (.head _)] at z
   cases z
  rw [e]
  exact rY (ps := ps) qs fun p hp => h p (.tail _ hp)
theorem vB {ps : List Q2} {r v : Q2} (h : Nxt ps r v) : l6 ps r = some v := by
 have go : ∀ (qs : List Q2) (far : Option Q2), (∀ p ∈ qs, p ∈ ps) -> v ∈ qs -> (∀ f, far = some f -> f ∈ ps /\ f ≠ r) -> qs.foldl (jW r) far = some v := by
  intro qs
  induction qs with
  | nil => exact fun far _ hv _ => nomatch hv
  | cons q qs ih =>
   intro far hs hv hf
   rw [List.foldl_cons]
   by_cases e : q = v
   ·have e1 : jW r far q = some v := by
     subst e
     cases far with
     | none => exact if_pos h.ne
     | some f =>
      obtain ⟨f1, f2⟩ := hf f rfl
      show (if q ≠ r /\ lR r f q = true then some q else some f) = some q
      by_cases z : f = q
      ·rw [z]; split <;> rfl
      ·exact if_pos ⟨h.ne, h.win f f1 f2 z⟩
    rw [e1]
    exact rY (ps := ps) qs fun p hp => h.stay p (hs p (.tail _ hp))
   ·have hv' : v ∈ qs := by
     rcases List.mem_cons.mp hv with z | z
     ·exact absurd z.symm e
     ·exact z
    refine ih _ (fun p hp => hs p (.tail _ hp)) hv' fun f ef => ?_
    have qm := hs q (.head _)
    cases far with
    | none =>
     have ef : (if q ≠ r then some q else none) = some f := ef
     by_cases z : q ≠ r
     ·rw [if_pos z] at ef
      rw [<- Option.some.inj ef]
      exact ⟨qm, z⟩
     ·rw [if_neg z] at ef; cases ef
    | some g =>
     have ef : (if q ≠ r /\ lR r g q = true then some q else some g) = some f := ef
     by_cases z : q ≠ r /\ lR r g q = true
     ·rw [if_pos z] at ef
      rw [<- Option.some.inj ef]
      exact ⟨qm, z.1⟩
     ·rw [if_neg z] at ef
      rw [<- Option.some.inj ef]
      exact hf g rfl
 exact go ps none (fun _ h => h) h.mem fun _ z => nomatch z
theorem aLk (i : Int) : 0 <= ab i := by unfold ab; split <;> omega
theorem aGw {i j : Int} (h : 0 <= j) : ab (j * i) = j * ab i := by
 unfold ab
 by_cases z : i < 0
 ·rw [if_pos z]
  by_cases w : j = 0
  ·subst w; simp
  ·have := Int.mul_neg_of_pos_of_neg (show 0 < j by omega) z
   rw [if_pos this, Int.mul_neg]
 ·rw [if_neg z]
  have := Int.mul_nonneg h (show 0 <= i by omega)
  rw [if_neg (by omega)]
theorem part {a d s t : Int} (h1 : t * a = s * d) (s0 : 0 <= s) (st : s <= t) (t0 : 0 < t) : ab a <= ab d /\ (s < t -> ab d ≠ 0 -> ab a < ab d) := by
 have e : t * ab a = s * ab d := by rw [<- aGw (by omega), <- aGw s0, h1]
 have nd := aLk d
 have na := aLk a
 constructor
 ·by_cases z : ab a <= ab d
  ·exact z
  ·have k1 := Int.mul_lt_mul_of_pos_left (Int.not_le.mp z) t0
   have k2 := Int.mul_le_mul_of_nonneg_right st nd
   omega
 ·intro lt n0
  by_cases z : ab a < ab d
  ·exact z
  ·have k1 := Int.mul_le_mul_of_nonneg_left (Int.not_lt.mp z) (show 0 <= t by omega)
   have k2 := Int.mul_lt_mul_of_pos_right lt (show 0 < ab d by omega)
   omega
theorem zP {i : Int} (h : ab i = 0) : i = 0 := by unfold ab at h; split at h <;> omega
theorem kS {r v w : Q2} {s t : Int} (h1 : t * (w.1 - r.1) = s * (v.1 - r.1)) (h2 : t * (w.2 - r.2) = s * (v.2 - r.2)) (s0 : 0 <= s) (st : s <= t) (t0 : 0 < t) : dst r w <= dst r v /\ (w ≠ v -> dst r w < dst r v) := by
 obtain ⟨a1, a2⟩ := part h1 s0 st t0
 obtain ⟨b1, b2⟩ := part h2 s0 st t0
 unfold dst
 refine ⟨by omega, fun hne => ?_⟩
 by_cases lt : s < t
 ·by_cases z1 : ab (v.1 - r.1) = 0
  ·by_cases z2 : ab (v.2 - r.2) = 0
   ·exfalso
    have y1 := zP z1
    have y2 := zP z2
    rw [y1, Int.mul_zero] at h1
    rw [y2, Int.mul_zero] at h2
    have x1 := (Int.mul_eq_zero.mp h1).resolve_left (by omega)
    have x2 := (Int.mul_eq_zero.mp h2).resolve_left (by omega)
    exact hne (Prod.ext (by omega) (by omega))
   ·have := b2 lt z2; omega
  ·have := a2 lt z1; omega
 ·exfalso
  have e : s = t := by omega
  subst e
  have x1 := Int.eq_of_mul_eq_mul_left (by omega) h1
  have x2 := Int.eq_of_mul_eq_mul_left (by omega) h2
  exact hne (Prod.ext (by omega) (by omega))
section
variable {R P : List Q2} {x : Q2}
theorem aBy (ok : RingOk R P x) {r v : Q2} (h : (r, v) ∈ edg R) : Nxt P r v := by
 obtain ⟨mr, mv, hne, hq⟩ := aA9 ok h
 obtain ⟨z, hz, hz0⟩ := aFe ok hne
 have zt := (hq z hz).1
 have key : ∀ p ∈ P, aI r v p = 0 -> dst r p <= dst r v /\ (p ≠ v -> dst r p < dst r v) := fun p hp h0 => by
  obtain ⟨b1, b2⟩ := (hq p hp).2 h0 z hz
  refine kS (s := aI r p z) (t := aI r v z) ?_ ?_ b2 ?_ (by omega)
  ·unfold aI at h0 ⊢; grind
  ·unfold aI at h0 ⊢; grind
  ·have e : aI p v z = aI r v z - aI r p z := by unfold aI at h0 ⊢; grind
   omega
 refine ⟨mv, fun e => hne e.symm, fun p hp => ?_, fun p hp pr pv => ?_⟩
 ·have h0 := (hq p hp).1
  unfold lR
  by_cases w : aI r v p ≠ 0
  ·rw [if_pos w]
   exact decide_eq_false (by omega)
  ·rw [if_neg w]
   have := (key p hp (Decidable.not_not.mp w)).1
   exact decide_eq_false (by omega)
 ·have h0 := (hq p hp).1
  have s : aI r p v = - aI r v p := by unfold aI; grind
  unfold lR
  by_cases w : aI r p v ≠ 0
  ·rw [if_pos w]
   exact decide_eq_true (by omega)
  ·rw [if_neg w]
   have := (key p hp (by have := Decidable.not_not.mp w; omega)).2 pv
   exact decide_eq_true this
end
def oT (ps : List Q2) (x : Q2) : Nat -> List Q2 -> Q2 -> List Q2
 | 0, acc, _ => acc
 | n + 1, acc, r => match l6 ps r with
  | none => acc
  | some v => if v = x then acc else oT ps x n (acc ++ [v]) v
def xZ (ps : List Q2) (x : Q2) : List Q2 := oT ps x ps.length [x] x
theorem aAl {R P : List Q2} {x : Q2} (ok : RingOk R P x) (hl : R.length <= P.length) : xZ P x = R := by
 have h3 := ok.len
 have go : ∀ (m k : Nat), k + 1 <= R.length -> R.length <= k + m -> oT P x m (R.take (k + 1)) (R.getD k (0, 0)) = R := by
  intro m
  induction m with
  | zero => intro k h1 h2; omega
  | succ m ih =>
   intro k h1 h2
   obtain ⟨j, hj, j1, _⟩ : ∃ j, j < R.length /\ pr R j 1 = R.getD k (0, 0) /\ j = (if k + 1 = R.length then 0 else k + 1) := by
    refine ⟨if k + 1 = R.length then 0 else k + 1, by split <;> omega, ?_, rfl⟩
    rw [aN2 (by split <;> omega)]
    congr 1
    split <;> split <;> omega
   have ej : j = (if k + 1 = R.length then 0 else k + 1) := by assumption
   have me : (R.getD k (0, 0), R.getD j (0, 0)) ∈ edg R := List.mem_map.mpr ⟨j, List.mem_range.mpr hj, by rw [j1]⟩
   have pk := vB (aBy ok me)
   show (match l6 P (R.getD k (0, 0)) with | none => R.take (k + 1) | some v => if v = x then R.take (k + 1) else oT P x m (R.take (k + 1) ++ [v]) v) = R
   rw [pk]
   dsimp only
   by_cases z : k + 1 = R.length
   ·rw [if_pos z] at ej
    rw [ej, ok.h0, if_pos rfl, z, List.take_length]
   ·rw [if_neg z] at ej
    have hk : k + 1 < R.length := by omega
    have nx : R.getD j (0, 0) ≠ x := fun e => by
     rw [<- ok.h0, ej, getD_get hk, getD_get (show 0 < R.length by omega)] at e
     exact List.pairwise_iff_getElem.mp ok.nd 0 (k + 1) (by omega) hk (by omega) e.symm
    rw [if_neg nx, ej, getD_get hk]
    have t : R.take (k + 1) ++ [R[k + 1]] = R.take (k + 1 + 1) := List.take_append_getElem hk
    rw [t]
    have := ih (k + 1) (by omega) (by omega)
    rw [getD_get hk] at this
    exact this
 have := go P.length 0 (by omega) (by omega)
 rw [ok.h0] at this
 have t : R.take 1 = [x] := by
  have h0 := ok.h0
  match R, h3, h0 with
  | a :: r, _, h0 =>
   have h0 : a = x := h0
   rw [h0]
   rfl
 rw [show 0 + 1 = 1 from rfl, t] at this
 exact this
theorem sN {lt : Q2 -> Q2 -> Prop} {rs : List Q2} (h : rs.Pairwise lt) {x : Q2} (hx : rs.head? = some x) {q : Q2} (hq : q ∈ rs) : q = x \/ lt x q := by
 cases rs with
 | nil => cases hx
 | cons a r =>
  have e : a = x := Option.some.inj hx
  subst e
  rcases List.mem_cons.mp hq with z | z
  ·exact .inl z
  ·exact .inr (List.rel_of_pairwise_cons h z)
theorem zY {x y q : Q2} (hxy : ltQ x y) (h1 : q = x \/ ltQ x q) (h2 : q = y \/ ltQ q y) (h0 : aI x y q = 0) : (dst x q <= dst x y /\ (q ≠ y -> dst x q < dst x y)) /\ (dst y q <= dst y x /\ (q ≠ x -> dst y q < dst y x)) := by
 by_cases d : 0 < y.1 - x.1
 ·have a1 : 0 <= q.1 - x.1 := by
   rcases h1 with z | z | z
   ·rw [z]; omega
   ·omega
   ·omega
  have a2 : q.1 <= y.1 := by
   rcases h2 with z | z | z
   ·rw [z]; omega
   ·omega
   ·omega
  constructor
  ·exact kS (s := q.1 - x.1) (t := y.1 - x.1) (Int.mul_comm _ _) (by unfold aI at h0; grind) a1 (by omega) d
  ·exact kS (s := y.1 - q.1) (t := y.1 - x.1) (by grind) (by unfold aI at h0; grind) (by omega) (by omega) d
 ·have e1 : y.1 = x.1 := by rcases hxy with z | z <;> omega
  have e2 : x.2 < y.2 := by rcases hxy with z | z <;> omega
  have q1 : q.1 = x.1 /\ x.2 <= q.2 /\ q.2 <= y.2 := by
   rcases h1 with z | z | z <;> rcases h2 with w | w | w
   ·rw [z] at w; rw [w] at e2; omega
   ·rw [z] at w; omega
   ·rw [z] at w ⊢; omega
   ·rw [w] at z ⊢; omega
   ·omega
   ·omega
   ·rw [w] at z ⊢; omega
   ·omega
   ·omega
  obtain ⟨q1, q2, q3⟩ := q1
  have c1 : ∀ i, ab (q.1 - x.1) = i ↔ i = 0 := fun i => by rw [q1, Int.sub_self]; unfold ab; rw [if_neg (by omega)]; omega
  constructor
  ·exact kS (s := q.2 - x.2) (t := y.2 - x.2) (by rw [q1, e1]; simp) (Int.mul_comm _ _) (by omega) (by omega) (by omega)
  ·exact kS (s := y.2 - q.2) (t := y.2 - x.2) (by rw [q1, e1]; simp) (by grind) (by omega) (by omega) (by omega)
theorem aCm {rs : List Q2} {x y : Q2} (hs : rs.Pairwise ltQ) (hx : rs.head? = some x) (hy : rs.getLast? = some y) (hf : ∀ q ∈ rs, aI x y q = 0) : xZ rs x = if x = y then [x] else [x, y] := by
 have xm := List.mem_of_head? hx
 have ym := List.mem_of_getLast? hy
 have f1 : ∀ {q}, q ∈ rs -> q = x \/ ltQ x q := fun hq => sN hs hx hq
 have f2 : ∀ {q}, q ∈ rs -> q = y \/ ltQ q y := fun {q} hq => sN (lt := fun a b => ltQ b a) (rs := rs.reverse) (List.pairwise_reverse.mpr hs) (by rw [List.head?_reverse]; exact hy) (List.mem_reverse.mpr hq)
 by_cases e : x = y
 ·rw [if_pos e]
  have all : ∀ q ∈ rs, q = x := fun q hq => by
   rcases f1 hq with z | z
   ·exact z
   ·rcases f2 hq with w | w
    ·rw [w, e]
    ·exfalso
     rw [<- e] at w
     rcases z with z | z <;> rcases w with w | w <;> omega
  have pk : l6 rs x = none := by
   unfold l6
   have go : ∀ qs : List Q2, (∀ q ∈ qs, q = x) -> qs.foldl (jW x) none = none := by
    intro qs
    induction qs with
    | nil => exact fun _ => rfl
    | cons q qs ih =>
     intro h
     rw [List.foldl_cons, show jW x none q = none from if_neg (fun z => z (h q (.head _)))]
     exact ih fun p hp => h p (.tail _ hp)
   exact go rs all
  unfold xZ
  cases rs with
  | nil => cases xm
  | cons a r =>
   show (match l6 (a :: r) x with | none => [x] | some v => if v = x then [x] else oT (a :: r) x r.length ([x] ++ [v]) v) = [x]
   rw [pk]
 ·rw [if_neg e]
  have lt : ltQ x y := (f1 ym).resolve_left (fun z => e z.symm)
  have k := fun {q} (hq : q ∈ rs) => zY lt (f1 hq) (f2 hq) (hf q hq)
  have n1 : Nxt rs x y := ⟨ym, fun z => e z.symm, fun p hp => by
   unfold lR
   rw [if_neg (fun z => z (hf p hp))]
   have := (k hp).1.1
   exact decide_eq_false (by omega), fun p hp _ py => by
   unfold lR
   have t : aI x p y = 0 := by have := hf p hp; unfold aI at this ⊢; grind
   rw [if_neg (fun z => z t)]
   exact decide_eq_true ((k hp).1.2 py)⟩
  have n2 : Nxt rs y x := ⟨xm, e, fun p hp => by
   unfold lR
   have t : aI y x p = 0 := by rw [kC, hf p hp]; rfl
   rw [if_neg (fun z => z t)]
   have := (k hp).2.1
   exact decide_eq_false (by omega), fun p hp _ px => by
   unfold lR
   have t : aI y p x = 0 := by have := hf p hp; unfold aI at this ⊢; grind
   rw [if_neg (fun z => z t)]
   exact decide_eq_true ((k hp).2.2 px)⟩
  have p1 := vB n1
  have p2 := vB n2
  unfold xZ
  match rs, xm, ym, p1, p2 with
  | [a], xm, ym, _, _ => exact absurd ((List.mem_singleton.mp xm).trans (List.mem_singleton.mp ym).symm) e
  | a :: b :: r, _, _, p1, p2 =>
   show (match l6 (a :: b :: r) x with | none => [x] | some v => if v = x then [x] else oT (a :: b :: r) x (r.length + 1) ([x] ++ [v]) v) = [x, y]
   rw [p1]
   dsimp only
   rw [if_neg (fun z => e z.symm)]
   show (match l6 (a :: b :: r) y with | none => [x] ++ [y] | some v => if v = x then [x] ++ [y] else oT (a :: b :: r) x r.length ([x] ++ [y] ++ [v]) v) = [x, y]
   rw [p2]
   dsimp only
   rw [if_pos rfl]
   rfl
theorem zN {rs : List Q2} {x : Q2} (hs : rs.Pairwise ltQ) (hx : rs.head? = some x) : xZ rs x = gK rs := by
 obtain ⟨y, hy⟩ : ∃ y, rs.getLast? = some y := by
  cases e : rs.getLast? with
  | none => rw [List.getLast?_eq_none_iff.mp e] at hx; cases hx
  | some a => exact ⟨a, rfl⟩
 have hr := aBa hs hx hy
 by_cases z : ∀ q ∈ rs, aI x y q = 0
 ·rw [if_pos z] at hr
  rw [hr]
  exact aCm hs hx hy z
 ·rw [if_neg z] at hr
  exact aAl hr (lW hr.nd hr.sub)
end N
namespace My
open PySem PySem.Spec PyProof.Rows L2 M N
local macro_rules | `(tactic| walk_at "z") => `(tactic| repeat (first | assumption | apply L2.Sz.mul | apply N.Sz.addM | apply N.Sz.subM | apply L2.Sz.neg | apply N.sz_fdiv | (apply N.u4; (first | decide | omega)) | exact N.sz_lit4 (by decide) | exact N.sz_lit (by decide) | exact N.sz_lit70 (by decide) | exact N.sz_big (by decide)))
local macro_rules | `(tactic| walk_at "d") => `(tactic| first | assumption | (first | apply N.cm2 | apply N.cd2) <;> (first | decide | omega | (walk_at "z")) | decide | omega)
local macro_rules | `(tactic| walk_at "1a") => `(tactic| simp (disch := assumption) only [bP, cP, eA, iD, aE, mC, aF, mUn, aD, aW, aV, fC, dP, kY, xT, Res.bind, Ev.c, aDc, lL, aN, d6, k8, jV, bZ, eL, oP, mOr, oO, pZ, aJe, qM, nZ, dR, eK, iH, kO, gF, dat, gG, eqE, gQ, gY, lX, lT, lO, jE, i7, iS, i9, rR, lM, fZ, fW, sG, List.getElem?_cons_zero, List.getElem?_cons_succ, List.set_cons_zero, List.set_cons_succ, List.length_cons, List.length_nil, List.length_map, List.length_append, if_true, if_false, ite_true, ite_false, decide_true, decide_false, Bool.false_eq_true, Nat.zero_add, Nat.reduceAdd, Nat.reduceEqDiff, Nat.reduceLeDiff, reduceIte, List.map_append, List.map_cons, List.map_nil])
local macro_rules | `(tactic| ktr_call 11 ⟨$xs,*⟩) => `(tactic| simp (disch := assumption) only [bP, cP, eA, iD, aE, mC, aF, mUn, aD, aW, aV, fC, dP, kY, xT, Res.bind, Ev.c, aDc, lL, aN, d6, k8, jV, bZ, eL, oP, mOr, oO, pZ, aJe, qM, nZ, dR, eK, iH, kO, gF, dat, gG, eqE, gQ, gY, lX, lT, lO, jE, i7, iS, i9, rR, lM, fZ, fW, sG, List.getElem?_cons_zero, List.getElem?_cons_succ, List.set_cons_zero, List.set_cons_succ, List.length_cons, List.length_nil, List.length_map, List.length_append, if_true, if_false, ite_true, ite_false, decide_true, decide_false, Bool.false_eq_true, Nat.zero_add, Nat.reduceAdd, Nat.reduceEqDiff, Nat.reduceLeDiff, reduceIte, List.map_append, List.map_cons, List.map_nil, $[$xs:term],*])
local macro_rules | `(tactic| walk_at "1d") => `(tactic| simp (disch := (walk_at "d")) only [bP, cP, eA, iD, aE, mC, aF, mUn, aD, aW, aV, fC, dP, kY, xT, Res.bind, Ev.c, aDc, lL, aN, d6, k8, jV, bZ, eL, oP, mOr, oO, pZ, aJe, qM, nZ, dR, eK, iH, kO, gF, dat, gG, eqE, gQ, gY, lX, lT, lO, jE, i7, iS, i9, rR, lM, fZ, fW, sG, List.getElem?_cons_zero, List.getElem?_cons_succ, List.set_cons_zero, List.set_cons_succ, List.length_cons, List.length_nil, List.length_map, List.length_append, if_true, if_false, ite_true, ite_false, decide_true, decide_false, Bool.false_eq_true, Nat.zero_add, Nat.reduceAdd, Nat.reduceEqDiff, Nat.reduceLeDiff, reduceIte, List.map_append, List.map_cons, List.map_nil])
local macro_rules | `(tactic| ktr_call 21 ⟨$xs,*⟩) => `(tactic| simp (disch := (walk_at "d")) only [bP, cP, eA, iD, aE, mC, aF, mUn, aD, aW, aV, fC, dP, kY, xT, Res.bind, Ev.c, aDc, lL, aN, d6, k8, jV, bZ, eL, oP, mOr, oO, pZ, aJe, qM, nZ, dR, eK, iH, kO, gF, dat, gG, eqE, gQ, gY, lX, lT, lO, jE, i7, iS, i9, rR, lM, fZ, fW, sG, List.getElem?_cons_zero, List.getElem?_cons_succ, List.set_cons_zero, List.set_cons_succ, List.length_cons, List.length_nil, List.length_map, List.length_append, if_true, if_false, ite_true, ite_false, decide_true, decide_false, Bool.false_eq_true, Nat.zero_add, Nat.reduceAdd, Nat.reduceEqDiff, Nat.reduceLeDiff, reduceIte, List.map_append, List.map_cons, List.map_nil, $[$xs:term],*])
local macro_rules | `(tactic| walk_at "2") => `(tactic| simp only [bP, cP, eA, iD, aE, mC, aF, mUn, aD, aW, aV, fC, dP, kY, xT, Res.bind, Ev.c, aDc, lL, aN, d6, k8, jV, bZ, eL, oP, mOr, oO, pZ, aJe, qM, nZ, dR, eK, iH, kO, gF, dat, gG, eqE, gQ, gY, lX, lT, lO, jE, i7, iS, i9, rR, List.getElem?_cons_zero, List.getElem?_cons_succ, List.set_cons_zero, List.set_cons_succ, List.length_cons, List.length_nil, List.length_map, List.length_append, if_true, if_false, ite_true, ite_false, decide_true, decide_false, Bool.false_eq_true, Nat.zero_add, Nat.reduceAdd, Nat.reduceEqDiff, Nat.reduceLeDiff, reduceIte, List.map_append, List.map_cons, List.map_nil])
local macro_rules | `(tactic| ktr_call 2 ⟨$xs,*⟩) => `(tactic| simp only [bP, cP, eA, iD, aE, mC, aF, mUn, aD, aW, aV, fC, dP, kY, xT, Res.bind, Ev.c, aDc, lL, aN, d6, k8, jV, bZ, eL, oP, mOr, oO, pZ, aJe, qM, nZ, dR, eK, iH, kO, gF, dat, gG, eqE, gQ, gY, lX, lT, lO, jE, i7, iS, i9, rR, List.getElem?_cons_zero, List.getElem?_cons_succ, List.set_cons_zero, List.set_cons_succ, List.length_cons, List.length_nil, List.length_map, List.length_append, if_true, if_false, ite_true, ite_false, decide_true, decide_false, Bool.false_eq_true, Nat.zero_add, Nat.reduceAdd, Nat.reduceEqDiff, Nat.reduceLeDiff, reduceIte, List.map_append, List.map_cons, List.map_nil, $[$xs:term],*])
local macro_rules | `(tactic| ktr_call 3 ⟨$xs,*⟩) => `(tactic| simp only [List.getElem?_cons_zero, List.getElem?_cons_succ, List.set_cons_zero, List.set_cons_succ, List.length_cons, List.length_nil, List.length_map, List.length_append, if_true, if_false, ite_true, ite_false, decide_true, decide_false, Bool.false_eq_true, Nat.zero_add, Nat.reduceAdd, Nat.reduceEqDiff, Nat.reduceLeDiff, reduceIte, List.map_append, List.map_cons, List.map_nil, $[$xs:term],*])
local macro_rules | `(tactic| ktr_call 13 ⟨$xs,*⟩) => `(tactic| simp (disch := assumption) only [List.getElem?_cons_zero, List.getElem?_cons_succ, List.set_cons_zero, List.set_cons_succ, List.length_cons, List.length_nil, List.length_map, List.length_append, if_true, if_false, ite_true, ite_false, decide_true, decide_false, Bool.false_eq_true, Nat.zero_add, Nat.reduceAdd, Nat.reduceEqDiff, Nat.reduceLeDiff, reduceIte, List.map_append, List.map_cons, List.map_nil, $[$xs:term],*])
def top (i : Nat) : Stmt := PySem.Challenge.pw_creasecurve_k27_fields_at_points.main.body.getD i (.Pass ⟨0, 0, 0, 0⟩)
abbrev dO : Stmt := top 1
abbrev eP : Stmt := top 2
abbrev qL : Stmt := top 3
abbrev wL : Stmt := top 5
abbrev qS : Stmt := top 6
abbrev vN : Stmt := top 7
abbrev jF : Stmt := top 9
abbrev fQ : Stmt := top 11
abbrev vX : Stmt := top 12
abbrev qX : Stmt := top 14
abbrev fL : Stmt := top 16
abbrev iG : Stmt := top 17
abbrev gX : Stmt := top 18
abbrev fM : Stmt := top 19
abbrev eR : Stmt := top 20
abbrev iI : Stmt := top 21
abbrev fP : Stmt := top 22
abbrev fU : Stmt := top 23
abbrev dW : Stmt := top 24
abbrev eI : Stmt := top 25
abbrev eN : Stmt := top 26
abbrev fN : Stmt := top 27
abbrev fT : Stmt := top 28
abbrev fK : Stmt := top 29
abbrev gB : Stmt := top 30
abbrev eQ : Stmt := top 31
abbrev eG : Stmt := top 32
abbrev fJ : Stmt := top 33
abbrev tD : Stmt := top 34
theorem lJ : bootBuiltins "abs" = some (.builtin "abs") := by decide +kernel
theorem aJr : bootBuiltins "bool" = some (.type "bool") := by decide +kernel
theorem aL4 : bootBuiltins "int" = some (.type "int") := by decide +kernel
theorem uF : bootBuiltins "list" = some (.type "list") := by decide +kernel
theorem aGp : bootBuiltins "max" = some (.builtin "max") := by decide +kernel
theorem aBp : bootBuiltins "sorted" = some (.builtin "sorted") := by decide +kernel
theorem aEv : bootBuiltins "tuple" = some (.type "tuple") := by decide +kernel
structure Blt (mg : Str -> Option Value) : Prop where
 abs_ : mg "abs" = none
 bool_ : mg "bool" = none
 int_ : mg "int" = none
 isinstance_ : mg "isinstance" = none
 len_ : mg "len" = none
 list_ : mg "list" = none
 max_ : mg "max" = none
 range_ : mg "range" = none
 reversed_ : mg "reversed" = none
 set_ : mg "set" = none
 sorted_ : mg "sorted" = none
 tuple_ : mg "tuple" = none
 zip_ : mg "zip" = none
structure Cls where
structure j6 (mg : Str -> Option Value) (c : Cls) : Prop where
structure j8 (mg : Str -> Option Value) (base : Heap) (c : Cls) : Prop where
def eT3 (a : Q2 × Q2 × Q2) : List L := [.p (slD a.1), .p (slD a.2.1), .p (slD a.2.2)]
theorem aJl (a b : Q2 × Q2 × Q2) (h : eT3 a = eT3 b) : a = b := by
 unfold eT3 at h
 injection h with h1 h2
 injection h2 with h2 h3
 injection h3 with h3 _
 injection h1 with h1
 injection h2 with h2
 injection h3 with h3
 exact Prod.ext (jP _ _ h1) (Prod.ext (jP _ _ h2) (jP _ _ h3))
def GQ (q : Q2) : Prop := Sz 5000 q.1 /\ Sz 5000 q.2
noncomputable def lV (K : PySem.W.Frag) (c : Cls) : List L -> Res L := mOf eT3 (fun a => GQ a.1 /\ GQ a.2.1 /\ GQ a.2.2) fun a => .ok (.p (.int (aI a.1 a.2.1 a.2.2)))
noncomputable def aA3 (K : PySem.W.Frag) (c : Cls) : MS := (bP (cP 3 (aF d8 (aF iV (aF ixE (aE 1) (mC (.int 0))) (aF ixE (aE 0) (mC (.int 0)))) (aF iV (aF ixE (aE 2) (mC (.int 1))) (aF ixE (aE 0) (mC (.int 1)))))) (bP (cP 4 (aF d8 (aF iV (aF ixE (aE 1) (mC (.int 1))) (aF ixE (aE 0) (mC (.int 1)))) (aF iV (aF ixE (aE 2) (mC (.int 0))) (aF ixE (aE 0) (mC (.int 0)))))) (eA (aF iV (aE 3) (aE 4)))))
theorem aHp (K : PySem.W.Frag) (c : Cls) : ∀ ls, lV K c ls = .bad \/ fY 5 (aA3 K c) ls = lV K c ls := gL fun a h => by
 obtain ⟨a, b, d⟩ := a
 obtain ⟨⟨a1, a2⟩, ⟨b1, b2⟩, d1, d2⟩ := h
 dsimp only at a1 a2 b1 b2 d1 d2 ⊢
 have z : ∀ {x y : Int}, Sz 5000 x -> Sz 5000 y -> Sz 60000 (x - y) := fun h1 h2 => (N.Sz.subM h1 h2).mono (by decide)
 have q1 : CMulW (b.1 - a.1) (d.2 - a.2) := ⟨z b1 a1, z d2 a2⟩
 have q2 : CMulW (b.2 - a.2) (d.1 - a.1) := ⟨z b2 a2, z d1 a1⟩
 have x0 : ∀ y : Int × Int, ixE (.p (slD y)) (.p (.int 0)) = .ok (.p (.int y.1)) := fun y => iS _ _
 have x1 : ∀ y : Int × Int, ixE (.p (slD y)) (.p (.int 1)) = .ok (.p (.int y.2)) := fun y => i9 _ _ _
 refine cY ?_
 rw [show bL 5 (eT3 (a, b, d)) = [some (.p (slD a)), some (.p (slD b)), some (.p (slD d)), none, none] from rfl]
 unfold aA3
 refine (aK (cA (d := .int ((b.1 - a.1) * (d.2 - a.2))) ?_)).trans ((aK (cA (d := .int ((b.2 - a.2) * (d.1 - a.1))) ?_)).trans (eV ?_))
 ·ktr_call 11 ⟨x0, x1⟩
 ·ktr_call 11 ⟨x0, x1⟩
 ·walk_at "2"
  rfl
theorem aA5 (K : PySem.W.Frag) (c : Cls) {a b d : Q2} (ha : GQ a) (hb : GQ b) (hd : GQ d) : lV K c [.p (slD a), .p (slD b), .p (slD d)] = .ok (.p (.int (aI a b d))) := gP (a := (a, b, d)) aJl ⟨ha, hb, hd⟩
def eQs (ps : List Q2) : List L := [.p (.list (ps.map slD))]
theorem uD (a b : List Q2) (h : eQs a = eQs b) : a = b := by
 unfold eQs at h
 injection h with h _
 injection h with h
 injection h with h
 exact List.map_inj_right (fun _ _ e => jP _ _ e) |>.mp h
noncomputable def hZ (K : PySem.W.Frag) (c : Cls) : List L -> Res L := mOf eQs (fun ps => ps.length <= 1000 /\ ∀ p ∈ ps, GQ p) fun ps => .ok (.o (.list ((bD ps).reverse.map slD)))
noncomputable def e9 (K : PySem.W.Frag) (c : Cls) : En -> Res Bool := (oP (bZ (aF gtE (aN gG (aD (aE 1) aW)) (mC (.int 1)))) (bZ (aF leE (aV 3 (lV K c) (aD (aF ixE (aE 1) (mUn kO (mC (.int 2)))) (aD (aF ixE (aE 1) (mUn kO (mC (.int 1)))) (aD (aE 2) aW)))) (mC (.int 0)))))
noncomputable def iB (K : PySem.W.Frag) (c : Cls) : MS := (aOr 1)
noncomputable def jG (K : PySem.W.Frag) (c : Cls) : MS := (bP (lH (e9 K c) (iB K c)) (iM 1 (aE 2)))
noncomputable def uT (K : PySem.W.Frag) (c : Cls) : MS := (bP (cP 1 (aN k8 aW)) (bP (v9 (tN (aE 0)) (a9 2) (jG K c)) (eA (aE 1))))
theorem aNh (xs : List D) (a b : D) : atI (xs ++ [a, b]) (-2) = some a := by
 have hl : (xs ++ [a, b]).length = xs.length + 2 := by simp
 have e : ixN (xs ++ [a, b]).length (-2) = some xs.length := by
  unfold ixN
  rw [hl, if_neg (by decide), if_pos (by omega)]
  congr 1
  omega
 unfold atI
 rw [e]
 simp
theorem aNv (xs : List D) (a b : D) : atI (xs ++ [a, b]) (-1) = some b := by
 have := xC (xs ++ [a]) b
 rw [List.append_assoc] at this
 exact this
theorem aEc (p : Q2) (s : List Q2) : ∀ k ∈ gI p s, k ∈ s := fun k hk => (fF p s).sublist.subset hk
theorem aE6 (K : PySem.W.Frag) (c : Cls) (Z : Option L) {p : Q2} (gp : GQ p) : ∀ (n : Nat) (s : List Q2), s.length <= n -> (∀ k ∈ s, GQ k) -> mWh (e9 K c) (iB K c) (n + 1) [Z, some (.o (.list (s.reverse.map slD))), some (.p (slD p))] = some (.nx [Z, some (.o (.list ((gI p s).reverse.map slD))), some (.p (slD p))]) := by
 have hlen : ∀ s : List Q2, gG [.b (.list (s.reverse.map slD))] = .ok (.p (.int (s.length : Nat))) := fun s => by simp [gG, g8]
 have neg2 : kO (.p (.int 2)) = .ok (.p (.int (-2))) := rfl
 have neg1 : kO (.p (.int 1)) = .ok (.p (.int (-1))) := rfl
 have t1 : ∀ s : List Q2, bZ (aF gtE (aN gG (aD (aE 1) aW)) (mC (.int 1))) [Z, some (.o (.list (s.reverse.map slD))), some (.p (slD p))] = .ok (decide ((1 : Int) < (s.length : Nat))) := fun s => by
  ktr_call 3 ⟨bZ, aF, aN, aD, aW, aE, mC, Res.bind, Ev.c, hlen, iH, eL⟩
 have short : ∀ (n : Nat) (s : List Q2), s.length <= 1 -> mWh (e9 K c) (iB K c) (n + 1) [Z, some (.o (.list (s.reverse.map slD))), some (.p (slD p))] = some (.nx [Z, some (.o (.list (s.reverse.map slD))), some (.p (slD p))]) := fun n s hs => by
  have t : e9 K c [Z, some (.o (.list (s.reverse.map slD))), some (.p (slD p))] = .ok false := by
   unfold e9 oP
   rw [t1 s, decide_eq_false (by omega)]
   rfl
  unfold mWh
  rw [t]
 intro n
 induction n with
 | zero =>
  intro s hs _
  have e : s = [] := List.length_eq_zero_iff.mp (by omega)
  subst e
  rw [show gI p [] = [] from by unfold gI; rfl]
  exact short 0 [] (by decide)
 | succ n ih =>
  intro s hs hg
  match s, hs, hg with
  | [], _, _ =>
   rw [show gI p [] = [] from by unfold gI; rfl]
   exact short _ [] (by decide)
  | [a], _, _ =>
   rw [show gI p [a] = [a] from by unfold gI; rfl]
   exact short _ [a] (Nat.le_refl _)
  | k1 :: k2 :: r, hs, hg =>
   have er : (k1 :: k2 :: r).reverse.map slD = (r.reverse.map slD) ++ [slD k2, slD k1] := by simp
   have i2 : ixE (.b (.list ((r.reverse.map slD) ++ [slD k2, slD k1]))) (.p (.int (-2))) = .ok (.p (slD k2)) := by simp only [ixE, g8, aNh]
   have i1 : ixE (.b (.list ((r.reverse.map slD) ++ [slD k2, slD k1]))) (.p (.int (-1))) = .ok (.p (slD k1)) := by simp only [ixE, g8, aNv]
   have tg := aA5 K c (hg k2 (.tail _ (.head _))) (hg k1 (.head _)) gp
   have t2 : bZ (aF leE (aV 3 (lV K c) (aD (aF ixE (aE 1) (mUn kO (mC (.int 2)))) (aD (aF ixE (aE 1) (mUn kO (mC (.int 1)))) (aD (aE 2) aW)))) (mC (.int 0))) [Z, some (.o (.list ((k1 :: k2 :: r).reverse.map slD))), some (.p (slD p))] = .ok (decide (aI k2 k1 p <= 0)) := by
    rw [er]
    ktr_call 3 ⟨bZ, aF, aV, aD, aW, aE, mUn, mC, Res.bind, Ev.c, neg2, neg1, i2, i1, fC, dP, kY, tg, lL, iH, eL⟩
   have t : e9 K c [Z, some (.o (.list ((k1 :: k2 :: r).reverse.map slD))), some (.p (slD p))] = .ok (decide (aI k2 k1 p <= 0)) := by
    unfold e9 oP
    rw [t1, decide_eq_true (by simp only [List.length_cons]; omega), qC]
    exact t2
   by_cases h : aI k2 k1 p <= 0
   ·rw [decide_eq_true h] at t
    have hp : iB K c [Z, some (.o (.list ((k1 :: k2 :: r).reverse.map slD))), some (.p (slD p))] = some (.nx [Z, some (.o (.list ((k2 :: r).reverse.map slD))), some (.p (slD p))]) := by
     have ne : (k1 :: k2 :: r).reverse.map slD ≠ [] := by simp
     have dl : ((k1 :: k2 :: r).reverse.map slD).dropLast = (k2 :: r).reverse.map slD := by
      rw [List.reverse_cons, List.map_append]
      exact List.dropLast_concat
     unfold iB aOr aFq
     simp only [List.getElem?_cons_succ, List.getElem?_cons_zero]
     rw [if_neg ne, dl]
     rfl
    have e : gI p (k1 :: k2 :: r) = gI p (k2 :: r) := by
     show (if aI k2 k1 p <= 0 then gI p (k2 :: r) else k1 :: k2 :: r) = _
     rw [if_pos h]
    rw [e]
    unfold mWh
    rw [t]
    dsimp only
    rw [hp]
    exact ih (k2 :: r) (by simp only [List.length_cons] at hs ⊢; omega) fun k hk => hg k (.tail _ hk)
   ·rw [decide_eq_false h] at t
    have e : gI p (k1 :: k2 :: r) = k1 :: k2 :: r := by
     show (if aI k2 k1 p <= 0 then gI p (k2 :: r) else k1 :: k2 :: r) = _
     rw [if_neg h]
    rw [e]
    unfold mWh
    rw [t]
theorem pA (K : PySem.W.Frag) (c : Cls) (Z : Option L) : ∀ (ps s : List Q2) (r : Option L), s.length + ps.length <= 2000 -> (∀ k ∈ s, GQ k) -> (∀ p ∈ ps, GQ p) -> ∃ r', fE (a9 2) (jG K c) (ps.map slD) [Z, some (.o (.list (s.reverse.map slD))), r] = some (.nx [Z, some (.o (.list ((ps.foldl pushS s).reverse.map slD))), r'])
 | [], s, r, _, _, _ => ⟨r, rfl⟩
 | p :: ps, s, r, hl, hs, hp => by
  rw [List.length_cons] at hl
  have gp := hp p (.head _)
  have w := aE6 K c Z gp (List.length s) s (Nat.le_refl _) hs
  have w := nW w
  have ll : (gI p s).length <= s.length := (fF p s).sublist.length_le
  have hb : jG K c [Z, some (.o (.list (s.reverse.map slD))), some (.p (slD p))] = some (.nx [Z, some (.o (.list ((pushS s p).reverse.map slD))), some (.p (slD p))]) := by
   unfold jG
   refine (aK w).trans ?_
   unfold iM
   simp only [List.set_cons_succ, List.set_cons_zero, List.getElem?_cons_succ, List.getElem?_cons_zero, aE, Ev.c]
   rw [if_pos (by rw [List.length_map, List.length_reverse]; omega)]
   show some (Out.nx [Z, some (.o (.list ((gI p s).reverse.map slD ++ [slD p]))), some (.p (slD p))]) = _
   unfold pushS
   rw [List.reverse_cons, List.map_append]
   rfl
  obtain ⟨r', ih⟩ := pA K c Z ps (pushS s p) (some (.p (slD p))) (by show (gI p s).length + 1 + ps.length <= 2000; omega) (fun k hk => by
   rcases List.mem_cons.mp hk with z | z
   ·rw [z]; exact gp
   ·exact hs k (aEc p s k z)) fun q hq => hp q (.tail _ hq)
  refine ⟨r', ?_⟩
  rw [List.map_cons]
  unfold fE
  simp only [a9, List.set_cons_succ, List.set_cons_zero]
  rw [hb]
  exact ih
theorem aD8 (K : PySem.W.Frag) (c : Cls) : ∀ ls, hZ K c ls = .bad \/ fY 3 (uT K c) ls = hZ K c ls := gL fun ps h => by
 obtain ⟨hl, hg⟩ := h
 obtain ⟨r', hlp⟩ := pA K c (some (.p (.list (ps.map slD)))) ps [] none (by rw [List.length_nil]; omega) (fun _ h => nomatch h) hg
 refine cY ?_
 rw [show bL 3 (eQs ps) = [some (.p (.list (ps.map slD))), none, none] from rfl]
 unfold uT
 refine (aK (kL (d := .list []) rfl)).trans ((aK ((l4 (ds := ps.map slD) rfl).trans hlp)).trans ?_)
 rfl
theorem pK (K : PySem.W.Frag) (c : Cls) {ps : List Q2} (hl : ps.length <= 1000) (hg : ∀ p ∈ ps, GQ p) : hZ K c [.p (.list (ps.map slD))] = .ok (.o (.list ((bD ps).reverse.map slD))) := gP (a := ps) uD ⟨hl, hg⟩
def toL (p : Q2) : List Int := [p.1, p.2]
def unL (k : List Int) : Q2 := (k.getD 0 0, k.getD 1 0)
theorem aFj (p : Q2) : unL (toL p) = p := rfl
theorem aP1 (ps : List Q2) : (ps.map toL).map mU = ps.map slD := by rw [List.map_map]; rfl
theorem aKv (p q : Q2) : HT.lexLt (toL p) (toL q) = true ↔ ltQ p q := by
 unfold toL ltQ
 rw [HT.gH, HT.gH, HT.qG]
 by_cases h : p.1 = q.1
 ·rw [if_pos h]
  by_cases h2 : p.2 = q.2
  ·rw [if_pos h2]
   constructor
   ·intro z; cases z
   ·rintro (z | z) <;> omega
  ·rw [if_neg h2, decide_eq_true_iff]
   constructor
   ·exact fun z => .inr ⟨h, z⟩
   ·rintro (z | z)
    ·omega
    ·exact z.2
 ·rw [if_neg h, decide_eq_true_iff]
  constructor
  ·exact .inl
  ·rintro (z | z)
   ·exact z
   ·exact absurd z.1 h
theorem aHo {p q : Q2} (h1 : ¬ ltQ q p) (h2 : p ≠ q) : ltQ p q := by
 unfold ltQ at h1 ⊢
 by_cases z : p.1 = q.1
 ·have : p.2 ≠ q.2 := fun e => h2 (Prod.ext z e)
  omega
 ·omega
def eJ (ps : List Q2) : List Q2 := (iL (ddK (ps.map toL))).map unL
theorem pO {ps : List Q2} {k : List Int} (h : k ∈ iL (ddK (ps.map toL))) : ∃ p ∈ ps, k = toL p := by
 have := ddK_mem.mp ((cQ _).subset h)
 obtain ⟨p, hp, e⟩ := List.mem_map.mp this
 exact ⟨p, hp, e.symm⟩
theorem aLi (ps : List Q2) : (iL (ddK (ps.map toL))).map mU = (eJ ps).map slD := by
 unfold eJ
 rw [List.map_map]
 refine List.map_congr_left fun k hk => ?_
 obtain ⟨p, _, rfl⟩ := pO hk
 rfl
theorem rows_mem {ps : List Q2} {p : Q2} : p ∈ eJ ps ↔ p ∈ ps := by
 unfold eJ
 rw [List.mem_map]
 constructor
 ·rintro ⟨k, hk, e⟩
  obtain ⟨q, hq, rfl⟩ := pO hk
  rw [<- e, aFj]
  exact hq
 ·intro h
  exact ⟨toL p, (cQ _).symm.subset (ddK_mem.mpr (List.mem_map.mpr ⟨p, h, rfl⟩)), aFj p⟩
theorem aIy (ps : List Q2) : (eJ ps).Pairwise ltQ := by
 unfold eJ
 rw [List.pairwise_map]
 have nd : (iL (ddK (ps.map toL))).Pairwise (· ≠ ·) := (cQ _).nodup_iff.mpr (v7 _)
 refine List.Pairwise.imp_of_mem (fun {a b} ha hb h => ?_) (List.pairwise_and_iff.mpr ⟨fX _, nd⟩)
 obtain ⟨p, _, rfl⟩ := pO ha
 obtain ⟨q, _, rfl⟩ := pO hb
 rw [aFj, aFj]
 refine aHo (fun z => ?_) fun e => h.2 (by rw [e])
 have h1 : HT.lexLt (toL q) (toL p) = false := h.1
 rw [(aKv q p).mpr z] at h1
 cases h1
theorem aGi : ∀ ks : List (List Int), (ddK ks).length <= ks.length
 | [] => Nat.le_refl _
 | k :: r => by
  unfold ddK
  have := aGi r
  split
  ·rw [List.length_cons]; omega
  ·rw [List.length_cons, List.length_cons]; omega
theorem qF (ps : List Q2) : (eJ ps).length <= ps.length := by
 unfold eJ
 have := aGi (ps.map toL)
 rw [List.length_map] at this
 rw [List.length_map, (cQ _).length_eq]
 exact this
theorem aH6 {ps : List Q2} (h : ps ≠ []) : eJ ps ≠ [] := fun z => by
 cases ps with
 | nil => exact h rfl
 | cons p r =>
  have : p ∈ eJ (p :: r) := rows_mem.mpr (.head _)
  rw [z] at this
  cases this
theorem ks_ne (ps : List Q2) : ((ps.map toL).all fun k => !k.isEmpty) = true := by
 rw [List.all_eq_true]
 intro k hk
 obtain ⟨p, _, rfl⟩ := List.mem_map.mp hk
 rfl
theorem zS {ps : List Q2} (h : ps.length < 64) : g5 (.p (.list (ps.map slD))) = .ok (.f (.list ((eJ ps).map slD))) := by
 unfold g5
 simp only [gF]
 rw [<- aP1, n8]
 dsimp only
 rw [if_pos ⟨ks_ne ps, by rw [List.length_map]; exact h⟩, aLi]
noncomputable def nQ (K : PySem.W.Frag) (c : Cls) : List L -> Res L := mOf eQs (fun ps => ps.length < 64 /\ ps ≠ [] /\ ∀ p ∈ ps, GQ p) fun ps => .ok (.o (.list ((gK (eJ ps)).map slD)))
noncomputable def aB5 (K : PySem.W.Frag) (c : Cls) : MS := (bP (cP 1 (mUn g5 (aE 0))) (bP (iD (bZ (aF (eqE false) (aN gG (aD (aE 1) aW)) (mC (.int 1)))) (eA (aE 1)) dR) (bP (cP 2 (aV 1 (hZ K c) (aD (aE 1) aW))) (bP (cP 3 (aV 1 (hZ K c) (aD (mUn aJ8 (aE 1)) aW))) (eA (aF eK (mSl (aE 2) aNe (mPt (mUn kO (mC (.int 1))))) (mSl (aE 3) aNe (mPt (mUn kO (mC (.int 1)))))))))))
theorem aKt (xs : List D) : M.cutD xs none (some (-1)) = xs.dropLast := by
 unfold M.cutD
 have e : HT.sIx xs.length xs.length (some (-1)) = xs.length - 1 := by
  show (if (-1 : Int) < 0 then ((-1 : Int) + (xs.length : Int)).toNat else min (-1 : Int).toNat xs.length) = xs.length - 1
  rw [if_pos (by decide)]
  omega
 rw [e, HT.aC1, List.drop_zero, Nat.sub_zero, List.dropLast_eq_take]
theorem aB3 (xs : List Q2) : rZ (.o (.list (xs.map slD))) = true := by unfold rZ; exact zT slD aOl _
theorem iZ : ∀ (ps s : List Q2), (ps.foldl pushS s).length <= s.length + ps.length
 | [], s => Nat.le_refl _
 | p :: ps, s => by
  rw [List.foldl_cons, List.length_cons]
  have := iZ ps (pushS s p)
  have h : (pushS s p).length <= s.length + 1 := by
   unfold pushS
   rw [List.length_cons]
   have := (fF p s).sublist.length_le
   omega
  omega
theorem aIt (K : PySem.W.Frag) (c : Cls) : ∀ ls, nQ K c ls = .bad \/ fY 4 (aB5 K c) ls = nQ K c ls := gL fun ps h => by
 obtain ⟨hl, h0, hg⟩ := h
 have hs := zS hl
 have rl := qF ps
 have rg : ∀ p ∈ eJ ps, GQ p := fun p hp => hg p (rows_mem.mp hp)
 generalize eJ ps = rs at hs rl rg ⊢
 have hln : gG [.b (.list (rs.map slD))] = .ok (.p (.int (rs.length : Nat))) := by simp [gG, g8]
 refine cY ?_
 rw [show bL 4 (eQs ps) = [some (.p (.list (ps.map slD))), none, none, none] from rfl]
 unfold aB5
 have e1 : (mUn g5 (aE 0)) [some (.p (.list (ps.map slD))), none, none, none] = .ok (.f (.list (rs.map slD))) := by
  ktr_call 3 ⟨mUn, aE, Res.bind, Ev.c, hs⟩
 refine (aK (kL e1)).trans ?_
 simp only [List.set_cons_succ, List.set_cons_zero]
 have t1 : bZ (aF (eqE false) (aN gG (aD (aE 1) aW)) (mC (.int 1))) [some (.p (.list (ps.map slD))), some (.o (.list (rs.map slD))), none, none] = .ok (decide (rs.length = 1)) := by
  have : ((rs.length : Int) == 1) = decide (rs.length = 1) := by
   rw [Bool.eq_iff_iff, beq_iff_eq, decide_eq_true_iff]; omega
  ktr_call 3 ⟨bZ, aF, aN, aD, aW, aE, mC, Res.bind, Ev.c, hln, eqE, dat, gQ, gY, eL, and_self, this⟩
 by_cases z : rs.length = 1
 ·rw [decide_eq_true z] at t1
  have e : gK rs = rs := by unfold gK; rw [if_pos z]
  rw [e]
  refine iC ((mV t1).trans ?_)
  rfl
 ·rw [decide_eq_false z] at t1
  have e : gK rs = (bD rs).reverse.dropLast ++ (bD rs.reverse).reverse.dropLast := if_neg z
  rw [e]
  refine (aK (jU t1)).trans ?_
  have c1 := pK K c (ps := rs) (by omega) rg
  have c2 := pK K c (ps := rs.reverse) (by rw [List.length_reverse]; omega) (fun p hp => rg p (List.mem_reverse.mp hp))
  have l1 := iZ rs []
  have l2 := iZ rs.reverse []
  rw [List.length_reverse] at l2
  have l1 : (bD rs).length <= _ := l1
  have l2 : (bD rs.reverse).length <= _ := l2
  rw [List.length_nil] at l1 l2
  have s2 : (aV 1 (hZ K c) (aD (aE 1) aW)) [some (.p (.list (ps.map slD))), some (.o (.list (rs.map slD))), none, none] = .ok (.f (.list ((bD rs).reverse.map slD))) := by
   ktr_call 3 ⟨aV, aD, aW, aE, Res.bind, Ev.c, fC, dP, kY, xT, c1, aB3, lL⟩
  refine (aK (kL s2)).trans ?_
  simp only [List.set_cons_succ, List.set_cons_zero]
  have rv : aJ8 (.b (.list (rs.map slD))) = .ok (.f (.list (rs.reverse.map slD))) := by
   unfold aJ8
   simp only [gF]
   rw [List.map_reverse]
  have s3 : (aV 1 (hZ K c) (aD (mUn aJ8 (aE 1)) aW)) [some (.p (.list (ps.map slD))), some (.o (.list (rs.map slD))), some (.o (.list ((bD rs).reverse.map slD))), none] = .ok (.f (.list ((bD rs.reverse).reverse.map slD))) := by
   ktr_call 3 ⟨aV, aD, aW, mUn, aE, Res.bind, Ev.c, rv, fC, dP, kY, c2, lL⟩
  refine (aK (kL s3)).trans ?_
  simp only [List.set_cons_succ, List.set_cons_zero]
  refine aD3 ?_
  have ng : kO (.p (.int 1)) = .ok (.p (.int (-1))) := rfl
  have e : (((bD rs).reverse.dropLast ++ (bD rs.reverse).reverse.dropLast).map slD) = ((bD rs).reverse.map slD).dropLast ++ ((bD rs.reverse).reverse.map slD).dropLast := by rw [List.map_append, List.map_dropLast, List.map_dropLast]
  have ad : eK (.p (.list ((bD rs).reverse.map slD).dropLast)) (.p (.list ((bD rs.reverse).reverse.map slD).dropLast)) = .ok (.f (.list (((bD rs).reverse.map slD).dropLast ++ ((bD rs.reverse).reverse.map slD).dropLast))) := by
   simp only [eK, gF]
   refine if_pos ?_
   simp only [List.length_dropLast, List.length_map, List.length_reverse]
   omega
  rw [e]
  ktr_call 3 ⟨aF, mSl, aNe, mPt, mUn, aE, mC, Res.bind, Ev.c, ng, gF, aKt, ad⟩
theorem aAq (K : PySem.W.Frag) (c : Cls) {ps : List Q2} (hl : ps.length < 64) (h0 : ps ≠ []) (hg : ∀ p ∈ ps, GQ p) : nQ K c [.p (.list (ps.map slD))] = .ok (.o (.list ((gK (eJ ps)).map slD))) := gP (a := ps) uD ⟨hl, h0, hg⟩
structure iU (K : PySem.W.Frag) (c : Cls) : Prop where
 ii : PySem.W.kitOne K (.type "int") (.type "int") = some true
 ib : PySem.W.kitOne K (.type "int") (.type "bool") = some false
 tt : PySem.W.kitOne K (.type "tuple") (.type "tuple") = some true
 ll : PySem.W.kitOne K (.type "list") (.type "list") = some true
noncomputable def hU (K : PySem.W.Frag) (c : Cls) : MS := (bP (iD (bZ (aF ltE (aE 1) (aN gG (aD (aE 0) aW)))) (eA (aF ixE (aE 0) (aE 1))) dR) (eA (mC (.int 0))))
noncomputable def bC (K : PySem.W.Frag) (c : Cls) (ls : List L) : Res L := fY 2 (hU K c) ls
theorem nE (K : PySem.W.Frag) (c : Cls) : ∀ ls, bC K c ls = .bad \/ fY 2 (hU K c) ls = bC K c ls := fun _ => .inr rfl
theorem aMb {ns : List Int} {k : Nat} (h : k < ns.length) : atI (ns.map PyData.int) (k : Int) = some (.int (ns.getD k 0)) := by
 have : ns.getD k 0 = ns[k] := by simp [List.getD, h]
 rw [this]
 exact lF (by rw [List.getElem?_map, List.getElem?_eq_getElem h]; rfl)
theorem vG (K : PySem.W.Frag) (c : Cls) (ns : List Int) (k : Nat) : bC K c [.p (.list (ns.map .int)), .p (.int (k : Int))] = .ok (.p (.int (ns.getD k 0))) := by
 have hlen : gG [.p (.list (ns.map .int))] = .ok (.p (.int (ns.length : Nat))) := by simp [gG, g8]
 unfold bC
 refine cY ?_
 rw [show bL 2 [.p (.list (ns.map .int)), .p (.int (k : Int))] = [some (.p (.list (ns.map .int))), some (.p (.int (k : Int)))] from rfl]
 have ht : bZ (aF ltE (aE 1) (aN gG (aD (aE 0) aW))) [some (.p (.list (ns.map .int))), some (.p (.int (k : Int)))] = .ok (decide (k < ns.length)) := by
  simp [bZ, aF, aE, aN, aD, aW, Res.bind, Ev.c, hlen, iH, eL]
 by_cases hk : k < ns.length
 ·rw [decide_eq_true hk] at ht
  refine (iC ((mV ht).trans ?_))
  simp [eA, aF, aE, Res.bind, Ev.c, ixE, g8, aMb hk, aDc]
 ·rw [decide_eq_false hk] at ht
  refine (aK (jU ht)).trans ?_
  have : ns.getD k 0 = 0 := by simp [List.getD, Nat.le_of_not_lt hk]
  rw [this]
  rfl
noncomputable def cF (K : PySem.W.Frag) (c : Cls) : List L -> Res L := mOf (fun i : Int => [.p (.int i)]) (fun _ => True) fun _ => .ok (.p (.bool true))
noncomputable def i6 (K : PySem.W.Frag) (c : Cls) : MS := (eA (pZ (mUn (yB K (.type "int")) (aE 0)) (qM (mUn (yB K (.type "bool")) (aE 0)))))
theorem qI (K : PySem.W.Frag) (c : Cls) (hk : iU K c) : ∀ ls, cF K c ls = .bad \/ fY 1 (i6 K c) ls = cF K c ls := gL fun i _ => by
 unfold fY
 rw [show bL 1 [.p (.int i)] = [some (.p (.int i))] from rfl]
 simp [i6, bP, cP, eA, iD, aE, mC, aF, mUn, aD, aW, aV, fC, dP, kY, xT, Res.bind, Ev.c, aDc, lL, aN, d6, k8, jV, bZ, eL, oP, mOr, oO, pZ, aJe, qM, nZ, dR, eK, iH, kO, gF, dat, gG, eqE, gQ, gY, lX, lT, lO, jE, i7, iS, i9, rR, yB, tyD, hk.ii, hk.ib]
theorem w8 (K : PySem.W.Frag) (c : Cls) (i : Int) : cF K c [.p (.int i)] = .ok (.p (.bool true)) := gP (a := i) (fun a b h => by injection h with h _; injection h with h; injection h) trivial
theorem mO (n : Nat) (h : n <= 100000) : n6 [.p (.int (n : Int))] = .ok (qT 0 n) := by
 unfold n6
 exact if_pos ⟨by omega, by omega⟩
theorem aNb {r : List Ev -> Res (List D)} {f : En -> Res Ev} {en : En} {a : D} {o : Res (List D)} (h1 : f en = .ok (.p a)) (h : r [.p a] = o) : rG r (aD f aW) en = o := by
 simp only [rG, aD, aW, h1, Res.bind, Ev.c, h]
theorem s8 {tg : D -> En -> Option En} {f : MS} {d : D} {ds : List D} {en e e' : En} (h1 : tg d en = some e) (h2 : f e = some (.nx e')) : fE tg f (d :: ds) en = fE tg f ds e' := by
 rw [fE, h1]
 dsimp only
 rw [h2]
def cols (n : Nat) : List Int := (List.range n).map fun k : Nat => (k : Int)
theorem vY (n : Nat) : qT 0 n = (cols n).map .int := by
 unfold qT cols
 rw [List.map_map]
 refine List.map_congr_left fun k _ => ?_
 show PyData.int (0 + (k : Int)) = .int (k : Int)
 rw [Int.zero_add]
theorem aFn (n : Nat) : (cols n).length = n := by unfold cols; rw [List.length_map, List.length_range]
noncomputable def iJ (K : PySem.W.Frag) (c : Cls) : MS := (bP (cP 2 (aF eK (aF eK (aF eK (aF eS (aE 0) (aF oV (mC (.int 10)) (mC (.int 40)))) (mC (.int 1))) (aF mH (mC (.int 13)) (aE 1))) (aF mH (aF mH (mC (.int 7)) (aE 1)) (aE 1)))) (bP (cP 3 (aF eS (aF mH (aF eS (aF mH (aE 2) (mC (.int 48271))) (mC (.int 2147483647))) (mC (.int 69621))) (mC (.int 1000000007)))) (eA (aF eK (aE 3) (aF mH (mC (.int 1000000007)) (aF eS (aF mH (aF mH (aE 2) (aE 3)) (mC (.int 2862933555777941757))) (aF eK (aF oV (mC (.int 10)) (mC (.int 30))) (mC (.int 57)))))))))
noncomputable def bX (K : PySem.W.Frag) (c : Cls) (ls : List L) : Res L := fY 4 (iJ K c) ls
theorem rQ (K : PySem.W.Frag) (c : Cls) : ∀ ls, bX K c ls = .bad \/ fY 4 (iJ K c) ls = bX K c ls := fun _ => .inr rfl
theorem pW (K : PySem.W.Frag) (c : Cls) (cell : Int) {k : Int} (k0 : 0 <= k) (k1 : k <= 100) : ∃ v : Int, bX K c [.p (.int cell), .p (.int k)] = .ok (.p (.int v)) := by
 have p40 : aDq 10 40 := ⟨by decide, by decide, by decide⟩
 have p30 : aDq 10 30 := ⟨by decide, by decide, by decide⟩
 have n40 : (10 : Int) ^ Int.toNat 40 ≠ 0 := by decide
 have n30 : (10 : Int) ^ Int.toNat 30 + 57 ≠ 0 := by decide
 have n1 : (2147483647 : Int) ≠ 0 := by decide
 have n2 : (1000000007 : Int) ≠ 0 := by decide
 have q1 : lZ 13 k := .inr (.inl ⟨by decide, by decide⟩)
 have q2 : lZ 7 k := .inr (.inl ⟨by decide, by decide⟩)
 have q3 : lZ (7 * k) k := .inr (.inr ⟨by omega, by omega⟩)
 generalize hC : cell.fmod (10 ^ Int.toNat 40) + 1 + 13 * k + 7 * k * k = C
 have q4 : lZ C 48271 := .inr (.inr ⟨by decide, by decide⟩)
 have q5 : lZ ((C * 48271).fmod 2147483647) 69621 := .inr (.inr ⟨by decide, by decide⟩)
 have hw := b8 (a := (C * 48271).fmod 2147483647 * 69621) (b := 1000000007) (by decide)
 have s2 : (aF eS (aF mH (aF eS (aF mH (aE 2) (mC (.int 48271))) (mC (.int 2147483647))) (mC (.int 69621))) (mC (.int 1000000007))) [some (.p (.int cell)), some (.p (.int k)), some (.p (.int C)), none] = .ok (.p (.int (((C * 48271).fmod 2147483647 * 69621).fmod 1000000007))) := by
  ktr_call 11 ⟨vC⟩
 generalize ((C * 48271).fmod 2147483647 * 69621).fmod 1000000007 = V at hw s2
 have q6 : lZ C V := .inr (.inr ⟨by omega, by omega⟩)
 have q7 : lZ (C * V) 2862933555777941757 := .inr (.inr ⟨by decide, by decide⟩)
 have q8 : lZ 1000000007 ((C * V * 2862933555777941757).fmod (10 ^ Int.toNat 30 + 57)) := .inr (.inl ⟨by decide, by decide⟩)
 refine ⟨V + 1000000007 * ((C * V * 2862933555777941757).fmod (10 ^ Int.toNat 30 + 57)), ?_⟩
 unfold bX
 refine cY ?_
 rw [show bL 4 [.p (.int cell), .p (.int k)] = [some (.p (.int cell)), some (.p (.int k)), none, none] from rfl]
 unfold iJ
 refine (aK (cA (d := .int C) ?_)).trans ((aK (cA s2)).trans (eV ?_))
 ·rw [<- hC]
  ktr_call 11 ⟨vC⟩
 ·ktr_call 11 ⟨vC⟩
theorem aIw {i : Nat} {fe : En -> Res Ev} {en : En} {ds : List D} {d : D} (h1 : en[i]? = some (some (.o (.list ds)))) (h2 : fe en = .ok (.p d)) (h3 : ds.length <= 100000) : iM i fe en = some (.nx (en.set i (some (.o (.list (ds ++ [d])))))) := by
 unfold iM
 rw [h1]
 dsimp only
 rw [h2]
 exact if_pos h3
noncomputable def iF (K : PySem.W.Frag) (c : Cls) : MS := (bP (cP 3 (aF d8 (aF iV (aF ixE (aE 1) (mC (.int 0))) (aF ixE (aE 0) (mC (.int 0)))) (aF iV (aF ixE (aE 2) (mC (.int 1))) (aF ixE (aE 0) (mC (.int 1)))))) (eA (aF iV (aE 3) (aF d8 (aF iV (aF ixE (aE 1) (mC (.int 1))) (aF ixE (aE 0) (mC (.int 1)))) (aF iV (aF ixE (aE 2) (mC (.int 0))) (aF ixE (aE 0) (mC (.int 0))))))))
noncomputable def dS (K : PySem.W.Frag) (c : Cls) (ls : List L) : Res L := fY 4 (iF K c) ls
theorem r0 (K : PySem.W.Frag) (c : Cls) : ∀ ls, dS K c ls = .bad \/ fY 4 (iF K c) ls = dS K c ls := fun _ => .inr rfl
theorem aFa (K : PySem.W.Frag) (c : Cls) {a b d : Q2} (ha : GQ a) (hb : GQ b) (hd : GQ d) : dS K c [.p (slD a), .p (slD b), .p (slD d)] = .ok (.p (.int (aI a b d))) := by
 obtain ⟨a1, a2⟩ := ha
 obtain ⟨b1, b2⟩ := hb
 obtain ⟨d1, d2⟩ := hd
 have z : ∀ {x y : Int}, Sz 5000 x -> Sz 5000 y -> Sz 60000 (x - y) := fun h1 h2 => (N.Sz.subM h1 h2).mono (by decide)
 have q1 : CMulW (b.1 - a.1) (d.2 - a.2) := ⟨z b1 a1, z d2 a2⟩
 have q2 : CMulW (b.2 - a.2) (d.1 - a.1) := ⟨z b2 a2, z d1 a1⟩
 have x0 : ∀ y : Int × Int, ixE (.p (slD y)) (.p (.int 0)) = .ok (.p (.int y.1)) := fun y => iS _ _
 have x1 : ∀ y : Int × Int, ixE (.p (slD y)) (.p (.int 1)) = .ok (.p (.int y.2)) := fun y => i9 _ _ _
 unfold dS
 refine cY ?_
 rw [show bL 4 [.p (slD a), .p (slD b), .p (slD d)] = [some (.p (slD a)), some (.p (slD b)), some (.p (slD d)), none] from rfl]
 unfold iF
 refine (aK (cA (d := .int ((b.1 - a.1) * (d.2 - a.2))) ?_)).trans (eV ?_)
 ·ktr_call 11 ⟨x0, x1⟩
 ·ktr_call 11 ⟨x0, x1⟩
  rfl
theorem aL1 (p : Q2) : PyData.canLay0 (slD p) = true := by simp [slD, PyData.canLay0, PyData.canLayAll0]
theorem aMo (p : Q2) : PyData.depth (slD p) <= 9 := by simp [slD, PyData.depth, PyData.depthAll]
theorem aLe (xs : List Q2) : SeqAt.shaped (.list (xs.map slD)) = true := aAc slD aL1 aMo xs
theorem aFh (p : Q2) : SeqAt.shaped (slD p) = true := by simp [slD, SeqAt.shaped, PyData.canLay0, PyData.canLayAll0, PyData.depth, PyData.depthAll]
noncomputable def bW (K : PySem.W.Frag) (c : Cls) : List L -> Res L := mOf (fun ps : List Q2 => [.p (.list (ps.map slD)), .p (.list (ps.map slD))]) (fun _ => True) fun _ => .ok (.p (.bool true))
noncomputable def dA (K : PySem.W.Frag) (c : Cls) : MS := (bP (iD (mOr (oO (bZ (mUn (yB K (.type "tuple")) (aE 2)))) (bZ (aF (eqE true) (aN gG (aD (aE 2) aW)) (mC (.int 2))))) (eA (mC (.bool false))) dR) (iD (mOr (oO (bZ (aV 1 (cF K c) (aD (aF ixE (aE 2) (mC (.int 0))) aW)))) (oO (bZ (aV 1 (cF K c) (aD (aF ixE (aE 2) (mC (.int 1))) aW))))) (eA (mC (.bool false))) dR))
noncomputable def fH (K : PySem.W.Frag) (c : Cls) : MS := (bP (iD (mOr (oO (bZ (mUn (yB K (.type "list")) (aE 0)))) (bZ (aF (eqE true) (aN gG (aD (aE 0) aW)) (aN gG (aD (aE 1) aW))))) (eA (mC (.bool false))) dR) (bP (v9 (tN (aE 0)) (a9 2) (dA K c)) (eA (aF (eqE false) (aE 0) (aE 1)))))
theorem aIj (K : PySem.W.Frag) (c : Cls) (hk : iU K c) (A B : Option L) (p : Q2) : dA K c [A, B, some (.p (slD p))] = some (.nx [A, B, some (.p (slD p))]) := by
 have x0 : ixE (.p (slD p)) (.p (.int 0)) = .ok (.p (.int p.1)) := iS _ _
 have x1 : ixE (.p (slD p)) (.p (.int 1)) = .ok (.p (.int p.2)) := i9 _ _ _
 have ln : gG [.p (slD p)] = .ok (.p (.int 2)) := rfl
 have it : yB K (.type "tuple") (.p (slD p)) = .ok (.p (.bool true)) := by simp [yB, dat, slD, tyD, hk.tt]
 have w1 := w8 K c p.1
 have w2 := w8 K c p.2
 unfold dA
 have t1 : (mOr (oO (bZ (mUn (yB K (.type "tuple")) (aE 2)))) (bZ (aF (eqE true) (aN gG (aD (aE 2) aW)) (mC (.int 2))))) [A, B, some (.p (slD p))] = .ok false := by
  ktr_call 3 ⟨mOr, oO, bZ, mUn, aF, aN, aD, aW, aE, mC, Res.bind, Ev.c, it, ln, eqE, dat, gQ, gY, eL⟩
  rfl
 have t2 : (mOr (oO (bZ (aV 1 (cF K c) (aD (aF ixE (aE 2) (mC (.int 0))) aW)))) (oO (bZ (aV 1 (cF K c) (aD (aF ixE (aE 2) (mC (.int 1))) aW))))) [A, B, some (.p (slD p))] = .ok false := by
  ktr_call 3 ⟨mOr, oO, bZ, aV, aF, aD, aW, aE, mC, Res.bind, Ev.c, x0, x1, fC, dP, kY, w1, w2, lL, eL⟩
  rfl
 exact (aK (jU t1)).trans (jU t2)
theorem vJ (K : PySem.W.Frag) (c : Cls) (hk : iU K c) (A B : Option L) : ∀ (ps : List Q2) (r : Option L), ∃ q, fE (a9 2) (dA K c) (ps.map slD) [A, B, r] = some (.nx [A, B, q])
 | [], r => ⟨r, rfl⟩
 | p :: ps, r => by
  obtain ⟨q, ih⟩ := vJ K c hk A B ps (some (.p (slD p)))
  refine ⟨q, ?_⟩
  rw [List.map_cons, s8 rfl (aIj K c hk A B p)]
  exact ih
theorem kG (K : PySem.W.Frag) (c : Cls) (hk : iU K c) : ∀ ls, bW K c ls = .bad \/ fY 3 (fH K c) ls = bW K c ls := gL fun ps _ => by
 obtain ⟨q, hl⟩ := vJ K c hk (some (.p (.list (ps.map slD)))) (some (.p (.list (ps.map slD)))) ps none
 have ln : gG [.p (.list (ps.map slD))] = .ok (.p (.int (ps.length : Nat))) := by simp [gG, g8]
 have it : yB K (.type "list") (.p (.list (ps.map slD))) = .ok (.p (.bool true)) := by simp [yB, dat, tyD, hk.ll]
 have el : eqE true (.p (.int (ps.length : Nat))) (.p (.int (ps.length : Nat))) = .ok (.p (.bool false)) := pV rfl rfl (gQ _) true
 have ee : eqE false (.p (.list (ps.map slD))) (.p (.list (ps.map slD))) = .ok (.p (.bool true)) := pV rfl rfl (aLe _) false
 refine cY ?_
 rw [show bL 3 [.p (.list (ps.map slD)), .p (.list (ps.map slD))] = [some (.p (.list (ps.map slD))), some (.p (.list (ps.map slD))), none] from rfl]
 unfold fH
 have t1 : (mOr (oO (bZ (mUn (yB K (.type "list")) (aE 0)))) (bZ (aF (eqE true) (aN gG (aD (aE 0) aW)) (aN gG (aD (aE 1) aW))))) [some (.p (.list (ps.map slD))), some (.p (.list (ps.map slD))), none] = .ok false := by
  ktr_call 3 ⟨mOr, oO, bZ, mUn, aF, aN, aD, aW, aE, Res.bind, Ev.c, it, ln, el, eL⟩
  rfl
 refine (aK (jU t1)).trans ((aK ((l4 (ds := ps.map slD) rfl).trans hl)).trans (eV ?_))
 ktr_call 3 ⟨aF, aE, Res.bind, Ev.c, ee⟩
theorem aEg (K : PySem.W.Frag) (c : Cls) (ps : List Q2) : bW K c [.p (.list (ps.map slD)), .p (.list (ps.map slD))] = .ok (.p (.bool true)) := gP (a := ps) (fun a b h => by
 injection h with h _
 injection h with h
 injection h with h
 exact List.map_inj_right (fun _ _ e => jP _ _ e) |>.mp h) trivial
theorem pL {m : List L -> Res L} {f g h : En -> Res Ev} {en : En} {a b d r : D} (h1 : f en = .ok (.p a)) (h2 : g en = .ok (.p b)) (h3 : h en = .ok (.p d)) (hm : m [.p a, .p b, .p d] = .ok (.p r)) : aV 3 m (aD f (aD g (aD h aW))) en = .ok (.p r) := by
 ktr_call 3 ⟨aV, aD, aW, h1, h2, h3, Res.bind, Ev.c, fC, dP, kY, hm, lL⟩
theorem aF1 {m : List L -> Res L} {f : En -> Res Ev} {en : En} {a : D} {r : L} (h1 : f en = .ok (.f a)) (hm : m [.p a] = .ok r) : aV 1 m (aD f aW) en = .ok (lL r) := by
 ktr_call 3 ⟨aV, aD, aW, h1, Res.bind, Ev.c, fC, dP, kY, hm⟩
theorem aGn {m : List L -> Res L} {f : En -> Res Ev} {en : En} {a : D} {r : L} (h1 : f en = .ok (.p a)) (hm : m [.p a] = .ok r) : aV 1 m (aD f aW) en = .ok (lL r) := by
 ktr_call 3 ⟨aV, aD, aW, h1, Res.bind, Ev.c, fC, dP, kY, hm⟩
theorem eW {m : List L -> Res L} {f g : En -> Res Ev} {en : En} {a b r : D} (h1 : f en = .ok (.p a)) (h2 : g en = .ok (.p b)) (hm : m [.p a, .p b] = .ok (.p r)) : aV 2 m (aD f (aD g aW)) en = .ok (.p r) := by
 ktr_call 3 ⟨aV, aD, aW, h1, h2, Res.bind, Ev.c, fC, dP, kY, hm, lL⟩
theorem jD {r : List Ev -> Res Ev} {f : En -> Res Ev} {en : En} {a : D} {o : Res Ev} (h1 : f en = .ok (.p a)) (h : r [.p a] = o) : aN r (aD f aW) en = o := by
 simp only [aN, aD, aW, h1, Res.bind, Ev.c, h]
theorem aZ {op : Ev -> Ev -> Res Ev} {f g : En -> Res Ev} {en : En} {x y : Ev} {o : Res Ev} (h1 : f en = .ok x) (h2 : g en = .ok y) (h : op x.c y.c = o) : aF op f g en = o := by
 simp only [aF, h1, h2, Res.bind, h]
theorem iT {f : En -> Res Ev} {en : En} {b : Bool} (h : f en = .ok (.p (.bool b))) : bZ f en = .ok b := by
 simp only [bZ, h, Res.bind, eL]
theorem aNw {f : En -> Res Bool} {en : En} {b : Bool} (h : f en = .ok b) : oO f en = .ok (!b) := by
 simp only [oO, h, Res.bind]
theorem t9 {i j : Int} : eqE false (.p (.int i)) (.p (.int j)) = .ok (.p (.bool (i == j))) := by
 simp only [eqE, dat, gQ, gY]
 rfl
noncomputable def fO (K : PySem.W.Frag) (c : Cls) : MS := (bP (cP 3 (aV 3 (dS K c) (aD (aE 0) (aD (aE 1) (aD (aE 2) aW))))) (bP (iD (bZ (aF (eqE true) (aE 3) (mC (.int 0)))) (eA (aF ltE (aE 3) (mC (.int 0)))) dR) (bP (cP 4 (aF eK (aN uG (aD (aF iV (aF ixE (aE 2) (mC (.int 0))) (aF ixE (aE 0) (mC (.int 0)))) aW)) (aN uG (aD (aF iV (aF ixE (aE 2) (mC (.int 1))) (aF ixE (aE 0) (mC (.int 1)))) aW)))) (eA (aF gtE (aE 4) (aF eK (aN uG (aD (aF iV (aF ixE (aE 1) (mC (.int 0))) (aF ixE (aE 0) (mC (.int 0)))) aW)) (aN uG (aD (aF iV (aF ixE (aE 1) (mC (.int 1))) (aF ixE (aE 0) (mC (.int 1)))) aW))))))))
noncomputable def bK (K : PySem.W.Frag) (c : Cls) (ls : List L) : Res L := fY 5 (fO K c) ls
theorem nU (K : PySem.W.Frag) (c : Cls) : ∀ ls, bK K c ls = .bad \/ fY 5 (fO K c) ls = bK K c ls := fun _ => .inr rfl
theorem aH7 (K : PySem.W.Frag) (c : Cls) {r f p : Q2} (hr : GQ r) (hf : GQ f) (hp : GQ p) : bK K c [.p (slD r), .p (slD f), .p (slD p)] = .ok (.p (.bool (lR r f p))) := by
 have t := aFa K c hr hf hp
 have x0 : ∀ y : Q2, ixE (.p (slD y)) (.p (.int 0)) = .ok (.p (.int y.1)) := fun y => iS _ _
 have x1 : ∀ y : Q2, ixE (.p (slD y)) (.p (.int 1)) = .ok (.p (.int y.2)) := fun y => i9 _ _ _
 have abE : ∀ i : Int, uG [.p (.int i)] = .ok (.p (.int (ab i))) := fun i => rfl
 unfold bK
 refine cY ?_
 rw [show bL 5 [.p (slD r), .p (slD f), .p (slD p)] = [some (.p (slD r)), some (.p (slD f)), some (.p (slD p)), none, none] from rfl]
 unfold fO
 refine (aK (cA (pL rfl rfl rfl t))).trans ?_
 simp only [List.set_cons_succ, List.set_cons_zero]
 have tt : bZ (aF (eqE true) (aE 3) (mC (.int 0))) [some (.p (slD r)), some (.p (slD f)), some (.p (slD p)), some (.p (.int (aI r f p))), none] = .ok (!(aI r f p == 0)) := iT (aZ rfl rfl (by
  show eqE true (.p (.int (aI r f p))) (.p (.int 0)) = _
  simp only [eqE, dat, gQ, gY]
  rfl))
 unfold lR
 by_cases z : aI r f p = 0
 ·rw [if_neg (fun w => w z)]
  rw [z] at tt ⊢
  refine (aK (jU tt)).trans ?_
  have dd : ∀ (q : Q2) {i : Nat} {en : En}, en[0]? = some (some (.p (slD r))) -> en[i]? = some (some (.p (slD q))) -> aF eK (aN uG (aD (aF iV (aF ixE (aE i) (mC (.int 0))) (aF ixE (aE 0) (mC (.int 0)))) aW)) (aN uG (aD (aF iV (aF ixE (aE i) (mC (.int 1))) (aF ixE (aE 0) (mC (.int 1)))) aW)) en = .ok (.p (.int (dst r q))) := fun q {i en} h0 hi => by
   have v0 : aE 0 en = .ok (.p (slD r)) := by unfold aE; rw [h0]
   have vi : aE i en = .ok (.p (slD q)) := by unfold aE; rw [hi]
   exact aZ (jD (aZ (aZ vi rfl (x0 q)) (aZ v0 rfl (x0 r)) rfl) (abE _)) (jD (aZ (aZ vi rfl (x1 q)) (aZ v0 rfl (x1 r)) rfl) (abE _)) rfl
  refine (aK (cA (dd p (i := 2) rfl rfl))).trans (eV ?_)
  exact aZ rfl (dd f (i := 1) rfl rfl) rfl
 ·rw [if_pos z]
  have e : (!(aI r f p == 0)) = true := by rw [beq_false_of_ne z]; rfl
  rw [e] at tt
  refine iC ((mV tt).trans (eV ?_))
  exact aZ rfl rfl rfl
def o6 : Option Q2 -> D
 | none => .none
 | some f => slD f
noncomputable def cW (K : PySem.W.Frag) (c : Cls) : List L -> Res L := mOf eQs (fun ps => ps.length < 64 /\ ps ≠ [] /\ ∀ p ∈ ps, GQ p) fun ps => .ok (.o (.list ((gK (eJ ps)).map slD)))
noncomputable def dY (K : PySem.W.Frag) (c : Cls) : MS := (iD (oP (bZ (aF (eqE true) (aE 5) (aF ixE (aE 2) (mUn kO (mC (.int 1)))))) (mOr (bZ (mUn (qP false) (aE 4))) (bZ (aV 3 (bK K c) (aD (aF ixE (aE 2) (mUn kO (mC (.int 1)))) (aD (aE 4) (aD (aE 5) aW))))))) (cP 4 (aE 5)) dR)
noncomputable def bG (K : PySem.W.Frag) (c : Cls) : MS := (bP (cP 4 (mC (.none))) (bP (v9 (tN (aE 1)) (a9 5) (dY K c)) (bP (iD (mOr (bZ (mUn (qP false) (aE 4))) (bZ (aF (eqE false) (aE 4) (aF ixE (aE 2) (mC (.int 0)))))) aGe dR) (iM 2 (aE 4)))))
noncomputable def hV (K : PySem.W.Frag) (c : Cls) : MS := (bP (cP 1 (mUn g5 (aE 0))) (bP (cP 2 (aN k8 (aD (aF ixE (aE 1) (mC (.int 0))) aW))) (fun en => (bP (v9 (rG n6 (aD (aN gG (aD (aE 1) aW)) aW)) (a9 3) (bG K c)) (eA (aE 2))) (frz 1 en))))
theorem aMn {f g : En -> Res Bool} {en : En} {a b : Bool} (h1 : f en = .ok a) (h2 : a = true -> g en = .ok b) (h3 : a = false -> b = false) : oP f g en = .ok b := by
 cases a with
 | true => simp only [oP, h1, Res.bind, h2 rfl, if_true]
 | false => rw [h3 rfl]; simp only [oP, h1, Res.bind]; rfl
theorem aJq (K : PySem.W.Frag) (c : Cls) (A B S : Option L) (acc : List Q2) {r : Q2} (gr : GQ r) {p : Q2} (gp : GQ p) (far : Option Q2) (gf : ∀ f, far = some f -> GQ f) : dY K c [A, B, some (.o (.list ((acc ++ [r]).map slD))), S, some (.p (o6 far)), some (.p (slD p))] = some (.nx [A, B, some (.o (.list ((acc ++ [r]).map slD))), S, some (.p (o6 (jW r far p))), some (.p (slD p))]) := by
 have il : ixE (.b (.list ((acc ++ [r]).map slD))) (.p (.int (-1))) = .ok (.p (slD r)) := by
  have : atI ((acc ++ [r]).map slD) (-1) = some (slD r) := by
   rw [List.map_append]
   exact xC _ _
  simp only [ixE, g8, this]
 have ng : ∀ en : En, mUn kO (mC (.int 1)) en = .ok (.p (.int (-1))) := fun en => rfl
 have ev : eqE true (.p (slD p)) (.p (slD r)) = .ok (.p (.bool (!decide (p = r)))) := by
  unfold eqE
  simp only [dat]
  rw [if_pos ⟨aFh p, aFh r⟩, if_pos trivial, show PyData.eqv (slD p) (slD r) = decide (p = r) from aGv p r]
 unfold dY
 have t1 : bZ (aF (eqE true) (aE 5) (aF ixE (aE 2) (mUn kO (mC (.int 1))))) [A, B, some (.o (.list ((acc ++ [r]).map slD))), S, some (.p (o6 far)), some (.p (slD p))] = .ok (!decide (p = r)) := iT (aZ rfl (aZ rfl rfl il) ev)
 cases far with
 | none =>
  have t2 : (mOr (bZ (mUn (qP false) (aE 4))) (bZ (aV 3 (bK K c) (aD (aF ixE (aE 2) (mUn kO (mC (.int 1)))) (aD (aE 4) (aD (aE 5) aW)))))) [A, B, some (.o (.list ((acc ++ [r]).map slD))), S, some (.p (o6 none)), some (.p (slD p))] = .ok true := by
   unfold mOr
   rw [show bZ (mUn (qP false) (aE 4)) [A, B, some (.o (.list ((acc ++ [r]).map slD))), S, some (.p (o6 none)), some (.p (slD p))] = .ok true from rfl]
   rfl
  have tt := aMn (b := !decide (p = r)) t1 (fun e => by rw [e]; exact t2) id
  by_cases z : p = r
  ·rw [decide_eq_true z] at tt
   have e : jW r none p = none := if_neg (fun w => w z)
   rw [e]
   exact jU tt
  ·rw [decide_eq_false z] at tt
   have e : jW r none p = some p := if_pos z
   rw [e]
   exact (mV tt).trans (cA rfl)
 | some f =>
  have lf := aH7 K c gr (gf f rfl) gp
  have t2 : (mOr (bZ (mUn (qP false) (aE 4))) (bZ (aV 3 (bK K c) (aD (aF ixE (aE 2) (mUn kO (mC (.int 1)))) (aD (aE 4) (aD (aE 5) aW)))))) [A, B, some (.o (.list ((acc ++ [r]).map slD))), S, some (.p (o6 (some f))), some (.p (slD p))] = .ok (lR r f p) := by
   have a1 : bZ (mUn (qP false) (aE 4)) [A, B, some (.o (.list ((acc ++ [r]).map slD))), S, some (.p (o6 (some f))), some (.p (slD p))] = .ok false := rfl
   have a2 : bZ (aV 3 (bK K c) (aD (aF ixE (aE 2) (mUn kO (mC (.int 1)))) (aD (aE 4) (aD (aE 5) aW)))) [A, B, some (.o (.list ((acc ++ [r]).map slD))), S, some (.p (o6 (some f))), some (.p (slD p))] = .ok (lR r f p) := iT (pL (aZ rfl rfl il) rfl rfl lf)
   unfold mOr
   rw [a1, qC]
   exact a2
  have tt := aMn (b := !decide (p = r) && lR r f p) t1 (fun e => by rw [e]; exact t2) (fun e => by rw [e]; rfl)
  by_cases z : p ≠ r /\ lR r f p = true
  ·rw [decide_eq_false z.1, z.2] at tt
   have e : jW r (some f) p = some p := if_pos z
   rw [e]
   exact (mV tt).trans (cA rfl)
  ·have e : jW r (some f) p = some f := if_neg z
   have b0 : (!decide (p = r) && lR r f p) = false := by
    by_cases w : p = r
    ·rw [decide_eq_true w]; rfl
    ·rw [decide_eq_false w]
     cases y : lR r f p with
     | false => rfl
     | true => exact absurd ⟨w, y⟩ z
   rw [b0] at tt
   rw [e]
   exact jU tt
theorem aM2 (K : PySem.W.Frag) (c : Cls) (A B S : Option L) (acc : List Q2) {r : Q2} (gr : GQ r) : ∀ (qs : List Q2) (far : Option Q2) (q5 : Option L), (∀ p ∈ qs, GQ p) -> (∀ f, far = some f -> GQ f) -> ∃ r5, fE (a9 5) (dY K c) (qs.map slD) [A, B, some (.o (.list ((acc ++ [r]).map slD))), S, some (.p (o6 far)), q5] = some (.nx [A, B, some (.o (.list ((acc ++ [r]).map slD))), S, some (.p (o6 (qs.foldl (jW r) far))), r5])
 | [], far, q5, _, _ => ⟨q5, rfl⟩
 | p :: qs, far, q5, h, gf => by
  have gp := h p (.head _)
  obtain ⟨r5, ih⟩ := aM2 K c A B S acc gr qs (jW r far p) (some (.p (slD p))) (fun q hq => h q (.tail _ hq)) fun f ef => by
   cases far with
   | none =>
    have ef : (if p ≠ r then some p else none) = some f := ef
    by_cases z : p ≠ r
    ·rw [if_pos z] at ef
     rw [<- Option.some.inj ef]; exact gp
    ·rw [if_neg z] at ef; cases ef
   | some g =>
    have ef : (if p ≠ r /\ lR r g p = true then some p else some g) = some f := ef
    by_cases z : p ≠ r /\ lR r g p = true
    ·rw [if_pos z] at ef
     rw [<- Option.some.inj ef]; exact gp
    ·rw [if_neg z] at ef
     rw [<- Option.some.inj ef]; exact gf g rfl
  refine ⟨r5, ?_⟩
  rw [List.map_cons, s8 rfl (aJq K c A B S acc gr gp far gf)]
  exact ih
theorem aH9 {ps : List Q2} {r v : Q2} (h : l6 ps r = some v) : v ∈ ps := by
 have go : ∀ (qs : List Q2) (far : Option Q2), (∀ p ∈ qs, p ∈ ps) -> (∀ f, far = some f -> f ∈ ps) -> ∀ v, qs.foldl (jW r) far = some v -> v ∈ ps := by
  intro qs
  induction qs with
  | nil => exact fun far _ hf v e => hf v e
  | cons q qs ih =>
   intro far hs hf
   rw [List.foldl_cons]
   refine ih _ (fun p hp => hs p (.tail _ hp)) fun f ef => ?_
   cases far with
   | none =>
    have ef : (if q ≠ r then some q else none) = some f := ef
    by_cases z : q ≠ r
    ·rw [if_pos z] at ef
     rw [<- Option.some.inj ef]; exact hs q (.head _)
    ·rw [if_neg z] at ef; cases ef
   | some g =>
    have ef : (if q ≠ r /\ lR r g q = true then some q else some g) = some f := ef
    by_cases z : q ≠ r /\ lR r g q = true
    ·rw [if_pos z] at ef
     rw [<- Option.some.inj ef]; exact hs q (.head _)
    ·rw [if_neg z] at ef
     rw [<- Option.some.inj ef]; exact hf g rfl
 exact go ps none (fun _ h => h) (fun _ z => nomatch z) v h
theorem aKk {tg : D -> En -> Option En} {f : MS} {d : D} {ds : List D} {en e e' : En} (h1 : tg d en = some e) (h2 : f e = some (.bk e')) : fE tg f (d :: ds) en = some (.nx e') := by
 rw [fE, h1]
 dsimp only
 rw [h2]
theorem aKp (d : D) (ds : List D) : ixE (.b (.list (d :: ds))) (.p (.int 0)) = .ok (.p d) := by
 have : atI (d :: ds) 0 = some d := lF (j := 0) rfl
 simp only [ixE, g8, this]
theorem aN1 (K : PySem.W.Frag) (c : Cls) (A : Option L) {rs : List Q2} {x : Q2} (hg : ∀ p ∈ rs, GQ p) (hl : rs.length < 64) : ∀ (n : Nat) (ks : List D) (acc : List Q2) (r : Q2) (q3 q4 q5 : Option L), ks.length = n -> acc.length + n <= 1000 -> GQ r -> (acc ++ [r]).head? = some x -> ∃ r3 r4 r5, fE (a9 3) (bG K c) ks [A, some (.p (.list (rs.map slD))), some (.o (.list ((acc ++ [r]).map slD))), q3, q4, q5] = some (.nx [A, some (.p (.list (rs.map slD))), some (.o (.list ((oT rs x n (acc ++ [r]) r).map slD))), r3, r4, r5]) := by
 intro n
 induction n with
 | zero =>
  intro ks acc r q3 q4 q5 hk _ _ _
  have : ks = [] := List.length_eq_zero_iff.mp hk
  subst this
  exact ⟨q3, q4, q5, rfl⟩
 | succ n ih =>
  intro ks acc r q3 q4 q5 hk ha gr hx
  cases ks with
  | nil => cases hk
  | cons k ks =>
   have hk : ks.length = n := Nat.succ.inj hk
   obtain ⟨r5, hp⟩ := aM2 K c A (some (.p (.list (rs.map slD)))) (some (.p k)) acc gr rs none q5 hg (fun _ z => nomatch z)
   have hp : fE _ _ _ _ = some (.nx [A, some (.p (.list (rs.map slD))), some (.o (.list ((acc ++ [r]).map slD))), some (.p k), some (.p (o6 (l6 rs r))), r5]) := hp
   have i0 : ixE (.b (.list ((acc ++ [r]).map slD))) (.p (.int 0)) = .ok (.p (slD x)) := by
    cases e : acc ++ [r] with
    | nil => rw [e] at hx; cases hx
    | cons a l =>
     rw [e] at hx
     rw [<- Option.some.inj hx]
     exact aKp _ _
   have wq : oT rs x (n + 1) (acc ++ [r]) r = match l6 rs r with | none => acc ++ [r] | some v => if v = x then acc ++ [r] else oT rs x n (acc ++ [r] ++ [v]) v := rfl
   rw [wq]
   cases e : l6 rs r with
   | none =>
    rw [e] at hp
    have tt : (mOr (bZ (mUn (qP false) (aE 4))) (bZ (aF (eqE false) (aE 4) (aF ixE (aE 2) (mC (.int 0)))))) [A, some (.p (.list (rs.map slD))), some (.o (.list ((acc ++ [r]).map slD))), some (.p k), some (.p (o6 none)), r5] = .ok true := by
     unfold mOr
     rw [show bZ (mUn (qP false) (aE 4)) [A, some (.p (.list (rs.map slD))), some (.o (.list ((acc ++ [r]).map slD))), some (.p k), some (.p (o6 none)), r5] = .ok true from rfl]
     rfl
    have hb : bG K c [A, some (.p (.list (rs.map slD))), some (.o (.list ((acc ++ [r]).map slD))), some (.p k), q4, q5] = some (.bk [A, some (.p (.list (rs.map slD))), some (.o (.list ((acc ++ [r]).map slD))), some (.p k), some (.p (o6 none)), r5]) := by
     unfold bG
     refine (aK (cA (d := .none) rfl)).trans ((aK ((l4 (ds := rs.map slD) rfl).trans hp)).trans ?_)
     unfold bP
     rw [mV tt]
     rfl
    exact ⟨_, _, _, aKk rfl hb⟩
   | some v =>
    rw [e] at hp
    have gv := hg v (aH9 e)
    have ev : eqE false (.p (slD v)) (.p (slD x)) = .ok (.p (.bool (decide (v = x)))) := by
     unfold eqE
     simp only [dat]
     rw [if_pos ⟨aFh v, aFh x⟩, show PyData.eqv (slD v) (slD x) = decide (v = x) from aGv v x]
     rfl
    have a1 : bZ (mUn (qP false) (aE 4)) [A, some (.p (.list (rs.map slD))), some (.o (.list ((acc ++ [r]).map slD))), some (.p k), some (.p (o6 (some v))), r5] = .ok false := rfl
    have a2 : bZ (aF (eqE false) (aE 4) (aF ixE (aE 2) (mC (.int 0)))) [A, some (.p (.list (rs.map slD))), some (.o (.list ((acc ++ [r]).map slD))), some (.p k), some (.p (o6 (some v))), r5] = .ok (decide (v = x)) := iT (aZ rfl (aZ rfl rfl i0) ev)
    have tt : (mOr (bZ (mUn (qP false) (aE 4))) (bZ (aF (eqE false) (aE 4) (aF ixE (aE 2) (mC (.int 0)))))) [A, some (.p (.list (rs.map slD))), some (.o (.list ((acc ++ [r]).map slD))), some (.p k), some (.p (o6 (some v))), r5] = .ok (decide (v = x)) := by
     unfold mOr
     rw [a1, qC]
     exact a2
    by_cases z : v = x
    ·rw [decide_eq_true z] at tt
     have hb : bG K c [A, some (.p (.list (rs.map slD))), some (.o (.list ((acc ++ [r]).map slD))), some (.p k), q4, q5] = some (.bk [A, some (.p (.list (rs.map slD))), some (.o (.list ((acc ++ [r]).map slD))), some (.p k), some (.p (o6 (some v))), r5]) := by
      unfold bG
      refine (aK (cA (d := .none) rfl)).trans ((aK ((l4 (ds := rs.map slD) rfl).trans hp)).trans ?_)
      unfold bP
      rw [mV tt]
      rfl
     dsimp only
     rw [if_pos z]
     exact ⟨_, _, _, aKk rfl hb⟩
    ·rw [decide_eq_false z] at tt
     have hb : bG K c [A, some (.p (.list (rs.map slD))), some (.o (.list ((acc ++ [r]).map slD))), some (.p k), q4, q5] = some (.nx [A, some (.p (.list (rs.map slD))), some (.o (.list ((acc ++ [r] ++ [v]).map slD))), some (.p k), some (.p (o6 (some v))), r5]) := by
      unfold bG
      refine (aK (cA (d := .none) rfl)).trans ((aK ((l4 (ds := rs.map slD) rfl).trans hp)).trans ((aK (jU tt)).trans ?_))
      have em : (acc ++ [r] ++ [v]).map slD = (acc ++ [r]).map slD ++ [slD v] := by rw [List.map_append]; rfl
      rw [em]
      exact aIw rfl rfl (by rw [List.length_map, List.length_append]; simp; omega)
     dsimp only
     rw [if_neg z]
     obtain ⟨s3, s4, s5, h⟩ := ih ks (acc ++ [r]) v (some (.p k)) (some (.p (o6 (some v)))) r5 hk (by rw [List.length_append]; simp; omega) gv (by
      cases w : acc ++ [r] with
      | nil => rw [w] at hx; cases hx
      | cons a l => rw [w] at hx; exact hx)
     refine ⟨s3, s4, s5, ?_⟩
     rw [s8 rfl hb]
     exact h
theorem nK (K : PySem.W.Frag) (c : Cls) : ∀ ls, cW K c ls = .bad \/ fY 6 (hV K c) ls = cW K c ls := gL fun ps h => by
 obtain ⟨hl, h0, hg⟩ := h
 have hs := zS hl
 have rl := qF ps
 have rg : ∀ p ∈ eJ ps, GQ p := fun p hp => hg p (rows_mem.mp hp)
 have rn := aH6 h0
 have lt := aIy ps
 generalize eJ ps = rs at hs rl rg rn lt ⊢
 obtain ⟨x, hx⟩ : ∃ x, rs.head? = some x := by
  cases rs with
  | nil => exact absurd rfl rn
  | cons a r => exact ⟨a, rfl⟩
 have wk := zN lt hx
 have i0 : ixE (.b (.list (rs.map slD))) (.p (.int 0)) = .ok (.p (slD x)) := by
  cases rs with
  | nil => exact absurd rfl rn
  | cons a r => rw [<- Option.some.inj hx]; exact aKp _ _
 have ln : gG [.p (.list (rs.map slD))] = .ok (.p (.int (rs.length : Nat))) := by simp [gG, g8]
 refine cY ?_
 rw [show bL 6 (eQs ps) = [some (.p (.list (ps.map slD))), none, none, none, none, none] from rfl]
 unfold hV
 have e1 : (mUn g5 (aE 0)) [some (.p (.list (ps.map slD))), none, none, none, none, none] = .ok (.f (.list (rs.map slD))) := by
  ktr_call 3 ⟨mUn, aE, Res.bind, Ev.c, hs⟩
 refine (aK (kL e1)).trans ?_
 simp only [List.set_cons_succ, List.set_cons_zero]
 have e2 : (aN k8 (aD (aF ixE (aE 1) (mC (.int 0))) aW)) [some (.p (.list (ps.map slD))), some (.o (.list (rs.map slD))), none, none, none, none] = .ok (.f (.list [slD x])) := jD (aZ rfl rfl i0) rfl
 refine (aK (kL e2)).trans ?_
 simp only [List.set_cons_succ, List.set_cons_zero, frz, List.getElem?_cons_succ, List.getElem?_cons_zero]
 have hit : rG n6 (aD (aN gG (aD (aE 1) aW)) aW) [some (.p (.list (ps.map slD))), some (.p (.list (rs.map slD))), some (.o (.list [slD x])), none, none, none] = .ok (qT 0 rs.length) := aNb (a := .int (rs.length : Nat)) (jD rfl ln) (mO _ (by omega))
 obtain ⟨r3, r4, r5, h⟩ := aN1 K c (some (.p (.list (ps.map slD)))) (x := x) rg (by omega) rs.length (qT 0 rs.length) [] x none none none (by rw [vY, List.length_map, aFn]) (by simp; omega) (rg x (List.mem_of_head? hx)) rfl
 have h : fE (a9 3) (bG K c) (qT 0 rs.length) [some (.p (.list (ps.map slD))), some (.p (.list (rs.map slD))), some (.o (.list [slD x])), none, none, none] = some (.nx [some (.p (.list (ps.map slD))), some (.p (.list (rs.map slD))), some (.o (.list ((xZ rs x).map slD))), r3, r4, r5]) := h
 rw [wk] at h
 refine (aK ((l4 hit).trans h)).trans ?_
 rfl
theorem aE5 (K : PySem.W.Frag) (c : Cls) {ps : List Q2} (hl : ps.length < 64) (h0 : ps ≠ []) (hg : ∀ p ∈ ps, GQ p) : cW K c [.p (.list (ps.map slD))] = .ok (.o (.list ((gK (eJ ps)).map slD))) := gP (a := ps) uD ⟨hl, h0, hg⟩
noncomputable def bR (K : PySem.W.Frag) (c : Cls) : List L -> Res L := mOf eII (fun _ => True) fun a => .ok (.p (.int (Int.gcd a.1 a.2 : Nat)))
noncomputable def bM (K : PySem.W.Frag) (c : Cls) : En -> Res Bool := (bZ (aF (eqE true) (aE 3) (mC (.int 0))))
noncomputable def b7 (K : PySem.W.Frag) (c : Cls) : MS := (bP (cP 4 (aF eS (aE 2) (aE 3))) (bP (cP 2 (aE 3)) (cP 3 (aE 4))))
noncomputable def gW (K : PySem.W.Frag) (c : Cls) : MS := (bP (cP 2 (aN uG (aD (aE 0) aW))) (bP (cP 3 (aN uG (aD (aE 1) aW))) (bP (lH (bM K c) (b7 K c)) (eA (aE 2)))))
theorem aNt (K : PySem.W.Frag) (c : Cls) (A B : Option L) : ∀ (n : Nat) (l s : Int) (r : Option L), 0 <= l -> 0 <= s -> s.toNat <= n -> ∃ r', mWh (bM K c) (b7 K c) (n + 1) [A, B, some (.p (.int l)), some (.p (.int s)), r] = some (.nx [A, B, some (.p (.int (Int.gcd l s : Nat))), some (.p (.int 0)), r']) := by
 intro n
 have hc : ∀ (l s : Int) (r : Option L), bM K c [A, B, some (.p (.int l)), some (.p (.int s)), r] = .ok (!(s == 0)) := fun l s r => by
  ktr_call 3 ⟨bM, bZ, aF, aE, mC, Res.bind, Ev.c, eqE, dat, gQ, gY, eL⟩
  rfl
 have done : ∀ (n : Nat) (l : Int) (r : Option L), 0 <= l -> mWh (bM K c) (b7 K c) (n + 1) [A, B, some (.p (.int l)), some (.p (.int 0)), r] = some (.nx [A, B, some (.p (.int (Int.gcd l 0 : Nat))), some (.p (.int 0)), r]) := fun n l r hl => by
  unfold mWh
  rw [hc, FR.zK hl]
  rfl
 induction n with
 | zero =>
  intro l s r hl hs hn
  have : s = 0 := by omega
  subst this
  exact ⟨r, done 0 l r hl⟩
 | succ n ih =>
  intro l s r hl hs hn
  by_cases h0 : s = 0
  ·subst h0
   exact ⟨r, done _ l r hl⟩
  ·have em : l.fmod s = l % s := Int.fmod_eq_emod_of_nonneg l hs
   have m0 := Int.emod_nonneg l h0
   have m1 := Int.emod_lt_of_pos l (show 0 < s by omega)
   obtain ⟨r', ih⟩ := ih s (l.fmod s) (some (.p (.int (l.fmod s)))) hs (by omega) (by omega)
   refine ⟨r', ?_⟩
   rw [em, FR.xM hl hs] at ih
   have hb : b7 K c [A, B, some (.p (.int l)), some (.p (.int s)), r] = some (.nx [A, B, some (.p (.int s)), some (.p (.int (l % s))), some (.p (.int (l % s)))]) := by
    ktr_call 13 ⟨b7, aF, aE, mC, bP, cP, Res.bind, Ev.c, fW, em⟩
   have ht : bM K c [A, B, some (.p (.int l)), some (.p (.int s)), r] = .ok true := by rw [hc, beq_false_of_ne h0]; rfl
   unfold mWh
   rw [ht]
   dsimp only
   rw [hb]
   exact ih
theorem jS (K : PySem.W.Frag) (c : Cls) : ∀ ls, bR K c ls = .bad \/ fY 5 (gW K c) ls = bR K c ls := gL fun x _ => by
 obtain ⟨a, b⟩ := x
 obtain ⟨r', h⟩ := aNt K c (some (.p (.int a))) (some (.p (.int b))) _ (if a < 0 then -a else a) (if b < 0 then -b else b) none (by split <;> omega) (by split <;> omega) (Nat.le_refl _)
 have h := nW h
 rw [FR.yP] at h
 refine cY ?_
 rw [show bL 5 (eII (a, b)) = [some (.p (.int a)), some (.p (.int b)), none, none, none] from rfl]
 refine (aK (cA (d := .int (if a < 0 then -a else a)) rfl)).trans ((aK (cA (d := .int (if b < 0 then -b else b)) rfl)).trans ((aK h).trans ?_))
 rfl
theorem aFv (K : PySem.W.Frag) (c : Cls) (a b : Int) : bR K c [.p (.int a), .p (.int b)] = .ok (.p (.int (Int.gcd a b : Nat))) := gP (a := (a, b)) uP trivial
theorem aOd {b : Int} (t : Int) (hb : b ≠ 0) (hz : Sz 8000 b) : fI t ((Int.gcd t b : Nat) : Int) /\ fI t (-((Int.gcd t b : Nat) : Int)) := by
 have g0 := FR.t6 (t := t) hb
 have gle : Int.gcd t b <= b.natAbs := Nat.le_of_dvd (by omega) (Int.gcd_dvd_natAbs_right t b)
 refine ⟨⟨by omega, Sz.le hz (by rw [Int.natAbs_natCast]; exact gle)⟩, by omega, Sz.le hz (by rw [Int.natAbs_neg, Int.natAbs_natCast]; exact gle)⟩
def cbS (c b : Int) : Int := (c * b).fdiv (Int.gcd c b : Nat)
def cb (hs : List (Int × Int)) : Int := hs.foldl (fun c h => cbS c h.2) 1
theorem aGy {c b : Int} (hc : 1 <= c) (hb : 1 <= b) : 1 <= cbS c b /\ c ∣ cbS c b /\ b ∣ cbS c b := by
 have g0 : 0 < Int.gcd c b := Int.gcd_pos_of_ne_zero_right c (by omega)
 obtain ⟨k, hk⟩ := Int.gcd_dvd_right c b
 obtain ⟨j, hj⟩ := Int.gcd_dvd_left c b
 have e1 : cbS c b = c * k := by
  unfold cbS
  have : c * b = ((Int.gcd c b : Nat) : Int) * (c * k) := by
   conv => lhs; rw [hk]
   ac_rfl
  rw [this]
  exact Int.mul_fdiv_cancel_left _ (by omega)
 have e2 : cbS c b = b * j := by
  unfold cbS
  have : c * b = ((Int.gcd c b : Nat) : Int) * (b * j) := by
   conv => lhs; rw [hj]
   ac_rfl
  rw [this]
  exact Int.mul_fdiv_cancel_left _ (by omega)
 have k0 : 0 < k := Int.pos_of_mul_pos_right (show 0 < ((Int.gcd c b : Nat) : Int) * k by rw [<- hk]; omega) (by omega)
 refine ⟨?_, ⟨k, e1⟩, ⟨j, e2⟩⟩
 rw [e1]
 exact jX hc k0
theorem aLo {b : Nat} : ∀ (hs : List (Int × Int)) (c : Int) (n : Nat), 1 <= c -> Sz n c -> (∀ h ∈ hs, 1 <= h.2 /\ Sz b h.2) -> 1 <= hs.foldl (fun c h => cbS c h.2) c /\ c ∣ hs.foldl (fun c h => cbS c h.2) c /\ (∀ h ∈ hs, h.2 ∣ hs.foldl (fun c h => cbS c h.2) c) /\ Sz (n + b * hs.length) (hs.foldl (fun c h => cbS c h.2) c)
 | [], c, n, h1, h2, _ => ⟨h1, Int.dvd_refl _, (fun _ h => nomatch h), h2⟩
 | h :: hs, c, n, h1, h2, hg => by
  have g := hg h (.head _)
  obtain ⟨a1, a2, a3⟩ := aGy h1 g.1
  have sz : Sz (n + b) (cbS c h.2) := Sz.le (Sz.mul h2 g.2) (natAbs_fdiv_le _ _)
  obtain ⟨b1, b2, b3, b4⟩ := aLo hs (cbS c h.2) (n + b) a1 sz fun x hx => hg x (.tail _ hx)
  rw [List.foldl_cons]
  refine ⟨b1, Int.dvd_trans a2 b2, fun x hx => ?_, b4.mono (by rw [List.length_cons, Nat.mul_succ]; omega)⟩
  rcases List.mem_cons.mp hx with z | z
  ·rw [z]; exact Int.dvd_trans a3 b2
  ·exact b3 x z
def CbP (hs : List (Int × Int)) : Prop := ∃ b : Nat, b <= 400 /\ b * hs.length <= 40000 /\ ∀ h ∈ hs, 1 <= h.2 /\ Sz b h.2
noncomputable def b6 (K : PySem.W.Frag) (c : Cls) : List L -> Res L := mOf eFs CbP fun hs => .ok (.p (.int (cb hs)))
noncomputable def dN (K : PySem.W.Frag) (c : Cls) : MS := (cP 1 (aF eU (aF d8 (aE 1) (aF ixE (aE 2) (mC (.int 1)))) (aV 2 (bR K c) (aD (aE 1) (aD (aF ixE (aE 2) (mC (.int 1))) aW)))))
noncomputable def iY (K : PySem.W.Frag) (c : Cls) : MS := (bP (cP 1 (mC (.int 1))) (bP (v9 (tN (aE 0)) (a9 2) (dN K c)) (eA (aE 1))))
theorem mJ (K : PySem.W.Frag) (c : Cls) : ∀ ls, b6 K c ls = .bad \/ fY 3 (iY K c) ls = b6 K c ls := gL fun hs h => by
 obtain ⟨b, hb, hl, hg⟩ := h
 have gen : ∀ (xs : List (Int × Int)) (x : Int) (n : Nat) (r : Option L), 1 <= x -> Sz n x -> n + b * xs.length <= 40001 -> (∀ h ∈ xs, 1 <= h.2 /\ Sz b h.2) -> ∃ r', fE (a9 2) (dN K c) (xs.map frD) [some (.p (.list (hs.map frD))), some (.p (.int x)), r] = some (.nx [some (.p (.list (hs.map frD))), some (.p (.int (xs.foldl (fun c h => cbS c h.2) x))), r']) := by
  intro xs
  induction xs with
  | nil => intro x n r _ _ _ _; exact ⟨r, rfl⟩
  | cons h xs ih =>
   intro x n r x1 x2 hk hxs
   have g := hxs h (.head _)
   rw [List.length_cons, Nat.mul_succ] at hk
   obtain ⟨a1, a2, a3⟩ := aGy x1 g.1
   have sz : Sz (n + b) (cbS x h.2) := Sz.le (Sz.mul x2 g.2) (natAbs_fdiv_le _ _)
   obtain ⟨r', ih⟩ := ih (cbS x h.2) (n + b) (some (.p (frD h))) a1 sz (by omega) fun y hy => hxs y (.tail _ hy)
   refine ⟨r', ?_⟩
   have g0 : 0 < Int.gcd x h.2 := Int.gcd_pos_of_ne_zero_right x (by have := g.1; omega)
   have q1 : CMulW x h.2 := ⟨x2.mono (by omega), g.2.mono (by omega)⟩
   have q2 : fI (x * h.2) ((Int.gcd x h.2 : Nat) : Int) := ⟨by omega, (Sz.le g.2 (by rw [Int.natAbs_natCast]; exact Nat.le_of_dvd (by have := g.1; omega) (Int.gcd_dvd_natAbs_right x h.2))).mono (by omega)⟩
   have hb : dN K c [some (.p (.list (hs.map frD))), some (.p (.int x)), some (.p (frD h))] = some (.nx [some (.p (.list (hs.map frD))), some (.p (.int (cbS x h.2))), some (.p (frD h))]) := by
    ktr_call 11 ⟨dN, aFv⟩
    rfl
   rw [List.map_cons]
   unfold fE
   simp only [a9, List.set_cons_succ, List.set_cons_zero]
   rw [hb]
   exact ih
 obtain ⟨r', h⟩ := gen hs 1 1 none (Int.le_refl 1) (aM1 _ (by decide)) (by omega) hg
 refine cY ?_
 rw [show bL 3 (eFs hs) = [some (.p (.list (hs.map frD))), none, none] from rfl]
 refine (aK (cA (d := .int 1) rfl)).trans ?_
 refine (aK ((l4 (ds := hs.map frD) rfl).trans h)).trans (eV rfl)
theorem aJ2 (K : PySem.W.Frag) (c : Cls) {hs : List (Int × Int)} (h : CbP hs) : b6 K c [.p (.list (hs.map frD))] = .ok (.p (.int (cb hs))) := gP (a := hs) aG9 h
def eHI (a : (Int × Int) × Int) : List L := [.p (frD a.1), .p (.int a.2)]
theorem aJx (a b : (Int × Int) × Int) (h : eHI a = eHI b) : a = b := by
 unfold eHI at h
 injection h with h1 h2
 injection h2 with h2 _
 injection h1 with h1
 injection h2 with h2
 injection h2 with h2
 exact Prod.ext (frI h1) h2
def wI (x : Int × Int) (F : Int) : Int := x.1 * F.fdiv x.2
noncomputable def gO (K : PySem.W.Frag) (c : Cls) : List L -> Res L := mOf eHI (fun a => Good 400 a.1 /\ Sz 41000 a.2) fun a => .ok (.p (.int (wI a.1 a.2)))
noncomputable def uV (K : PySem.W.Frag) (c : Cls) : MS := (eA (aF d8 (aF ixE (aE 0) (mC (.int 0))) (aF eU (aE 1) (aF ixE (aE 0) (mC (.int 1))))))
theorem aFx (K : PySem.W.Frag) (c : Cls) : ∀ ls, gO K c ls = .bad \/ fY 2 (uV K c) ls = gO K c ls := gL fun a h => by
 obtain ⟨x, F⟩ := a
 obtain ⟨⟨p, t, b⟩, hF⟩ := h
 dsimp only at p t b hF ⊢
 have bn : x.2 ≠ 0 := by omega
 have q1 : fI F x.2 := ⟨bn, b.mono (by decide)⟩
 have q2 : CMulW x.1 (F.fdiv x.2) := ⟨t.mono (by decide), (Sz.le hF (natAbs_fdiv_le _ _)).mono (by decide)⟩
 refine cY ?_
 rw [show bL 2 (eHI (x, F)) = [some (.p (frD x)), some (.p (.int F))] from rfl]
 unfold uV
 refine eV ?_
 walk_at "1a"
 rfl
theorem lG (K : PySem.W.Frag) (c : Cls) {x : Int × Int} {F : Int} (h1 : Good 400 x) (h2 : Sz 41000 F) : gO K c [.p (frD x), .p (.int F)] = .ok (.p (.int (wI x F))) := gP (a := (x, F)) aJx ⟨h1, h2⟩
theorem aMs {x : Int × Int} {F : Int} (h1 : Good 400 x) (h2 : Sz 41000 F) : Sz 41400 (wI x F) := (Sz.mul h1.2.1 (Sz.le h2 (natAbs_fdiv_le _ _))).mono (by decide)
def ePl (p : Pl) : List L := [.p (plD p)]
theorem aHl (a b : Pl) (h : ePl a = ePl b) : a = b := by
 unfold ePl at h
 injection h with h _
 injection h with h
 exact plI h
noncomputable def eX (K : PySem.W.Frag) (c : Cls) : List L -> Res L := mOf ePl (fun _ => True) fun p => .ok (.p (slD (slp p)))
noncomputable def lA (K : PySem.W.Frag) (c : Cls) : MS := (eA (aN d6 (aD (aF ixE (aE 0) (mC (.int 0))) (aD (aF ixE (aE 0) (mC (.int 1))) aW))))
theorem u7 (K : PySem.W.Frag) (c : Cls) : ∀ ls, eX K c ls = .bad \/ fY 1 (lA K c) ls = eX K c ls := gL fun p _ => by
 refine cY ?_
 rw [show bL 1 (ePl p) = [some (.p (plD p))] from rfl]
 unfold lA
 refine eV ?_
 walk_at "2"
 rfl
theorem xU (K : PySem.W.Frag) (c : Cls) (p : Pl) : eX K c [.p (plD p)] = .ok (.p (slD (slp p))) := gP (a := p) aHl trivial
def j7 (ps : List Pl) (pt : Pt) : List (Int × Int) := (ps.map fun q => q.2.2) ++ [pt.1, pt.2]
def hF (F : Int) (pt : Pt) (q : Pl) : Int := q.1 * wI pt.1 F + q.2.1 * wI pt.2 F + wI q.2.2 F
theorem aAx {ps : List Pl} {pt : Pt} (h0 : ps ≠ []) (h : ∀ q ∈ ps, gT q pt) : ∀ x ∈ j7 ps pt, Good 300 x := fun x hx => by
 rcases List.mem_append.mp hx with z | z
 ·obtain ⟨q, hq, rfl⟩ := List.mem_map.mp z
  exact (h q hq).h.mono (by decide)
 ·obtain ⟨p, r, rfl⟩ : ∃ p r, ps = p :: r := by cases ps with | nil => exact absurd rfl h0 | cons p r => exact ⟨p, r, rfl⟩
  have g := h p (.head _)
  rcases List.mem_cons.mp z with z | z
  ·rw [z]; exact g.x
  ·rw [List.mem_singleton.mp z]; exact g.y
theorem aGs {ps : List Pl} {pt : Pt} (h0 : ps ≠ []) (hl : ps.length <= 100) (h : ∀ q ∈ ps, gT q pt) : 1 <= cb (j7 ps pt) /\ (∀ x ∈ j7 ps pt, x.2 ∣ cb (j7 ps pt)) /\ Sz 41000 (cb (j7 ps pt)) /\ CbP (j7 ps pt) := by
 have hg := aAx h0 h
 have hn : (j7 ps pt).length = ps.length + 2 := by unfold j7; rw [List.length_append, List.length_map]; rfl
 obtain ⟨a, b, d, e⟩ := aLo (b := 300) (j7 ps pt) 1 1 (Int.le_refl 1) (aM1 _ (by decide)) fun x hx => ⟨(hg x hx).1, (hg x hx).2.2⟩
 exact ⟨a, d, e.mono (by rw [hn]; omega), 300, by decide, by rw [hn]; omega, fun x hx => ⟨(hg x hx).1, (hg x hx).2.2⟩⟩
theorem aO9 {x : Int × Int} {F : Int} (hF : 1 <= F) (hx : 1 <= x.2) (hd : x.2 ∣ F) : AF x (wI x F, F) := by
 obtain ⟨k, rfl⟩ := hd
 refine ⟨hx, hF, ?_⟩
 show x.1 * (x.2 * k) = x.1 * (x.2 * k).fdiv x.2 * x.2
 rw [Int.mul_fdiv_cancel_left _ (by omega)]
 ac_rfl
theorem aL9 {x y : Int × Int} {a b F : Int} (h1 : AF x (a, F)) (h2 : AF y (b, F)) : AF (hP x y) (a + b, F) := by
 have h := aNd h1 h2
 have hF : 1 <= F := h1.b
 refine ⟨h.a, hF, ?_⟩
 have e := h.e
 dsimp only at e ⊢
 have e2 : (hP x y).1 * F * F = (a + b) * (hP x y).2 * F := by
  grind
 exact Int.eq_of_mul_eq_mul_right (by omega) e2
theorem lC {p : Pl} {pt : Pt} (g : gT p pt) : FR.Fr (hgt p pt) := by
 have a := aNd (aJ9 (i := p.1) (AF.refl g.x.1)) (aJ9 (i := p.2.1) (AF.refl g.y.1))
 exact (FR.y9 (by have := jX a.a g.h.1; omega)).1
theorem zE {ps : List Pl} {pt : Pt} (h0 : ps ≠ []) (hl : ps.length <= 100) (h : ∀ q ∈ ps, gT q pt) {q : Pl} (hq : q ∈ ps) : AF (hgt q pt) (hF (cb (j7 ps pt)) pt q, cb (j7 ps pt)) := by
 obtain ⟨a, b, _, _⟩ := aGs h0 hl h
 have g := h q hq
 have m1 : pt.1 ∈ j7 ps pt := List.mem_append.mpr (.inr (.head _))
 have m2 : pt.2 ∈ j7 ps pt := List.mem_append.mpr (.inr (.tail _ (.head _)))
 have m3 : q.2.2 ∈ j7 ps pt := List.mem_append.mpr (.inl (List.mem_map.mpr ⟨q, hq, rfl⟩))
 exact aL9 (aL9 (aJ9 (aO9 a g.x.1 (b _ m1))) (aJ9 (aO9 a g.y.1 (b _ m2)))) (aO9 a g.h.1 (b _ m3))
theorem aO8 {ps : List Pl} {pt : Pt} (h0 : ps ≠ []) (hl : ps.length <= 100) (h : ∀ q ∈ ps, gT q pt) {q r : Pl} (hq : q ∈ ps) (hr : r ∈ ps) : leF (hgt q pt) (hgt r pt) ↔ hF (cb (j7 ps pt)) pt q <= hF (cb (j7 ps pt)) pt r := by
 have a1 := zE h0 hl h hq
 have a2 := zE h0 hl h hr
 have e := aO0 a2 a1
 have hF1 : 0 < cb (j7 ps pt) := by have : 1 <= cb (j7 ps pt) := a1.b; omega
 constructor
 ·intro l
  have : ltF (hgt r pt) (hgt q pt) = false := decide_eq_false (by unfold leF at l; omega)
  rw [this] at e
  have := of_decide_eq_false e.symm
  dsimp only at this
  exact Int.le_of_mul_le_mul_right (Int.not_lt.mp this) hF1
 ·intro l
  refine aG0 ?_
  rw [e]
  exact decide_eq_false (Int.not_lt.mpr (Int.mul_le_mul_of_nonneg_right l (Int.le_of_lt hF1)))
theorem yO : ∀ (is : List Int) (i : Int), (L2.tV i is = i \/ L2.tV i is ∈ is) /\ i <= L2.tV i is /\ ∀ x ∈ is, x <= L2.tV i is
 | [], i => ⟨.inl rfl, Int.le_refl _, fun _ h => nomatch h⟩
 | j :: is, i => by
  have g : L2.tV i (j :: is) = L2.tV (if i < j then j else i) is := rfl
  obtain ⟨a, b, d⟩ := yO is (if i < j then j else i)
  rw [g]
  have l : i <= (if i < j then j else i) /\ j <= (if i < j then j else i) := by split <;> omega
  refine ⟨?_, by omega, fun x hx => ?_⟩
  ·rcases a with z | z
   ·rw [z]
    by_cases q : i < j
    ·rw [if_pos q]; exact .inr (.head _)
    ·rw [if_neg q]; exact .inl rfl
   ·exact .inr (.tail _ z)
  ·rcases List.mem_cons.mp hx with z | z
   ·rw [z]; omega
   ·exact d x z
noncomputable def cI (K : PySem.W.Frag) (c : Cls) : List L -> Res L := mOf eHA (fun a => a.1 ≠ [] /\ a.1.length <= 100 /\ ∀ q ∈ a.1, gT q a.2) fun a => .ok (.o (.list (a.1.map fun q => .int (hF (cb (j7 a.1 a.2)) a.2 q))))
noncomputable def dD (K : PySem.W.Frag) (c : Cls) : En -> Res Ev := (aF eK (aF eK (aF d8 (aF ixE (aE 0) (mC (.int 0))) (aE 2)) (aF d8 (aF ixE (aE 0) (mC (.int 1))) (aE 3))) (aV 2 (gO K c) (aD (aF ixE (aE 0) (mC (.int 2))) (aD (aE 1) aW))))
noncomputable def dE (K : PySem.W.Frag) (c : Cls) : En -> Res Ev := (aF ixE (aE 0) (mC (.int 2)))
noncomputable def jI (K : PySem.W.Frag) (c : Cls) : MS := (bP (cP 2 (aV 1 (b6 K c) (aD (aF eK (jH 1 [] (tN (aE 0)) (a9 0) rD (dE K c)) (aN listE (aD (aE 1) aW))) aW))) (bP (cP 3 (aV 2 (gO K c) (aD (aF ixE (aE 1) (mC (.int 0))) (aD (aE 2) aW)))) (bP (cP 4 (aV 2 (gO K c) (aD (aF ixE (aE 1) (mC (.int 1))) (aD (aE 2) aW)))) (eA (jH 1 [2, 3, 4] (tN (aE 0)) (a9 0) rD (dD K c))))))
theorem aM0 (ds es : List D) (h : ds.length + es.length <= 100000) : eK (.p (.list ds)) (.p (.list es)) = .ok (.f (.list (ds ++ es))) := by
 unfold eK
 dsimp only [gF]
 rw [if_pos h]
theorem oH (K : PySem.W.Frag) (c : Cls) : ∀ ls, cI K c ls = .bad \/ fY 5 (jI K c) ls = cI K c ls := gL fun a h => by
 obtain ⟨ps, pt⟩ := a
 obtain ⟨h0, hl, hg⟩ := h
 dsimp only at h0 hl hg ⊢
 obtain ⟨F1, _, FS, FC⟩ := aGs h0 hl hg
 have gh := aAx h0 hg
 have m1 : pt.1 ∈ j7 ps pt := List.mem_append.mpr (.inr (.head _))
 have m2 : pt.2 ∈ j7 ps pt := List.mem_append.mpr (.inr (.tail _ (.head _)))
 have hcb := aJ2 K c FC
 have g1 := (gh _ m1).mono (show 300 <= 400 by decide)
 have g2 := (gh _ m2).mono (show 300 <= 400 by decide)
 have w1 := lG K c g1 FS
 have w2 := lG K c g2 FS
 have s1 := aMs g1 FS
 have s2 := aMs g2 FS
 have ehs : (ps.map fun p => frD p.2.2) ++ [frD pt.1, frD pt.2] = (j7 ps pt).map frD := by unfold j7; rw [List.map_append, List.map_map]; rfl
 unfold hF
 generalize cb (j7 ps pt) = F at *
 generalize wI pt.1 F = X at *
 generalize wI pt.2 F = Y at *
 refine cY ?_
 rw [show bL 5 (eHA (ps, pt)) = [some (.p (.list (ps.map plD))), some (.p (.tuple [frD pt.1, frD pt.2])), none, none, none] from rfl]
 have hm : t5 (cS 1 [] (a9 0) rD (dE K c) [some (.p (.list (ps.map plD))), some (.p (.tuple [frD pt.1, frD pt.2])), none, none, none]) (ps.map plD) = some (ps.map fun p => frD p.2.2) := by
  refine kM _ fun p hp => ?_
  simp [cS, a9, aCy, rD, dE, aF, aE, mC, Res.bind, Ev.c, lX]
 have hc := aCc (n := 1) (js := []) (fi := tN (aE 0)) (tg := a9 0) (ft := rD) (fe := dE K c) (en := [some (.p (.list (ps.map plD))), some (.p (.tuple [frD pt.1, frD pt.2])), none, none, none]) (ds := ps.map plD) rfl (by rw [List.length_map]; omega) hm
 have ha := aM0 (ps.map fun p => frD p.2.2) [frD pt.1, frD pt.2] (by rw [List.length_map]; show ps.length + 2 <= 100000; omega)
 rw [ehs] at ha
 have e1 : (aV 1 (b6 K c) (aD (aF eK (jH 1 [] (tN (aE 0)) (a9 0) rD (dE K c)) (aN listE (aD (aE 1) aW))) aW)) [some (.p (.list (ps.map plD))), some (.p (.tuple [frD pt.1, frD pt.2])), none, none, none] = .ok (.p (.int F)) := by
  ktr_call 3 ⟨aV, aD, aW, aF, aN, aE, hc, Res.bind, Ev.c, listE, g8, ha, fC, dP, kY, hcb, lL⟩
 have e2 : (aV 2 (gO K c) (aD (aF ixE (aE 1) (mC (.int 0))) (aD (aE 2) aW))) [some (.p (.list (ps.map plD))), some (.p (.tuple [frD pt.1, frD pt.2])), some (.p (.int F)), none, none] = .ok (.p (.int X)) := by
  ktr_call 3 ⟨aV, aD, aW, aF, aE, mC, Res.bind, Ev.c, iS, fC, dP, kY, w1, lL⟩
 have e3 : (aV 2 (gO K c) (aD (aF ixE (aE 1) (mC (.int 1))) (aD (aE 2) aW))) [some (.p (.list (ps.map plD))), some (.p (.tuple [frD pt.1, frD pt.2])), some (.p (.int F)), some (.p (.int X)), none] = .ok (.p (.int Y)) := by
  ktr_call 3 ⟨aV, aD, aW, aF, aE, mC, Res.bind, Ev.c, i9, fC, dP, kY, w2, lL⟩
 have he : ∀ q ∈ ps, dD K c [some (.p (plD q)), some (.p (.int F)), some (.p (.int X)), some (.p (.int Y))] = .ok (.p (.int (q.1 * X + q.2.1 * Y + wI q.2.2 F))) := fun q hq => by
  have g := hg q hq
  have w := lG K c (g.h.mono (show 200 <= 400 by decide)) FS
  have q1 : CMulW q.1 X := ⟨g.i.mono (by decide), s1.mono (by decide)⟩
  have q2 : CMulW q.2.1 Y := ⟨g.j.mono (by decide), s2.mono (by decide)⟩
  ktr_call 11 ⟨dD, w⟩
 have hm2 : t5 (cS 1 [2, 3, 4] (a9 0) rD (dD K c) [some (.p (.list (ps.map plD))), some (.p (.tuple [frD pt.1, frD pt.2])), some (.p (.int F)), some (.p (.int X)), some (.p (.int Y))]) (ps.map plD) = some (ps.map fun q => .int (q.1 * X + q.2.1 * Y + wI q.2.2 F)) := by
  refine kM _ fun q hq => ?_
  have := he q hq
  simp [cS, a9, aCy, aFz, rD, this, Ev.c]
 have hc2 := aCc (n := 1) (js := [2, 3, 4]) (fi := tN (aE 0)) (tg := a9 0) (ft := rD) (fe := dD K c) (en := [some (.p (.list (ps.map plD))), some (.p (.tuple [frD pt.1, frD pt.2])), some (.p (.int F)), some (.p (.int X)), some (.p (.int Y))]) (ds := ps.map plD) rfl (by rw [List.length_map]; omega) hm2
 exact (aK (cA e1)).trans ((aK (cA e2)).trans ((aK (cA e3)).trans (aD3 hc2)))
theorem sH (K : PySem.W.Frag) (c : Cls) (ps : List Pl) (pt : Pt) (h0 : ps ≠ []) (hl : ps.length <= 100) (h : ∀ q ∈ ps, gT q pt) : cI K c [.p (.list (ps.map plD)), .p (.tuple [frD pt.1, frD pt.2])] = .ok (.o (.list (ps.map fun q => .int (hF (cb (j7 ps pt)) pt q)))) := gP (a := (ps, pt)) u9 ⟨h0, hl, h⟩
def iE (ps : List Pl) (pt : Pt) : Int × Int := best (hgt (ps.headD (0, 0, (0, 1))) pt) (ps.map fun q => hgt q pt)
def mD (ps : List Pl) (pt : Pt) : List (Int × Int) := (ps.filter fun q => decide (hgt q pt = iE ps pt)).map slp
noncomputable def oD (K : PySem.W.Frag) (c : Cls) : List L -> Res L := mOf eHA (fun a => a.1 ≠ [] /\ a.1.length <= 100 /\ ∀ q ∈ a.1, gT q a.2) fun a => .ok (.o (.list ((mD a.1 a.2).map slD)))
theorem aJj {p : Pl} {r : List Pl} {pt : Pt} (hl : (p :: r).length <= 100) (h : ∀ q ∈ p :: r, gT q pt) {q : Pl} (hq : q ∈ p :: r) : hgt q pt = iE (p :: r) pt ↔ hF (cb (j7 (p :: r) pt)) pt q = L2.tV (hF (cb (j7 (p :: r) pt)) pt p) (r.map fun q => hF (cb (j7 (p :: r) pt)) pt q) := by
 have h0 : p :: r ≠ [] := by intro z; cases z
 have le := fun {a b : Pl} (ha : a ∈ p :: r) (hb : b ∈ p :: r) => aO8 h0 hl h ha hb
 have af := fun {a : Pl} (ha : a ∈ p :: r) => zE h0 hl h ha
 generalize cb (j7 (p :: r) pt) = F at *
 obtain ⟨r1, h1, e1⟩ : ∃ s ∈ p :: r, iE (p :: r) pt = hgt s pt := by
  rcases N.kI ((p :: r).map fun q => hgt q pt) (hgt p pt) with z | z
  ·exact ⟨p, .head _, z⟩
  ·obtain ⟨s, hs, e⟩ := List.mem_map.mp z
   exact ⟨s, hs, e.symm⟩
 have g1 : ∀ s ∈ p :: r, leF (hgt s pt) (iE (p :: r) pt) := fun s hs => (p8 ((p :: r).map fun q => hgt q pt) (hgt p pt) (af (.head _)).a (fun x hx => by
  obtain ⟨s, hs, rfl⟩ := List.mem_map.mp hx
  exact (af hs).a)).2.1 _ (List.mem_map.mpr ⟨s, hs, rfl⟩)
 obtain ⟨b1, b2, b3⟩ := yO (r.map fun q => hF F pt q) (hF F pt p)
 obtain ⟨r2, h2, e2⟩ : ∃ s ∈ p :: r, L2.tV (hF F pt p) (r.map fun q => hF F pt q) = hF F pt s := by
  rcases b1 with z | z
  ·exact ⟨p, .head _, z⟩
  ·obtain ⟨s, hs, e⟩ := List.mem_map.mp z
   exact ⟨s, .tail _ hs, e.symm⟩
 have g2 : ∀ s ∈ p :: r, hF F pt s <= hF F pt r2 := fun s hs => by
  rw [<- e2]
  rcases List.mem_cons.mp hs with z | z
  ·rw [z]; exact b2
  ·exact b3 _ (List.mem_map.mpr ⟨s, z, rfl⟩)
 rw [e2, e1]
 rw [e1] at g1
 constructor
 ·intro e
  refine Int.le_antisymm (g2 q hq) ?_
  have := g1 r2 h2
  rw [<- e] at this
  exact (le h2 hq).mp this
 ·intro e
  refine zO (lC (h q hq)) (lC (h r1 h1)) (g1 q hq) ((le h1 hq).mpr ?_)
  rw [e]
  exact g2 r1 h1
noncomputable def jC (K : PySem.W.Frag) (c : Cls) : En -> Res Ev := (aV 1 (eX K c) (aD (aE 0) aW))
noncomputable def aF5 (K : PySem.W.Frag) (c : Cls) : MS := (bP (cP 2 (aV 2 (cI K c) (aD (aE 0) (aD (aE 1) aW)))) (fun en => (bP (cP 3 (aN aG1 (aD (aE 2) aW))) (eA (jH 2 [3] (rG aK1 (aD (aE 0) (aD (aE 2) aW))) (uZ 2 (jM (a9 0) (jM (a9 1) uR))) (bZ (aF (eqE false) (aE 1) (aE 2))) (jC K c)))) (frz 2 en)))
theorem aIa (K : PySem.W.Frag) (c : Cls) : ∀ ls, oD K c ls = .bad \/ fY 4 (aF5 K c) ls = oD K c ls := gL fun a h => by
 obtain ⟨ps, pt⟩ := a
 obtain ⟨hne, hl, hz⟩ := h
 dsimp only at hne hl hz ⊢
 cases ps with
 | nil => exact absurd rfl hne
 | cons p r =>
  have hh := sH K c (p :: r) pt hne hl hz
  have ti := fun {q : Pl} (hq : q ∈ p :: r) => aJj hl hz hq
  generalize cb (j7 (p :: r) pt) = F at *
  have hl2 : ((p :: r).map plD).length <= 100000 := by rw [List.length_map]; omega
  refine cY (l := .o (.list ((mD (p :: r) pt).map slD))) ?_
  rw [show bL 4 (eHA (p :: r, pt)) = [some (.p (.list ((p :: r).map plD))), some (.p (.tuple [frD pt.1, frD pt.2])), none, none] from rfl]
  have e1 : (aV 2 (cI K c) (aD (aE 0) (aD (aE 1) aW))) [some (.p (.list ((p :: r).map plD))), some (.p (.tuple [frD pt.1, frD pt.2])), none, none] = .ok (.f (.list ((p :: r).map fun q => .int (hF F pt q)))) := by
   ktr_call 3 ⟨aV, aD, aW, aE, Res.bind, Ev.c, fC, dP, kY⟩
   rw [<- List.map_cons (f := plD), hh]
   rfl
  refine (aK (kL e1)).trans ?_
  simp only [List.set_cons_succ, List.set_cons_zero, frz, List.getElem?_cons_succ, List.getElem?_cons_zero]
  have emx : aG1 [.p (.list ((p :: r).map fun q => .int (hF F pt q)))] = .ok (.p (.int (L2.tV (hF F pt p) (r.map fun q => hF F pt q)))) := by
   have : ((p :: r).map fun q => (PyData.int (hF F pt q))) = ((p :: r).map fun q => hF F pt q).map .int := by rw [List.map_map]; rfl
   rw [this]
   simp only [aG1, gF, o7]
   rfl
  have a1 : (aN aG1 (aD (aE 2) aW)) [some (.p (.list ((p :: r).map plD))), some (.p (.tuple [frD pt.1, frD pt.2])), some (.p (.list ((p :: r).map fun q => .int (hF F pt q)))), none] = .ok (.p (.int (L2.tV (hF F pt p) (r.map fun q => hF F pt q)))) := by
   ktr_call 3 ⟨aN, aD, aW, aE, Res.bind, Ev.c⟩
   exact emx
  generalize L2.tV (hF F pt p) (r.map fun q => hF F pt q) = M at *
  refine (aK (cA a1)).trans ?_
  simp only [List.set_cons_succ, List.set_cons_zero]
  have hm2 : t5 (cS 2 [3] (uZ 2 (jM (a9 0) (jM (a9 1) uR))) (bZ (aF (eqE false) (aE 1) (aE 2))) (jC K c) [some (.p (.list ((p :: r).map plD))), some (.p (.tuple [frD pt.1, frD pt.2])), some (.p (.list ((p :: r).map fun q => .int (hF F pt q)))), some (.p (.int M))]) ((p :: r).map fun q => .tuple [plD q, .int (hF F pt q)]) = some (((p :: r).filter fun q => decide (hgt q pt = iE (p :: r) pt)).map fun q => slD (slp q)) := by
   refine vW _ fun q hq => ?_
   have eq1 : eqE false (.p (.int (hF F pt q))) (.p (.int M)) = .ok (.p (.bool (decide (hgt q pt = iE (p :: r) pt)))) := by
    have : (hF F pt q == M) = decide (hgt q pt = iE (p :: r) pt) := by
     rw [Bool.eq_iff_iff, beq_iff_eq, decide_eq_true_iff]
     exact (ti hq).symm
    simp [eqE, dat, gQ, gY, this]
   by_cases hq2 : hgt q pt = iE (p :: r) pt
   ·rw [decide_eq_true hq2] at eq1
    simp [cS, uZ, jM, uR, a9, aCy, aFz, jC, bZ, aF, aE, Res.bind, Ev.c, eq1, hq2, eL, aV, aD, aW, fC, dP, kY, xU, lL, Option.bind]
   ·rw [decide_eq_false hq2] at eq1
    simp [cS, uZ, jM, uR, a9, aCy, aFz, jC, bZ, aF, aE, Res.bind, Ev.c, eq1, hq2, eL]
  have a2 : jH 2 [3] (rG aK1 (aD (aE 0) (aD (aE 2) aW))) (uZ 2 (jM (a9 0) (jM (a9 1) uR))) (bZ (aF (eqE false) (aE 1) (aE 2))) (jC K c) [some (.p (.list ((p :: r).map plD))), some (.p (.tuple [frD pt.1, frD pt.2])), some (.p (.list ((p :: r).map fun q => .int (hF F pt q)))), some (.p (.int M))] = .ok (.f (.list ((mD (p :: r) pt).map slD))) := by
   unfold jH aAp
   simp only [rG, aD, aW, aE, Res.bind, List.getElem?_cons_zero, List.getElem?_cons_succ, Ev.c, aK1, w5]
   rw [if_pos (by rw [List.length_map]; exact Nat.le_trans hl (by decide)), hm2]
   unfold mD
   rw [List.map_map]
   rfl
  exact aD3 a2
theorem yU (K : PySem.W.Frag) (c : Cls) (ps : List Pl) (pt : Pt) (h0 : ps ≠ []) (hl : ps.length <= 100) (h : ∀ q ∈ ps, gT q pt) : oD K c [.p (.list (ps.map plD)), .p (.tuple [frD pt.1, frD pt.2])] = .ok (.o (.list ((mD ps pt).map slD))) := gP (a := (ps, pt)) u9 ⟨h0, hl, h⟩
theorem aA6 {ps : List Pl} {pt : Pt} (h0 : ps ≠ []) (hl : ps.length <= 100) (h : ∀ q ∈ ps, gT q pt) : mD ps pt ≠ [] := by
 have fr : ∀ q ∈ ps, FR.Fr (hgt q pt) := fun q hq => lC (h q hq)
 have mem : ∀ (xs : List (Int × Int)) (b : Int × Int), best b xs = b \/ best b xs ∈ xs := by
  intro xs
  induction xs with
  | nil => exact fun b => .inl rfl
  | cons x xs ih =>
   intro b
   have e : best b (x :: xs) = best (if ltF b x = true then x else b) xs := rfl
   rw [e]
   rcases ih (if ltF b x = true then x else b) with z | z
   ·rw [z]
    split
    ·exact .inr (.head _)
    ·exact .inl rfl
   ·exact .inr (.tail _ z)
 have : ∃ q ∈ ps, hgt q pt = iE ps pt := by
  unfold iE
  cases ps with
  | nil => exact absurd rfl h0
  | cons p r =>
   rcases mem ((p :: r).map fun q => hgt q pt) (hgt ((p :: r).headD (0, 0, (0, 1))) pt) with z | z
   ·rw [z]; exact ⟨p, .head _, rfl⟩
   ·obtain ⟨q, hq, e⟩ := List.mem_map.mp z
    exact ⟨q, hq, e⟩
 obtain ⟨q, hq, e⟩ := this
 intro z
 have m : slp q ∈ mD ps pt := List.mem_map.mpr ⟨q, List.mem_filter.mpr ⟨hq, decide_eq_true e⟩, rfl⟩
 rw [z] at m
 cases m
theorem aCw {ps : List Pl} {pt : Pt} (h : ∀ q ∈ ps, gT q pt) : ∀ s ∈ mD ps pt, GQ s := fun s hs => by
 obtain ⟨q, hq, rfl⟩ := List.mem_map.mp hs
 have g := h q (List.mem_filter.mp hq).1
 exact ⟨g.i.mono (by decide), g.j.mono (by decide)⟩
theorem qN (ps : List Pl) (pt : Pt) : (mD ps pt).length <= ps.length := by
 unfold mD
 rw [List.length_map]
 exact List.length_filter_le _ _
noncomputable def jQ (K : PySem.W.Frag) (c : Cls) : List L -> Res L := mOf eHA (fun a => a.1 ≠ [] /\ a.1.length < 64 /\ ∀ q ∈ a.1, gT q a.2) fun a => .ok (.o (.list ((gK (eJ (mD a.1 a.2))).map slD)))
noncomputable def aBj (K : PySem.W.Frag) (c : Cls) : MS := (eA (aV 1 (nQ K c) (aD (aV 2 (oD K c) (aD (aE 0) (aD (aE 1) aW))) aW)))
theorem aKr {m : List L -> Res L} {f g : En -> Res Ev} {en : En} {a b : D} {r : L} (h1 : f en = .ok (.p a)) (h2 : g en = .ok (.p b)) (hm : m [.p a, .p b] = .ok r) : aV 2 m (aD f (aD g aW)) en = .ok (lL r) := by
 ktr_call 3 ⟨aV, aD, aW, h1, h2, Res.bind, Ev.c, fC, dP, kY, hm⟩
theorem aFk (K : PySem.W.Frag) (c : Cls) : ∀ ls, jQ K c ls = .bad \/ fY 2 (aBj K c) ls = jQ K c ls := gL fun a h => by
 obtain ⟨ps, pt⟩ := a
 obtain ⟨h0, hl, hg⟩ := h
 dsimp only at h0 hl hg ⊢
 have t := yU K c ps pt h0 (by omega) hg
 have hh := aAq K c (ps := mD ps pt) (Nat.lt_of_le_of_lt (qN ps pt) hl) (aA6 h0 (by omega) hg) (aCw hg)
 refine cY ?_
 rw [show bL 2 (eHA (ps, pt)) = [some (.p (.list (ps.map plD))), some (.p (.tuple [frD pt.1, frD pt.2]))] from rfl]
 exact aD3 (aF1 (aKr rfl rfl t) hh)
theorem yI (K : PySem.W.Frag) (c : Cls) {ps : List Pl} {pt : Pt} (h0 : ps ≠ []) (hl : ps.length < 64) (hg : ∀ q ∈ ps, gT q pt) : jQ K c [.p (.list (ps.map plD)), .p (.tuple [frD pt.1, frD pt.2])] = .ok (.o (.list ((gK (eJ (mD ps pt))).map slD))) := gP (a := (ps, pt)) u9 ⟨h0, hl, hg⟩
def hiU (p : Pl) (pt : Pt) : Int × Int := ((p.1 * pt.1.1 * pt.2.2 + p.2.1 * pt.2.1 * pt.1.2) * p.2.2.2 + p.2.2.1 * (pt.1.2 * pt.2.2), pt.1.2 * pt.2.2 * p.2.2.2)
theorem vD {p : Pl} {pt : Pt} (g : gT p pt) : AF (hgt p pt) (hiU p pt) := aK5 (AF.refl g.x.1) (AF.refl g.y.1) (AF.refl g.h.1)
theorem aJz {p : Pl} {pt : Pt} (g : gT p pt) : Sz 5000 (hiU p pt).1 /\ Sz 5000 (hiU p pt).2 := by
 obtain ⟨i, j, ⟨_, h1, h2⟩, ⟨_, x1, x2⟩, _, y1, y2⟩ := g
 exact ⟨(N.Sz.addM (Sz.mul (N.Sz.addM (Sz.mul (Sz.mul i x1) y2) (Sz.mul (Sz.mul j y1) x2)) h2) (Sz.mul h1 (Sz.mul x2 y2))).mono (by decide), (Sz.mul (Sz.mul x2 y2) h2).mono (by decide)⟩
noncomputable def fR (K : PySem.W.Frag) (c : Cls) : MS := (bP (cP 2 (aF ixE (aE 1) (mC (.int 0)))) (bP (cP 3 (aF ixE (aE 1) (mC (.int 1)))) (bP (cP 4 (aF eK (aF d8 (aF d8 (aF ixE (aE 0) (mC (.int 0))) (aF ixE (aE 2) (mC (.int 0)))) (aF ixE (aE 3) (mC (.int 1)))) (aF d8 (aF d8 (aF ixE (aE 0) (mC (.int 1))) (aF ixE (aE 3) (mC (.int 0)))) (aF ixE (aE 2) (mC (.int 1)))))) (bP (cP 5 (aF d8 (aF ixE (aE 2) (mC (.int 1))) (aF ixE (aE 3) (mC (.int 1))))) (eA (aN d6 (aD (aF eK (aF d8 (aE 4) (aF ixE (aF ixE (aE 0) (mC (.int 2))) (mC (.int 1)))) (aF d8 (aF ixE (aF ixE (aE 0) (mC (.int 2))) (mC (.int 0))) (aE 5))) (aD (aF d8 (aE 5) (aF ixE (aF ixE (aE 0) (mC (.int 2))) (mC (.int 1)))) aW))))))))
noncomputable def cG (K : PySem.W.Frag) (c : Cls) (ls : List L) : Res L := fY 6 (fR K c) ls
theorem oA (K : PySem.W.Frag) (c : Cls) : ∀ ls, cG K c ls = .bad \/ fY 6 (fR K c) ls = cG K c ls := fun _ => .inr rfl
theorem aIh (K : PySem.W.Frag) (c : Cls) {p : Pl} {pt : Pt} (g : gT p pt) : cG K c [.p (plD p), .p (.tuple [frD pt.1, frD pt.2])] = .ok (.p (frD (hiU p pt))) := by
 obtain ⟨i, j, ⟨_, h1, h2⟩, ⟨_, x1, x2⟩, _, y1, y2⟩ := g
 have sl : ∀ {m : Nat} {x : Int}, Sz m x -> m <= 60000 -> Sz 60000 x := fun h l => h.mono l
 have q1 : CMulW p.1 pt.1.1 := ⟨sl i (by decide), sl x1 (by decide)⟩
 have q2 : CMulW (p.1 * pt.1.1) pt.2.2 := ⟨sl (Sz.mul i x1) (by decide), sl y2 (by decide)⟩
 have q3 : CMulW p.2.1 pt.2.1 := ⟨sl j (by decide), sl y1 (by decide)⟩
 have q4 : CMulW (p.2.1 * pt.2.1) pt.1.2 := ⟨sl (Sz.mul j y1) (by decide), sl x2 (by decide)⟩
 have q5 : CMulW pt.1.2 pt.2.2 := ⟨sl x2 (by decide), sl y2 (by decide)⟩
 have q6 : CMulW (p.1 * pt.1.1 * pt.2.2 + p.2.1 * pt.2.1 * pt.1.2) p.2.2.2 := ⟨sl (N.Sz.addM (Sz.mul (Sz.mul i x1) y2) (Sz.mul (Sz.mul j y1) x2)) (by decide), sl h2 (by decide)⟩
 have q7 : CMulW p.2.2.1 (pt.1.2 * pt.2.2) := ⟨sl h1 (by decide), sl (Sz.mul x2 y2) (by decide)⟩
 have q8 : CMulW (pt.1.2 * pt.2.2) p.2.2.2 := ⟨sl (Sz.mul x2 y2) (by decide), sl h2 (by decide)⟩
 have k0 : ixE (.p (.tuple [frD pt.1, frD pt.2])) (.p (.int 0)) = .ok (.p (frD pt.1)) := iS _ _
 have k1 : ixE (.p (.tuple [frD pt.1, frD pt.2])) (.p (.int 1)) = .ok (.p (frD pt.2)) := i9 _ _ _
 unfold cG
 refine cY ?_
 rw [show bL 6 [.p (plD p), .p (.tuple [frD pt.1, frD pt.2])] = [some (.p (plD p)), some (.p (.tuple [frD pt.1, frD pt.2])), none, none, none, none] from rfl]
 unfold fR
 refine (aK (cA (aZ rfl rfl k0))).trans ((aK (cA (aZ rfl rfl k1))).trans ?_)
 simp only [List.set_cons_succ, List.set_cons_zero]
 refine (aK (cA (d := .int (p.1 * pt.1.1 * pt.2.2 + p.2.1 * pt.2.1 * pt.1.2)) ?_)).trans ((aK (cA (d := .int (pt.1.2 * pt.2.2)) ?_)).trans (eV ?_))
 ·walk_at "1a"
 ·walk_at "1a"
 ·ktr_call 11 ⟨frD, hiU⟩
noncomputable def eZ (K : PySem.W.Frag) (c : Cls) : MS := (iD (bZ (aF (eqE false) (aF d8 (aF ixE (aF ixE (aE 2) (aE 6)) (mC (.int 0))) (aF ixE (aE 3) (mC (.int 1)))) (aF d8 (aF ixE (aE 3) (mC (.int 0))) (aF ixE (aF ixE (aE 2) (aE 6)) (mC (.int 1)))))) (iM 5 (aN d6 (aD (aF ixE (aF ixE (aE 0) (aE 6)) (mC (.int 0))) (aD (aF ixE (aF ixE (aE 0) (aE 6)) (mC (.int 1))) aW)))) dR)
noncomputable def dX (K : PySem.W.Frag) (c : Cls) : MS := (iD (bZ (aF gtE (aF d8 (aF ixE (aE 4) (mC (.int 0))) (aF ixE (aE 3) (mC (.int 1)))) (aF d8 (aF ixE (aE 3) (mC (.int 0))) (aF ixE (aE 4) (mC (.int 1)))))) (cP 3 (aE 4)) dR)
noncomputable def eY (K : PySem.W.Frag) (c : Cls) : En -> Res Ev := (aV 2 (cG K c) (aD (aE 0) (aD (aE 1) aW)))
noncomputable def fS (K : PySem.W.Frag) (c : Cls) : MS := (bP (cP 2 (jH 1 [1] (tN (aE 0)) (a9 0) rD (eY K c))) (fun en => (bP (cP 3 (aF ixE (aE 2) (mC (.int 0)))) (bP (v9 (tN (aE 2)) (a9 4) (dX K c)) (bP (cP 5 (aN k8 aW)) (bP (v9 (rG n6 (aD (aN gG (aD (aE 0) aW)) aW)) (a9 6) (eZ K c)) (eA (aE 5)))))) (frz 2 en)))
noncomputable def cK (K : PySem.W.Frag) (c : Cls) (ls : List L) : Res L := fY 7 (fS K c) ls
theorem nT (K : PySem.W.Frag) (c : Cls) : ∀ ls, cK K c ls = .bad \/ fY 7 (fS K c) ls = cK K c ls := fun _ => .inr rfl
theorem aBx (K : PySem.W.Frag) (c : Cls) (A B C E F : Option L) : ∀ (xs : List (Int × Int)) (b : Int × Int) (q4 : Option L), (∀ x ∈ b :: xs, Sz 5000 x.1 /\ Sz 5000 x.2) -> ∃ r4, fE (a9 4) (dX K c) (xs.map frD) [A, B, C, some (.p (frD b)), q4, E, F] = some (.nx [A, B, C, some (.p (frD (best b xs))), r4, E, F])
 | [], b, q4, _ => ⟨q4, rfl⟩
 | x :: xs, b, q4, h => by
  have hb := h b (.head _)
  have hx := h x (.tail _ (.head _))
  obtain ⟨r4, ih⟩ := aBx K c A B C E F xs (if ltF b x = true then x else b) (some (.p (frD x))) fun y hy => by
   rcases List.mem_cons.mp hy with z | z
   ·rw [z]; split
    ·exact hx
    ·exact hb
   ·exact h y (.tail _ (.tail _ z))
  refine ⟨r4, ?_⟩
  have q1 : CMulW x.1 b.2 := ⟨hx.1.mono (by decide), hb.2.mono (by decide)⟩
  have q2 : CMulW b.1 x.2 := ⟨hb.1.mono (by decide), hx.2.mono (by decide)⟩
  have tt : bZ (aF gtE (aF d8 (aF ixE (aE 4) (mC (.int 0))) (aF ixE (aE 3) (mC (.int 1)))) (aF d8 (aF ixE (aE 3) (mC (.int 0))) (aF ixE (aE 4) (mC (.int 1))))) [A, B, C, some (.p (frD b)), some (.p (frD x)), E, F] = .ok (ltF b x) := iT (aZ (aZ (aZ rfl rfl (jE x)) (aZ rfl rfl (i7 b)) (lM q1)) (aZ (aZ rfl rfl (jE b)) (aZ rfl rfl (i7 x)) (lM q2)) rfl)
  have hbd : dX K c [A, B, C, some (.p (frD b)), some (.p (frD x)), E, F] = some (.nx [A, B, C, some (.p (frD (if ltF b x = true then x else b))), some (.p (frD x)), E, F]) := by
   unfold dX
   by_cases z : ltF b x = true
   ·rw [z] at tt
    rw [if_pos z]
    exact (mV tt).trans (cA rfl)
   ·rw [Bool.eq_false_iff.mpr z] at tt
    rw [if_neg z]
    exact jU tt
  rw [List.map_cons, s8 rfl hbd]
  exact ih
theorem aC0 {ps : List Pl} {pt : Pt} (h0 : ps ≠ []) (h : ∀ q ∈ ps, gT q pt) {pk : Int × Int} (hp : pk = best (hiU (ps.headD (0, 0, (0, 1))) pt) (ps.map fun q => hiU q pt)) {q : Pl} (hq : q ∈ ps) : (hiU q pt).1 * pk.2 = pk.1 * (hiU q pt).2 ↔ hgt q pt = iE ps pt := by
 have hd : ps.headD (0, 0, (0, 1)) ∈ ps := by
  cases ps with
  | nil => exact absurd rfl h0
  | cons a r => exact .head _
 have ge := p8 (ps.map fun q => hiU q pt) (hiU (ps.headD (0, 0, (0, 1))) pt) (vD (h _ hd)).b (fun x hx => by
  obtain ⟨r, hr, rfl⟩ := List.mem_map.mp hx
  exact (vD (h r hr)).b)
 obtain ⟨p0, m0, e0⟩ : ∃ p0 ∈ ps, pk = hiU p0 pt := by
  rcases kI (ps.map fun q => hiU q pt) (hiU (ps.headD (0, 0, (0, 1))) pt) with z | z
  ·exact ⟨_, hd, hp.trans z⟩
  ·obtain ⟨r, hr, e⟩ := List.mem_map.mp z
   exact ⟨r, hr, hp.trans e.symm⟩
 rw [<- hp] at ge
 have gt := p8 (ps.map fun q => hgt q pt) (hgt (ps.headD (0, 0, (0, 1))) pt) (vD (h _ hd)).a (fun x hx => by
  obtain ⟨r, hr, rfl⟩ := List.mem_map.mp hx
  exact (vD (h r hr)).a)
 have gt : leF _ (iE ps pt) /\ (∀ x ∈ (ps.map fun q => hgt q pt), leF x (iE ps pt)) /\ 1 <= (iE ps pt).2 := gt
 obtain ⟨t0, mt, et⟩ : ∃ t0 ∈ ps, iE ps pt = hgt t0 pt := by
  rcases kI (ps.map fun q => hgt q pt) (hgt (ps.headD (0, 0, (0, 1))) pt) with z | z
  ·exact ⟨_, hd, z⟩
  ·obtain ⟨r, hr, e⟩ := List.mem_map.mp z
   exact ⟨r, hr, e.symm⟩
 have a0 := vD (h p0 m0)
 have at0 := vD (h t0 mt)
 have aq := vD (h q hq)
 have f0 := lC (h p0 m0)
 have ft := lC (h t0 mt)
 have fq := lC (h q hq)
 have sw : ∀ {x y : Int × Int}, AF x y -> AF y x := fun a => ⟨a.b, a.a, by have := a.e; omega⟩
 have lee : ∀ {x y : Int × Int}, AF x y -> leF x y /\ leF y x := fun a => by
  have := a.e
  unfold leF
  omega
 have top : hgt p0 pt = hgt t0 pt := by
  refine zO f0 ft ?_ ?_
  ·have := gt.2.1 _ (List.mem_map.mpr ⟨p0, m0, rfl⟩)
   rw [et] at this
   exact this
  ·have k := ge.2.1 _ (List.mem_map.mpr ⟨t0, mt, rfl⟩)
   rw [e0] at k
   exact j9 at0.a at0.b a0.a (lee at0).1 (j9 at0.b a0.b a0.a k (lee a0).2)
 rw [et, <- top, e0]
 constructor
 ·intro e
  exact aOj fq f0 aq a0 e
 ·intro e
  have c1 := aq.e
  have c2 := a0.e
  rw [e] at c1
  have pp := a0.a
  have k : (hgt p0 pt).2 * ((hiU q pt).1 * (hiU p0 pt).2) = (hgt p0 pt).2 * ((hiU p0 pt).1 * (hiU q pt).2) := by
   generalize (hgt p0 pt).1 = u at c1 c2
   generalize (hgt p0 pt).2 = v at c1 c2
   generalize (hiU q pt).1 = q1 at c1
   generalize (hiU q pt).2 = q2 at c1
   generalize (hiU p0 pt).1 = r1 at c2
   generalize (hiU p0 pt).2 = r2 at c2
   grind
  exact Int.eq_of_mul_eq_mul_left (by omega) k
theorem aE3 {α : Type} (f : α -> D) {xs : List α} {k : Nat} (hk : k < xs.length) : ixE (.p (.list (xs.map f))) (.p (.int (k : Int))) = .ok (.p (f xs[k])) := by
 have : atI (xs.map f) (k : Int) = some (f xs[k]) := lF (by rw [List.getElem?_map, List.getElem?_eq_getElem hk]; rfl)
 simp only [ixE, g8, this]
theorem aC6 (K : PySem.W.Frag) (c : Cls) {ps : List Pl} {pt : Pt} (h0 : ps ≠ []) (hl : ps.length <= 100) (h : ∀ q ∈ ps, gT q pt) : cK K c [.p (.list (ps.map plD)), .p (.tuple [frD pt.1, frD pt.2])] = .ok (.o (.list ((mD ps pt).map slD))) := by
 have ln : gG [.p (.list (ps.map plD))] = .ok (.p (.int (ps.length : Nat))) := by simp [gG, g8]
 have hm : t5 (cS 1 [1] (a9 0) rD (eY K c) [some (.p (.list (ps.map plD))), some (.p (.tuple [frD pt.1, frD pt.2])), none, none, none, none, none]) (ps.map plD) = some (ps.map fun q => frD (hiU q pt)) := by
  refine kM _ fun q hq => ?_
  have he : eY K c [some (.p (plD q)), some (.p (.tuple [frD pt.1, frD pt.2]))] = .ok (.p (frD (hiU q pt))) := eW rfl rfl (aIh K c (h q hq))
  unfold cS
  ktr_call 3 ⟨a9, aCy, aFz, rD, List.replicate, List.cons_append, List.nil_append, he, Ev.c⟩
 have hc := aCc (n := 1) (js := [1]) (fi := tN (aE 0)) (en := [some (.p (.list (ps.map plD))), some (.p (.tuple [frD pt.1, frD pt.2])), none, none, none, none, none]) rfl (by rw [List.length_map]; omega) hm
 have eH : (ps.map fun q => frD (hiU q pt)) = (ps.map fun q => hiU q pt).map frD := by rw [List.map_map]; rfl
 rw [eH] at hc
 have n0 : 0 < ps.length := List.length_pos_iff.mpr h0
 have hd : ps.headD (0, 0, (0, 1)) = ps[0] := by
  cases ps with
  | nil => exact absurd rfl h0
  | cons a r => rfl
 have sz : ∀ x ∈ hiU (ps.headD (0, 0, (0, 1))) pt :: ps.map fun q => hiU q pt, Sz 5000 x.1 /\ Sz 5000 x.2 := fun x hx => by
  rcases List.mem_cons.mp hx with z | z
  ·rw [z, hd]; exact aJz (h _ (List.getElem_mem n0))
  ·obtain ⟨q, hq, rfl⟩ := List.mem_map.mp z
   exact aJz (h q hq)
 have i0 : ixE (.p (.list ((ps.map fun q => hiU q pt).map frD))) (.p (.int 0)) = .ok (.p (frD (hiU (ps.headD (0, 0, (0, 1))) pt))) := by
  have := aE3 frD (xs := ps.map fun q => hiU q pt) (k := 0) (by rw [List.length_map]; exact n0)
  rw [List.getElem_map] at this
  rw [hd]
  exact this
 obtain ⟨r4, hp⟩ := aBx K c (some (.p (.list (ps.map plD)))) (some (.p (.tuple [frD pt.1, frD pt.2]))) (some (.p (.list ((ps.map fun q => hiU q pt).map frD)))) none none (ps.map fun q => hiU q pt) (hiU (ps.headD (0, 0, (0, 1))) pt) none sz
 have bm := kI (ps.map fun q => hiU q pt) (hiU (ps.headD (0, 0, (0, 1))) pt)
 have pz : Sz 5000 (best (hiU (ps.headD (0, 0, (0, 1))) pt) (ps.map fun q => hiU q pt)).1 /\ Sz 5000 (best (hiU (ps.headD (0, 0, (0, 1))) pt) (ps.map fun q => hiU q pt)).2 := by
  rcases bm with z | z
  ·rw [z]; exact sz _ (.head _)
  ·exact sz _ (.tail _ z)
 have ki := fun {q : Pl} (hq : q ∈ ps) => aC0 h0 h (pk := best (hiU (ps.headD (0, 0, (0, 1))) pt) (ps.map fun q => hiU q pt)) rfl hq
 generalize best (hiU (ps.headD (0, 0, (0, 1))) pt) (ps.map fun q => hiU q pt) = pk at hp pz ki
 have step : ∀ (m : Nat) (ks : List Nat) (acc : List Pl) (q6 : Option L), ks = (List.range' (ps.length - m) m) -> m <= ps.length -> acc = (ps.take (ps.length - m)).filter (fun q => decide (hgt q pt = iE ps pt)) -> ∃ r6, fE (a9 6) (eZ K c) (ks.map fun k : Nat => PyData.int (k : Int)) [some (.p (.list (ps.map plD))), some (.p (.tuple [frD pt.1, frD pt.2])), some (.p (.list ((ps.map fun q => hiU q pt).map frD))), some (.p (frD pk)), r4, some (.o (.list ((acc.map slp).map slD))), q6] = some (.nx [some (.p (.list (ps.map plD))), some (.p (.tuple [frD pt.1, frD pt.2])), some (.p (.list ((ps.map fun q => hiU q pt).map frD))), some (.p (frD pk)), r4, some (.o (.list ((mD ps pt).map slD))), r6]) := by
  intro m
  induction m with
  | zero =>
   intro ks acc q6 e1 _ e2
   subst e1
   rw [Nat.sub_zero, List.take_length] at e2
   subst e2
   exact ⟨q6, rfl⟩
  | succ m ih =>
   intro ks acc q6 e1 hm e2
   have hk : ps.length - (m + 1) < ps.length := by omega
   have e3 : List.range' (ps.length - (m + 1)) (m + 1) = (ps.length - (m + 1)) :: List.range' (ps.length - m) m := by
    rw [List.range'_succ, show ps.length - (m + 1) + 1 = ps.length - m by omega]
   rw [e1, e3, List.map_cons]
   generalize hkk : ps.length - (m + 1) = k at hk e2
   have tk : ps.take (ps.length - m) = ps.take k ++ [ps[k]] := by rw [List.take_append_getElem hk]; congr 1; omega
   have g := h _ (List.getElem_mem hk)
   have sq := aJz g
   have j1 : ixE (.p (.list ((ps.map fun q => hiU q pt).map frD))) (.p (.int (k : Int))) = .ok (.p (frD (hiU ps[k] pt))) := by
    have := aE3 frD (xs := ps.map fun q => hiU q pt) (k := k) (by rw [List.length_map]; exact hk)
    rw [List.getElem_map] at this
    exact this
   have j2 : ixE (.p (.list (ps.map plD))) (.p (.int (k : Int))) = .ok (.p (plD ps[k])) := aE3 plD hk
   have c1 : CMulW (hiU ps[k] pt).1 pk.2 := ⟨sq.1.mono (by decide), pz.2.mono (by decide)⟩
   have c2 : CMulW pk.1 (hiU ps[k] pt).2 := ⟨pz.1.mono (by decide), sq.2.mono (by decide)⟩
   have tt : bZ (aF (eqE false) (aF d8 (aF ixE (aF ixE (aE 2) (aE 6)) (mC (.int 0))) (aF ixE (aE 3) (mC (.int 1)))) (aF d8 (aF ixE (aE 3) (mC (.int 0))) (aF ixE (aF ixE (aE 2) (aE 6)) (mC (.int 1))))) [some (.p (.list (ps.map plD))), some (.p (.tuple [frD pt.1, frD pt.2])), some (.p (.list ((ps.map fun q => hiU q pt).map frD))), some (.p (frD pk)), r4, some (.o (.list ((acc.map slp).map slD))), some (.p (.int (k : Int)))] = .ok ((hiU ps[k] pt).1 * pk.2 == pk.1 * (hiU ps[k] pt).2) := iT (aZ (aZ (aZ (aZ rfl rfl j1) rfl (jE _)) (aZ rfl rfl (i7 pk)) (lM c1)) (aZ (aZ rfl rfl (jE pk)) (aZ (aZ rfl rfl j1) rfl (i7 _)) (lM c2)) t9)
   have tb : ((hiU ps[k] pt).1 * pk.2 == pk.1 * (hiU ps[k] pt).2) = decide (hgt ps[k] pt = iE ps pt) := by
    rw [Bool.eq_iff_iff, beq_iff_eq, decide_eq_true_iff]
    exact ki (List.getElem_mem hk)
   rw [tb] at tt
   have al : ((acc.map slp).map slD).length <= 100000 := by
    rw [List.length_map, List.length_map, e2]
    have := List.length_filter_le (fun q => decide (hgt q pt = iE ps pt)) (ps.take k)
    rw [List.length_take] at this
    omega
   by_cases z : hgt ps[k] pt = iE ps pt
   ·rw [decide_eq_true z] at tt
    obtain ⟨r6, ih⟩ := ih _ (acc ++ [ps[k]]) (some (.p (.int (k : Int)))) rfl (by omega) (by
     rw [tk, List.filter_append, e2, List.filter_cons, if_pos (decide_eq_true z)]
     rfl)
    refine ⟨r6, ?_⟩
    have em : ((acc ++ [ps[k]]).map slp).map slD = (acc.map slp).map slD ++ [slD (slp ps[k])] := by rw [List.map_append, List.map_append]; rfl
    have hb : eZ K c [some (.p (.list (ps.map plD))), some (.p (.tuple [frD pt.1, frD pt.2])), some (.p (.list ((ps.map fun q => hiU q pt).map frD))), some (.p (frD pk)), r4, some (.o (.list ((acc.map slp).map slD))), some (.p (.int (k : Int)))] = some (.nx [some (.p (.list (ps.map plD))), some (.p (.tuple [frD pt.1, frD pt.2])), some (.p (.list ((ps.map fun q => hiU q pt).map frD))), some (.p (frD pk)), r4, some (.o (.list (((acc ++ [ps[k]]).map slp).map slD))), some (.p (.int (k : Int)))]) := by
     rw [em]
     refine (mV tt).trans (aIw rfl ?_ al)
     ktr_call 3 ⟨aN, aD, aW, aF, aE, mC, d6, jV, Res.bind, Ev.c, j2, lT, lO⟩
     rfl
    rw [s8 rfl hb]
    exact ih
   ·rw [decide_eq_false z] at tt
    obtain ⟨r6, ih⟩ := ih _ acc (some (.p (.int (k : Int)))) rfl (by omega) (by
     rw [tk, List.filter_append, e2, List.filter_cons, if_neg (by rw [decide_eq_false z]; exact Bool.false_ne_true), List.filter_nil, List.append_nil])
    refine ⟨r6, ?_⟩
    rw [s8 rfl (jU tt)]
    exact ih
 obtain ⟨r6, hs⟩ := step ps.length (List.range ps.length) [] none (by rw [Nat.sub_self, List.range_eq_range']) (Nat.le_refl _) (by rw [Nat.sub_self]; rfl)
 unfold cK
 refine cY ?_
 rw [show bL 7 [.p (.list (ps.map plD)), .p (.tuple [frD pt.1, frD pt.2])] = [some (.p (.list (ps.map plD))), some (.p (.tuple [frD pt.1, frD pt.2])), none, none, none, none, none] from rfl]
 unfold fS
 refine (aK (kL hc)).trans ?_
 simp only [List.set_cons_succ, List.set_cons_zero, frz, List.getElem?_cons_succ, List.getElem?_cons_zero]
 refine (aK (cA (aZ rfl rfl i0))).trans ?_
 simp only [List.set_cons_succ, List.set_cons_zero]
 refine (aK ((l4 (ds := (ps.map fun q => hiU q pt).map frD) rfl).trans hp)).trans ((aK (kL (d := .list []) rfl)).trans ?_)
 simp only [List.set_cons_succ, List.set_cons_zero]
 have hit : rG n6 (aD (aN gG (aD (aE 0) aW)) aW) [some (.p (.list (ps.map plD))), some (.p (.tuple [frD pt.1, frD pt.2])), some (.p (.list ((ps.map fun q => hiU q pt).map frD))), some (.p (frD pk)), r4, some (.o (.list [])), none] = .ok ((List.range ps.length).map fun k : Nat => PyData.int (k : Int)) := by
  have e : ((List.range ps.length).map fun k : Nat => PyData.int (k : Int)) = qT 0 ps.length := by rw [vY]; unfold cols; rw [List.map_map]; rfl
  rw [e]
  exact aNb (a := .int (ps.length : Nat)) (jD rfl ln) (mO _ (by omega))
 refine (aK ((l4 hit).trans hs)).trans ?_
 rfl
noncomputable def cV (K : PySem.W.Frag) (c : Cls) : List L -> Res L := mOf eII (fun _ => True) fun a => .ok (.p (.int (Int.gcd a.1 a.2 : Nat)))
noncomputable def dG (K : PySem.W.Frag) (c : Cls) : En -> Res Bool := (bZ (aF gtE (aE 1) (mC (.int 0))))
noncomputable def dB (K : PySem.W.Frag) (c : Cls) : MS := (bP (cP 2 (aF eS (aE 0) (aE 1))) (bP (cP 0 (aE 1)) (cP 1 (aE 2))))
noncomputable def jL (K : PySem.W.Frag) (c : Cls) : MS := (bP (cP 0 (aN uG (aD (aE 0) aW))) (bP (cP 1 (aN uG (aD (aE 1) aW))) (bP (lH (dG K c) (dB K c)) (eA (aE 0)))))
theorem aNp (K : PySem.W.Frag) (c : Cls) : ∀ (n : Nat) (l s : Int) (r : Option L), 0 <= l -> 0 <= s -> s.toNat <= n -> ∃ r', mWh (dG K c) (dB K c) (n + 1) [some (.p (.int l)), some (.p (.int s)), r] = some (.nx [some (.p (.int (Int.gcd l s : Nat))), some (.p (.int 0)), r']) := by
 intro n
 have hc : ∀ (l s : Int) (r : Option L), dG K c [some (.p (.int l)), some (.p (.int s)), r] = .ok (decide (0 < s)) := fun l s r => iT (aZ rfl rfl rfl)
 have done : ∀ (n : Nat) (l : Int) (r : Option L), 0 <= l -> mWh (dG K c) (dB K c) (n + 1) [some (.p (.int l)), some (.p (.int 0)), r] = some (.nx [some (.p (.int (Int.gcd l 0 : Nat))), some (.p (.int 0)), r]) := fun n l r hl => by
  unfold mWh
  rw [hc, FR.zK hl]
  rfl
 induction n with
 | zero =>
  intro l s r hl hs hn
  have : s = 0 := by omega
  subst this
  exact ⟨r, done 0 l r hl⟩
 | succ n ih =>
  intro l s r hl hs hn
  by_cases h0 : s = 0
  ·subst h0
   exact ⟨r, done _ l r hl⟩
  ·have em : l.fmod s = l % s := Int.fmod_eq_emod_of_nonneg l hs
   have m0 := Int.emod_nonneg l h0
   have m1 := Int.emod_lt_of_pos l (show 0 < s by omega)
   obtain ⟨r', ih⟩ := ih s (l % s) (some (.p (.int (l % s)))) hs m0 (by omega)
   refine ⟨r', ?_⟩
   rw [FR.xM hl hs] at ih
   have hb : dB K c [some (.p (.int l)), some (.p (.int s)), r] = some (.nx [some (.p (.int s)), some (.p (.int (l % s))), some (.p (.int (l % s)))]) := by
    ktr_call 13 ⟨dB, aF, aE, mC, bP, cP, Res.bind, Ev.c, fW, em⟩
   have ht : dG K c [some (.p (.int l)), some (.p (.int s)), r] = .ok true := by rw [hc, decide_eq_true (by omega)]
   unfold mWh
   rw [ht]
   dsimp only
   rw [hb]
   exact ih
theorem oF (K : PySem.W.Frag) (c : Cls) : ∀ ls, cV K c ls = .bad \/ fY 3 (jL K c) ls = cV K c ls := gL fun x _ => by
 obtain ⟨a, b⟩ := x
 obtain ⟨r', h⟩ := aNp K c _ (if a < 0 then -a else a) (if b < 0 then -b else b) none (by split <;> omega) (by split <;> omega) (Nat.le_refl _)
 have h := nW h
 rw [FR.yP] at h
 refine cY ?_
 rw [show bL 3 (eII (a, b)) = [some (.p (.int a)), some (.p (.int b)), none] from rfl]
 refine (aK (cA (d := .int (if a < 0 then -a else a)) rfl)).trans ((aK (cA (d := .int (if b < 0 then -b else b)) rfl)).trans ((aK h).trans ?_))
 rfl
theorem aBb (K : PySem.W.Frag) (c : Cls) (a b : Int) : cV K c [.p (.int a), .p (.int b)] = .ok (.p (.int (Int.gcd a b : Nat))) := gP (a := (a, b)) uP trivial
theorem rJ (a g : Int) : (-a).fdiv g = a.fdiv (-g) := by
 have := Int.neg_fdiv_neg a (-g)
 rw [Int.neg_neg] at this
 exact this
noncomputable def aT (K : PySem.W.Frag) (c : Cls) : List L -> Res L := mOf eII (fun a => a.2 ≠ 0 /\ Sz 8000 a.2) fun a => .ok (.p (frD (FR.mk a.1 a.2)))
noncomputable def gM (K : PySem.W.Frag) (c : Cls) : MS := (bP (iD (bZ (aF ltE (aE 1) (mC (.int 0)))) (bP (cP 0 (mUn kO (aE 0))) (cP 1 (mUn kO (aE 1)))) dR) (bP (cP 2 (aV 2 (cV K c) (aD (aE 0) (aD (aE 1) aW)))) (eA (aN d6 (aD (aF eU (aE 0) (aE 2)) (aD (aF eU (aE 1) (aE 2)) aW))))))
theorem lY (K : PySem.W.Frag) (c : Cls) : ∀ ls, aT K c ls = .bad \/ fY 3 (gM K c) ls = aT K c ls := gL fun x h => by
 obtain ⟨t, b⟩ := x
 obtain ⟨hb, hz⟩ := h
 dsimp only at hb hz ⊢
 obtain ⟨q1, q2⟩ := aOd t hb hz
 refine cY ?_
 rw [show bL 3 (eII (t, b)) = [some (.p (.int t)), some (.p (.int b)), none] from rfl]
 unfold gM
 have t1 : bZ (aF ltE (aE 1) (mC (.int 0))) [some (.p (.int t)), some (.p (.int b)), none] = .ok (decide (b < 0)) := iT (aZ rfl rfl rfl)
 by_cases hn : b < 0
 ·rw [decide_eq_true hn] at t1
  have es : FR.mk t b = (t.fdiv (-((Int.gcd t b : Nat) : Int)), b.fdiv (-((Int.gcd t b : Nat) : Int))) := by unfold FR.mk FR.sgn; rw [if_pos hn]
  have d := aBb K c (-t) (-b)
  rw [show Int.gcd (-t) (-b) = Int.gcd t b from by rw [Int.neg_gcd, Int.gcd_neg]] at d
  refine (aK ((mV t1).trans ((aK (cA (d := .int (-t)) rfl)).trans (cA (d := .int (-b)) rfl)))).trans ((aK (cA (eW rfl rfl d))).trans (eV ?_))
  rw [es, <- rJ, <- rJ]
  have c1 : fI (-t) ((Int.gcd t b : Nat) : Int) := q1
  have c2 : fI (-b) ((Int.gcd t b : Nat) : Int) := q1
  ktr_call 11 ⟨frD⟩
 ·rw [decide_eq_false hn] at t1
  have es : FR.mk t b = (t.fdiv ((Int.gcd t b : Nat) : Int), b.fdiv ((Int.gcd t b : Nat) : Int)) := by unfold FR.mk FR.sgn; rw [if_neg hn]
  have d := aBb K c t b
  refine (aK (jU t1)).trans ((aK (cA (eW rfl rfl d))).trans (eV ?_))
  rw [es]
  have c2 : fI b ((Int.gcd t b : Nat) : Int) := q1
  ktr_call 11 ⟨frD⟩
theorem g6 (K : PySem.W.Frag) (c : Cls) {t b : Int} (h0 : b ≠ 0) (h1 : Sz 8000 b) : aT K c [.p (.int t), .p (.int b)] = .ok (.p (frD (FR.mk t b))) := gP (a := (t, b)) uP ⟨h0, h1⟩
theorem p40 : aDq 10 40 := ⟨by decide, by decide, by decide⟩
theorem n40 : (10 : Int) ^ Int.toNat 40 ≠ 0 := by decide
theorem aEs {f : En -> Res Ev} {en : En} {cell : Int} (h : f en = .ok (.p (.int cell))) : aF eS f (aF oV (mC (.int 10)) (mC (.int 40))) en = .ok (.p (.int (cell.fmod (10 ^ Int.toNat 40)))) := aZ h (aZ (x := .p (.int 10)) (y := .p (.int 40)) rfl rfl (sG p40)) (fW n40)
theorem cdl {i j : Int} (h0 : j ≠ 0) (h : j.natAbs < 2 ^ 90) : fI i j := ⟨h0, (show Sz 90 j from h).mono (by decide)⟩
noncomputable def dQ (K : PySem.W.Frag) (c : Cls) : MS := (bP (cP 3 (aF eS (aE 0) (aF oV (mC (.int 10)) (mC (.int 40))))) (bP (iD (bZ (aF (eqE false) (aF eS (aF eU (aE 1) (mC (.int 4))) (mC (.int 4))) (mC (.int 1)))) (eA (aN d6 (aD (aF eS (aE 3) (aF eK (aE 2) (mC (.int 1)))) (aD (aF eS (aE 3) (aF eK (aE 2) (mC (.int 1)))) aW)))) dR) (bP (iD (bZ (aF (eqE false) (aF eS (aF eU (aE 1) (mC (.int 4))) (mC (.int 4))) (mC (.int 2)))) (eA (aN d6 (aD (aF eS (aE 3) (mC (.int 2))) (aD (aF eS (aF eU (aE 3) (mC (.int 2))) (aF eK (aE 2) (mC (.int 1)))) aW)))) dR) (eA (aN d6 (aD (aF eS (aE 3) (aF eK (aE 2) (mC (.int 1)))) (aD (aF eS (aF eU (aE 3) (aF eK (aE 2) (mC (.int 1)))) (aF eK (aE 2) (mC (.int 1)))) aW)))))))
noncomputable def cN (K : PySem.W.Frag) (c : Cls) (ls : List L) : Res L := fY 4 (dQ K c) ls
theorem l9 (K : PySem.W.Frag) (c : Cls) : ∀ ls, cN K c ls = .bad \/ fY 4 (dQ K c) ls = cN K c ls := fun _ => .inr rfl
theorem aEy (K : PySem.W.Frag) (c : Cls) (cell kind : Int) {most : Int} (m0 : 0 <= most) (m1 : most <= 8) : ∃ s : Int × Int, (0 <= s.1 /\ s.1 <= 8 /\ 0 <= s.2 /\ s.2 <= 8) /\ cN K c [.p (.int cell), .p (.int kind), .p (.int most)] = .ok (.p (slD s)) := by
 have n4 : (4 : Int) ≠ 0 := by decide
 have n2 : (2 : Int) ≠ 0 := by decide
 have nm : most + 1 ≠ 0 := by omega
 have d4 : fI kind 4 := cdl n4 (by decide)
 have e0 : aF eS (aE 0) (aF oV (mC (.int 10)) (mC (.int 40))) [some (.p (.int cell)), some (.p (.int kind)), some (.p (.int most)), none] = .ok (.p (.int (cell.fmod (10 ^ Int.toNat 40)))) := aEs rfl
 generalize cell.fmod (10 ^ Int.toNat 40) = C at e0
 have a1 := b8 (a := C) (b := most + 1) (by omega)
 have a2 := b8 (a := C.fdiv (most + 1)) (b := most + 1) (by omega)
 have a3 := b8 (a := C.fdiv 2) (b := most + 1) (by omega)
 have a4 := b8 (a := C) (b := 2) (by decide)
 have d2 : fI C 2 := cdl n2 (by decide)
 have dm : fI C (most + 1) := cdl nm (by omega)
 have tt : ∀ n : Int, bZ (aF (eqE false) (aF eS (aF eU (aE 1) (mC (.int 4))) (mC (.int 4))) (mC (.int n))) [some (.p (.int cell)), some (.p (.int kind)), some (.p (.int most)), some (.p (.int C))] = .ok ((kind.fdiv 4).fmod 4 == n) := fun n => iT (aZ (aZ (aZ rfl rfl (fZ d4)) rfl (fW n4)) rfl t9)
 have t1 := tt 1
 have t2 := tt 2
 generalize ((kind.fdiv 4).fmod 4 == 1) = b1 at t1
 generalize ((kind.fdiv 4).fmod 4 == 2) = b2 at t2
 suffices h : ∃ s : Int × Int, (0 <= s.1 /\ s.1 <= 8 /\ 0 <= s.2 /\ s.2 <= 8) /\ dQ K c (bL 4 [.p (.int cell), .p (.int kind), .p (.int most)]) = some (.rt (.p (slD s))) from let ⟨s, g, e⟩ := h; ⟨s, g, cY e⟩
 rw [show bL 4 [.p (.int cell), .p (.int kind), .p (.int most)] = [some (.p (.int cell)), some (.p (.int kind)), some (.p (.int most)), none] from rfl]
 unfold dQ
 cases b1 with
 | true =>
  refine ⟨(C.fmod (most + 1), C.fmod (most + 1)), ⟨by omega, by omega, by omega, by omega⟩, (aK (cA e0)).trans (iC ((mV t1).trans (eV ?_)))⟩
  ktr_call 11 ⟨slD⟩
 | false =>
  cases b2 with
  | true =>
   refine ⟨(C.fmod 2, (C.fdiv 2).fmod (most + 1)), ⟨by omega, by omega, by omega, by omega⟩, (aK (cA e0)).trans ((aK (jU t1)).trans (iC ((mV t2).trans (eV ?_))))⟩
   ktr_call 11 ⟨slD⟩
  | false =>
   refine ⟨(C.fmod (most + 1), (C.fdiv (most + 1)).fmod (most + 1)), ⟨by omega, by omega, by omega, by omega⟩, (aK (cA e0)).trans ((aK (jU t1)).trans ((aK (jU t2)).trans (eV ?_)))⟩
   ktr_call 11 ⟨slD⟩
noncomputable def dM (K : PySem.W.Frag) (c : Cls) : MS := (bP (cP 4 (aF eS (aE 0) (aF oV (mC (.int 10)) (mC (.int 40))))) (bP (iD (bZ (aF (eqE false) (aF eS (aE 1) (mC (.int 4))) (mC (.int 0)))) (eA (aN d6 (aD (aF eS (aE 4) (mC (.int 3))) (aD (mC (.int 1)) aW)))) dR) (bP (iD (bZ (aF (eqE false) (aF eS (aE 1) (mC (.int 4))) (mC (.int 1)))) (eA (aV 2 (aT K c) (aD (aF iV (aF eS (aE 4) (aF eK (aF d8 (mC (.int 2)) (aF oV (mC (.int 10)) (mC (.int 20)))) (mC (.int 1)))) (aF oV (mC (.int 10)) (mC (.int 20)))) (aD (aF eK (mC (.int 1)) (aF eS (aF eU (aE 4) (mC (.int 7))) (mC (.int 12)))) aW)))) dR) (bP (cP 5 (mUn kO (aF eK (aF eK (aF d8 (aE 2) (aE 2)) (aF d8 (aE 2) (aE 3))) (aF d8 (aE 3) (aE 3))))) (bP (iD (bZ (aF (eqE false) (aF eS (aE 1) (mC (.int 4))) (mC (.int 2)))) (eA (aN d6 (aD (aF eK (aF d8 (aE 5) (mC (.int 4))) (aF eS (aE 4) (mC (.int 3)))) (aD (mC (.int 1)) aW)))) dR) (eA (aV 2 (aT K c) (aD (aF eK (aF d8 (aE 5) (mC (.int 60))) (aF eS (aE 4) (mC (.int 41)))) (aD (aF eK (mC (.int 1)) (aF eS (aF eU (aE 4) (mC (.int 41))) (mC (.int 6)))) aW)))))))))
noncomputable def bT (K : PySem.W.Frag) (c : Cls) (ls : List L) : Res L := fY 6 (dM K c) ls
theorem k9 (K : PySem.W.Frag) (c : Cls) : ∀ ls, bT K c ls = .bad \/ fY 6 (dM K c) ls = bT K c ls := fun _ => .inr rfl
def GH (h : Int × Int) : Prop := 1 <= h.2 /\ Sz 70 h.1 /\ Sz 4 h.2
theorem aKc {t : Int} (h : Sz 70 t) : GH (t, 1) := ⟨Int.le_refl 1, h, (show Sz 4 (1 : Int) by unfold Sz; decide)⟩
theorem gmk {t b : Int} (h0 : b ≠ 0) (ht : Sz 70 t) (hb : Sz 4 b) : GH (FR.mk t b) := ⟨(FR.y9 h0).1.pos, Sz.le ht (natAbs_fdiv_le _ _), Sz.le hb (natAbs_fdiv_le _ _)⟩
theorem aBc (K : PySem.W.Frag) (c : Cls) (cell kind : Int) {i j : Int} (i0 : 0 <= i) (i1 : i <= 8) (j0 : 0 <= j) (j1 : j <= 8) : ∃ h : Int × Int, GH h /\ bT K c [.p (.int cell), .p (.int kind), .p (.int i), .p (.int j)] = .ok (.p (frD h)) := by
 have n4 : (4 : Int) ≠ 0 := by decide
 have e0 : aF eS (aE 0) (aF oV (mC (.int 10)) (mC (.int 40))) [some (.p (.int cell)), some (.p (.int kind)), some (.p (.int i)), some (.p (.int j)), none, none] = .ok (.p (.int (cell.fmod (10 ^ Int.toNat 40)))) := aEs rfl
 generalize cell.fmod (10 ^ Int.toNat 40) = C at e0
 have p20 : aDq 10 20 := ⟨by decide, by decide, by decide⟩
 have w20 : (10 : Int) ^ Int.toNat 20 = 100000000000000000000 := by decide
 have sl : ∀ {x : Int}, Sz 90 x -> Sz 60000 x := fun h => h.mono (by decide)
 have cm : CMulW 2 100000000000000000000 := ⟨sl (by unfold Sz; decide), sl (by unfold Sz; decide)⟩
 have m3 := b8 (a := C) (b := 3) (by decide)
 have m20 := b8 (a := C) (b := 2 * 100000000000000000000 + 1) (by decide)
 have m12 := b8 (a := C.fdiv 7) (b := 12) (by decide)
 have m41 := b8 (a := C) (b := 41) (by decide)
 have m6 := b8 (a := C.fdiv 41) (b := 6) (by decide)
 have k3 : (3 : Int) ≠ 0 := by decide
 have k12 : (12 : Int) ≠ 0 := by decide
 have k41 : (41 : Int) ≠ 0 := by decide
 have k6 : (6 : Int) ≠ 0 := by decide
 have k20 : (2 * 100000000000000000000 + 1 : Int) ≠ 0 := by decide
 have d7 : fI C 7 := cdl (by decide) (by decide)
 have d41 : fI C 41 := cdl (by decide) (by decide)
 have ii : 0 <= i * i /\ i * i <= 64 := ⟨Int.mul_nonneg i0 i0, by have := Int.mul_le_mul i1 i1 i0 (by decide); omega⟩
 have ij : 0 <= i * j /\ i * j <= 64 := ⟨Int.mul_nonneg i0 j0, by have := Int.mul_le_mul i1 j1 j0 (by decide); omega⟩
 have jj : 0 <= j * j /\ j * j <= 64 := ⟨Int.mul_nonneg j0 j0, by have := Int.mul_le_mul j1 j1 j0 (by decide); omega⟩
 have zi : Sz 60000 i := sl (by unfold Sz; omega)
 have zj : Sz 60000 j := sl (by unfold Sz; omega)
 have c1 : CMulW i i := ⟨zi, zi⟩
 have c2 : CMulW i j := ⟨zi, zj⟩
 have c3 : CMulW j j := ⟨zj, zj⟩
 have tt : ∀ (z : Option L) (n : Int), bZ (aF (eqE false) (aF eS (aE 1) (mC (.int 4))) (mC (.int n))) [some (.p (.int cell)), some (.p (.int kind)), some (.p (.int i)), some (.p (.int j)), some (.p (.int C)), z] = .ok (kind.fmod 4 == n) := fun z n => iT (aZ (aZ rfl rfl (fW n4)) rfl t9)
 have t0 := tt none 0
 have t1 := tt none 1
 have eb : (mUn kO (aF eK (aF eK (aF d8 (aE 2) (aE 2)) (aF d8 (aE 2) (aE 3))) (aF d8 (aE 3) (aE 3)))) [some (.p (.int cell)), some (.p (.int kind)), some (.p (.int i)), some (.p (.int j)), some (.p (.int C)), none] = .ok (.p (.int (-(i * i + i * j + j * j)))) := by
  walk_at "1a"
 have bb : -192 <= -(i * i + i * j + j * j) /\ -(i * i + i * j + j * j) <= 0 := by omega
 generalize -(i * i + i * j + j * j) = bw at eb bb
 have t2 := tt (some (.p (.int bw))) 2
 have zb : Sz 60000 bw := sl (by unfold Sz; omega)
 have c4 : CMulW bw 4 := ⟨zb, sl (by unfold Sz; decide)⟩
 have c60 : CMulW bw 60 := ⟨zb, sl (by unfold Sz; decide)⟩
 generalize (kind.fmod 4 == 0) = b0 at t0
 generalize (kind.fmod 4 == 1) = b1 at t1
 generalize (kind.fmod 4 == 2) = b2 at t2
 have l1 := g6 K c (t := C.fmod (2 * 100000000000000000000 + 1) - 100000000000000000000) (b := 1 + (C.fdiv 7).fmod 12) (by omega) ((show Sz 90 _ by unfold Sz; omega).mono (by decide))
 have l2 := g6 K c (t := bw * 60 + C.fmod 41) (b := 1 + (C.fdiv 41).fmod 6) (by omega) ((show Sz 90 _ by unfold Sz; omega).mono (by decide))
 suffices h : ∃ h : Int × Int, GH h /\ dM K c (bL 6 [.p (.int cell), .p (.int kind), .p (.int i), .p (.int j)]) = some (.rt (.p (frD h))) from let ⟨s, g, e⟩ := h; ⟨s, g, cY e⟩
 rw [show bL 6 [.p (.int cell), .p (.int kind), .p (.int i), .p (.int j)] = [some (.p (.int cell)), some (.p (.int kind)), some (.p (.int i)), some (.p (.int j)), none, none] from rfl]
 unfold dM
 cases b0 with
 | true =>
  refine ⟨(C.fmod 3, 1), aKc (by unfold Sz; omega), (aK (cA e0)).trans (iC ((mV t0).trans (eV ?_)))⟩
  ktr_call 11 ⟨frD⟩
 | false =>
 cases b1 with
 | true =>
  refine ⟨_, gmk (by omega) (by unfold Sz; omega) (by unfold Sz; omega), (aK (cA e0)).trans ((aK (jU t0)).trans (iC ((mV t1).trans (eV (eW ?_ ?_ l1)))))⟩
  ·ktr_call 11 ⟨w20⟩
  ·walk_at "1a"
 | false =>
 cases b2 with
 | true =>
  refine ⟨(bw * 4 + C.fmod 3, 1), aKc (by unfold Sz; omega), (aK (cA e0)).trans ((aK (jU t0)).trans ((aK (jU t1)).trans ((aK (cA eb)).trans (iC ((mV t2).trans (eV ?_))))))⟩
  ktr_call 11 ⟨frD⟩
 | false =>
  refine ⟨_, gmk (by omega) (by unfold Sz; omega) (by unfold Sz; omega), (aK (cA e0)).trans ((aK (jU t0)).trans ((aK (jU t1)).trans ((aK (cA eb)).trans ((aK (jU t2)).trans (eV (eW ?_ ?_ l2))))))⟩
  ·walk_at "1a"
  ·walk_at "1a"
noncomputable def dU (K : PySem.W.Frag) (c : Cls) : MS := (bP (cP 1 (aF eS (aE 0) (aF oV (mC (.int 10)) (mC (.int 40))))) (bP (iD (bZ (aF (eqE false) (aF eS (aE 1) (mC (.int 3))) (mC (.int 0)))) (eA (aN d6 (aD (aN d6 (aD (aF iV (aF eS (aF eU (aE 1) (mC (.int 3))) (mC (.int 21))) (mC (.int 10))) (aD (mC (.int 1)) aW))) (aD (aN d6 (aD (aF iV (aF eS (aF eU (aE 1) (mC (.int 63))) (mC (.int 21))) (mC (.int 10))) (aD (mC (.int 1)) aW))) aW)))) dR) (bP (cP 2 (aV 2 (aT K c) (aD (aF iV (aF eS (aE 1) (aF eK (aF d8 (mC (.int 2)) (aF oV (mC (.int 10)) (mC (.int 15)))) (mC (.int 1)))) (aF oV (mC (.int 10)) (mC (.int 15)))) (aD (aF eK (mC (.int 1)) (aF eS (aF eU (aE 1) (mC (.int 5))) (mC (.int 30)))) aW)))) (eA (aN d6 (aD (aE 2) (aD (aV 2 (aT K c) (aD (aF iV (aF eS (aF d8 (aE 1) (mC (.int 48271))) (aF eK (aF d8 (mC (.int 2)) (aF oV (mC (.int 10)) (mC (.int 15)))) (mC (.int 1)))) (aF oV (mC (.int 10)) (mC (.int 15)))) (aD (aF eK (mC (.int 1)) (aF eS (aF eU (aE 1) (mC (.int 7))) (mC (.int 30)))) aW))) aW)))))))
noncomputable def bB (K : PySem.W.Frag) (c : Cls) (ls : List L) : Res L := fY 3 (dU K c) ls
theorem l8 (K : PySem.W.Frag) (c : Cls) : ∀ ls, bB K c ls = .bad \/ fY 3 (dU K c) ls = bB K c ls := fun _ => .inr rfl
def G3 (h : Int × Int) : Prop := 1 <= h.2 /\ Sz 60 h.1 /\ Sz 5 h.2
theorem aPo {t b : Int} (h0 : b ≠ 0) (ht : Sz 60 t) (hb : Sz 5 b) : G3 (FR.mk t b) := ⟨(FR.y9 h0).1.pos, Sz.le ht (natAbs_fdiv_le _ _), Sz.le hb (natAbs_fdiv_le _ _)⟩
theorem aNf {f g : En -> Res Ev} {en : En} {a b : D} (h1 : f en = .ok (.p a)) (h2 : g en = .ok (.p b)) : aN d6 (aD f (aD g aW)) en = .ok (.p (.tuple [a, b])) := by
 ktr_call 3 ⟨aN, aD, aW, h1, h2, d6, jV, Res.bind, Ev.c⟩
theorem vU (K : PySem.W.Frag) (c : Cls) (cell : Int) : ∃ pt : Pt, G3 pt.1 /\ G3 pt.2 /\ bB K c [.p (.int cell)] = .ok (.p (.tuple [frD pt.1, frD pt.2])) := by
 have k3 : (3 : Int) ≠ 0 := by decide
 have k21 : (21 : Int) ≠ 0 := by decide
 have k30 : (30 : Int) ≠ 0 := by decide
 have k15 : (2 * 1000000000000000 + 1 : Int) ≠ 0 := by decide
 have e0 : aF eS (aE 0) (aF oV (mC (.int 10)) (mC (.int 40))) [some (.p (.int cell)), none, none] = .ok (.p (.int (cell.fmod (10 ^ Int.toNat 40)))) := aEs rfl
 have zc : Sz 150 (cell.fmod (10 ^ Int.toNat 40)) := u4 (by decide) (by unfold Sz; decide)
 generalize cell.fmod (10 ^ Int.toNat 40) = C at e0 zc
 have p15 : aDq 10 15 := ⟨by decide, by decide, by decide⟩
 have w15 : (10 : Int) ^ Int.toNat 15 = 1000000000000000 := by decide
 have sl : ∀ {x : Int}, Sz 150 x -> Sz 60000 x := fun h => h.mono (by decide)
 have cm : CMulW 2 1000000000000000 := ⟨sl (by unfold Sz; decide), sl (by unfold Sz; decide)⟩
 have cc : CMulW C 48271 := ⟨sl zc, sl (by unfold Sz; decide)⟩
 have d3 : fI C 3 := cdl (by decide) (by decide)
 have d63 : fI C 63 := cdl (by decide) (by decide)
 have d5 : fI C 5 := cdl (by decide) (by decide)
 have d7 : fI C 7 := cdl (by decide) (by decide)
 have a1 := b8 (a := C.fdiv 3) (b := 21) (by decide)
 have a2 := b8 (a := C.fdiv 63) (b := 21) (by decide)
 have a3 := b8 (a := C) (b := 2 * 1000000000000000 + 1) (by decide)
 have a4 := b8 (a := C * 48271) (b := 2 * 1000000000000000 + 1) (by decide)
 have a5 := b8 (a := C.fdiv 5) (b := 30) (by decide)
 have a6 := b8 (a := C.fdiv 7) (b := 30) (by decide)
 have l1 := g6 K c (t := C.fmod (2 * 1000000000000000 + 1) - 1000000000000000) (b := 1 + (C.fdiv 5).fmod 30) (by omega) ((show Sz 90 _ by unfold Sz; omega).mono (by decide))
 have l2 := g6 K c (t := (C * 48271).fmod (2 * 1000000000000000 + 1) - 1000000000000000) (b := 1 + (C.fdiv 7).fmod 30) (by omega) ((show Sz 90 _ by unfold Sz; omega).mono (by decide))
 have t0 : bZ (aF (eqE false) (aF eS (aE 1) (mC (.int 3))) (mC (.int 0))) [some (.p (.int cell)), some (.p (.int C)), none] = .ok (C.fmod 3 == 0) := iT (aZ (aZ rfl rfl (fW k3)) rfl t9)
 generalize (C.fmod 3 == 0) = b0 at t0
 suffices h : ∃ pt : Pt, G3 pt.1 /\ G3 pt.2 /\ dU K c (bL 3 [.p (.int cell)]) = some (.rt (.p (.tuple [frD pt.1, frD pt.2]))) from let ⟨s, g, g2, e⟩ := h; ⟨s, g, g2, cY e⟩
 rw [show bL 3 [.p (.int cell)] = [some (.p (.int cell)), none, none] from rfl]
 unfold dU
 have o1 : Sz 5 (1 : Int) := by unfold Sz; decide
 cases b0 with
 | true =>
  refine ⟨(((C.fdiv 3).fmod 21 - 10, 1), ((C.fdiv 63).fmod 21 - 10, 1)), ⟨Int.le_refl 1, (show Sz 60 ((C.fdiv 3).fmod 21 - 10) by unfold Sz; omega), o1⟩, ⟨Int.le_refl 1, (show Sz 60 ((C.fdiv 63).fmod 21 - 10) by unfold Sz; omega), o1⟩, (aK (cA e0)).trans (iC ((mV t0).trans (eV ?_)))⟩
  ktr_call 11 ⟨frD⟩
 | false =>
  have f1 : (aV 2 (aT K c) (aD (aF iV (aF eS (aE 1) (aF eK (aF d8 (mC (.int 2)) (aF oV (mC (.int 10)) (mC (.int 15)))) (mC (.int 1)))) (aF oV (mC (.int 10)) (mC (.int 15)))) (aD (aF eK (mC (.int 1)) (aF eS (aF eU (aE 1) (mC (.int 5))) (mC (.int 30)))) aW))) [some (.p (.int cell)), some (.p (.int C)), none] = .ok (.p (frD (FR.mk (C.fmod (2 * 1000000000000000 + 1) - 1000000000000000) (1 + (C.fdiv 5).fmod 30)))) := eW (by ktr_call 11 ⟨w15⟩) (by walk_at "1a") l1
  refine ⟨(FR.mk (C.fmod (2 * 1000000000000000 + 1) - 1000000000000000) (1 + (C.fdiv 5).fmod 30), FR.mk ((C * 48271).fmod (2 * 1000000000000000 + 1) - 1000000000000000) (1 + (C.fdiv 7).fmod 30)), aPo (by omega) (by unfold Sz; omega) (by unfold Sz; omega), aPo (by omega) (by unfold Sz; omega) (by unfold Sz; omega), (aK (cA e0)).trans ((aK (jU t0)).trans ((aK (cA f1)).trans (eV (aNf rfl (eW ?_ ?_ l2)))))⟩
  ·ktr_call 11 ⟨w15⟩
  ·walk_at "1a"
structure GPl (p : Pl) : Prop where
 i0 : 0 <= p.1
 i1 : p.1 <= 8
 j0 : 0 <= p.2.1
 j1 : p.2.1 <= 8
 h : GH p.2.2
theorem GPl.si {p : Pl} (g : GPl p) : Sz 4 p.1 := by have := g.i0; have := g.i1; unfold Sz; omega
theorem GPl.sj {p : Pl} (g : GPl p) : Sz 4 p.2.1 := by have := g.j0; have := g.j1; unfold Sz; omega
theorem GPl.ok {p : Pl} (g : GPl p) {pt : Pt} (x : Good 300 pt.1) (y : Good 300 pt.2) : gT p pt := ⟨g.si.mono (by decide), g.sj.mono (by decide), ⟨g.h.1, g.h.2.1.mono (by decide), g.h.2.2.mono (by decide)⟩, x, y⟩
abbrev Mp := List ((Int × Int) × (Int × Int))
def Gm (m : Mp) : Prop := (m.map (·.1)).Nodup /\ ∀ k h, iW m k = some h -> (0 <= k.1 /\ k.1 <= 8 /\ 0 <= k.2 /\ k.2 <= 8) /\ GH h
theorem sS {α κ : Type} [DecidableEq κ] (k : κ) (v : α) : ∀ m : List (κ × α), (aAo k v m).map (·.1) = m.map (·.1)
 | [] => rfl
 | p :: r => by
  unfold aAo
  rw [List.map_cons, List.map_cons, sS k v r]
  split <;> rfl
theorem tL {α κ : Type} [DecidableEq κ] {k : κ} : ∀ {m : List (κ × α)}, iW m k = none -> k ∉ m.map (·.1)
 | [], _ => fun h => nomatch h
 | p :: r, e => by
  unfold iW at e
  split at e
  ·cases e
  ·rename_i z
   rw [List.map_cons, List.mem_cons]
   rintro (q | q)
   ·exact z q.symm
   ·exact tL e q
theorem aIk {α κ : Type} [DecidableEq κ] {m : List (κ × α)} (h : (m.map (·.1)).Nodup) (k : κ) (v : α) : ((x4 m k v).map (·.1)).Nodup := by
 unfold x4
 cases e : iW m k with
 | none =>
  rw [if_neg (by simp), List.map_append]
  refine List.nodup_append.mpr ⟨h, List.pairwise_singleton _ _, fun a ha b hb z => ?_⟩
  have : b = k := by simpa using hb
  rw [z, this] at ha
  exact tL e ha
 | some x =>
  rw [if_pos (by rfl), sS]
  exact h
theorem Gm.put {m : Mp} (g : Gm m) {k h : Int × Int} (hk : 0 <= k.1 /\ k.1 <= 8 /\ 0 <= k.2 /\ k.2 <= 8) (hh : GH h) : Gm (x4 m k h) := ⟨aIk g.1 k h, fun k' h' e => by
 rw [sF] at e
 split at e
 ·rename_i z; cases e; rw [z]; exact ⟨hk, hh⟩
 ·exact g.2 k' h' e⟩
noncomputable def dF (K : PySem.W.Frag) (c : Cls) : En -> Res Ev := (aN d6 (aD (aF ixE (aE 0) (mC (.int 0))) (aD (aF ixE (aE 0) (mC (.int 1))) (aD (aF aEp (aE 1) (aE 0)) aW))))
noncomputable def fG (K : PySem.W.Frag) (c : Cls) : MS := (bP (cP 6 (aV 2 (bC K c) (aD (aE 0) (aD (aE 5) aW)))) (bP (cP 7 (aV 3 (cN K c) (aD (aV 2 (bX K c) (aD (aE 6) (aD (aE 5) aW))) (aD (aE 1) (aD (aE 2) aW))))) (iD (oP (bZ (aF (aHk true) (aE 7) (aE 4))) (bZ (aF ltE (aN pR (aD (aE 4) aW)) (aE 3)))) (xY 4 (aE 7) (aV 4 (bT K c) (aD (aV 2 (bX K c) (aD (aE 6) (aD (aF eK (aE 5) (mC (.int 70))) aW))) (aD (aE 1) (aD (aF ixE (aE 7) (mC (.int 0))) (aD (aF ixE (aE 7) (mC (.int 1))) aW)))))) dR)))
noncomputable def hX (K : PySem.W.Frag) (c : Cls) : MS := (bP (cP 4 mDT) (bP (v9 (rG n6 (aD (aN (aIq fun i j => if j > i then j else i) (aD (aN gG (aD (aE 0) aW)) (aD (aF eK (aE 3) (mC (.int 2))) aW))) aW)) (a9 5) (fG K c)) (fun en => (eA (jH 1 [4] (tN (aN gE (aD (aE 4) aW))) (a9 0) rD (dF K c))) (frz 4 en))))
noncomputable def cH (K : PySem.W.Frag) (c : Cls) (ls : List L) : Res L := fY 8 (hX K c) ls
theorem nY (K : PySem.W.Frag) (c : Cls) : ∀ ls, cH K c ls = .bad \/ fY 8 (hX K c) ls = cH K c ls := fun _ => .inr rfl
theorem xH {f g : En -> Res Bool} {en : En} {o : Res Bool} (h1 : f en = .ok true) (h2 : g en = o) : oP f g en = o := by
 simp only [oP, h1, Res.bind, h2]
 rfl
theorem aGx {f g : En -> Res Bool} {en : En} (h1 : f en = .ok false) : oP f g en = .ok false := by
 simp only [oP, h1, Res.bind]
 rfl
theorem aMm {i : Nat} {f g : En -> Res Ev} {en : En} {m : Mp} {s h : Int × Int} (he : en[i]? = some (some (.o (.dict (encM slD frD m))))) (h1 : f en = .ok (.p (slD s))) (h2 : g en = .ok (.p (frD h))) (hm : m.length <= 1000) : xY i f g en = some (.nx (en.set i (some (.o (.dict (encM slD frD (x4 m s h))))))) := by
 have hp := aJh (ev := frD) m s h (by omega)
 unfold xY
 simp only [he, h1, h2, Ev.c, hp]
theorem aMd {m : List L -> Res L} {f g h e : En -> Res Ev} {en : En} {a b d u r : D} (h1 : f en = .ok (.p a)) (h2 : g en = .ok (.p b)) (h3 : h en = .ok (.p d)) (h4 : e en = .ok (.p u)) (hm : m [.p a, .p b, .p d, .p u] = .ok (.p r)) : aV 4 m (aD f (aD g (aD h (aD e aW)))) en = .ok (.p r) := by
 ktr_call 3 ⟨aV, aD, aW, h1, h2, h3, h4, Res.bind, Ev.c, fC, dP, kY, hm, lL⟩
theorem aKw {m : Mp} {k h : Int × Int} : x4 m k h ≠ [] := fun z => by
 have := sF m k h k
 rw [z] at this
 simp [iW] at this
theorem aMv (K : PySem.W.Frag) (c : Cls) (cs : List Int) (kind : Int) {most cnt : Int} (m0 : 0 <= most) (m1 : most <= 8) (k : Nat) (hk : k <= 30) (m : Mp) (hm : m.length <= 1000) (gm : Gm m) (c1 : 1 <= cnt) (r6 r7 : Option L) :
  ∃ m' q6 q7, (Gm m' /\ m' ≠ [] /\ m'.length <= m.length + 1 /\ ((m.length : Int) <= cnt -> (m'.length : Int) <= cnt)) /\ fG K c [some (.p (.list (cs.map .int))), some (.p (.int kind)), some (.p (.int most)), some (.p (.int cnt)), some (.o (.dict (encM slD frD m))), some (.p (.int (k : Int))), r6, r7] = some (.nx [some (.p (.list (cs.map .int))), some (.p (.int kind)), some (.p (.int most)), some (.p (.int cnt)), some (.o (.dict (encM slD frD m'))), some (.p (.int (k : Int))), q6, q7]) := by
 have e6 := vG K c cs k
 generalize cs.getD k 0 = cell at e6
 obtain ⟨v, hv⟩ := pW K c cell (k := (k : Int)) (by omega) (by omega)
 obtain ⟨v2, hv2⟩ := pW K c cell (k := (k : Int) + 70) (by omega) (by omega)
 obtain ⟨s, hs, e7⟩ := aEy K c v kind m0 m1
 obtain ⟨h, gh, e8⟩ := aBc K c v2 kind hs.1 hs.2.1 hs.2.2.1 hs.2.2.2
 have hd := wO (ev := frD) m s
 have x0 : ixE (.p (slD s)) (.p (.int 0)) = .ok (.p (.int s.1)) := iS _ _
 have x1 : ixE (.p (slD s)) (.p (.int 1)) = .ok (.p (.int s.2)) := i9 _ _ _
 have ln : pR [.b (.dict (encM slD frD m))] = .ok (.p (.int (m.length : Nat))) := by simp [pR, oQ, xQ]; unfold N.encM; simp
 have tin : bZ (aF (aHk true) (aE 7) (aE 4)) [some (.p (.list (cs.map .int))), some (.p (.int kind)), some (.p (.int most)), some (.p (.int cnt)), some (.o (.dict (encM slD frD m))), some (.p (.int (k : Int))), some (.p (.int cell)), some (.p (slD s))] = .ok (!(iW m s).isSome) := by
  refine iT (aZ rfl rfl ?_)
  simp only [aHk, oQ, hd, Ev.c]
  cases iW m s <;> rfl
 have tl : bZ (aF ltE (aN pR (aD (aE 4) aW)) (aE 3)) [some (.p (.list (cs.map .int))), some (.p (.int kind)), some (.p (.int most)), some (.p (.int cnt)), some (.o (.dict (encM slD frD m))), some (.p (.int (k : Int))), some (.p (.int cell)), some (.p (slD s))] = .ok (decide ((m.length : Int) < cnt)) := by
  ktr_call 2 ⟨ln⟩
 have nn : (iW m s = none -> ¬ (m.length : Int) < cnt -> m ≠ []) := fun _ h z => by rw [z] at h; simp at h; omega
 suffices hh : ∃ m' q6 q7, (Gm m' /\ m' ≠ [] /\ m'.length <= m.length + 1 /\ ((m.length : Int) <= cnt -> (m'.length : Int) <= cnt)) /\ (iD (oP (bZ (aF (aHk true) (aE 7) (aE 4))) (bZ (aF ltE (aN pR (aD (aE 4) aW)) (aE 3)))) (xY 4 (aE 7) (aV 4 (bT K c) (aD (aV 2 (bX K c) (aD (aE 6) (aD (aF eK (aE 5) (mC (.int 70))) aW))) (aD (aE 1) (aD (aF ixE (aE 7) (mC (.int 0))) (aD (aF ixE (aE 7) (mC (.int 1))) aW)))))) dR) [some (.p (.list (cs.map .int))), some (.p (.int kind)), some (.p (.int most)), some (.p (.int cnt)), some (.o (.dict (encM slD frD m))), some (.p (.int (k : Int))), some (.p (.int cell)), some (.p (slD s))] = some (.nx [some (.p (.list (cs.map .int))), some (.p (.int kind)), some (.p (.int most)), some (.p (.int cnt)), some (.o (.dict (encM slD frD m'))), some (.p (.int (k : Int))), q6, q7]) from let ⟨m', a, b, g, e⟩ := hh; ⟨m', a, b, g, (aK (cA (eW rfl rfl e6))).trans ((aK (cA (pL (eW rfl rfl hv) rfl rfl e7))).trans e)⟩
 cases ea : iW m s with
 | some f =>
  rw [ea] at tin
  refine ⟨m, _, _, ⟨gm, fun z => ?_, Nat.le_succ _, id⟩, jU (aGx tin)⟩
  rw [z] at ea
  cases ea
 | none =>
  rw [ea] at tin
  by_cases hl : (m.length : Int) < cnt
  ·rw [decide_eq_true hl] at tl
   refine ⟨x4 m s h, _, _, ⟨gm.put hs gh, aKw, xO _ _ _, fun _ => by have := xO m s h; omega⟩, (mV (xH tin tl)).trans (aMm rfl rfl (aMd (eW rfl (aZ rfl rfl (sI _ _)) hv2) rfl (aZ rfl rfl x0) (aZ rfl rfl x1) e8) hm)⟩
  ·rw [decide_eq_false hl] at tl
   exact ⟨m, _, _, ⟨gm, nn ea hl, Nat.le_succ _, id⟩, jU (xH tin tl)⟩
def jN (m : Mp) : List Pl := (iL (kys m)).map fun k => ((un2 k).1, (un2 k).2, aK7 m (0, 1) k)
theorem uL {m : Mp} (g : Gm m) : ∀ p ∈ jN m, GPl p := fun p hp => by
 unfold jN at hp
 obtain ⟨k, hk, rfl⟩ := List.mem_map.mp hp
 obtain ⟨_, _, h3⟩ := aF0 hk (0, 1)
 obtain ⟨⟨a, b, c, d⟩, h⟩ := g.2 _ _ h3
 exact ⟨a, b, c, d, h⟩
theorem aB9 {m : Mp} (g : Gm m) : ((jN m).map slp).Nodup := by
 unfold jN
 rw [List.map_map]
 have e : (slp ∘ fun k => ((un2 k).1, (un2 k).2, aK7 m (0, 1) k)) = un2 := rfl
 rw [e]
 have p : ((iL (kys m)).map un2).Perm ((kys m).map un2) := (cQ (kys m)).map un2
 rw [p.nodup_iff]
 have e2 : (kys m).map un2 = m.map (·.1) := by
  unfold kys
  rw [List.map_map]
  rfl
 rw [e2]
 exact g.1
theorem o9 (m : Mp) : (jN m).length = m.length := by
 unfold jN
 rw [List.length_map, (cQ (kys m)).length_eq]
 unfold kys
 rw [List.length_map]
theorem aE4 (K : PySem.W.Frag) (c : Cls) (A B N0 W : Option L) (m : Mp) (hm : m.length < 64) (r5 r6 r7 : Option L) : (fun en => (eA (jH 1 [4] (tN (aN gE (aD (aE 4) aW))) (a9 0) rD (dF K c))) (frz 4 en)) [A, B, N0, W, some (.o (.dict (N.encM slD frD m))), r5, r6, r7] = some (.rt (.o (.list ((jN m).map plD)))) := by
 ktr_call 3 ⟨frz⟩
 have hs := aCl (ev := frD) m hm
 have hmap : t5 (cS 1 [4] (a9 0) rD (dF K c) [A, B, N0, W, some (.p (.dict (N.encM slD frD m))), r5, r6, r7]) ((iL (kys m)).map mU) = some ((iL (kys m)).map fun k => plD ((un2 k).1, (un2 k).2, aK7 m (0, 1) k)) := by
  refine kM _ fun k hk => ?_
  obtain ⟨h1, h2, h3⟩ := aF0 hk (0, 1)
  have hd := wO (ev := frD) m (un2 k)
  rw [h3] at hd
  have x0 : ixE (.p (slD (un2 k))) (.p (.int 0)) = .ok (.p (.int (un2 k).1)) := iS _ _
  have x1 : ixE (.p (slD (un2 k))) (.p (.int 1)) = .ok (.p (.int (un2 k).2)) := i9 _ _ _
  rw [h1]
  unfold cS
  ktr_call 2 ⟨a9, aCy, aFz, rD, dF, List.replicate, List.cons_append, List.nil_append, aEp, oQ, hd, x0, x1, Option.map_some, plD⟩
 have hc : jH 1 [4] (tN (aN gE (aD (aE 4) aW))) (a9 0) rD (dF K c) [A, B, N0, W, some (.p (.dict (N.encM slD frD m))), r5, r6, r7] = .ok (.f (.list ((jN m).map plD))) := by
  unfold jH aAp
  ktr_call 3 ⟨tN, aN, aD, aW, aE, Res.bind, Ev.c, hs, aMl⟩
  rw [if_pos (show (iL (kys m)).length <= 100000 by rw [(cQ (kys m)).length_eq]; unfold kys; rw [List.length_map]; omega), hmap]
  unfold jN
  rw [List.map_map]
  rfl
 unfold eA
 rw [hc]
 rfl
theorem aH8 (K : PySem.W.Frag) (c : Cls) (cs : List Int) (hl : cs.length <= 30) (kind : Int) {most cnt : Int} (m0 : 0 <= most) (m1 : most <= 8) (c1 : 1 <= cnt) (c2 : cnt <= 16) :
  ∃ ps : List Pl, ps ≠ [] /\ (ps.length : Int) <= cnt /\ (∀ p ∈ ps, GPl p) /\ (ps.map slp).Nodup /\ cH K c [.p (.list (cs.map .int)), .p (.int kind), .p (.int most), .p (.int cnt)] = .ok (.o (.list (ps.map plD))) := by
 obtain ⟨n, n1, n2, hnn⟩ : ∃ n : Nat, 1 <= n /\ n <= 30 /\ (n : Int) = if cnt + 2 > (cs.length : Int) then cnt + 2 else (cs.length : Int) := by
  refine ⟨(if cnt + 2 > (cs.length : Int) then cnt + 2 else (cs.length : Int)).toNat, ?_, ?_, ?_⟩ <;> split <;> omega
 have lenc : gG [.p (.list (cs.map .int))] = .ok (.p (.int (cs.length : Nat))) := by simp [gG, g8]
 obtain ⟨e', ⟨m, q5, q6, q7, ⟨g1, g2, g3, g4⟩, rfl⟩, hloop⟩ := vV (tg := a9 5) (f := fG K c) (fun j e => ∃ m q5 q6 q7, (Gm m /\ (1 <= j -> m ≠ []) /\ m.length <= j /\ (m.length : Int) <= cnt) /\ e = [some (.p (.list (cs.map .int))), some (.p (.int kind)), some (.p (.int most)), some (.p (.int cnt)), some (.o (.dict (N.encM slD frD m))), q5, q6, q7]) (qT 0 n) 0 [some (.p (.list (cs.map .int))), some (.p (.int kind)), some (.p (.int most)), some (.p (.int cnt)), some (.o (.dict [])), none, none, none] ⟨[], none, none, none, ⟨⟨List.Pairwise.nil, fun _ _ h => nomatch h⟩, fun z => absurd z (by decide), Nat.le_refl _, by show (0 : Int) <= cnt; omega⟩, rfl⟩ (by
  rintro j d e hd ⟨m, q5, q6, q7, ⟨g1, g2, g3, g4⟩, rfl⟩
  obtain ⟨hj, rfl⟩ := aJk _ _ _ _ hd
  obtain ⟨m', p6, p7, ⟨h1, h2, h3, h4⟩, hb⟩ := aMv K c cs kind m0 m1 j (by omega) m (by omega) g1 c1 q6 q7
  refine ⟨_, _, rfl, ?_, m', some (.p (.int (j : Int))), p6, p7, ⟨h1, fun _ => h2, by omega, h4 g4⟩, rfl⟩
  simp only [List.set_cons_succ, List.set_cons_zero, Int.zero_add]
  exact hb)
 have hlen : (qT 0 n).length = n := by unfold qT; rw [List.length_map, List.length_range]
 rw [hlen, Nat.zero_add] at g2 g3
 have hm := g2 n1
 refine ⟨jN m, fun z => hm ?_, by rw [o9]; exact g4, uL g1, aB9 g1, ?_⟩
 ·have := o9 m
  rw [z] at this
  exact List.length_eq_zero_iff.mp this.symm
 unfold cH
 refine cY ?_
 rw [show bL 8 [.p (.list (cs.map .int)), .p (.int kind), .p (.int most), .p (.int cnt)] = [some (.p (.list (cs.map .int))), some (.p (.int kind)), some (.p (.int most)), some (.p (.int cnt)), none, none, none, none] from rfl]
 refine (aK (kL (d := .dict []) rfl)).trans ?_
 simp only [List.set_cons_succ, List.set_cons_zero]
 have hit : rG n6 (aD (aN (aIq fun i j => if j > i then j else i) (aD (aN gG (aD (aE 0) aW)) (aD (aF eK (aE 3) (mC (.int 2))) aW))) aW) [some (.p (.list (cs.map .int))), some (.p (.int kind)), some (.p (.int most)), some (.p (.int cnt)), some (.o (.dict [])), none, none, none] = .ok (qT 0 n) := by
  refine aNb (a := .int (n : Int)) ?_ (mO n (by omega))
  rw [hnn]
  ktr_call 3 ⟨aN, aD, aW, aF, aE, mC, Res.bind, Ev.c, lenc, eK, aIq⟩
 refine (aK ((l4 hit).trans hloop)).trans ?_
 exact aE4 K c _ _ _ _ m (by omega) _ _ _
def ExR (P : D -> Prop) (f : MS) (en : En) : Prop := ∃ o, P o /\ f en = some (.rt (.p o))
theorem jZ {P : D -> Prop} {f g : MS} {en e1 : En} (h : f en = g e1) (k : ExR P g e1) : ExR P f en := by
 obtain ⟨o, a, b⟩ := k
 exact ⟨o, a, h.trans b⟩
theorem fV {P : D -> Prop} {i : Nat} {fe : En -> Res Ev} {g : MS} {en : En} (d : D) (h : fe en = .ok (.p d)) (k : ExR P g (en.set i (some (.p d)))) : ExR P (bP (cP i fe) g) en := jZ (aK (cA h)) k
def PtD (o : D) : Prop := ∃ pt : Pt, (Good 300 pt.1 /\ Good 300 pt.2) /\ o = .tuple [frD pt.1, frD pt.2]
theorem G3.good {h : Int × Int} (g : G3 h) : Good 300 h := ⟨g.1, g.2.1.mono (by decide), g.2.2.mono (by decide)⟩
theorem aEn {t b : Int} {m n : Nat} (h0 : b ≠ 0) (ht : Sz m t) (hb : Sz n b) (hm : m <= 300) (hn : n <= 300) : Good 300 (FR.mk t b) := aJf (ht.mono hm) (hb.mono hn) h0
noncomputable def eM (K : PySem.W.Frag) (c : Cls) : MS := (bP (cP 3 (aF iV (aF ixE (aE 1) (mC (.int 0))) (aF ixE (aE 0) (mC (.int 0))))) (bP (cP 4 (aF iV (aF ixE (aE 1) (mC (.int 1))) (aF ixE (aE 0) (mC (.int 1))))) (bP (cP 5 (aF iV (aF ixE (aE 2) (mC (.int 0))) (aF ixE (aE 0) (mC (.int 0))))) (bP (cP 6 (aF iV (aF ixE (aE 2) (mC (.int 1))) (aF ixE (aE 0) (mC (.int 1))))) (bP (cP 7 (aF iV (aF d8 (aE 3) (aE 6)) (aF d8 (aE 4) (aE 5)))) (bP (iD (bZ (aF (eqE false) (aE 7) (mC (.int 0)))) (eA (mC (.none))) dR) (bP (cP 8 (aN d6 (aD (aF iV (aF d8 (aF ixE (aF ixE (aE 0) (mC (.int 2))) (mC (.int 0))) (aF ixE (aF ixE (aE 1) (mC (.int 2))) (mC (.int 1)))) (aF d8 (aF ixE (aF ixE (aE 1) (mC (.int 2))) (mC (.int 0))) (aF ixE (aF ixE (aE 0) (mC (.int 2))) (mC (.int 1))))) (aD (aF d8 (aF ixE (aF ixE (aE 0) (mC (.int 2))) (mC (.int 1))) (aF ixE (aF ixE (aE 1) (mC (.int 2))) (mC (.int 1)))) aW)))) (bP (cP 9 (aN d6 (aD (aF iV (aF d8 (aF ixE (aF ixE (aE 0) (mC (.int 2))) (mC (.int 0))) (aF ixE (aF ixE (aE 2) (mC (.int 2))) (mC (.int 1)))) (aF d8 (aF ixE (aF ixE (aE 2) (mC (.int 2))) (mC (.int 0))) (aF ixE (aF ixE (aE 0) (mC (.int 2))) (mC (.int 1))))) (aD (aF d8 (aF ixE (aF ixE (aE 0) (mC (.int 2))) (mC (.int 1))) (aF ixE (aF ixE (aE 2) (mC (.int 2))) (mC (.int 1)))) aW)))) (bP (cP 10 (aF d8 (aF d8 (aE 7) (aF ixE (aE 8) (mC (.int 1)))) (aF ixE (aE 9) (mC (.int 1))))) (bP (cP 11 (aV 2 (aT K c) (aD (aF iV (aF d8 (aF d8 (aF ixE (aE 8) (mC (.int 0))) (aF ixE (aE 9) (mC (.int 1)))) (aE 6)) (aF d8 (aF d8 (aF ixE (aE 9) (mC (.int 0))) (aF ixE (aE 8) (mC (.int 1)))) (aE 4))) (aD (aE 10) aW)))) (eA (aN d6 (aD (aE 11) (aD (aV 2 (aT K c) (aD (aF iV (aF d8 (aF d8 (aF ixE (aE 9) (mC (.int 0))) (aF ixE (aE 8) (mC (.int 1)))) (aE 3)) (aF d8 (aF d8 (aF ixE (aE 8) (mC (.int 0))) (aF ixE (aE 9) (mC (.int 1)))) (aE 5))) (aD (aE 10) aW))) aW))))))))))))))
noncomputable def cR (K : PySem.W.Frag) (c : Cls) (ls : List L) : Res L := fY 12 (eM K c) ls
theorem oU (K : PySem.W.Frag) (c : Cls) : ∀ ls, cR K c ls = .bad \/ fY 12 (eM K c) ls = cR K c ls := fun _ => .inr rfl
theorem aLr (K : PySem.W.Frag) (c : Cls) {p q r : Pl} (gp : GPl p) (gq : GPl q) (gr : GPl r) : ∃ o : D, (o = .none \/ PtD o) /\ cR K c [.p (plD p), .p (plD q), .p (plD r)] = .ok (.p o) := by
 have p1 := gp.si
 have p2 := gp.sj
 have q1 := gq.si
 have q2 := gq.sj
 have r1 := gr.si
 have r2 := gr.sj
 obtain ⟨pp, pt, pb⟩ := gp.h
 obtain ⟨qp, qt, qb⟩ := gq.h
 obtain ⟨rp, rt, rb⟩ := gr.h
 suffices h : ExR (fun o => o = .none \/ PtD o) (eM K c) (bL 12 [.p (plD p), .p (plD q), .p (plD r)]) from let ⟨o, g, e⟩ := h; ⟨o, g, cY e⟩
 rw [show bL 12 [.p (plD p), .p (plD q), .p (plD r)] = [some (.p (plD p)), some (.p (plD q)), some (.p (plD r)), none, none, none, none, none, none, none, none, none] from rfl]
 unfold eM
 refine fV (.int (q.1 - p.1)) (by walk_at "2") ?_
 refine fV (.int (q.2.1 - p.2.1)) (by walk_at "2") ?_
 refine fV (.int (r.1 - p.1)) (by walk_at "2") ?_
 refine fV (.int (r.2.1 - p.2.1)) (by walk_at "2") ?_
 simp only [List.set_cons_succ, List.set_cons_zero]
 have sa : Sz 5 (q.1 - p.1) := (N.Sz.subM q1 p1).mono (by decide)
 have sb : Sz 5 (q.2.1 - p.2.1) := (N.Sz.subM q2 p2).mono (by decide)
 have sc : Sz 5 (r.1 - p.1) := (N.Sz.subM r1 p1).mono (by decide)
 have sd : Sz 5 (r.2.1 - p.2.1) := (N.Sz.subM r2 p2).mono (by decide)
 generalize q.1 - p.1 = a at sa ⊢
 generalize q.2.1 - p.2.1 = b at sb ⊢
 generalize r.1 - p.1 = u at sc ⊢
 generalize r.2.1 - p.2.1 = d at sd ⊢
 refine fV (.int (a * d - b * u)) (by walk_at "1d") ?_
 simp only [List.set_cons_succ, List.set_cons_zero]
 have sw : Sz 11 (a * d - b * u) := (N.Sz.subM (Sz.mul sa sd) (Sz.mul sb sc)).mono (by decide)
 generalize a * d - b * u = w at sw ⊢
 have t : bZ (aF (eqE false) (aE 7) (mC (.int 0))) [some (.p (plD p)), some (.p (plD q)), some (.p (plD r)), some (.p (.int a)), some (.p (.int b)), some (.p (.int u)), some (.p (.int d)), some (.p (.int w)), none, none, none, none] = .ok (w == 0) := iT (aZ rfl rfl t9)
 by_cases hw : w = 0
 ·rw [beq_iff_eq.mpr hw] at t
  exact ⟨.none, .inl rfl, iC ((mV t).trans rfl)⟩
 ·rw [beq_eq_false_iff_ne.mpr hw] at t
  refine jZ (aK (jU t)) ?_
  refine fV (frD (p.2.2.1 * q.2.2.2 - q.2.2.1 * p.2.2.2, p.2.2.2 * q.2.2.2)) (by ktr_call 21 ⟨frD⟩) ?_
  simp only [List.set_cons_succ, List.set_cons_zero]
  refine fV (frD (p.2.2.1 * r.2.2.2 - r.2.2.1 * p.2.2.2, p.2.2.2 * r.2.2.2)) (by ktr_call 21 ⟨frD⟩) ?_
  simp only [List.set_cons_succ, List.set_cons_zero]
  have e1 : Sz 75 (p.2.2.1 * q.2.2.2 - q.2.2.1 * p.2.2.2) := (N.Sz.subM (Sz.mul pt qb) (Sz.mul qt pb)).mono (by decide)
  have e2 : Sz 8 (p.2.2.2 * q.2.2.2) := (Sz.mul pb qb).mono (by decide)
  have f1 : Sz 75 (p.2.2.1 * r.2.2.2 - r.2.2.1 * p.2.2.2) := (N.Sz.subM (Sz.mul pt rb) (Sz.mul rt pb)).mono (by decide)
  have f2 : Sz 8 (p.2.2.2 * r.2.2.2) := (Sz.mul pb rb).mono (by decide)
  have e0 : p.2.2.2 * q.2.2.2 ≠ 0 := fun z => by rcases Int.mul_eq_zero.mp z with z | z <;> omega
  have f0 : p.2.2.2 * r.2.2.2 ≠ 0 := fun z => by rcases Int.mul_eq_zero.mp z with z | z <;> omega
  generalize p.2.2.1 * q.2.2.2 - q.2.2.1 * p.2.2.2 = x1 at e1 ⊢
  generalize p.2.2.2 * q.2.2.2 = x2 at e2 e0 ⊢
  generalize p.2.2.1 * r.2.2.2 - r.2.2.1 * p.2.2.2 = y1 at f1 ⊢
  generalize p.2.2.2 * r.2.2.2 = y2 at f2 f0 ⊢
  refine fV (.int (w * x2 * y2)) (by walk_at "1d") ?_
  simp only [List.set_cons_succ, List.set_cons_zero]
  have g0 : w * x2 * y2 ≠ 0 := Int.mul_ne_zero (Int.mul_ne_zero hw e0) f0
  have gs : Sz 27 (w * x2 * y2) := (Sz.mul (Sz.mul sw e2) f2).mono (by decide)
  generalize w * x2 * y2 = z at g0 gs ⊢
  have l1 := g6 K c (t := x1 * y2 * d - y1 * x2 * b) g0 (gs.mono (by decide))
  have l2 := g6 K c (t := y1 * x2 * a - x1 * y2 * u) g0 (gs.mono (by decide))
  refine fV _ (eW (by walk_at "1d") rfl l1) ?_
  simp only [List.set_cons_succ, List.set_cons_zero]
  refine ⟨_, .inr ⟨(FR.mk (x1 * y2 * d - y1 * x2 * b) z, FR.mk (y1 * x2 * a - x1 * y2 * u) z), ⟨aEn g0 (N.Sz.subM (Sz.mul (Sz.mul e1 f2) sd) (Sz.mul (Sz.mul f1 e2) sb)) gs (by decide) (by decide), aEn g0 (N.Sz.subM (Sz.mul (Sz.mul f1 e2) sa) (Sz.mul (Sz.mul e1 f2) sc)) gs (by decide) (by decide)⟩, rfl⟩, eV (aNf rfl (eW (by walk_at "1d") rfl l2))⟩
noncomputable def dJ (K : PySem.W.Frag) (c : Cls) : MS := (bP (cP 3 (aF iV (aF ixE (aE 0) (mC (.int 0))) (aF ixE (aE 1) (mC (.int 0))))) (bP (cP 4 (aF iV (aF ixE (aE 0) (mC (.int 1))) (aF ixE (aE 1) (mC (.int 1))))) (bP (cP 5 (aN d6 (aD (aF iV (aF d8 (aF ixE (aF ixE (aE 1) (mC (.int 2))) (mC (.int 0))) (aF ixE (aF ixE (aE 0) (mC (.int 2))) (mC (.int 1)))) (aF d8 (aF ixE (aF ixE (aE 0) (mC (.int 2))) (mC (.int 0))) (aF ixE (aF ixE (aE 1) (mC (.int 2))) (mC (.int 1))))) (aD (aF d8 (aF ixE (aF ixE (aE 1) (mC (.int 2))) (mC (.int 1))) (aF ixE (aF ixE (aE 0) (mC (.int 2))) (mC (.int 1)))) aW)))) (bP (cP 6 (aF ixE (aV 1 (bB K c) (aD (aE 2) aW)) (mC (.int 0)))) (bP (iD (bZ (aF (eqE true) (aE 4) (mC (.int 0)))) (bP (cP 7 (aF iV (aF d8 (aF ixE (aE 5) (mC (.int 0))) (aF ixE (aE 6) (mC (.int 1)))) (aF d8 (aF d8 (aE 3) (aF ixE (aE 6) (mC (.int 0)))) (aF ixE (aE 5) (mC (.int 1)))))) (eA (aN d6 (aD (aE 6) (aD (aV 2 (aT K c) (aD (aE 7) (aD (aF d8 (aF d8 (aE 4) (aF ixE (aE 5) (mC (.int 1)))) (aF ixE (aE 6) (mC (.int 1)))) aW))) aW))))) dR) (eA (aN d6 (aD (aV 2 (aT K c) (aD (aF ixE (aE 5) (mC (.int 0))) (aD (aF d8 (aE 3) (aF ixE (aE 5) (mC (.int 1)))) aW))) (aD (aE 6) aW)))))))))
noncomputable def cC (K : PySem.W.Frag) (c : Cls) (ls : List L) : Res L := fY 8 (dJ K c) ls
theorem lD (K : PySem.W.Frag) (c : Cls) : ∀ ls, cC K c ls = .bad \/ fY 8 (dJ K c) ls = cC K c ls := fun _ => .inr rfl
theorem aAy (K : PySem.W.Frag) (c : Cls) {p q : Pl} (gp : GPl p) (gq : GPl q) (cell : Int) (hn : slp p ≠ slp q) : ∃ o : D, PtD o /\ cC K c [.p (plD p), .p (plD q), .p (.int cell)] = .ok (.p o) := by
 have p1 := gp.si
 have p2 := gp.sj
 have q1 := gq.si
 have q2 := gq.sj
 obtain ⟨pp, pt, pb⟩ := gp.h
 obtain ⟨qp, qt, qb⟩ := gq.h
 obtain ⟨v, gv, _, hv⟩ := vU K c cell
 suffices h : ExR PtD (dJ K c) (bL 8 [.p (plD p), .p (plD q), .p (.int cell)]) from let ⟨o, g, e⟩ := h; ⟨o, g, cY e⟩
 rw [show bL 8 [.p (plD p), .p (plD q), .p (.int cell)] = [some (.p (plD p)), some (.p (plD q)), some (.p (.int cell)), none, none, none, none, none] from rfl]
 unfold dJ
 refine fV (.int (p.1 - q.1)) (by walk_at "2") ?_
 refine fV (.int (p.2.1 - q.2.1)) (by walk_at "2") ?_
 simp only [List.set_cons_succ, List.set_cons_zero]
 have sa : Sz 5 (p.1 - q.1) := (N.Sz.subM p1 q1).mono (by decide)
 have sb : Sz 5 (p.2.1 - q.2.1) := (N.Sz.subM p2 q2).mono (by decide)
 have ab : p.2.1 - q.2.1 = 0 -> p.1 - q.1 ≠ 0 := fun z y => hn (Prod.ext (by show p.1 = q.1; omega) (by show p.2.1 = q.2.1; omega))
 generalize p.1 - q.1 = a at sa ab ⊢
 generalize p.2.1 - q.2.1 = b at sb ab ⊢
 refine fV (frD (q.2.2.1 * p.2.2.2 - p.2.2.1 * q.2.2.2, q.2.2.2 * p.2.2.2)) (by ktr_call 21 ⟨frD⟩) ?_
 simp only [List.set_cons_succ, List.set_cons_zero]
 have e1 : Sz 75 (q.2.2.1 * p.2.2.2 - p.2.2.1 * q.2.2.2) := (N.Sz.subM (Sz.mul qt pb) (Sz.mul pt qb)).mono (by decide)
 have e2 : Sz 8 (q.2.2.2 * p.2.2.2) := (Sz.mul qb pb).mono (by decide)
 have e0 : q.2.2.2 * p.2.2.2 ≠ 0 := fun z => by rcases Int.mul_eq_zero.mp z with z | z <;> omega
 generalize q.2.2.1 * p.2.2.2 - p.2.2.1 * q.2.2.2 = x1 at e1 ⊢
 generalize q.2.2.2 * p.2.2.2 = x2 at e2 e0 ⊢
 have v0 : ixE (.p (.tuple [frD v.1, frD v.2])) (.p (.int 0)) = .ok (.p (frD v.1)) := iS _ _
 refine fV (frD v.1) (aZ (aGn rfl hv) rfl v0) ?_
 simp only [List.set_cons_succ, List.set_cons_zero]
 have gv' := gv.good
 obtain ⟨g0, g1, g2⟩ := gv
 have t : bZ (aF (eqE true) (aE 4) (mC (.int 0))) [some (.p (plD p)), some (.p (plD q)), some (.p (.int cell)), some (.p (.int a)), some (.p (.int b)), some (.p (frD (x1, x2))), some (.p (frD v.1)), none] = .ok (!(b == 0)) := by
  refine iT (aZ rfl rfl ?_)
  simp only [eqE, dat, gQ, gY, Ev.c]
  rfl
 by_cases hb : b = 0
 ·rw [beq_iff_eq.mpr hb] at t
  refine jZ (aK (jU t)) ?_
  have z0 : a * x2 ≠ 0 := Int.mul_ne_zero (ab hb) e0
  have zs := Sz.mul sa e2
  have l := g6 K c (t := x1) z0 (zs.mono (by decide))
  exact ⟨_, ⟨(FR.mk x1 (a * x2), v.1), ⟨aEn z0 e1 zs (by decide) (by decide), gv'⟩, rfl⟩, eV (aNf (eW (by walk_at "2") (by walk_at "1d") l) rfl)⟩
 ·rw [beq_eq_false_iff_ne.mpr hb] at t
  have z0 : b * x2 * v.1.2 ≠ 0 := Int.mul_ne_zero (Int.mul_ne_zero hb e0) (by omega)
  have zs := Sz.mul (Sz.mul sb e2) g2
  have l := g6 K c (t := x1 * v.1.2 - a * v.1.1 * x2) z0 (zs.mono (by decide))
  refine ⟨_, ⟨(v.1, FR.mk (x1 * v.1.2 - a * v.1.1 * x2) (b * x2 * v.1.2)), ⟨gv', aEn z0 (N.Sz.subM (Sz.mul e1 g2) (Sz.mul (Sz.mul sa g1) e2)) zs (by decide) (by decide)⟩, rfl⟩, iC ((mV t).trans ((aK (cA (d := .int (x1 * v.1.2 - a * v.1.1 * x2)) ?_)).trans (eV (aNf rfl (eW rfl ?_ l)))))⟩
  ·walk_at "1d"
  ·walk_at "1d"
noncomputable def eC (K : PySem.W.Frag) (c : Cls) : MS := (bP (cP 2 (aF eS (aE 1) (aF oV (mC (.int 10)) (mC (.int 40))))) (bP (cP 3 (aF ixE (aE 0) (aF eS (aF eU (aE 2) (mC (.int 3))) (aN gG (aD (aE 0) aW))))) (bP (cP 4 (aF ixE (aE 0) (aF eS (aF eU (aE 2) (mC (.int 21))) (aN gG (aD (aE 0) aW))))) (bP (cP 5 (aF ixE (aE 0) (aF eS (aF eU (aE 2) (mC (.int 147))) (aN gG (aD (aE 0) aW))))) (bP (iD (oP (bZ (aF (eqE false) (aF eS (aE 2) (mC (.int 3))) (mC (.int 1)))) (bZ (aF (eqE true) (aE 3) (aE 4)))) (eA (aV 3 (cC K c) (aD (aE 3) (aD (aE 4) (aD (aF eU (aE 2) (mC (.int 1029))) aW))))) dR) (bP (iD (bZ (aF (eqE false) (aF eS (aE 2) (mC (.int 3))) (mC (.int 2)))) (bP (cP 6 (aV 3 (cR K c) (aD (aE 3) (aD (aE 4) (aD (aE 5) aW))))) (iD (bZ (mUn (qP true) (aE 6))) (eA (aE 6)) dR)) dR) (eA (aV 1 (bB K c) (aD (aF eU (aE 2) (mC (.int 1029))) aW)))))))))
noncomputable def cX (K : PySem.W.Frag) (c : Cls) (ls : List L) : Res L := fY 7 (eC K c) ls
theorem nC (K : PySem.W.Frag) (c : Cls) : ∀ ls, cX K c ls = .bad \/ fY 7 (eC K c) ls = cX K c ls := fun _ => .inr rfl
theorem aBm {α : Type} (f : α -> D) {xs : List α} (h0 : xs ≠ []) (v : Int) : ∃ x ∈ xs, ixE (.p (.list (xs.map f))) (.p (.int (v.fmod (xs.length : Int)))) = .ok (.p (f x)) := by
 have n0 : 0 < xs.length := List.length_pos_iff.mpr h0
 have m := b8 (a := v) (b := (xs.length : Int)) (by omega)
 obtain ⟨k, hk⟩ : ∃ k : Nat, (k : Int) = v.fmod (xs.length : Int) := ⟨(v.fmod (xs.length : Int)).toNat, by omega⟩
 have kl : k < xs.length := by omega
 rw [<- hk]
 exact ⟨_, List.getElem_mem kl, aE3 f kl⟩
theorem aIn (K : PySem.W.Frag) (c : Cls) {ps : List Pl} (h0 : ps ≠ []) (hl : ps.length <= 100) (hg : ∀ p ∈ ps, GPl p) (hd : (ps.map slp).Nodup) (cell : Int) : ∃ o : D, PtD o /\ cX K c [.p (.list (ps.map plD)), .p (.int cell)] = .ok (.p o) := by
 have n0 : 0 < ps.length := List.length_pos_iff.mpr h0
 have ln : gG [.p (.list (ps.map plD))] = .ok (.p (.int (ps.length : Nat))) := by simp [gG, g8]
 suffices h : ExR PtD (eC K c) (bL 7 [.p (.list (ps.map plD)), .p (.int cell)]) from let ⟨o, g, e⟩ := h; ⟨o, g, cY e⟩
 rw [show bL 7 [.p (.list (ps.map plD)), .p (.int cell)] = [some (.p (.list (ps.map plD))), some (.p (.int cell)), none, none, none, none, none] from rfl]
 unfold eC
 refine fV _ (aEs rfl) ?_
 simp only [List.set_cons_succ, List.set_cons_zero]
 generalize cell.fmod (10 ^ Int.toNat 40) = C
 obtain ⟨p, mp, hp⟩ := aBm plD h0 (C.fdiv 3)
 obtain ⟨q, mq, hq⟩ := aBm plD h0 (C.fdiv 21)
 obtain ⟨r, mr, hr⟩ := aBm plD h0 (C.fdiv 147)
 have nl : ((ps.length : Nat) : Int) ≠ 0 := by omega
 have d3 : fI C 3 := cdl (by decide) (by decide)
 have d21 : fI C 21 := cdl (by decide) (by decide)
 have d147 : fI C 147 := cdl (by decide) (by decide)
 have d1029 : fI C 1029 := cdl (by decide) (by decide)
 refine fV (plD p) (aZ rfl (aZ (aZ rfl rfl (fZ d3)) (jD rfl ln) (fW nl)) hp) ?_
 refine fV (plD q) (aZ rfl (aZ (aZ rfl rfl (fZ d21)) (jD rfl ln) (fW nl)) hq) ?_
 refine fV (plD r) (aZ rfl (aZ (aZ rfl rfl (fZ d147)) (jD rfl ln) (fW nl)) hr) ?_
 simp only [List.set_cons_succ, List.set_cons_zero]
 have k3 : (3 : Int) ≠ 0 := by decide
 obtain ⟨v, gv, gv2, hv⟩ := vU K c (C.fdiv 1029)
 have fin : ∀ (z : Option L), ExR PtD (eA (aV 1 (bB K c) (aD (aF eU (aE 2) (mC (.int 1029))) aW))) [some (.p (.list (ps.map plD))), some (.p (.int cell)), some (.p (.int C)), some (.p (plD p)), some (.p (plD q)), some (.p (plD r)), z] := fun z => ⟨_, ⟨v, ⟨gv.good, gv2.good⟩, rfl⟩, eV (aGn (aZ rfl rfl (fZ d1029)) hv)⟩
 have t1 : bZ (aF (eqE false) (aF eS (aE 2) (mC (.int 3))) (mC (.int 1))) [some (.p (.list (ps.map plD))), some (.p (.int cell)), some (.p (.int C)), some (.p (plD p)), some (.p (plD q)), some (.p (plD r)), none] = .ok (C.fmod 3 == 1) := iT (aZ (aZ rfl rfl (fW k3)) rfl t9)
 have t2 : bZ (aF (eqE true) (aE 3) (aE 4)) [some (.p (.list (ps.map plD))), some (.p (.int cell)), some (.p (.int C)), some (.p (plD p)), some (.p (plD q)), some (.p (plD r)), none] = .ok (!(PyData.eqv (plD p) (plD q))) := by
  refine iT (aZ rfl rfl ?_)
  have sp : ∀ p : Pl, SeqAt.shaped (plD p) = true := fun p => by simp [SeqAt.shaped, plD, frD, PyData.canLay0, PyData.canLayAll0, PyData.depth, PyData.depthAll]
  simp only [eqE, dat, Ev.c, sp]
  rfl
 have t3 : bZ (aF (eqE false) (aF eS (aE 2) (mC (.int 3))) (mC (.int 2))) [some (.p (.list (ps.map plD))), some (.p (.int cell)), some (.p (.int C)), some (.p (plD p)), some (.p (plD q)), some (.p (plD r)), none] = .ok (C.fmod 3 == 2) := iT (aZ (aZ rfl rfl (fW k3)) rfl t9)
 have rest : ExR PtD (bP (iD (bZ (aF (eqE false) (aF eS (aE 2) (mC (.int 3))) (mC (.int 2)))) (bP (cP 6 (aV 3 (cR K c) (aD (aE 3) (aD (aE 4) (aD (aE 5) aW))))) (iD (bZ (mUn (qP true) (aE 6))) (eA (aE 6)) dR)) dR) (eA (aV 1 (bB K c) (aD (aF eU (aE 2) (mC (.int 1029))) aW)))) [some (.p (.list (ps.map plD))), some (.p (.int cell)), some (.p (.int C)), some (.p (plD p)), some (.p (plD q)), some (.p (plD r)), none] := by
  generalize (C.fmod 3 == 2) = b3 at t3
  cases b3 with
  | false => exact jZ (aK (jU t3)) (fin _)
  | true =>
   obtain ⟨o, ho, ht⟩ := aLr K c (hg p mp) (hg q mq) (hg r mr)
   rcases ho with rfl | ⟨pt, gpt, rfl⟩
   ·refine jZ (aK ((mV t3).trans ((aK (cA (pL rfl rfl rfl ht))).trans (jU rfl)))) ?_
    exact fin _
   ·refine ⟨_, ⟨pt, gpt, rfl⟩, iC ((mV t3).trans ((aK (cA (pL rfl rfl rfl ht))).trans ((mV rfl).trans (eV rfl))))⟩
 generalize (C.fmod 3 == 1) = b1 at t1
 cases b1 with
 | false => exact jZ (aK (jU (aGx t1))) rest
 | true =>
  cases he : PyData.eqv (plD p) (plD q) with
  | true =>
   rw [he] at t2
   exact jZ (aK (jU (xH t1 t2))) rest
  | false =>
   rw [he] at t2
   have hn : slp p ≠ slp q := fun z => by
    have e : p = q := by
     obtain ⟨i, hi, rfl⟩ := List.mem_iff_getElem.mp mp
     obtain ⟨j, hj, rfl⟩ := List.mem_iff_getElem.mp mq
     have a1 : (ps.map slp)[i]'(by rw [List.length_map]; exact hi) = (ps.map slp)[j]'(by rw [List.length_map]; exact hj) := by rw [List.getElem_map, List.getElem_map]; exact z
     have := (List.getElem_inj hd).mp a1
     subst this
     rfl
    have er : PyData.eqv (plD q) (plD q) = true := by
     unfold plD frD
     simp [PyData.eqv, PyData.eqvAll]
    rw [e, er] at he
    cases he
   obtain ⟨o, ho, hc⟩ := aAy K c (hg p mp) (hg q mq) (C.fdiv 1029) hn
   exact ⟨o, ho, iC ((mV (xH t1 t2)).trans (eV (pL rfl rfl (aZ rfl rfl (fZ d1029)) hc)))⟩
theorem iO {f : En -> Res Ev} {g : En -> Res (List Ev)} {en : En} {x : Ev} {xs : List Ev} (h1 : f en = .ok x) (h2 : g en = .ok xs) : aD f g en = .ok (x.c :: xs) := by
 simp only [aD, h1, h2, Res.bind]
theorem aOf {n : Nat} {m : List L -> Res L} {fr : En -> Res (List Ev)} {en : En} {rs : List Ev} {ls : List L} {r : L} (h : fr en = .ok rs) (ha : dP kY rs = some ls) (hn : ls.length = n) (hm : m ls = .ok r) : aV n m fr en = .ok (lL r) := by
 simp only [aV, h, Res.bind, fC, ha, hn, hm, if_true]
theorem aEb {n : Nat} {m : List L -> Res L} {fr : En -> Res (List Ev)} {en : En} {rs : List Ev} {ls : List L} {r : L} (h : fr en = .ok rs) (ha : dP kY rs = none) (hb : dP xT rs = some ls) (hn : ls.length = n) (hm : m ls = .ok r) (hf : rZ r = true) : aV n m fr en = .ok (lL r) := by
 simp only [aV, h, Res.bind, fC, ha, hb, hn, hm, hf, if_true]
theorem aFb (rs : List Q2) : (gK rs).length <= 2 * rs.length := by
 unfold gK
 split
 ·omega
 ·have l1 : (bD rs).length <= _ := iZ rs []
  have l2 : (bD rs.reverse).length <= _ := iZ rs.reverse []
  rw [List.length_reverse] at l2
  rw [List.length_nil] at l1 l2
  simp only [List.length_append, List.length_dropLast, List.length_reverse]
  omega
noncomputable def mM (K : PySem.W.Frag) (c : Cls) : MS := (bP (cP 8 (aV 2 (jQ K c) (aD (aE 3) (aD (aE 5) aW)))) (bP (iD (oO (bZ (aV 2 (bW K c) (aD (aE 8) (aD (aE 6) aW))))) (eA (mC (.bool false))) dR) (iM 8 (aN d6 (aD (mC (.int 9)) (aD (mC (.int 9)) aW))))))
noncomputable def mR (K : PySem.W.Frag) (c : Cls) : MS := (bP (cP 5 (aV 2 (cX K c) (aD (aE 2) (aD (aV 2 (bX K c) (aD (aV 2 (bC K c) (aD (aE 0) (aD (aE 4) aW))) (aD (aE 4) aW))) aW)))) (bP (cP 6 (aV 1 (cW K c) (aD (aV 2 (cK K c) (aD (aE 2) (aD (aE 5) aW))) aW))) (v9 (rG n6 (aD (mC (.int 2)) aW)) (a9 7) (mM K c))))
noncomputable def aEi (K : PySem.W.Frag) (c : Cls) : MS := (bP (cP 1 (aV 2 (bX K c) (aD (aV 2 (bC K c) (aD (aE 0) (aD (mC (.int 0)) aW))) (aD (mC (.int 1)) aW)))) (bP (cP 2 (aV 4 (cH K c) (aD (mSl (aE 0) (mPt (mC (.int 1))) (mPt (mC (.int 29)))) (aD (aE 1) (aD (aF eK (mC (.int 2)) (aF eS (aF eU (aE 1) (mC (.int 16))) (mC (.int 7)))) (aD (aF eK (mC (.int 1)) (aF eS (aF eU (aE 1) (mC (.int 3))) (mC (.int 7)))) aW)))))) (bP (cP 3 (aN listE (aD (aE 2) aW))) (bP (v9 (rG aDe (aD (mC (.int 29)) (aD (mC (.int 39)) aW))) (a9 4) (mR K c)) (eA (aF (eqE false) (aE 3) (aE 2)))))))
noncomputable def x8 (K : PySem.W.Frag) (c : Cls) (ls : List L) : Res L := fY 9 (aEi K c) ls
theorem aMh (K : PySem.W.Frag) (c : Cls) : ∀ ls, x8 K c ls = .bad \/ fY 9 (aEi K c) ls = x8 K c ls := fun _ => .inr rfl
theorem aN5 {o : D} (h : PtD o) : rZ (.p o) = true := by
 obtain ⟨pt, _, rfl⟩ := h
 simp [rZ, frD, lfD, lfA]
theorem aLl (vs : List Int) : ∃ cs : List Int, M.cutD (vs.map .int) (some 1) (some 29) = cs.map .int /\ cs.length <= 28 := by
 refine ⟨(vs.drop (HT.sIx vs.length 0 (some ((1 : Nat) : Int)))).take (HT.sIx vs.length vs.length (some ((29 : Nat) : Int)) - HT.sIx vs.length 0 (some ((1 : Nat) : Int))), ?_, ?_⟩
 ·unfold M.cutD
  rw [List.length_map, List.map_take, List.map_drop]
  rfl
 ·rw [List.length_take, List.length_drop, HT.aAv, HT.aAv]
  omega
theorem inner (K : PySem.W.Frag) (c : Cls) {ps : List Pl} {pt : Pt} (h0 : ps ≠ []) (hl : ps.length < 64) (hg : ∀ q ∈ ps, gT q pt) (A B C E : Option L) : ∀ (ds : List D) (r7 r8 : Option L), ∃ q7 q8, fE (a9 7) (mM K c) ds [A, B, C, some (.o (.list (ps.map plD))), E, some (.p (.tuple [frD pt.1, frD pt.2])), some (.o (.list ((gK (eJ (mD ps pt))).map slD))), r7, r8] = some (.nx [A, B, C, some (.o (.list (ps.map plD))), E, some (.p (.tuple [frD pt.1, frD pt.2])), some (.o (.list ((gK (eJ (mD ps pt))).map slD))), q7, q8])
 | [], r7, r8 => ⟨r7, r8, rfl⟩
 | d :: ds, r7, r8 => by
  have hf := yI K c h0 hl hg
  have hp := aEg K c (gK (eJ (mD ps pt)))
  have hll : (gK (eJ (mD ps pt))).length <= 1000 := by
   have := aFb (eJ (mD ps pt))
   have := qF (mD ps pt)
   have := qN ps pt
   omega
  have hgen := inner K c h0 hl hg A B C E ds (some (.p d)) (some (.o (.list ((gK (eJ (mD ps pt))).map slD ++ [.tuple [.int 9, .int 9]]))))
  generalize gK (eJ (mD ps pt)) = H at hf hp hll hgen ⊢
  have hb : mM K c [A, B, C, some (.o (.list (ps.map plD))), E, some (.p (.tuple [frD pt.1, frD pt.2])), some (.o (.list (H.map slD))), some (.p d), r8] = some (.nx [A, B, C, some (.o (.list (ps.map plD))), E, some (.p (.tuple [frD pt.1, frD pt.2])), some (.o (.list (H.map slD))), some (.p d), some (.o (.list (H.map slD ++ [.tuple [.int 9, .int 9]])))]) := by
   unfold mM
   refine (aK (kL (aEb (iO rfl (iO rfl rfl)) rfl rfl rfl hf (aB3 _)))).trans ?_
   simp only [List.set_cons_succ, List.set_cons_zero]
   refine (aK (jU (aNw (iT (aEb (iO rfl (iO rfl rfl)) rfl rfl rfl hp rfl))))).trans ?_
   exact aIw rfl rfl (by rw [List.length_map]; omega)
  obtain ⟨q7, q8, hr⟩ := hgen
  refine ⟨q7, q8, (s8 rfl hb).trans hr⟩
theorem outer (K : PySem.W.Frag) (c : Cls) (hk : iU K c) (ns : List Int) {ps : List Pl} (h0 : ps ≠ []) (hl : ps.length < 64) (hg : ∀ p ∈ ps, GPl p) (hd : (ps.map slp).Nodup) (KI : Option L) : ∀ (ks : List Nat), (∀ k ∈ ks, k <= 60) -> ∀ (r4 r5 r6 r7 r8 : Option L), ∃ q4 q5 q6 q7 q8, fE (a9 4) (mR K c) (ks.map fun k : Nat => .int (k : Int)) [some (.p (.list (ns.map .int))), KI, some (.o (.list (ps.map plD))), some (.o (.list (ps.map plD))), r4, r5, r6, r7, r8] = some (.nx [some (.p (.list (ns.map .int))), KI, some (.o (.list (ps.map plD))), some (.o (.list (ps.map plD))), q4, q5, q6, q7, q8])
 | [], _, r4, r5, r6, r7, r8 => ⟨r4, r5, r6, r7, r8, rfl⟩
 | k :: ks, hks, r4, r5, r6, r7, r8 => by
  have k60 := hks k (.head _)
  have e1 := vG K c ns k
  obtain ⟨v, hv⟩ := pW K c (ns.getD k 0) (k := (k : Int)) (by omega) (by omega)
  obtain ⟨o, ho, hs⟩ := aIn K c h0 (by omega) hg hd v
  have fo := aN5 ho
  obtain ⟨pt, ⟨gx, gy⟩, rfl⟩ := ho
  have gp : ∀ q ∈ ps, gT q pt := fun q hq => (hg q hq).ok gx gy
  have ht := aC6 K c h0 (by omega) gp
  have hh := aE5 K c (Nat.lt_of_le_of_lt (qN ps pt) hl) (aA6 h0 (by omega) gp) (aCw gp)
  obtain ⟨q7, q8, hin⟩ := inner K c h0 hl gp (some (.p (.list (ns.map .int)))) KI (some (.o (.list (ps.map plD)))) (some (.p (.int (k : Int)))) (qT 0 2) r7 r8
  have hb : mR K c [some (.p (.list (ns.map .int))), KI, some (.o (.list (ps.map plD))), some (.o (.list (ps.map plD))), some (.p (.int (k : Int))), r5, r6, r7, r8] = some (.nx [some (.p (.list (ns.map .int))), KI, some (.o (.list (ps.map plD))), some (.o (.list (ps.map plD))), some (.p (.int (k : Int))), some (.p (.tuple [frD pt.1, frD pt.2])), some (.o (.list ((gK (eJ (mD ps pt))).map slD))), q7, q8]) := by
   unfold mR
   refine (aK (cA (aEb (iO rfl (iO (eW (eW rfl rfl e1) rfl hv) rfl)) rfl rfl rfl hs fo))).trans ?_
   simp only [List.set_cons_succ, List.set_cons_zero]
   refine (aK (kL (aF1 (aEb (iO rfl (iO rfl rfl)) rfl rfl rfl ht (aB3 _)) hh))).trans ?_
   simp only [List.set_cons_succ, List.set_cons_zero]
   exact (l4 (aNb (a := .int 2) rfl (mO 2 (by omega)))).trans hin
  obtain ⟨a4, a5, a6, a7, a8, hr⟩ := outer K c hk ns h0 hl hg hd KI ks (fun k hk => hks k (.tail _ hk)) (some (.p (.int (k : Int)))) (some (.p (.tuple [frD pt.1, frD pt.2]))) (some (.o (.list ((gK (eJ (mD ps pt))).map slD)))) q7 q8
  exact ⟨a4, a5, a6, a7, a8, (s8 rfl hb).trans hr⟩
theorem aLg (K : PySem.W.Frag) (c : Cls) (hk : iU K c) (ns : List Int) (hn : ns.length <= 63) : x8 K c [.p (.list (ns.map .int))] = .ok (.p (.bool true)) := by
 have c0 : bC K c [.p (.list (ns.map .int)), .p (.int 0)] = .ok (.p (.int (ns.getD 0 0))) := vG K c ns 0
 obtain ⟨kind, hkd⟩ := pW K c (ns.getD 0 0) (k := 1) (by decide) (by decide)
 obtain ⟨cs, hcs, cl⟩ := aLl ns
 have n7 : (7 : Int) ≠ 0 := by decide
 have a1 := b8 (a := kind.fdiv 16) (b := 7) (by decide)
 have a2 := b8 (a := kind.fdiv 3) (b := 7) (by decide)
 obtain ⟨ps, h0, hl, hg, hd, hr⟩ := aH8 K c cs (by omega) kind (most := 2 + (kind.fdiv 16).fmod 7) (cnt := 1 + (kind.fdiv 3).fmod 7) (by omega) (by omega) (by omega) (by omega)
 have d16 : fI kind 16 := cdl (by decide) (by decide)
 have d3 : fI kind 3 := cdl (by decide) (by decide)
 unfold x8
 refine cY ?_
 rw [show bL 9 [.p (.list (ns.map .int))] = [some (.p (.list (ns.map .int))), none, none, none, none, none, none, none, none] from rfl]
 unfold aEi
 refine (aK (cA (eW (eW rfl rfl c0) rfl hkd))).trans ?_
 simp only [List.set_cons_succ, List.set_cons_zero]
 have e2 : (mSl (aE 0) (mPt (mC (.int 1))) (mPt (mC (.int 29)))) [some (.p (.list (ns.map .int))), some (.p (.int kind)), none, none, none, none, none, none, none] = .ok (.f (.list (cs.map .int))) := by
  ktr_call 3 ⟨mSl, mPt, aE, mC, Res.bind, Ev.c, gF, hcs⟩
 refine (aK (kL (aOf (iO e2 (iO rfl (iO (aZ rfl (aZ (aZ rfl rfl (fZ d16)) rfl (fW n7)) (sI _ _)) (iO (aZ rfl (aZ (aZ rfl rfl (fZ d3)) rfl (fW n7)) (sI _ _)) rfl)))) rfl rfl hr))).trans ?_
 simp only [List.set_cons_succ, List.set_cons_zero]
 have e4 : (aN listE (aD (aE 2) aW)) [some (.p (.list (ns.map .int))), some (.p (.int kind)), some (.o (.list (ps.map plD))), none, none, none, none, none, none] = .ok (.f (.list (ps.map plD))) := rfl
 refine (aK (kL e4)).trans ?_
 simp only [List.set_cons_succ, List.set_cons_zero]
 obtain ⟨q4, q5, q6, q7, q8, hlp⟩ := outer K c hk ns h0 (by omega) hg hd (some (.p (.int kind))) ((List.range 10).map (29 + ·)) (fun k h => by obtain ⟨j, hj, rfl⟩ := List.mem_map.mp h; have := List.mem_range.mp hj; omega) none none none none none
 have hit : rG aDe (aD (mC (.int 29)) (aD (mC (.int 39)) aW)) [some (.p (.list (ns.map .int))), some (.p (.int kind)), some (.o (.list (ps.map plD))), some (.o (.list (ps.map plD))), none, none, none, none, none] = .ok (((List.range 10).map (29 + ·)).map fun k : Nat => PyData.int (k : Int)) := rfl
 refine (aK ((l4 hit).trans hlp)).trans (eV ?_)
 exact aZ rfl rfl (pV rfl rfl (aLd _) false)
section
variable {P : Program} {w : World} {K : PySem.W.Frag} {mg : Str -> Option Value} {base : Heap}
theorem aFp : bI ["number", "factor"] ["number", "factor"] (aQ qL) := ⟨rfl, rfl, rfl, by decide +kernel, rfl, by decide +kernel, by decide +kernel⟩
theorem aDa {c : Cls} (Df : Def K mg "whole" ["number", "factor"] qL) (B : Blt mg) (C : j6 mg c) (O : j8 mg base c) (hk : iU K c) : Cal P w K mg base 1 "whole" 2 (gO K c) := by
 refine kZ (k := 0) Df aFp rfl (fun f cdv A outer s H E hr => ⟨uV K c, ?_, aFx K c⟩)
 exact (aO (bE (aH aU aX aB (aM (dv 0) aA (fun _ _ => rfl)) (aH bY cU aB (dv 1) (aM (dv 0) aA (fun _ _ => rfl))))))
theorem sc_tops : bI ["roof", "point", "heights", "top"] ["roof", "point"] (aQ vX) := ⟨rfl, rfl, rfl, by decide +kernel, rfl, by decide +kernel, by decide +kernel⟩
theorem aHe {c : Cls} (Df : Def K mg "tops" ["roof", "point"] vX) (B : Blt mg) (C : j6 mg c) (O : j8 mg base c) (hk : iU K c) (c_slope_of : Cal P w K mg base 1 "slope_of" 1 (eX K c)) (c_heights_over : Cal P w K mg base 3 "heights_over" 2 (cI K c)) : Cal P w K mg base 4 "tops" 2 (oD K c) := by
 refine kZ (k := 3) Df sc_tops rfl (fun f cdv A outer s H E hr => ⟨aF5 K c, ?_, aIa K c⟩)
 exact (aG (aS (i := 2) sc_tops.nd rfl (Or.inl rfl) (aR c_heights_over hr cZ (aC (dv 0) (aC (dv 1) aJ)))) (q0 2 (aG (aS (i := 3) sc_tops.nd rfl (Or.inr rfl) (bO (zG rfl rfl) aH2 aI8 rfl B.max_ aGp (aC (dv 2) aJ))) (aO (bE (pY (xs := ["plane", "height"]) (ys := ["top"]) (js := [3]) (cl := [("top", s.heap.objs.size + 1)]) rfl (aKj rfl B.zip_ (aC (dv 0) (aC (dv 2) aJ))) (aAe (ys := ["top"]) (js := [3]) rfl (List.forall_mem_cons.mpr ⟨rfl, (fun _ h => nomatch h)⟩) (eF ⟨rfl, .inl rfl, .inl rfl, rfl, rfl⟩ g9) (by decide +kernel) (by decide +kernel)) (eF ⟨rfl, .inl rfl, .inl rfl, rfl, rfl⟩ g9) (by decide +kernel) rfl (by decide +kernel) rfl (by decide) (fun C s₀ H₀ ex pn => (aMu (n := 2) rfl (wU (d9 (i := 0) (show (["plane", "height", "top"] : List Str).Nodup by decide +kernel) rfl (Or.inl rfl)) (wU (d9 (i := 1) (show (["plane", "height", "top"] : List Str).Nodup by decide +kernel) rfl (Or.inl rfl)) aHj)))) (fun C s₀ H₀ ex pn => (aJo (dH (gN (u64 hr)) gU dZ (dv 1) (dv 2) (cO _)))) (fun C s₀ H₀ ex pn => (aR c_slope_of hr aG6 (aC (dv 0) aJ)))))))))
theorem sc__law_fraction : bI ["_law_top", "_law_bottom", "_law_shared"] ["_law_top", "_law_bottom"] (aQ eR) := ⟨rfl, rfl, rfl, by decide +kernel, rfl, by decide +kernel, by decide +kernel⟩
theorem l7 {c : Cls} (Df : Def K mg "_law_fraction" ["_law_top", "_law_bottom"] eR) (B : Blt mg) (C : j6 mg c) (O : j8 mg base c) (hk : iU K c) (c__law_divisor : Cal P w K mg base 1 "_law_divisor" 2 (cV K c)) : Cal P w K mg base 2 "_law_fraction" 2 (aT K c) := by
 refine kZ (k := 1) Df sc__law_fraction rfl (fun f cdv A outer s H E hr => ⟨gM K c, ?_, lY K c⟩)
 exact (aG (gC (dH aEf kW aP (dv 1) aA (cO _)) (aG (aS (i := 0) sc__law_fraction.nd rfl (Or.inl rfl) (kE (dv 0))) (aO (aS (i := 1) sc__law_fraction.nd rfl (Or.inl rfl) (kE (dv 1))))) cD) (aG (aS (i := 2) sc__law_fraction.nd rfl (Or.inl rfl) (aR c__law_divisor hr cZ (aC (dv 0) (aC (dv 1) aJ)))) (aO (bE (eD (aC (aH bY cU aB (dv 0) (dv 2)) (aC (aH bY cU aB (dv 1) (dv 2)) aJ)))))))
theorem sc__law_tie_by : bI ["_law_one", "_law_other", "_law_third", "_law_a", "_law_b", "_law_c", "_law_d", "_law_below", "_law_e", "_law_f", "_law_bottom", "_law_x"] ["_law_one", "_law_other", "_law_third"] (aQ gB) := ⟨rfl, rfl, rfl, by decide +kernel, rfl, by decide +kernel, by decide +kernel⟩
theorem oS {c : Cls} (Df : Def K mg "_law_tie_by" ["_law_one", "_law_other", "_law_third"] gB) (B : Blt mg) (C : j6 mg c) (O : j8 mg base c) (hk : iU K c) (c__law_fraction : Cal P w K mg base 2 "_law_fraction" 2 (aT K c)) : Cal P w K mg base 3 "_law_tie_by" 3 (cR K c) := by
 refine kZ (k := 2) Df sc__law_tie_by rfl (fun f cdv A outer s H E hr => ⟨eM K c, ?_, oU K c⟩)
 exact (aG (aS (i := 3) sc__law_tie_by.nd rfl (Or.inl rfl) (aH cM cJ aP (aM (dv 1) aA (fun _ _ => rfl)) (aM (dv 0) aA (fun _ _ => rfl)))) (aG (aS (i := 4) sc__law_tie_by.nd rfl (Or.inl rfl) (aH cM cJ aP (aM (dv 1) aA (fun _ _ => rfl)) (aM (dv 0) aA (fun _ _ => rfl)))) (aG (aS (i := 5) sc__law_tie_by.nd rfl (Or.inl rfl) (aH cM cJ aP (aM (dv 2) aA (fun _ _ => rfl)) (aM (dv 0) aA (fun _ _ => rfl)))) (aG (aS (i := 6) sc__law_tie_by.nd rfl (Or.inl rfl) (aH cM cJ aP (aM (dv 2) aA (fun _ _ => rfl)) (aM (dv 0) aA (fun _ _ => rfl)))) (aG (aS (i := 7) sc__law_tie_by.nd rfl (Or.inl rfl) (aH cM cJ aP (aH aU aX aB (dv 3) (dv 6)) (aH aU aX aB (dv 4) (dv 5)))) (aG (gC (dH (gN (u64 hr)) gU dZ (dv 7) aA (cO _)) (aO (bE aGg)) cD) (aG (aS (i := 8) sc__law_tie_by.nd rfl (Or.inl rfl) (eD (aC (aH cM cJ aP (aH aU aX aB (aM (aM (dv 0) aA (fun _ _ => rfl)) aA (fun _ _ => rfl)) (aM (aM (dv 1) aA (fun _ _ => rfl)) aA (fun _ _ => rfl))) (aH aU aX aB (aM (aM (dv 1) aA (fun _ _ => rfl)) aA (fun _ _ => rfl)) (aM (aM (dv 0) aA (fun _ _ => rfl)) aA (fun _ _ => rfl)))) (aC (aH aU aX aB (aM (aM (dv 0) aA (fun _ _ => rfl)) aA (fun _ _ => rfl)) (aM (aM (dv 1) aA (fun _ _ => rfl)) aA (fun _ _ => rfl))) aJ)))) (aG (aS (i := 9) sc__law_tie_by.nd rfl (Or.inl rfl) (eD (aC (aH cM cJ aP (aH aU aX aB (aM (aM (dv 0) aA (fun _ _ => rfl)) aA (fun _ _ => rfl)) (aM (aM (dv 2) aA (fun _ _ => rfl)) aA (fun _ _ => rfl))) (aH aU aX aB (aM (aM (dv 2) aA (fun _ _ => rfl)) aA (fun _ _ => rfl)) (aM (aM (dv 0) aA (fun _ _ => rfl)) aA (fun _ _ => rfl)))) (aC (aH aU aX aB (aM (aM (dv 0) aA (fun _ _ => rfl)) aA (fun _ _ => rfl)) (aM (aM (dv 2) aA (fun _ _ => rfl)) aA (fun _ _ => rfl))) aJ)))) (aG (aS (i := 10) sc__law_tie_by.nd rfl (Or.inl rfl) (aH aU aX aB (aH aU aX aB (dv 7) (aM (dv 8) aA (fun _ _ => rfl))) (aM (dv 9) aA (fun _ _ => rfl)))) (aG (aS (i := 11) sc__law_tie_by.nd rfl (Or.inl rfl) (aR c__law_fraction hr cZ (aC (aH cM cJ aP (aH aU aX aB (aH aU aX aB (aM (dv 8) aA (fun _ _ => rfl)) (aM (dv 9) aA (fun _ _ => rfl))) (dv 6)) (aH aU aX aB (aH aU aX aB (aM (dv 9) aA (fun _ _ => rfl)) (aM (dv 8) aA (fun _ _ => rfl))) (dv 4))) (aC (dv 10) aJ)))) (aO (bE (eD (aC (dv 11) (aC (aR c__law_fraction hr cZ (aC (aH cM cJ aP (aH aU aX aB (aH aU aX aB (aM (dv 9) aA (fun _ _ => rfl)) (aM (dv 8) aA (fun _ _ => rfl))) (dv 3)) (aH aU aX aB (aH aU aX aB (aM (dv 8) aA (fun _ _ => rfl)) (aM (dv 9) aA (fun _ _ => rfl))) (dv 5))) (aC (dv 10) aJ))) aJ)))))))))))))))
end
section
variable {P : Program} {w : World} {K : PySem.W.Frag} {mg : Str -> Option Value} {base : Heap}
theorem sc_chain : bI ["points", "kept", "point"] ["points"] (aQ qS) := ⟨rfl, rfl, rfl, by decide +kernel, rfl, by decide +kernel, by decide +kernel⟩
theorem aDi {c : Cls} (Df : Def K mg "chain" ["points"] qS) (B : Blt mg) (C : j6 mg c) (O : j8 mg base c) (hk : iU K c) (c_turn : Cal P w K mg base 1 "turn" 3 (lV K c)) : Cal P w K mg base 2 "chain" 1 (hZ K c) := by
 refine kZ (k := 1) Df sc_chain rfl (fun f cdv A outer s H E hr => ⟨uT K c, ?_, aD8 K c⟩)
 exact (aG (aS (i := 1) sc_chain.nd rfl (Or.inl rfl) (aBo aJ)) (aG (jK PassesOwn.leaving rfl (iK (dv 0)) (d9 (i := 2) sc_chain.nd rfl (Or.inl rfl)) (aG (q9 PassesOwn.leaving (DW.t (wD (dH aD2 kW aP (bO bU iR gA rfl B.len_ PySem.boot_len (aC (dv 1) aJ)) aA (cO _)) (p9 (dH aNy kW aP (aR c_turn hr cZ (aC (aM (dv 1) (kE aA) (fun _ _ => rfl)) (aC (aM (dv 1) (kE aA) (fun _ _ => rfl)) (aC (dv 2) aJ)))) aA (cO _))))) (aO (aKx (i := 1) (nV (aLn PySem.F.plainAttrs_list PySem.F.slot_list_pop PySem.F.type_list_pop aL6 (pv 1)))))) (aO (kU (i := 1) (dv 2) (fun t q => nV (aDo PySem.F.plainAttrs_list PySem.F.slot_list_append PySem.F.type_list_append kK (pv 1) (jO q oZ))))))) (aO (bE (dv 1)))))
theorem uA : bI ["plane"] ["plane"] (aQ jF) := ⟨rfl, rfl, rfl, by decide +kernel, rfl, by decide +kernel, by decide +kernel⟩
theorem tX {c : Cls} (Df : Def K mg "slope_of" ["plane"] jF) (B : Blt mg) (C : j6 mg c) (O : j8 mg base c) (hk : iU K c) : Cal P w K mg base 1 "slope_of" 1 (eX K c) := by
 refine kZ (k := 0) Df uA rfl (fun f cdv A outer s H E hr => ⟨lA K c, ?_, u7 K c⟩)
 exact (aO (bE (eD (aC (aM (dv 0) aA (fun _ _ => rfl)) (aC (aM (dv 0) aA (fun _ _ => rfl)) aJ)))))
theorem qZ : bI ["_law_found"] ["_law_found"] (aQ gX) := ⟨rfl, rfl, rfl, by decide +kernel, rfl, by decide +kernel, by decide +kernel⟩
theorem pP {c : Cls} (Df : Def K mg "_law_whole" ["_law_found"] gX) (B : Blt mg) (C : j6 mg c) (O : j8 mg base c) (hk : iU K c) : Cal P w K mg base 1 "_law_whole" 1 (cF K c) := by
 refine kZ (k := 0) Df qZ rfl (fun f cdv A outer s H E hr => ⟨i6 K c, ?_, qI K c hk⟩)
 exact (aO (bE (aMp (wR (cv := .type "int") rfl B.isinstance_ (.inl ⟨_, rfl⟩) rfl (dv 0) (qK (v := .ty "int") rfl B.int_ aL4 rfl)) (aLh (aLc (wR (cv := .type "bool") rfl B.isinstance_ (.inl ⟨_, rfl⟩) rfl (dv 0) (qK (v := .ty "bool") rfl B.bool_ aJr rfl)))))))
theorem sc__law_roof_by : bI ["_law_cells", "_law_kind", "_law_most", "_law_count", "_law_heights", "_law_k", "_law_cell", "_law_slope"] ["_law_cells", "_law_kind", "_law_most", "_law_count"] (aQ fN) := ⟨rfl, rfl, rfl, by decide +kernel, rfl, by decide +kernel, by decide +kernel⟩
theorem oG {c : Cls} (Df : Def K mg "_law_roof_by" ["_law_cells", "_law_kind", "_law_most", "_law_count"] fN) (B : Blt mg) (C : j6 mg c) (O : j8 mg base c) (hk : iU K c) (c__law_height_by : Cal P w K mg base 3 "_law_height_by" 4 (bT K c)) (c__law_stir : Cal P w K mg base 1 "_law_stir" 2 (bX K c)) (c__law_slope_by : Cal P w K mg base 1 "_law_slope_by" 3 (cN K c)) (c__law_cell_at : Cal P w K mg base 1 "_law_cell_at" 2 (bC K c)) : Cal P w K mg base 4 "_law_roof_by" 4 (cH K c) := by
 refine kZ (k := 3) Df sc__law_roof_by rfl (fun f cdv A outer s H E hr => ⟨hX K c, ?_, nY K c⟩)
 exact (aG (aS (i := 4) sc__law_roof_by.nd rfl (Or.inr rfl) aEx) (aG (jK PassesOwn.leaving rfl (kN rfl B.range_ (aC (bO (aB4 rfl) aM6 aJt rfl B.max_ aGp (aC (bO bU iR gA rfl B.len_ PySem.boot_len (aC (dv 0) aJ)) (aC (aH bH b9 bF (dv 3) aA) aJ))) aJ)) (d9 (i := 5) sc__law_roof_by.nd rfl (Or.inl rfl)) (aG (aS (i := 6) sc__law_roof_by.nd rfl (Or.inl rfl) (aR c__law_cell_at hr cZ (aC (dv 0) (aC (dv 5) aJ)))) (aG (aS (i := 7) sc__law_roof_by.nd rfl (Or.inl rfl) (aR c__law_slope_by hr cZ (aC (aR c__law_stir hr cZ (aC (dv 6) (aC (dv 5) aJ))) (aC (dv 1) (aC (dv 2) aJ))))) (aO (gC (DW.t (wD (yQ (u1 hr) (dv 7) (dv 4)) (p9 (dH aEf kW aP (bO xX aI0 aFo rfl B.len_ PySem.boot_len (aC (dv 4) aJ)) (dv 3) (cO _))))) (aO (aHd (i := 4) (u1 hr) (pv 4) (dv 7) (aR c__law_height_by hr cZ (aC (aR c__law_stir hr cZ (aC (dv 6) (aC (aH bH b9 bF (dv 5) aA) aJ))) (aC (dv 1) (aC (aM (dv 7) aA (fun _ _ => rfl)) (aC (aM (dv 7) aA (fun _ _ => rfl)) aJ))))) rfl)) cD))))) (q0 4 (aO (bE (pY (xs := ["_law_slope"]) (ys := ["_law_heights"]) (js := [4]) (cl := [("_law_heights", s.heap.objs.size + 1)]) rfl (iK (bO (SRT.yF rfl) yA uO rfl B.sorted_ aBp (aC (dv 4) aJ))) (aAe (ys := ["_law_heights"]) (js := [4]) rfl (List.forall_mem_cons.mpr ⟨rfl, (fun _ h => nomatch h)⟩) (eF ⟨rfl, .inl rfl, .inl rfl, rfl, rfl⟩ g9) (by decide +kernel) (by decide +kernel)) (eF ⟨rfl, .inl rfl, .inl rfl, rfl, rfl⟩ g9) (by decide +kernel) rfl (by decide +kernel) rfl (by decide) (fun C s₀ H₀ ex pn => (d9 (i := 0) (show (["_law_slope", "_law_heights"] : List Str).Nodup by decide +kernel) rfl (Or.inl rfl))) (fun C s₀ H₀ ex pn => pQ) (fun C s₀ H₀ ex pn => (eD (aC (aM (dv 0) aA (fun _ _ => rfl)) (aC (aM (dv 0) aA (fun _ _ => rfl)) (aC (aHu (u1 hr) (dv 1) (dv 0) (fun _ _ => rfl)) aJ)))))))))))
theorem sc__law_high_by : bI ["_law_plane", "_law_point", "_law_x", "_law_y", "_law_there", "_law_low"] ["_law_plane", "_law_point"] (aQ fT) := ⟨rfl, rfl, rfl, by decide +kernel, rfl, by decide +kernel, by decide +kernel⟩
theorem nJ {c : Cls} (Df : Def K mg "_law_high_by" ["_law_plane", "_law_point"] fT) (B : Blt mg) (C : j6 mg c) (O : j8 mg base c) (hk : iU K c) : Cal P w K mg base 1 "_law_high_by" 2 (cG K c) := by
 refine kZ (k := 0) Df sc__law_high_by rfl (fun f cdv A outer s H E hr => ⟨fR K c, ?_, oA K c⟩)
 exact (aG (aS (i := 2) sc__law_high_by.nd rfl (Or.inl rfl) (aM (dv 1) aA (fun _ _ => rfl))) (aG (aS (i := 3) sc__law_high_by.nd rfl (Or.inl rfl) (aM (dv 1) aA (fun _ _ => rfl))) (aG (aS (i := 4) sc__law_high_by.nd rfl (Or.inl rfl) (aH bH b9 bF (aH aU aX aB (aH aU aX aB (aM (dv 0) aA (fun _ _ => rfl)) (aM (dv 2) aA (fun _ _ => rfl))) (aM (dv 3) aA (fun _ _ => rfl))) (aH aU aX aB (aH aU aX aB (aM (dv 0) aA (fun _ _ => rfl)) (aM (dv 3) aA (fun _ _ => rfl))) (aM (dv 2) aA (fun _ _ => rfl))))) (aG (aS (i := 5) sc__law_high_by.nd rfl (Or.inl rfl) (aH aU aX aB (aM (dv 2) aA (fun _ _ => rfl)) (aM (dv 3) aA (fun _ _ => rfl)))) (aO (bE (eD (aC (aH bH b9 bF (aH aU aX aB (dv 4) (aM (aM (dv 0) aA (fun _ _ => rfl)) aA (fun _ _ => rfl))) (aH aU aX aB (aM (aM (dv 0) aA (fun _ _ => rfl)) aA (fun _ _ => rfl)) (dv 5))) (aC (aH aU aX aB (dv 5) (aM (aM (dv 0) aA (fun _ _ => rfl)) aA (fun _ _ => rfl))) aJ)))))))))
end
section
variable {P : Program} {w : World} {K : PySem.W.Frag} {mg : Str -> Option Value} {base : Heap}
theorem oM : bI ["_law_script", "_law_k"] ["_law_script", "_law_k"] (aQ fL) := ⟨rfl, rfl, rfl, by decide +kernel, rfl, by decide +kernel, by decide +kernel⟩
theorem mY {c : Cls} (Df : Def K mg "_law_cell_at" ["_law_script", "_law_k"] fL) (B : Blt mg) (C : j6 mg c) (O : j8 mg base c) (hk : iU K c) : Cal P w K mg base 1 "_law_cell_at" 2 (bC K c) := by
 refine kZ (k := 0) Df oM rfl (fun f cdv A outer s H E hr => ⟨hU K c, ?_, nE K c⟩)
 exact (aG (gC (dH aEf kW aP (dv 1) (bO bU iR gA rfl B.len_ PySem.boot_len (aC (dv 0) aJ)) (cO _)) (aO (bE (aM (dv 0) (dv 1) (fun _ _ => rfl)))) cD) (aO (bE aA)))
theorem sc__law_stir : bI ["_law_cell", "_law_k", "_law_c", "_law_low"] ["_law_cell", "_law_k"] (aQ iG) := ⟨rfl, rfl, rfl, by decide +kernel, rfl, by decide +kernel, by decide +kernel⟩
theorem sQ {c : Cls} (Df : Def K mg "_law_stir" ["_law_cell", "_law_k"] iG) (B : Blt mg) (C : j6 mg c) (O : j8 mg base c) (hk : iU K c) : Cal P w K mg base 1 "_law_stir" 2 (bX K c) := by
 refine kZ (k := 0) Df sc__law_stir rfl (fun f cdv A outer s H E hr => ⟨iJ K c, ?_, rQ K c⟩)
 exact (aG (aS (i := 2) sc__law_stir.nd rfl (Or.inl rfl) (aH bH b9 bF (aH bH b9 bF (aH bH b9 bF (aH aY bN aB (dv 0) (aH iQ iP aB aA aA)) aA) (aH iX jB aB aA (dv 1))) (aH iX jB aB (aH iX jB aB aA (dv 1)) (dv 1)))) (aG (aS (i := 3) sc__law_stir.nd rfl (Or.inl rfl) (aH aY bN aB (aH iX jB aB (aH aY bN aB (aH iX jB aB (dv 2) aA) aA) aA) aA)) (aO (bE (aH bH b9 bF (dv 3) (aH iX jB aB aA (aH aY bN aB (aH iX jB aB (aH iX jB aB (dv 2) (dv 3)) aA) (aH bH b9 bF (aH iQ iP aB aA aA) aA))))))))
theorem sc__law_farther : bI ["_law_one", "_law_far", "_law_place", "_law_turned", "_law_here"] ["_law_one", "_law_far", "_law_place"] (aQ fP) := ⟨rfl, rfl, rfl, by decide +kernel, rfl, by decide +kernel, by decide +kernel⟩
theorem nR {c : Cls} (Df : Def K mg "_law_farther" ["_law_one", "_law_far", "_law_place"] fP) (B : Blt mg) (C : j6 mg c) (O : j8 mg base c) (hk : iU K c) (c__law_turn : Cal P w K mg base 1 "_law_turn" 3 (dS K c)) : Cal P w K mg base 2 "_law_farther" 3 (bK K c) := by
 refine kZ (k := 1) Df sc__law_farther rfl (fun f cdv A outer s H E hr => ⟨fO K c, ?_, nU K c⟩)
 exact (aG (aS (i := 3) sc__law_farther.nd rfl (Or.inl rfl) (aR c__law_turn hr cZ (aC (dv 0) (aC (dv 1) (aC (dv 2) aJ))))) (aG (gC (dH (nN (u64 hr)) gU dZ (dv 3) aA (cO _)) (aO (bE (vI aEf kW aP (dv 3) aA (cO _)))) cD) (aG (aS (i := 4) sc__law_farther.nd rfl (Or.inl rfl) (aH bH b9 bF (bO gZ lK i8 rfl B.abs_ lJ (aC (aH cM cJ aP (aM (dv 2) aA (fun _ _ => rfl)) (aM (dv 0) aA (fun _ _ => rfl))) aJ)) (bO gZ lK i8 rfl B.abs_ lJ (aC (aH cM cJ aP (aM (dv 2) aA (fun _ _ => rfl)) (aM (dv 0) aA (fun _ _ => rfl))) aJ)))) (aO (bE (vI aD2 kW aP (dv 4) (aH bH b9 bF (bO gZ lK i8 rfl B.abs_ lJ (aC (aH cM cJ aP (aM (dv 1) aA (fun _ _ => rfl)) (aM (dv 0) aA (fun _ _ => rfl))) aJ)) (bO gZ lK i8 rfl B.abs_ lJ (aC (aH cM cJ aP (aM (dv 1) aA (fun _ _ => rfl)) (aM (dv 0) aA (fun _ _ => rfl))) aJ))) (cO _)))))))
theorem sc_law : bI ["_law_script", "_law_kind", "_law_roof", "_law_handed", "_law_k", "_law_point", "_law_due", "_law_step", "_law_found"] ["_law_script"] (aQ tD) := ⟨rfl, rfl, rfl, by decide +kernel, rfl, by decide +kernel, by decide +kernel⟩
theorem aKu {c : Cls} {f : Addr} {fd : FuncData} (F : Fun K "law" "law" tD f fd) (B : Blt mg) (C : j6 mg c) (O : j8 mg base c) (hk : iU K c) (c__law_pairs_like : Cal P w K mg base 2 "_law_pairs_like" 2 (bW K c)) (c_field : Cal P w K mg base 5 "field" 2 (jQ K c)) (c__law_hull_by : Cal P w K mg base 3 "_law_hull_by" 1 (cW K c)) (c__law_tops_by : Cal P w K mg base 2 "_law_tops_by" 2 (cK K c)) (c__law_spot_by : Cal P w K mg base 5 "_law_spot_by" 2 (cX K c)) (c__law_stir : Cal P w K mg base 1 "_law_stir" 2 (bX K c)) (c__law_cell_at : Cal P w K mg base 1 "_law_cell_at" 2 (bC K c)) (c__law_roof_by : Cal P w K mg base 4 "_law_roof_by" 4 (cH K c)) : FnOk P w K mg base (CXr P w) 6 f fd ["_law_script"] (spM K 1 (x8 K c)) := by
 refine fnM (k := 5) F sc_law rfl (fun cdv A outer s H E hr => ⟨aEi K c, ?_, aMh K c⟩)
 exact (aG (aS (i := 1) sc_law.nd rfl (Or.inl rfl) (aR c__law_stir hr cZ (aC (aR c__law_cell_at hr cZ (aC (dv 0) (aC aA aJ))) (aC aA aJ)))) (aG (aS (i := 2) sc_law.nd rfl (Or.inl rfl) (aR c__law_roof_by hr cZ (aC (aJs (dv 0) (qR aA) (qR aA)) (aC (dv 1) (aC (aH bH b9 bF aA (aH aY bN aB (aH bY cU aB (dv 1) aA) aA)) (aC (aH bH b9 bF aA (aH aY bN aB (aH bY cU aB (dv 1) aA) aA)) aJ)))))) (aG (aS (i := 3) sc_law.nd rfl (Or.inl rfl) (tK lS aAd wC rfl B.list_ uF (aC (dv 2) aJ))) (aG (jK PassesOwn.leaving rfl (aA4 rfl B.range_ (aC aA (aC aA aJ))) (d9 (i := 4) sc_law.nd rfl (Or.inl rfl)) (aG (aS (i := 5) sc_law.nd rfl (Or.inl rfl) (aR c__law_spot_by hr cZ (aC (dv 2) (aC (aR c__law_stir hr cZ (aC (aR c__law_cell_at hr cZ (aC (dv 0) (aC (dv 4) aJ))) (aC (dv 4) aJ))) aJ)))) (aG (aS (i := 6) sc_law.nd rfl (Or.inl rfl) (aR c__law_hull_by hr cZ (aC (aR c__law_tops_by hr cZ (aC (dv 2) (aC (dv 5) aJ))) aJ))) (aO (jK PassesOwn.leaving rfl (kN rfl B.range_ (aC aA aJ)) (d9 (i := 7) sc_law.nd rfl (Or.inl rfl)) (aG (aS (i := 8) sc_law.nd rfl (Or.inl rfl) (aR c_field hr cZ (aC (dv 3) (aC (dv 5) aJ)))) (aG (gC (rP (pC (aR c__law_pairs_like hr cZ (aC (dv 8) (aC (dv 6) aJ))))) (aO (bE aDl)) cD) (aO (kU (i := 8) (eD (aC aA (aC aA aJ))) (fun t q => nV (aDo PySem.F.plainAttrs_list PySem.F.slot_list_append PySem.F.type_list_append kK (pv 8) (jO q oZ)))))))))))) (aO (bE (vI (gN (u64 hr)) gU dZ (dv 3) (dv 2) (cO _))))))))
end
section
variable {P : Program} {w : World} {K : PySem.W.Frag} {mg : Str -> Option Value} {base : Heap}
theorem aDv : bI ["roof", "point"] ["roof", "point"] (aQ qX) := ⟨rfl, rfl, rfl, by decide +kernel, rfl, by decide +kernel, by decide +kernel⟩
theorem aDn {c : Cls} (Df : Def K mg "field" ["roof", "point"] qX) (B : Blt mg) (C : j6 mg c) (O : j8 mg base c) (hk : iU K c) (c_hull : Cal P w K mg base 3 "hull" 1 (nQ K c)) (c_tops : Cal P w K mg base 4 "tops" 2 (oD K c)) : Cal P w K mg base 5 "field" 2 (jQ K c) := by
 refine kZ (k := 4) Df aDv rfl (fun f cdv A outer s H E hr => ⟨aBj K c, ?_, aFk K c⟩)
 exact (aO (bE (aR c_hull hr cZ (aC (aR c_tops hr cZ (aC (dv 0) (aC (dv 1) aJ))) aJ))))
theorem sc__law_pairs_like : bI ["_law_found", "_law_due", "_law_place"] ["_law_found", "_law_due"] (aQ dW) := ⟨rfl, rfl, rfl, by decide +kernel, rfl, by decide +kernel, by decide +kernel⟩
theorem kT {c : Cls} (Df : Def K mg "_law_pairs_like" ["_law_found", "_law_due"] dW) (B : Blt mg) (C : j6 mg c) (O : j8 mg base c) (hk : iU K c) (c__law_whole : Cal P w K mg base 1 "_law_whole" 1 (cF K c)) : Cal P w K mg base 2 "_law_pairs_like" 2 (bW K c) := by
 refine kZ (k := 1) Df sc__law_pairs_like rfl (fun f cdv A outer s H E hr => ⟨fH K c, ?_, kG K c hk⟩)
 exact (aG (gC (DW.t (yV (rP (pC (wR (cv := .type "list") rfl B.isinstance_ (.inl ⟨_, rfl⟩) rfl (dv 0) (qK (v := .ty "list") rfl B.list_ uF rfl)))) (sO (dH (nN (u64 hr)) gU dZ (bO bU iR gA rfl B.len_ PySem.boot_len (aC (dv 0) aJ)) (bO bU iR gA rfl B.len_ PySem.boot_len (aC (dv 1) aJ)) (cO _))))) (aO (bE aDl)) cD) (aG (jK PassesOwn.leaving rfl (iK (dv 0)) (d9 (i := 2) sc__law_pairs_like.nd rfl (Or.inl rfl)) (aG (gC (DW.t (yV (rP (pC (wR (cv := .type "tuple") rfl B.isinstance_ (.inl ⟨_, rfl⟩) rfl (dv 2) (qK (v := .ty "tuple") rfl B.tuple_ aEv rfl)))) (sO (dH (nN (u64 hr)) gU dZ (bO bU iR gA rfl B.len_ PySem.boot_len (aC (dv 2) aJ)) aA (cO _))))) (aO (bE aDl)) cD) (aO (gC (DW.t (yV (rP (pC (aR c__law_whole hr cZ (aC (aM (dv 2) aA (fun _ _ => rfl)) aJ)))) (sO (rP (pC (aR c__law_whole hr cZ (aC (aM (dv 2) aA (fun _ _ => rfl)) aJ))))))) (aO (bE aDl)) cD)))) (aO (bE (vI (gN (u64 hr)) gU dZ (dv 0) (dv 1) (cO _))))))
theorem sc__law_slope_by : bI ["_law_cell", "_law_kind", "_law_most", "_law_c"] ["_law_cell", "_law_kind", "_law_most"] (aQ eN) := ⟨rfl, rfl, rfl, by decide +kernel, rfl, by decide +kernel, by decide +kernel⟩
theorem mI {c : Cls} (Df : Def K mg "_law_slope_by" ["_law_cell", "_law_kind", "_law_most"] eN) (B : Blt mg) (C : j6 mg c) (O : j8 mg base c) (hk : iU K c) : Cal P w K mg base 1 "_law_slope_by" 3 (cN K c) := by
 refine kZ (k := 0) Df sc__law_slope_by rfl (fun f cdv A outer s H E hr => ⟨dQ K c, ?_, l9 K c⟩)
 exact (aG (aS (i := 3) sc__law_slope_by.nd rfl (Or.inl rfl) (aH aY bN aB (dv 0) (aH iQ iP aB aA aA))) (aG (gC (dH (gN (u64 hr)) gU dZ (aH aY bN aB (aH bY cU aB (dv 1) aA) aA) aA (cO _)) (aO (bE (eD (aC (aH aY bN aB (dv 3) (aH bH b9 bF (dv 2) aA)) (aC (aH aY bN aB (dv 3) (aH bH b9 bF (dv 2) aA)) aJ))))) cD) (aG (gC (dH (gN (u64 hr)) gU dZ (aH aY bN aB (aH bY cU aB (dv 1) aA) aA) aA (cO _)) (aO (bE (eD (aC (aH aY bN aB (dv 3) aA) (aC (aH aY bN aB (aH bY cU aB (dv 3) aA) (aH bH b9 bF (dv 2) aA)) aJ))))) cD) (aO (bE (eD (aC (aH aY bN aB (dv 3) (aH bH b9 bF (dv 2) aA)) (aC (aH aY bN aB (aH bY cU aB (dv 3) (aH bH b9 bF (dv 2) aA)) (aH bH b9 bF (dv 2) aA)) aJ))))))))
theorem sc__law_tops_by : bI ["_law_roof", "_law_point", "_law_high", "_law_peak", "_law_one", "_law_kept", "_law_k"] ["_law_roof", "_law_point"] (aQ fK) := ⟨rfl, rfl, rfl, by decide +kernel, rfl, by decide +kernel, by decide +kernel⟩
theorem oB {c : Cls} (Df : Def K mg "_law_tops_by" ["_law_roof", "_law_point"] fK) (B : Blt mg) (C : j6 mg c) (O : j8 mg base c) (hk : iU K c) (c__law_high_by : Cal P w K mg base 1 "_law_high_by" 2 (cG K c)) : Cal P w K mg base 2 "_law_tops_by" 2 (cK K c) := by
 refine kZ (k := 1) Df sc__law_tops_by rfl (fun f cdv A outer s H E hr => ⟨fS K c, ?_, nT K c⟩)
 exact (aG (aI6 (i := 2) sc__law_tops_by.nd rfl (Or.inl rfl) (xs := ["_law_plane"]) (ys := ["_law_point"]) (js := [1]) (cl := [("_law_point", s.heap.objs.size + 1)]) rfl (iK (dv 0)) (aAe (ys := ["_law_point"]) (js := [1]) rfl (List.forall_mem_cons.mpr ⟨rfl, (fun _ h => nomatch h)⟩) (eF ⟨rfl, .inl rfl, .inl rfl, rfl, rfl⟩ g9) (by decide +kernel) (by decide +kernel)) (eF ⟨rfl, .inl rfl, .inl rfl, rfl, rfl⟩ g9) (by decide +kernel) rfl (by decide +kernel) rfl (by decide) (fun C s₀ H₀ ex pn => (d9 (i := 0) (show (["_law_plane", "_law_point"] : List Str).Nodup by decide +kernel) rfl (Or.inl rfl))) (fun C s₀ H₀ ex pn => pQ) (fun C s₀ H₀ ex pn => (aR c__law_high_by hr aG6 (aC (dv 0) (aC (dv 1) aJ))))) (q0 2 (aG (aS (i := 3) sc__law_tops_by.nd rfl (Or.inl rfl) (aM (dv 2) aA (fun _ _ => rfl))) (aG (jK PassesOwn.leaving rfl (iK (dv 2)) (d9 (i := 4) sc__law_tops_by.nd rfl (Or.inl rfl)) (aO (gC (dH aD2 kW aP (aH aU aX aB (aM (dv 4) aA (fun _ _ => rfl)) (aM (dv 3) aA (fun _ _ => rfl))) (aH aU aX aB (aM (dv 3) aA (fun _ _ => rfl)) (aM (dv 4) aA (fun _ _ => rfl))) (cO _)) (aO (aS (i := 3) sc__law_tops_by.nd rfl (Or.inl rfl) (dv 4))) cD))) (aG (aS (i := 5) sc__law_tops_by.nd rfl (Or.inl rfl) (aBo aJ)) (aG (jK PassesOwn.leaving rfl (kN rfl B.range_ (aC (bO bU iR gA rfl B.len_ PySem.boot_len (aC (dv 0) aJ)) aJ)) (d9 (i := 6) sc__law_tops_by.nd rfl (Or.inl rfl)) (aO (gC (dH (gN (u64 hr)) gU dZ (aH aU aX aB (aM (aM (dv 2) (dv 6) (fun _ _ => rfl)) aA (fun _ _ => rfl)) (aM (dv 3) aA (fun _ _ => rfl))) (aH aU aX aB (aM (dv 3) aA (fun _ _ => rfl)) (aM (aM (dv 2) (dv 6) (fun _ _ => rfl)) aA (fun _ _ => rfl))) (cO _)) (aO (kU (i := 5) (eD (aC (aM (aM (dv 0) (dv 6) (fun _ _ => rfl)) aA (fun _ _ => rfl)) (aC (aM (aM (dv 0) (dv 6) (fun _ _ => rfl)) aA (fun _ _ => rfl)) aJ))) (fun t q => nV (aDo PySem.F.plainAttrs_list PySem.F.slot_list_append PySem.F.type_list_append kK (pv 5) (jO q oZ))))) cD))) (aO (bE (dv 5)))))))))
end
section
variable {P : Program} {w : World} {K : PySem.W.Frag} {mg : Str -> Option Value} {base : Heap}
theorem sc_greatest_divisor : bI ["a", "b", "larger", "smaller", "rest"] ["a", "b"] (aQ dO) := ⟨rfl, rfl, rfl, by decide +kernel, rfl, by decide +kernel, by decide +kernel⟩
theorem jY {c : Cls} (Df : Def K mg "greatest_divisor" ["a", "b"] dO) (B : Blt mg) (C : j6 mg c) (O : j8 mg base c) (hk : iU K c) : Cal P w K mg base 1 "greatest_divisor" 2 (bR K c) := by
 refine kZ (k := 0) Df sc_greatest_divisor rfl (fun f cdv A outer s H E hr => ⟨gW K c, ?_, jS K c⟩)
 exact (aG (aS (i := 2) sc_greatest_divisor.nd rfl (Or.inl rfl) (bO gZ lK i8 rfl B.abs_ lJ (aC (dv 0) aJ))) (aG (aS (i := 3) sc_greatest_divisor.nd rfl (Or.inl rfl) (bO gZ lK i8 rfl B.abs_ lJ (aC (dv 1) aJ))) (aG (q9 PassesOwn.leaving (dH (nN (u64 hr)) gU dZ (dv 3) aA (cO _)) (aG (aS (i := 4) sc_greatest_divisor.nd rfl (Or.inl rfl) (aH aY bN aB (dv 2) (dv 3))) (aG (aS (i := 2) sc_greatest_divisor.nd rfl (Or.inl rfl) (dv 3)) (aO (aS (i := 3) sc_greatest_divisor.nd rfl (Or.inl rfl) (dv 4)))))) (aO (bE (dv 2))))))
theorem sc_heights_over : bI ["roof", "point", "factor", "x", "y"] ["roof", "point"] (aQ fQ) := ⟨rfl, rfl, rfl, by decide +kernel, rfl, by decide +kernel, by decide +kernel⟩
theorem mX {c : Cls} (Df : Def K mg "heights_over" ["roof", "point"] fQ) (B : Blt mg) (C : j6 mg c) (O : j8 mg base c) (hk : iU K c) (c_whole : Cal P w K mg base 1 "whole" 2 (gO K c)) (c_common_bottom : Cal P w K mg base 2 "common_bottom" 1 (b6 K c)) : Cal P w K mg base 3 "heights_over" 2 (cI K c) := by
 refine kZ (k := 2) Df sc_heights_over rfl (fun f cdv A outer s H E hr => ⟨jI K c, ?_, oH K c⟩)
 exact (aG (aS (i := 2) sc_heights_over.nd rfl (Or.inr rfl) (aR c_common_bottom hr cZ (aC (aH bH b9 bF (pY (xs := ["plane"]) (ys := []) (js := []) (cl := []) rfl (iK (dv 0)) (aAe (ys := []) (js := []) rfl (fun _ h => nomatch h) g9 (by decide +kernel) (by decide +kernel)) g9 (by decide +kernel) rfl (by decide +kernel) rfl (by decide) (fun C s₀ H₀ ex pn => (d9 (i := 0) (show (["plane"] : List Str).Nodup by decide +kernel) rfl (Or.inl rfl))) (fun C s₀ H₀ ex pn => pQ) (fun C s₀ H₀ ex pn => (aM (dv 0) aA (fun _ _ => rfl)))) (tK lS aAd wC rfl B.list_ uF (aC (dv 1) aJ))) aJ))) (aG (aS (i := 3) sc_heights_over.nd rfl (Or.inr rfl) (aR c_whole hr cZ (aC (aM (dv 1) aA (fun _ _ => rfl)) (aC (dv 2) aJ)))) (aG (aS (i := 4) sc_heights_over.nd rfl (Or.inr rfl) (aR c_whole hr cZ (aC (aM (dv 1) aA (fun _ _ => rfl)) (aC (dv 2) aJ)))) (aO (bE (pY (xs := ["plane"]) (ys := ["factor", "x", "y"]) (js := [2, 3, 4]) (cl := [("y", s.heap.objs.size + 1 + 1 + 1), ("x", s.heap.objs.size + 1 + 1), ("factor", s.heap.objs.size + 1)]) rfl (iK (dv 0)) (aAe (ys := ["factor", "x", "y"]) (js := [2, 3, 4]) rfl (List.forall_mem_cons.mpr ⟨rfl, (List.forall_mem_cons.mpr ⟨rfl, (List.forall_mem_cons.mpr ⟨rfl, (fun _ h => nomatch h)⟩)⟩)⟩) (eF ⟨rfl, .inl rfl, .inl rfl, rfl, rfl⟩ (eF ⟨rfl, .inl rfl, .inl rfl, rfl, rfl⟩ (eF ⟨rfl, .inl rfl, .inl rfl, rfl, rfl⟩ g9))) (by decide +kernel) (by decide +kernel)) (eF ⟨rfl, .inl rfl, .inl rfl, rfl, rfl⟩ (eF ⟨rfl, .inl rfl, .inl rfl, rfl, rfl⟩ (eF ⟨rfl, .inl rfl, .inl rfl, rfl, rfl⟩ g9))) (by decide +kernel) rfl (by decide +kernel) rfl (by decide) (fun C s₀ H₀ ex pn => (d9 (i := 0) (show (["plane", "factor", "x", "y"] : List Str).Nodup by decide +kernel) rfl (Or.inl rfl))) (fun C s₀ H₀ ex pn => pQ) (fun C s₀ H₀ ex pn => (aH bH b9 bF (aH bH b9 bF (aH aU aX aB (aM (dv 0) aA (fun _ _ => rfl)) (dv 2)) (aH aU aX aB (aM (dv 0) aA (fun _ _ => rfl)) (dv 3))) (aR c_whole hr aG6 (aC (aM (dv 0) aA (fun _ _ => rfl)) (aC (dv 1) aJ)))))))))))
theorem sc__law_turn : bI ["_law_one", "_law_far", "_law_place", "_law_here"] ["_law_one", "_law_far", "_law_place"] (aQ iI) := ⟨rfl, rfl, rfl, by decide +kernel, rfl, by decide +kernel, by decide +kernel⟩
theorem tJ {c : Cls} (Df : Def K mg "_law_turn" ["_law_one", "_law_far", "_law_place"] iI) (B : Blt mg) (C : j6 mg c) (O : j8 mg base c) (hk : iU K c) : Cal P w K mg base 1 "_law_turn" 3 (dS K c) := by
 refine kZ (k := 0) Df sc__law_turn rfl (fun f cdv A outer s H E hr => ⟨iF K c, ?_, r0 K c⟩)
 exact (aG (aS (i := 3) sc__law_turn.nd rfl (Or.inl rfl) (aH aU aX aB (aH cM cJ aP (aM (dv 1) aA (fun _ _ => rfl)) (aM (dv 0) aA (fun _ _ => rfl))) (aH cM cJ aP (aM (dv 2) aA (fun _ _ => rfl)) (aM (dv 0) aA (fun _ _ => rfl))))) (aO (bE (aH cM cJ aP (dv 3) (aH aU aX aB (aH cM cJ aP (aM (dv 1) aA (fun _ _ => rfl)) (aM (dv 0) aA (fun _ _ => rfl))) (aH cM cJ aP (aM (dv 2) aA (fun _ _ => rfl)) (aM (dv 0) aA (fun _ _ => rfl))))))))
theorem sc__law_hull_by : bI ["_law_places", "_law_some", "_law_ring", "_law_step", "_law_far", "_law_place"] ["_law_places"] (aQ fU) := ⟨rfl, rfl, rfl, by decide +kernel, rfl, by decide +kernel, by decide +kernel⟩
theorem oC {c : Cls} (Df : Def K mg "_law_hull_by" ["_law_places"] fU) (B : Blt mg) (C : j6 mg c) (O : j8 mg base c) (hk : iU K c) (c__law_farther : Cal P w K mg base 2 "_law_farther" 3 (bK K c)) : Cal P w K mg base 3 "_law_hull_by" 1 (cW K c) := by
 refine kZ (k := 2) Df sc__law_hull_by rfl (fun f cdv A outer s H E hr => ⟨hV K c, ?_, nK K c⟩)
 exact (aG (aS (i := 1) sc__law_hull_by.nd rfl (Or.inl rfl) (pI rfl (u64 hr) rfl B.sorted_ rfl B.set_ (dv 0))) (aG (aS (i := 2) sc__law_hull_by.nd rfl (Or.inl rfl) (aBo (aC (aM (dv 1) aA (fun _ _ => rfl)) aJ))) (q0 1 (aG (jK PassesOwn.leaving rfl (kN rfl B.range_ (aC (bO bU iR gA rfl B.len_ PySem.boot_len (aC (dv 1) aJ)) aJ)) (d9 (i := 3) sc__law_hull_by.nd rfl (Or.inl rfl)) (aG (aS (i := 4) sc__law_hull_by.nd rfl (Or.inl rfl) aGg) (aG (jK PassesOwn.leaving rfl (iK (dv 1)) (d9 (i := 5) sc__law_hull_by.nd rfl (Or.inl rfl)) (aO (gC (DW.t (wD (dH (nN (u64 hr)) gU dZ (dv 5) (aM (dv 2) (kE aA) (fun _ _ => rfl)) (cO _)) (p9 (DW.t (yV (aF6 (dv 4)) (sO (pC (aR c__law_farther hr cZ (aC (aM (dv 2) (kE aA) (fun _ _ => rfl)) (aC (dv 4) (aC (dv 5) aJ))))))))))) (aO (aS (i := 4) sc__law_hull_by.nd rfl (Or.inl rfl) (dv 5))) cD))) (aG (gC (DW.t (yV (aF6 (dv 4)) (sO (dH (gN (u64 hr)) gU dZ (dv 4) (aM (dv 2) aA (fun _ _ => rfl)) (cO _))))) (aO aC3) cD) (aO (kU (i := 2) (dv 4) (fun t q => nV (aDo PySem.F.plainAttrs_list PySem.F.slot_list_append PySem.F.type_list_append kK (pv 2) (jO q oZ))))))))) (aO (bE (dv 2)))))))
end
section
variable {P : Program} {w : World} {K : PySem.W.Frag} {mg : Str -> Option Value} {base : Heap}
theorem sc_turn : bI ["start", "middle", "end", "along", "across"] ["start", "middle", "end"] (aQ wL) := ⟨rfl, rfl, rfl, by decide +kernel, rfl, by decide +kernel, by decide +kernel⟩
theorem aJd {c : Cls} (Df : Def K mg "turn" ["start", "middle", "end"] wL) (B : Blt mg) (C : j6 mg c) (O : j8 mg base c) (hk : iU K c) : Cal P w K mg base 1 "turn" 3 (lV K c) := by
 refine kZ (k := 0) Df sc_turn rfl (fun f cdv A outer s H E hr => ⟨aA3 K c, ?_, aHp K c⟩)
 exact (aG (aS (i := 3) sc_turn.nd rfl (Or.inl rfl) (aH aU aX aB (aH cM cJ aP (aM (dv 1) aA (fun _ _ => rfl)) (aM (dv 0) aA (fun _ _ => rfl))) (aH cM cJ aP (aM (dv 2) aA (fun _ _ => rfl)) (aM (dv 0) aA (fun _ _ => rfl))))) (aG (aS (i := 4) sc_turn.nd rfl (Or.inl rfl) (aH aU aX aB (aH cM cJ aP (aM (dv 1) aA (fun _ _ => rfl)) (aM (dv 0) aA (fun _ _ => rfl))) (aH cM cJ aP (aM (dv 2) aA (fun _ _ => rfl)) (aM (dv 0) aA (fun _ _ => rfl))))) (aO (bE (aH cM cJ aP (dv 3) (dv 4))))))
theorem sc__law_divisor : bI ["_law_a", "_law_b", "_law_rest"] ["_law_a", "_law_b"] (aQ fM) := ⟨rfl, rfl, rfl, by decide +kernel, rfl, by decide +kernel, by decide +kernel⟩
theorem nH {c : Cls} (Df : Def K mg "_law_divisor" ["_law_a", "_law_b"] fM) (B : Blt mg) (C : j6 mg c) (O : j8 mg base c) (hk : iU K c) : Cal P w K mg base 1 "_law_divisor" 2 (cV K c) := by
 refine kZ (k := 0) Df sc__law_divisor rfl (fun f cdv A outer s H E hr => ⟨jL K c, ?_, oF K c⟩)
 exact (aG (aS (i := 0) sc__law_divisor.nd rfl (Or.inl rfl) (bO gZ lK i8 rfl B.abs_ lJ (aC (dv 0) aJ))) (aG (aS (i := 1) sc__law_divisor.nd rfl (Or.inl rfl) (bO gZ lK i8 rfl B.abs_ lJ (aC (dv 1) aJ))) (aG (q9 PassesOwn.leaving (dH aD2 kW aP (dv 1) aA (cO _)) (aG (aS (i := 2) sc__law_divisor.nd rfl (Or.inl rfl) (aH aY bN aB (dv 0) (dv 1))) (aG (aS (i := 0) sc__law_divisor.nd rfl (Or.inl rfl) (dv 1)) (aO (aS (i := 1) sc__law_divisor.nd rfl (Or.inl rfl) (dv 2)))))) (aO (bE (dv 0))))))
theorem sc__law_point_by : bI ["_law_cell", "_law_c", "_law_x"] ["_law_cell"] (aQ eQ) := ⟨rfl, rfl, rfl, by decide +kernel, rfl, by decide +kernel, by decide +kernel⟩
theorem mE {c : Cls} (Df : Def K mg "_law_point_by" ["_law_cell"] eQ) (B : Blt mg) (C : j6 mg c) (O : j8 mg base c) (hk : iU K c) (c__law_fraction : Cal P w K mg base 2 "_law_fraction" 2 (aT K c)) : Cal P w K mg base 3 "_law_point_by" 1 (bB K c) := by
 refine kZ (k := 2) Df sc__law_point_by rfl (fun f cdv A outer s H E hr => ⟨dU K c, ?_, l8 K c⟩)
 exact (aG (aS (i := 1) sc__law_point_by.nd rfl (Or.inl rfl) (aH aY bN aB (dv 0) (aH iQ iP aB aA aA))) (aG (gC (dH (gN (u64 hr)) gU dZ (aH aY bN aB (dv 1) aA) aA (cO _)) (aO (bE (eD (aC (eD (aC (aH cM cJ aP (aH aY bN aB (aH bY cU aB (dv 1) aA) aA) aA) (aC aA aJ))) (aC (eD (aC (aH cM cJ aP (aH aY bN aB (aH bY cU aB (dv 1) aA) aA) aA) (aC aA aJ))) aJ))))) cD) (aG (aS (i := 2) sc__law_point_by.nd rfl (Or.inl rfl) (aR c__law_fraction hr cZ (aC (aH cM cJ aP (aH aY bN aB (dv 1) (aH bH b9 bF (aH aU aX aB aA (aH iQ iP aB aA aA)) aA)) (aH iQ iP aB aA aA)) (aC (aH bH b9 bF aA (aH aY bN aB (aH bY cU aB (dv 1) aA) aA)) aJ)))) (aO (bE (eD (aC (dv 2) (aC (aR c__law_fraction hr cZ (aC (aH cM cJ aP (aH aY bN aB (aH aU aX aB (dv 1) aA) (aH bH b9 bF (aH aU aX aB aA (aH iQ iP aB aA aA)) aA)) (aH iQ iP aB aA aA)) (aC (aH bH b9 bF aA (aH aY bN aB (aH bY cU aB (dv 1) aA) aA)) aJ))) aJ))))))))
theorem sc__law_crease_by : bI ["_law_one", "_law_other", "_law_cell", "_law_a", "_law_b", "_law_c", "_law_free", "_law_top"] ["_law_one", "_law_other", "_law_cell"] (aQ eG) := ⟨rfl, rfl, rfl, by decide +kernel, rfl, by decide +kernel, by decide +kernel⟩
theorem lE {c : Cls} (Df : Def K mg "_law_crease_by" ["_law_one", "_law_other", "_law_cell"] eG) (B : Blt mg) (C : j6 mg c) (O : j8 mg base c) (hk : iU K c) (c__law_fraction : Cal P w K mg base 2 "_law_fraction" 2 (aT K c)) (c__law_point_by : Cal P w K mg base 3 "_law_point_by" 1 (bB K c)) : Cal P w K mg base 4 "_law_crease_by" 3 (cC K c) := by
 refine kZ (k := 3) Df sc__law_crease_by rfl (fun f cdv A outer s H E hr => ⟨dJ K c, ?_, lD K c⟩)
 exact (aG (aS (i := 3) sc__law_crease_by.nd rfl (Or.inl rfl) (aH cM cJ aP (aM (dv 0) aA (fun _ _ => rfl)) (aM (dv 1) aA (fun _ _ => rfl)))) (aG (aS (i := 4) sc__law_crease_by.nd rfl (Or.inl rfl) (aH cM cJ aP (aM (dv 0) aA (fun _ _ => rfl)) (aM (dv 1) aA (fun _ _ => rfl)))) (aG (aS (i := 5) sc__law_crease_by.nd rfl (Or.inl rfl) (eD (aC (aH cM cJ aP (aH aU aX aB (aM (aM (dv 1) aA (fun _ _ => rfl)) aA (fun _ _ => rfl)) (aM (aM (dv 0) aA (fun _ _ => rfl)) aA (fun _ _ => rfl))) (aH aU aX aB (aM (aM (dv 0) aA (fun _ _ => rfl)) aA (fun _ _ => rfl)) (aM (aM (dv 1) aA (fun _ _ => rfl)) aA (fun _ _ => rfl)))) (aC (aH aU aX aB (aM (aM (dv 1) aA (fun _ _ => rfl)) aA (fun _ _ => rfl)) (aM (aM (dv 0) aA (fun _ _ => rfl)) aA (fun _ _ => rfl))) aJ)))) (aG (aS (i := 6) sc__law_crease_by.nd rfl (Or.inl rfl) (aM (aR c__law_point_by hr cZ (aC (dv 2) aJ)) aA (fun _ _ => rfl))) (aG (gC (dH (nN (u64 hr)) gU dZ (dv 4) aA (cO _)) (aG (aS (i := 7) sc__law_crease_by.nd rfl (Or.inl rfl) (aH cM cJ aP (aH aU aX aB (aM (dv 5) aA (fun _ _ => rfl)) (aM (dv 6) aA (fun _ _ => rfl))) (aH aU aX aB (aH aU aX aB (dv 3) (aM (dv 6) aA (fun _ _ => rfl))) (aM (dv 5) aA (fun _ _ => rfl))))) (aO (bE (eD (aC (dv 6) (aC (aR c__law_fraction hr cZ (aC (dv 7) (aC (aH aU aX aB (aH aU aX aB (dv 4) (aM (dv 5) aA (fun _ _ => rfl))) (aM (dv 6) aA (fun _ _ => rfl))) aJ))) aJ)))))) cD) (aO (bE (eD (aC (aR c__law_fraction hr cZ (aC (aM (dv 5) aA (fun _ _ => rfl)) (aC (aH aU aX aB (dv 3) (aM (dv 5) aA (fun _ _ => rfl))) aJ))) (aC (dv 6) aJ))))))))))
end
section
variable {P : Program} {w : World} {K : PySem.W.Frag} {mg : Str -> Option Value} {base : Heap}
theorem sc_common_bottom : bI ["numbers", "common", "number"] ["numbers"] (aQ eP) := ⟨rfl, rfl, rfl, by decide +kernel, rfl, by decide +kernel, by decide +kernel⟩
theorem mF {c : Cls} (Df : Def K mg "common_bottom" ["numbers"] eP) (B : Blt mg) (C : j6 mg c) (O : j8 mg base c) (hk : iU K c) (c_greatest_divisor : Cal P w K mg base 1 "greatest_divisor" 2 (bR K c)) : Cal P w K mg base 2 "common_bottom" 1 (b6 K c) := by
 refine kZ (k := 1) Df sc_common_bottom rfl (fun f cdv A outer s H E hr => ⟨iY K c, ?_, mJ K c⟩)
 exact (aG (aS (i := 1) sc_common_bottom.nd rfl (Or.inl rfl) aA) (aG (jK PassesOwn.leaving rfl (iK (dv 0)) (d9 (i := 2) sc_common_bottom.nd rfl (Or.inl rfl)) (aO (aS (i := 1) sc_common_bottom.nd rfl (Or.inl rfl) (aH bY cU aB (aH aU aX aB (dv 1) (aM (dv 2) aA (fun _ _ => rfl))) (aR c_greatest_divisor hr cZ (aC (dv 1) (aC (aM (dv 2) aA (fun _ _ => rfl)) aJ))))))) (aO (bE (dv 1)))))
theorem sc_hull : bI ["slopes", "rows", "there", "back"] ["slopes"] (aQ vN) := ⟨rfl, rfl, rfl, by decide +kernel, rfl, by decide +kernel, by decide +kernel⟩
theorem aHv {c : Cls} (Df : Def K mg "hull" ["slopes"] vN) (B : Blt mg) (C : j6 mg c) (O : j8 mg base c) (hk : iU K c) (c_chain : Cal P w K mg base 2 "chain" 1 (hZ K c)) : Cal P w K mg base 3 "hull" 1 (nQ K c) := by
 refine kZ (k := 2) Df sc_hull rfl (fun f cdv A outer s H E hr => ⟨aB5 K c, ?_, aIt K c⟩)
 exact (aG (aS (i := 1) sc_hull.nd rfl (Or.inl rfl) (pI rfl (u64 hr) rfl B.sorted_ rfl B.set_ (dv 0))) (aG (gC (dH (gN (u64 hr)) gU dZ (bO bU iR gA rfl B.len_ PySem.boot_len (aC (dv 1) aJ)) aA (cO _)) (aO (bE (dv 1))) cD) (aG (aS (i := 2) sc_hull.nd rfl (Or.inl rfl) (aR c_chain hr cZ (aC (dv 1) aJ))) (aG (aS (i := 3) sc_hull.nd rfl (Or.inl rfl) (aR c_chain hr cZ (aC (yC rfl rfl B.list_ rfl B.reversed_ (dv 1)) aJ))) (aO (bE (aH bH b9 bF (aJs (dv 2) aCa (qR (kE aA))) (aJs (dv 3) aCa (qR (kE aA))))))))))
theorem sc__law_height_by : bI ["_law_cell", "_law_kind", "_law_i", "_law_j", "_law_c", "_law_bowl"] ["_law_cell", "_law_kind", "_law_i", "_law_j"] (aQ eI) := ⟨rfl, rfl, rfl, by decide +kernel, rfl, by decide +kernel, by decide +kernel⟩
theorem k7 {c : Cls} (Df : Def K mg "_law_height_by" ["_law_cell", "_law_kind", "_law_i", "_law_j"] eI) (B : Blt mg) (C : j6 mg c) (O : j8 mg base c) (hk : iU K c) (c__law_fraction : Cal P w K mg base 2 "_law_fraction" 2 (aT K c)) : Cal P w K mg base 3 "_law_height_by" 4 (bT K c) := by
 refine kZ (k := 2) Df sc__law_height_by rfl (fun f cdv A outer s H E hr => ⟨dM K c, ?_, k9 K c⟩)
 exact (aG (aS (i := 4) sc__law_height_by.nd rfl (Or.inl rfl) (aH aY bN aB (dv 0) (aH iQ iP aB aA aA))) (aG (gC (dH (gN (u64 hr)) gU dZ (aH aY bN aB (dv 1) aA) aA (cO _)) (aO (bE (eD (aC (aH aY bN aB (dv 4) aA) (aC aA aJ))))) cD) (aG (gC (dH (gN (u64 hr)) gU dZ (aH aY bN aB (dv 1) aA) aA (cO _)) (aO (bE (aR c__law_fraction hr cZ (aC (aH cM cJ aP (aH aY bN aB (dv 4) (aH bH b9 bF (aH aU aX aB aA (aH iQ iP aB aA aA)) aA)) (aH iQ iP aB aA aA)) (aC (aH bH b9 bF aA (aH aY bN aB (aH bY cU aB (dv 4) aA) aA)) aJ))))) cD) (aG (aS (i := 5) sc__law_height_by.nd rfl (Or.inl rfl) (kE (aH bH b9 bF (aH bH b9 bF (aH aU aX aB (dv 2) (dv 2)) (aH aU aX aB (dv 2) (dv 3))) (aH aU aX aB (dv 3) (dv 3))))) (aG (gC (dH (gN (u64 hr)) gU dZ (aH aY bN aB (dv 1) aA) aA (cO _)) (aO (bE (eD (aC (aH bH b9 bF (aH aU aX aB (dv 5) aA) (aH aY bN aB (dv 4) aA)) (aC aA aJ))))) cD) (aO (bE (aR c__law_fraction hr cZ (aC (aH bH b9 bF (aH aU aX aB (dv 5) aA) (aH aY bN aB (dv 4) aA)) (aC (aH bH b9 bF aA (aH aY bN aB (aH bY cU aB (dv 4) aA) aA)) aJ))))))))))
theorem sc__law_spot_by : bI ["_law_roof", "_law_cell", "_law_c", "_law_one", "_law_other", "_law_third", "_law_tied"] ["_law_roof", "_law_cell"] (aQ fJ) := ⟨rfl, rfl, rfl, by decide +kernel, rfl, by decide +kernel, by decide +kernel⟩
theorem mS {c : Cls} (Df : Def K mg "_law_spot_by" ["_law_roof", "_law_cell"] fJ) (B : Blt mg) (C : j6 mg c) (O : j8 mg base c) (hk : iU K c) (c__law_point_by : Cal P w K mg base 3 "_law_point_by" 1 (bB K c)) (c__law_tie_by : Cal P w K mg base 3 "_law_tie_by" 3 (cR K c)) (c__law_crease_by : Cal P w K mg base 4 "_law_crease_by" 3 (cC K c)) : Cal P w K mg base 5 "_law_spot_by" 2 (cX K c) := by
 refine kZ (k := 4) Df sc__law_spot_by rfl (fun f cdv A outer s H E hr => ⟨eC K c, ?_, nC K c⟩)
 exact (aG (aS (i := 2) sc__law_spot_by.nd rfl (Or.inl rfl) (aH aY bN aB (dv 1) (aH iQ iP aB aA aA))) (aG (aS (i := 3) sc__law_spot_by.nd rfl (Or.inl rfl) (aM (dv 0) (aH aY bN aB (aH bY cU aB (dv 2) aA) (bO bU iR gA rfl B.len_ PySem.boot_len (aC (dv 0) aJ))) (fun _ _ => rfl))) (aG (aS (i := 4) sc__law_spot_by.nd rfl (Or.inl rfl) (aM (dv 0) (aH aY bN aB (aH bY cU aB (dv 2) aA) (bO bU iR gA rfl B.len_ PySem.boot_len (aC (dv 0) aJ))) (fun _ _ => rfl))) (aG (aS (i := 5) sc__law_spot_by.nd rfl (Or.inl rfl) (aM (dv 0) (aH aY bN aB (aH bY cU aB (dv 2) aA) (bO bU iR gA rfl B.len_ PySem.boot_len (aC (dv 0) aJ))) (fun _ _ => rfl))) (aG (gC (DW.t (wD (dH (gN (u64 hr)) gU dZ (aH aY bN aB (dv 2) aA) aA (cO _)) (p9 (dH (nN (u64 hr)) gU dZ (dv 3) (dv 4) (cO _))))) (aO (bE (aR c__law_crease_by hr cZ (aC (dv 3) (aC (dv 4) (aC (aH bY cU aB (dv 2) aA) aJ)))))) cD) (aG (gC (dH (gN (u64 hr)) gU dZ (aH aY bN aB (dv 2) aA) aA (cO _)) (aG (aS (i := 6) sc__law_spot_by.nd rfl (Or.inl rfl) (aR c__law_tie_by hr cZ (aC (dv 3) (aC (dv 4) (aC (dv 5) aJ))))) (aO (gC (aHr (dv 6)) (aO (bE (dv 6))) cD))) cD) (aO (bE (aR c__law_point_by hr cZ (aC (aH bY cU aB (dv 2) aA) aJ))))))))))
end
theorem tF {α : Type} {us : List α} (h : us.length = 1) : ∃ a, us = [a] := List.length_eq_one_iff.mp h
theorem kQ {α : Type} {us : List α} (h : us.length = 2) : ∃ a b, us = [a, b] := by
 cases us with
 | nil => cases h
 | cons a r => obtain ⟨b, rfl⟩ := tF (Nat.succ.inj h); exact ⟨a, b, rfl⟩
theorem tY {α : Type} {us : List α} (h : us.length = 3) : ∃ a b c, us = [a, b, c] := by
 cases us with
 | nil => cases h
 | cons a r => obtain ⟨b, c, rfl⟩ := kQ (Nat.succ.inj h); exact ⟨a, b, c, rfl⟩
def aBi (K : PySem.W.Frag) : Bool := K.all fun p => match p.2.cls with
 | .type n => !(n == "list")
 | _ => true
theorem lookup_mem {a : Addr} {o : Obj} : ∀ {l : List (Addr × Obj)}, l.lookup a = some o -> (a, o) ∈ l
 | (k, v) :: r, h => by
  unfold List.lookup at h
  split at h
  ·rename_i z
   have e : a = k := by simpa using z
   cases h
   rw [e]
   exact .head _
  ·exact .tail _ (lookup_mem h)
theorem x9 {K : PySem.W.Frag} (h : aBi K = true) {a : Addr} {o : Obj} (e : K.lookup a = some o) (hc : o.cls = .type "list") : False := by
 have := List.all_eq_true.mp h (a, o) (lookup_mem e)
 dsimp only at this
 rw [hc] at this
 cases this
def aFu : Sp := fun vs H Q _ => ∃ (a : Addr) (ns : List Int), vs = [.ref a] /\ Rd H a (.lst (ns.map V.int)) /\ ns.length <= 63 /\ ∀ H', Q (.bl true) H'
theorem kB {K : PySem.W.Frag} {G : Hp} : ∀ ns : List Int, Reps K G (ns.map V.int) (ns.map PyData.int)
 | [] => .nil
 | i :: r => .cons (.int i) (kB r)
theorem aLf {P : Program} {w : World} {K : PySem.W.Frag} {mg : Str -> Option Value} {base : Heap} {f : Addr} {fd : FuncData} {c : Cls} (hk : iU K c) (F : FnOk P w K mg base (CXr P w) 6 f fd ["_law_script"] (spM K 1 (x8 K c))) : FnOk P w K mg base (CXr P w) 6 f fd ["_law_script"] aFu :=
 F.imp fun vs H Q E h => by
  obtain ⟨a, ns, rfl, rd, hl, hq⟩ := h
  refine ⟨rfl, H, [.p (.list (ns.map .int))], Same.refl _, ⟨.lst rd (kB ns), trivial⟩, ?_⟩
  rw [aLg K c hk ns hl]
  intro G' H' v st r
  cases r
  exact hq H'
theorem aMa {α : Type} {us : List α} (h : us.length = 4) : ∃ a0 a1 a2 a3, us = [a0, a1, a2, a3] := by
 cases us with
 | nil => cases h
 | cons a0 r => obtain ⟨a1, a2, a3, rfl⟩ := tY (Nat.succ.inj h); exact ⟨a0, a1, a2, a3, rfl⟩
structure FnAt (K : PySem.W.Frag) (x : Str) (st : Stmt) (f : Addr) (m : Value) (c : Addr) : Prop where
 a : PySem.W.nsIn K mainGlobals x = some (some (.ref f))
 l : K.lookup f = some ⟨.type "function", none, .func (PySem.W.fnOf x x (jA st) (gS st) (aQ st) .none .none .none m none (.ref c) .none), #[]⟩
 c : PySem.W.codeIn K (.ref c) x = true
 k : PySem.W.keepIn K (.ref f) = true
theorem FnAt.df {K : PySem.W.Frag} {h : Heap} {mg : Str -> Option Value} {x : Str} {st : Stmt} {f c : Addr} {m : Value} {ps : List Str} (A : FnAt K x st f m c) (X : K.In h) (G : h.Ns mainGlobals mg)
  (hb : ∀ (kV doc pm : Value) (an : Option Addr) (cdv ct : Value) (us : List Value), us.length = ps.length -> bindArgs (PySem.W.fnOf x x (jA st) (gS st) (aQ st) .none kV doc pm an cdv ct) ⟨us, []⟩ = pure (ps.zip us)) : Def K mg x ps st :=
 have F := aGd (st := st) A.l A.c A.k
 ⟨_, _, F, F.binds hb, A.k, PySem.W.mg_of X G A.a⟩
theorem all_mk {l : PySem.W.OpenLaw} {w : World} {K : PySem.W.Frag} {h : Heap} {mg : Str -> Option Value} {fa : Addr} {f1 c1 f2 c2 f3 c3 f4 c4 f5 c5 f6 c6 f7 c7 f8 c8 f9 c9 f10 c10 f11 c11 f12 c12 f13 c13 f14 c14 f15 c15 f16 c16 f17 c17 f18 c18 f19 c19 f20 c20 f21 c21 f22 c22 f23 c23 f24 c24 f25 c25 f26 c26 f27 c27 f28 c28 f29 c29  : Addr} (X : K.In h) (G : h.Ns mainGlobals mg) (hfa : mg "law" = some (.ref fa))
  {m1 m2 m3 m4 m5 m6 m7 m8 m9 m10 m11 m12 m13 m14 m15 m16 m17 m18 m19 m20 m21 m22 m23 m24 m25 m26 m27 m28 m29 : Value}
  (h1 : FnAt K "greatest_divisor" dO f1 m1 c1)
  (h2 : FnAt K "common_bottom" eP f2 m2 c2)
  (h3 : FnAt K "whole" qL f3 m3 c3)
  (h4 : FnAt K "turn" wL f4 m4 c4)
  (h5 : FnAt K "chain" qS f5 m5 c5)
  (h6 : FnAt K "hull" vN f6 m6 c6)
  (h7 : FnAt K "slope_of" jF f7 m7 c7)
  (h8 : FnAt K "heights_over" fQ f8 m8 c8)
  (h9 : FnAt K "tops" vX f9 m9 c9)
  (h10 : FnAt K "field" qX f10 m10 c10)
  (h11 : FnAt K "_law_cell_at" fL f11 m11 c11)
  (h12 : FnAt K "_law_stir" iG f12 m12 c12)
  (h13 : FnAt K "_law_whole" gX f13 m13 c13)
  (h14 : FnAt K "_law_divisor" fM f14 m14 c14)
  (h15 : FnAt K "_law_fraction" eR f15 m15 c15)
  (h16 : FnAt K "_law_turn" iI f16 m16 c16)
  (h17 : FnAt K "_law_farther" fP f17 m17 c17)
  (h18 : FnAt K "_law_hull_by" fU f18 m18 c18)
  (h19 : FnAt K "_law_pairs_like" dW f19 m19 c19)
  (h20 : FnAt K "_law_height_by" eI f20 m20 c20)
  (h21 : FnAt K "_law_slope_by" eN f21 m21 c21)
  (h22 : FnAt K "_law_roof_by" fN f22 m22 c22)
  (h23 : FnAt K "_law_high_by" fT f23 m23 c23)
  (h24 : FnAt K "_law_tops_by" fK f24 m24 c24)
  (h25 : FnAt K "_law_tie_by" gB f25 m25 c25)
  (h26 : FnAt K "_law_point_by" eQ f26 m26 c26)
  (h27 : FnAt K "_law_crease_by" eG f27 m27 c27)
  (h28 : FnAt K "_law_spot_by" fJ f28 m28 c28)
  (h29 : FnAt K "law" tD f29 m29 c29)
  (z0 : PySem.W.nsIn K mainGlobals "abs" = some none)
  (z1 : PySem.W.nsIn K mainGlobals "bool" = some none)
  (z2 : PySem.W.nsIn K mainGlobals "int" = some none)
  (z3 : PySem.W.nsIn K mainGlobals "isinstance" = some none)
  (z4 : PySem.W.nsIn K mainGlobals "len" = some none)
  (z5 : PySem.W.nsIn K mainGlobals "list" = some none)
  (z6 : PySem.W.nsIn K mainGlobals "max" = some none)
  (z7 : PySem.W.nsIn K mainGlobals "range" = some none)
  (z8 : PySem.W.nsIn K mainGlobals "reversed" = some none)
  (z9 : PySem.W.nsIn K mainGlobals "set" = some none)
  (z10 : PySem.W.nsIn K mainGlobals "sorted" = some none)
  (z11 : PySem.W.nsIn K mainGlobals "tuple" = some none)
  (z12 : PySem.W.nsIn K mainGlobals "zip" = some none)
  (xii : PySem.W.kitOne K (.type "int") (.type "int") = some true)
  (xib : PySem.W.kitOne K (.type "int") (.type "bool") = some false)
  (xtt : PySem.W.kitOne K (.type "tuple") (.type "tuple") = some true)
  (xll : PySem.W.kitOne K (.type "list") (.type "list") = some true)
  : ∃ fd : FuncData, (∀ (s : Shared) (v : Value), BindsTo s fd ⟨[v], []⟩ [("_law_script", v)]) /\ ∀ base : Heap, K.In base -> base.Ns mainGlobals mg -> FnOk l.prog w K mg base (CXr l.prog w) 6 fa fd ["_law_script"] aFu := by
 have e := hfa.symm.trans (PySem.W.mg_of X G h29.a)
 cases e
 have D1 := h1.df (ps := ["a", "b"]) X G (fun _ _ _ _ _ _ us hl => by obtain ⟨_, _, rfl⟩ := kQ hl; rfl)
 have D2 := h2.df (ps := ["numbers"]) X G (fun _ _ _ _ _ _ us hl => by obtain ⟨_, rfl⟩ := tF hl; rfl)
 have D3 := h3.df (ps := ["number", "factor"]) X G (fun _ _ _ _ _ _ us hl => by obtain ⟨_, _, rfl⟩ := kQ hl; rfl)
 have D4 := h4.df (ps := ["start", "middle", "end"]) X G (fun _ _ _ _ _ _ us hl => by obtain ⟨_, _, _, rfl⟩ := tY hl; rfl)
 have D5 := h5.df (ps := ["points"]) X G (fun _ _ _ _ _ _ us hl => by obtain ⟨_, rfl⟩ := tF hl; rfl)
 have D6 := h6.df (ps := ["slopes"]) X G (fun _ _ _ _ _ _ us hl => by obtain ⟨_, rfl⟩ := tF hl; rfl)
 have D7 := h7.df (ps := ["plane"]) X G (fun _ _ _ _ _ _ us hl => by obtain ⟨_, rfl⟩ := tF hl; rfl)
 have D8 := h8.df (ps := ["roof", "point"]) X G (fun _ _ _ _ _ _ us hl => by obtain ⟨_, _, rfl⟩ := kQ hl; rfl)
 have D9 := h9.df (ps := ["roof", "point"]) X G (fun _ _ _ _ _ _ us hl => by obtain ⟨_, _, rfl⟩ := kQ hl; rfl)
 have D10 := h10.df (ps := ["roof", "point"]) X G (fun _ _ _ _ _ _ us hl => by obtain ⟨_, _, rfl⟩ := kQ hl; rfl)
 have D11 := h11.df (ps := ["_law_script", "_law_k"]) X G (fun _ _ _ _ _ _ us hl => by obtain ⟨_, _, rfl⟩ := kQ hl; rfl)
 have D12 := h12.df (ps := ["_law_cell", "_law_k"]) X G (fun _ _ _ _ _ _ us hl => by obtain ⟨_, _, rfl⟩ := kQ hl; rfl)
 have D13 := h13.df (ps := ["_law_found"]) X G (fun _ _ _ _ _ _ us hl => by obtain ⟨_, rfl⟩ := tF hl; rfl)
 have D14 := h14.df (ps := ["_law_a", "_law_b"]) X G (fun _ _ _ _ _ _ us hl => by obtain ⟨_, _, rfl⟩ := kQ hl; rfl)
 have D15 := h15.df (ps := ["_law_top", "_law_bottom"]) X G (fun _ _ _ _ _ _ us hl => by obtain ⟨_, _, rfl⟩ := kQ hl; rfl)
 have D16 := h16.df (ps := ["_law_one", "_law_far", "_law_place"]) X G (fun _ _ _ _ _ _ us hl => by obtain ⟨_, _, _, rfl⟩ := tY hl; rfl)
 have D17 := h17.df (ps := ["_law_one", "_law_far", "_law_place"]) X G (fun _ _ _ _ _ _ us hl => by obtain ⟨_, _, _, rfl⟩ := tY hl; rfl)
 have D18 := h18.df (ps := ["_law_places"]) X G (fun _ _ _ _ _ _ us hl => by obtain ⟨_, rfl⟩ := tF hl; rfl)
 have D19 := h19.df (ps := ["_law_found", "_law_due"]) X G (fun _ _ _ _ _ _ us hl => by obtain ⟨_, _, rfl⟩ := kQ hl; rfl)
 have D20 := h20.df (ps := ["_law_cell", "_law_kind", "_law_i", "_law_j"]) X G (fun _ _ _ _ _ _ us hl => by obtain ⟨_, _, _, _, rfl⟩ := aMa hl; rfl)
 have D21 := h21.df (ps := ["_law_cell", "_law_kind", "_law_most"]) X G (fun _ _ _ _ _ _ us hl => by obtain ⟨_, _, _, rfl⟩ := tY hl; rfl)
 have D22 := h22.df (ps := ["_law_cells", "_law_kind", "_law_most", "_law_count"]) X G (fun _ _ _ _ _ _ us hl => by obtain ⟨_, _, _, _, rfl⟩ := aMa hl; rfl)
 have D23 := h23.df (ps := ["_law_plane", "_law_point"]) X G (fun _ _ _ _ _ _ us hl => by obtain ⟨_, _, rfl⟩ := kQ hl; rfl)
 have D24 := h24.df (ps := ["_law_roof", "_law_point"]) X G (fun _ _ _ _ _ _ us hl => by obtain ⟨_, _, rfl⟩ := kQ hl; rfl)
 have D25 := h25.df (ps := ["_law_one", "_law_other", "_law_third"]) X G (fun _ _ _ _ _ _ us hl => by obtain ⟨_, _, _, rfl⟩ := tY hl; rfl)
 have D26 := h26.df (ps := ["_law_cell"]) X G (fun _ _ _ _ _ _ us hl => by obtain ⟨_, rfl⟩ := tF hl; rfl)
 have D27 := h27.df (ps := ["_law_one", "_law_other", "_law_cell"]) X G (fun _ _ _ _ _ _ us hl => by obtain ⟨_, _, _, rfl⟩ := tY hl; rfl)
 have D28 := h28.df (ps := ["_law_roof", "_law_cell"]) X G (fun _ _ _ _ _ _ us hl => by obtain ⟨_, _, rfl⟩ := kQ hl; rfl)
 have B : Blt mg := ⟨PySem.W.mg_none_of X G z0, PySem.W.mg_none_of X G z1, PySem.W.mg_none_of X G z2, PySem.W.mg_none_of X G z3, PySem.W.mg_none_of X G z4, PySem.W.mg_none_of X G z5, PySem.W.mg_none_of X G z6, PySem.W.mg_none_of X G z7, PySem.W.mg_none_of X G z8, PySem.W.mg_none_of X G z9, PySem.W.mg_none_of X G z10, PySem.W.mg_none_of X G z11, PySem.W.mg_none_of X G z12⟩
 let c : Cls := ⟨⟩
 have C : j6 mg c := ⟨⟩
 have hk : iU K c := ⟨xii, xib, xtt, xll⟩
 refine ⟨PySem.W.fnOf "law" "law" (jA tD) (gS tD) (aQ tD) .none .none .none m29 none (.ref c29) .none, fun s v => .of_eq rfl, fun base kb nb => ?_⟩
 have O : j8 mg base c := ⟨⟩
 have G1 : Cal l.prog w K mg base 1 "greatest_divisor" 2 (bR K c) := jY D1 B C O hk
 have G3 : Cal l.prog w K mg base 1 "whole" 2 (gO K c) := aDa D3 B C O hk
 have G4 : Cal l.prog w K mg base 1 "turn" 3 (lV K c) := aJd D4 B C O hk
 have G7 : Cal l.prog w K mg base 1 "slope_of" 1 (eX K c) := tX D7 B C O hk
 have G11 : Cal l.prog w K mg base 1 "_law_cell_at" 2 (bC K c) := mY D11 B C O hk
 have G12 : Cal l.prog w K mg base 1 "_law_stir" 2 (bX K c) := sQ D12 B C O hk
 have G13 : Cal l.prog w K mg base 1 "_law_whole" 1 (cF K c) := pP D13 B C O hk
 have G14 : Cal l.prog w K mg base 1 "_law_divisor" 2 (cV K c) := nH D14 B C O hk
 have G16 : Cal l.prog w K mg base 1 "_law_turn" 3 (dS K c) := tJ D16 B C O hk
 have G21 : Cal l.prog w K mg base 1 "_law_slope_by" 3 (cN K c) := mI D21 B C O hk
 have G23 : Cal l.prog w K mg base 1 "_law_high_by" 2 (cG K c) := nJ D23 B C O hk
 have G2 : Cal l.prog w K mg base 2 "common_bottom" 1 (b6 K c) := mF D2 B C O hk G1
 have G5 : Cal l.prog w K mg base 2 "chain" 1 (hZ K c) := aDi D5 B C O hk G4
 have G15 : Cal l.prog w K mg base 2 "_law_fraction" 2 (aT K c) := l7 D15 B C O hk G14
 have G17 : Cal l.prog w K mg base 2 "_law_farther" 3 (bK K c) := nR D17 B C O hk G16
 have G19 : Cal l.prog w K mg base 2 "_law_pairs_like" 2 (bW K c) := kT D19 B C O hk G13
 have G24 : Cal l.prog w K mg base 2 "_law_tops_by" 2 (cK K c) := oB D24 B C O hk G23
 have G6 : Cal l.prog w K mg base 3 "hull" 1 (nQ K c) := aHv D6 B C O hk G5
 have G8 : Cal l.prog w K mg base 3 "heights_over" 2 (cI K c) := mX D8 B C O hk G3 G2
 have G18 : Cal l.prog w K mg base 3 "_law_hull_by" 1 (cW K c) := oC D18 B C O hk G17
 have G20 : Cal l.prog w K mg base 3 "_law_height_by" 4 (bT K c) := k7 D20 B C O hk G15
 have G25 : Cal l.prog w K mg base 3 "_law_tie_by" 3 (cR K c) := oS D25 B C O hk G15
 have G26 : Cal l.prog w K mg base 3 "_law_point_by" 1 (bB K c) := mE D26 B C O hk G15
 have G9 : Cal l.prog w K mg base 4 "tops" 2 (oD K c) := aHe D9 B C O hk G7 G8
 have G22 : Cal l.prog w K mg base 4 "_law_roof_by" 4 (cH K c) := oG D22 B C O hk G20 G12 G21 G11
 have G27 : Cal l.prog w K mg base 4 "_law_crease_by" 3 (cC K c) := lE D27 B C O hk G15 G26
 have G10 : Cal l.prog w K mg base 5 "field" 2 (jQ K c) := aDn D10 B C O hk G6 G9
 have G28 : Cal l.prog w K mg base 5 "_law_spot_by" 2 (cX K c) := mS D28 B C O hk G26 G25 G27
 exact aLf hk (aKu (aGd (st := tD) h29.l h29.c h29.k) B C O hk G19 G10 G18 G24 G28 G12 G11 G22)
theorem walk {l : PySem.W.OpenLaw} {q : Program} {loose : List Str} {XP : (Str -> Option Value) -> Heap -> Prop} {YP : World -> Heap -> Prop} {d : DefRec} {K : Params -> PySem.W.Frag} (hn : l.most = some 63) (hdf : d.params.defaults = [])
  (hY : ∀ (w : World) (h : Heap), YP w h -> (K w.params).In h) (hK : ∀ w : World, aBi (K w.params) = true)
  (F : ∀ (w : World) (mg : Str -> Option Value) (fa : Addr) (h : Heap), (K w.params).In h -> h.Ns mainGlobals mg -> mg d.name = some (.ref fa) ->
   ∃ fd : FuncData, (∀ (s : Shared) (u : Value), BindsTo s fd ⟨[u], []⟩ [("_law_script", u)]) /\ ∀ base : Heap, (K w.params).In base -> base.Ns mainGlobals mg -> FnOk l.prog w (K w.params) mg base (CXr l.prog w) 6 fa fd ["_law_script"] aFu) :
  PySem.W.WalkO q loose XP YP l.row.toRowW d [] (fun f vs => PySem.call f vs) :=
 L2.aJn (n := 63) (k := 6) (x := "_law_script") (CX := fun w => CXr l.prog w) (sp := fun _ => aFu) hn (by decide) hdf ⟨rfl, by decide, by decide⟩ hY F (fun w _ a ns hl _ hS => ⟨a, ns, rfl, hS.elim id (fun ⟨_, _, _, e, hc, _⟩ => (x9 (hK w) e hc).elim), hl, fun _ => rfl⟩) fun _ _ _ _ _ ⟨_, _, _, _, _, _, _, z⟩ => z
end My
namespace Hd
open PySem PySem.W PyProof.Rows L2 My
abbrev pr : Program := PySem.Challenge.pw_creasecurve_k27_fields_at_points
noncomputable def vs (s : String) (t : Nat) : Value := .str (Str.ofString s) t
noncomputable def en (P : Params) (s : String) (t : Nat) (v : Value) : DictEntry := ⟨PyData.keyHash P (Str.ofString s), .str (Str.ofString s) t, v⟩
noncomputable def fd (n q : String) (a : Arguments) (b : FuncBody) (s : Scope) (g : Nat) (c : List (Str × Nat)) (d k dc m : Value) (an : Option Nat) (co ct : Value) (bl : Nat) : FuncData := ⟨Str.ofString n, Str.ofString q, a, b, s, g, c, d, k, dc, m, an, co, ct, bl⟩
noncomputable def pE (e : DictEntry) : Obj -> Obj
 | ⟨c, d, .dict es n, s⟩ => ⟨c, d, .dict (es.push e) (n + 1), s⟩
 | o => o
noncomputable def rE (i : Nat) (v : Value) : Obj -> Obj
 | ⟨c, d, .dict es n, s⟩ => ⟨c, d, .dict (es.modify i fun e => ⟨e.hash, e.key, v⟩) n, s⟩
 | o => o
noncomputable def pF (vs : List Value) : Obj -> Obj
 | ⟨c, d, .fields xs, s⟩ => ⟨c, d, .fields (xs ++ vs.toArray), s⟩
 | o => o
noncomputable def tu (xs : List Value) : Obj := ⟨.type "tuple", none, .seq xs.toArray 0, #[]⟩
noncomputable def fl (xs : List Value) : Obj := ⟨.none, none, .fields xs.toArray, #[]⟩
noncomputable def fo (i : Nat) (nm : String) (g : Nat) (m co c : Value) : Obj := ⟨c, none, .func (fd nm nm (jA (top i)) (.stmts (gS (top i))) (aQ (top i)) g [] .none .none .none m none co .none 0), #[]⟩
noncomputable def co (nm : String) (t u l k a c : Nat) (v x : Value) (f : Nat) : Obj := ⟨.type "code", none, .fields #[vs nm t, vs nm (t + 1), vs "/claim/cut.py" (t + 2), .int l 0, .int k 0, .int 0 0, .int 0 0, .int 3 0, .ref a, .bool true, .int 181 0, .ref c, .none, v, x, .ref f, .int u 0, .int l 0, vs "/claim/cut.py" (u + 1)], #[]⟩
noncomputable def vL (t : Nat) : List String -> List Value
 | [] => []
 | s :: r => vs s t :: vL (t + 1) r
noncomputable def d7 (P : Params) (i : Nat) (nm : String) (m : Value) (l k : Nat) (vn : List String) (n t u : Nat) (T : BT) : BT := ((((((((T.set 3 (pE (en P nm (u + 2) (.ref (n + 6))))).set 12 (pF [.int l 0, .int 0 0, .ref (n + 5)])).ins n (tu [])).ins (n + 1) (fl [])).ins (n + 2) (tu (vL (t + 3) vn))).ins (n + 3) (tu [])).ins (n + 4) (fo i nm 0 .none .none .none)).ins (n + 5) (co nm t u l k n (n + 1) (.ref (n + 2)) (.ref (n + 3)) (n + 4))).ins (n + 6) (fo i nm 3 m (.ref (n + 5)) (.type "function"))
noncomputable def d5 (P : Params) (i : Nat) (nm : String) (m : Value) (l k n t u : Nat) (T : BT) : BT := ((((((T.set 3 (pE (en P nm (u + 2) (.ref (n + 4))))).set 12 (pF [.int l 0, .int 0 0, .ref (n + 3)])).ins n (tu [])).ins (n + 1) (fl [])).ins (n + 2) (fo i nm 0 .none .none .none)).ins (n + 3) (co nm t u l k n (n + 1) .none .none (n + 2))).ins (n + 4) (fo i nm 3 m (.ref (n + 3)) (.type "function"))
noncomputable def aKh : Env := { scope := pr.main.scope, locals := mainNs, globals := mainNs, cells := [], code := (.ref 13), frame := some 14 }
noncomputable def cE : Code := .body (behindTheImports pr) aKh
noncomputable def ol (P : Params) : List Obj := [boot_o_0 P, boot_o_1 P, boot_o_2 P, boot_o_3 P, boot_o_4 P, boot_o_5 P, boot_o_6 P, boot_o_7 P, boot_o_8 P, boot_o_9 P, boot_o_10 P, (⟨(.type "tuple"), none, (.seq #[] 0), #[]⟩ : Obj), (⟨.none, none, (.fields #[]), #[]⟩ : Obj), (⟨(.type "code"), none, (.fields #[(vs "<module>" 182), (vs "<module>" 183), (vs "/claim/cut.py" 184), (.int 1 0), (.int 0 0), (.int 0 0), (.int 0 0), (.int 0 0), (.ref 11), (.bool false), (.int 181 0), (.ref 12), .none, .none, .none, .none, (.int 185 0), (.int 1 0), (vs "/claim/cut.py" 186)]), #[]⟩ : Obj), (⟨(.type "frame"), none, .plain, #[(some (.ref 13)), (some (.ref 3)), (some (.ref 3)), none, (some (vs "__main__" 164)), none, (some (.ref 0))]⟩ : Obj)]
noncomputable def bt : Nat -> List Obj -> BT -> BT
 | _, [], T => T
 | i, o :: r, T => bt (i + 1) r (T.ins i o)
noncomputable def t0 (P : Params) : BT := bt 0 (ol P) .nil
noncomputable abbrev sT (t : Params -> BT) (n k : Nat) (w : World) (os : OsState) : SharedT := ⟨t w.params, n, {}, ⟨[]⟩, boot_drawn, k, os⟩
abbrev B : List Frame := [topFrame ⟨0, 0, 0, 0⟩]
theorem aJ3 (w : World) : (fun os => topGo treeTable pr w 11 (some (.ref 6)) 12 ⟨boot_heap w.params, ⟨[]⟩, boot_drawn, boot_toks, os⟩ (topStub pr)) = (fun os => some ((⟨⟨⟨ol w.params⟩, {}⟩, ⟨[]⟩, boot_drawn, 187, os⟩ : Shared), ⟨denote treeTable cE, cE, ⟨0, 0, 0, 0⟩, B⟩)) := by
 rw [PySem.W.Fast.te15667345088766844465, PySem.W.Fast.te14364793385576792824, PySem.W.Fast.te11892475500146522536]
 kernel_rfl
theorem aM4 (w : World) : (fun os => segRun treeTable pr w 11 (some (.ref 6)) 1 1 ⟨⟨⟨ol w.params⟩, {}⟩, ⟨[]⟩, boot_drawn, 187, os⟩ (blockOf (behindTheImports pr) aKh cE ⟨0, 0, 0, 0⟩ B)) = (fun os => some (.next, (sT t0 15 187 w os).abs, cE, ⟨0, 0, 0, 0⟩)) := by
 rw [PySem.W.Fast.te14374325043358763698, PySem.W.Fast.te14364793385576792824]
 kernel_rfl
noncomputable def t1 (P : Params) : BT :=
 (t0 P) |>
 (fun T => T.set 3 (rE 0 (vs "creasecurve.fractions" 187))) |>
 (d7 P 1 "greatest_divisor" (vs "creasecurve.fractions" 187) 2 2 ["a", "b", "larger", "smaller", "rest"] 15 189 197) |>
 (d7 P 2 "common_bottom" (vs "creasecurve.fractions" 187) 10 1 ["numbers", "common", "number"] 22 200 206) |>
 (d7 P 3 "whole" (vs "creasecurve.fractions" 187) 15 2 ["number", "factor"] 29 209 214) |>
 (fun T => T.set 3 (rE 0 (vs "creasecurve.hulls" 217))) |>
 (d7 P 5 "turn" (vs "creasecurve.hulls" 217) 18 3 ["start", "middle", "end", "along", "across"] 36 219 227) |>
 (d7 P 6 "chain" (vs "creasecurve.hulls" 217) 22 1 ["points", "kept", "point"] 43 230 236) |>
 (d7 P 7 "hull" (vs "creasecurve.hulls" 217) 29 1 ["slopes", "rows", "there", "back"] 50 239 246) |>
 (fun T => T.set 3 (rE 0 (vs "creasecurve.roofs" 249))) |>
 (d7 P 9 "slope_of" (vs "creasecurve.roofs" 249) 37 1 ["plane"] 57 251 255) |>
 (fun T => T.set 3 (rE 0 (vs "creasecurve.tops" 258))) |>
 (d5 P 11 "heights_over" (vs "creasecurve.tops" 258) 40 2 64 260 263) |>
 (d5 P 12 "tops" (vs "creasecurve.tops" 258) 45 2 69 266 269) |>
 (fun T => T.set 3 (rE 0 (vs "creasecurve.fields" 272))) |>
 (d7 P 14 "field" (vs "creasecurve.fields" 272) 50 2 ["roof", "point"] 74 274 279) |>
 (fun T => T.set 3 (rE 0 (vs "law_creasecurve_k27_fields_at_points" 282))) |>
 (d7 P 16 "_law_cell_at" (vs "law_creasecurve_k27_fields_at_points" 282) 53 2 ["_law_script", "_law_k"] 81 284 289)
noncomputable def g0 : List Stmt := [top 0, top 1, top 2, top 3, top 4, top 5, top 6, top 7, top 8, top 9, top 10, top 11, top 12, top 13, top 14, top 15, top 16]
theorem hg0 (w : World) : (fun os => segRunT treeTable pr w 11 (some (.ref 6)) 1 386 (sT t0 15 187 w os) (piecesOf g0 aKh cE ⟨0, 0, 0, 0⟩ B)) = (fun os => some (.next, sT t1 88 292 w os, cE, ⟨53, 0, 56, 12⟩)) := by
 rw [PySem.W.Fast.te10110043849684766642, PySem.W.Fast.te14364793385576792824]
 kernel_rfl
noncomputable def t2 (P : Params) : BT :=
 (t1 P) |>
 (d7 P 17 "_law_stir" (vs "law_creasecurve_k27_fields_at_points" 282) 57 2 ["_law_cell", "_law_k", "_law_c", "_law_low"] 88 292 299) |>
 (d7 P 18 "_law_whole" (vs "law_creasecurve_k27_fields_at_points" 282) 61 1 ["_law_found"] 95 302 306) |>
 (d7 P 19 "_law_divisor" (vs "law_creasecurve_k27_fields_at_points" 282) 63 2 ["_law_a", "_law_b", "_law_rest"] 102 309 315) |>
 (d7 P 20 "_law_fraction" (vs "law_creasecurve_k27_fields_at_points" 282) 71 2 ["_law_top", "_law_bottom", "_law_shared"] 109 318 324) |>
 (d7 P 21 "_law_turn" (vs "law_creasecurve_k27_fields_at_points" 282) 77 3 ["_law_one", "_law_far", "_law_place", "_law_here"] 116 327 334) |>
 (d7 P 22 "_law_farther" (vs "law_creasecurve_k27_fields_at_points" 282) 80 3 ["_law_one", "_law_far", "_law_place", "_law_turned", "_law_here"] 123 337 345) |>
 (d7 P 23 "_law_hull_by" (vs "law_creasecurve_k27_fields_at_points" 282) 86 1 ["_law_places", "_law_some", "_law_ring", "_law_step", "_law_far", "_law_place"] 130 348 357) |>
 (d7 P 24 "_law_pairs_like" (vs "law_creasecurve_k27_fields_at_points" 282) 98 2 ["_law_found", "_law_due", "_law_place"] 137 360 366) |>
 (d7 P 25 "_law_height_by" (vs "law_creasecurve_k27_fields_at_points" 282) 107 4 ["_law_cell", "_law_kind", "_law_i", "_law_j", "_law_c", "_law_bowl"] 144 369 378) |>
 (d7 P 26 "_law_slope_by" (vs "law_creasecurve_k27_fields_at_points" 282) 117 3 ["_law_cell", "_law_kind", "_law_most", "_law_c"] 151 381 388) |>
 (d5 P 27 "_law_roof_by" (vs "law_creasecurve_k27_fields_at_points" 282) 124 4 158 391 394) |>
 (d7 P 28 "_law_high_by" (vs "law_creasecurve_k27_fields_at_points" 282) 132 2 ["_law_plane", "_law_point", "_law_x", "_law_y", "_law_there", "_law_low"] 163 397 406)
noncomputable def g1 : List Stmt := [top 17, top 18, top 19, top 20, top 21, top 22, top 23, top 24, top 25, top 26, top 27, top 28]
theorem hg1 (w : World) : (fun os => segRunT treeTable pr w 11 (some (.ref 6)) 1 380 (sT t1 88 292 w os) (piecesOf g1 aKh cE ⟨53, 0, 56, 12⟩ B)) = (fun os => some (.next, sT t2 170 409 w os, cE, ⟨132, 0, 137, 101⟩)) := by
 rw [PySem.W.Fast.te10110043849684766642, PySem.W.Fast.te14364793385576792824]
 kernel_rfl
noncomputable def t3 (P : Params) : BT :=
 (t2 P) |>
 (d5 P 29 "_law_tops_by" (vs "law_creasecurve_k27_fields_at_points" 282) 138 2 170 409 412) |>
 (d7 P 30 "_law_tie_by" (vs "law_creasecurve_k27_fields_at_points" 282) 149 3 ["_law_one", "_law_other", "_law_third", "_law_a", "_law_b", "_law_c", "_law_d", "_law_below", "_law_e", "_law_f", "_law_bottom", "_law_x"] 175 415 430) |>
 (d7 P 31 "_law_point_by" (vs "law_creasecurve_k27_fields_at_points" 282) 162 1 ["_law_cell", "_law_c", "_law_x"] 182 433 439) |>
 (d7 P 32 "_law_crease_by" (vs "law_creasecurve_k27_fields_at_points" 282) 168 3 ["_law_one", "_law_other", "_law_cell", "_law_a", "_law_b", "_law_c", "_law_free", "_law_top"] 189 442 453) |>
 (d7 P 33 "_law_spot_by" (vs "law_creasecurve_k27_fields_at_points" 282) 177 2 ["_law_roof", "_law_cell", "_law_c", "_law_one", "_law_other", "_law_third", "_law_tied"] 196 456 466) |>
 (d7 P 34 "law" (vs "law_creasecurve_k27_fields_at_points" 282) 189 1 ["_law_script", "_law_kind", "_law_roof", "_law_handed", "_law_k", "_law_point", "_law_due", "_law_step", "_law_found"] 203 469 481)
noncomputable def g2 : List Stmt := [top 29, top 30, top 31, top 32, top 33, top 34]
theorem hg2 (w : World) : (fun os => segRunT treeTable pr w 11 (some (.ref 6)) 1 206 (sT t2 170 409 w os) (piecesOf g2 aKh cE ⟨132, 0, 137, 101⟩ B)) = (fun os => some (.next, sT t3 210 484 w os, cE, ⟨189, 0, 201, 35⟩)) := by
 rw [PySem.W.Fast.te10110043849684766642, PySem.W.Fast.te14364793385576792824]
 kernel_rfl
noncomputable def hF (P : Params) : Heap := absHeap (t3 P) 210 {}
theorem aNr (w : World) : (fun os => topRun treeTable pr w 11 (some (.ref 6)) 2 (sT t3 210 484 w os).abs ⟨doneF .next, cE, ⟨189, 0, 201, 35⟩, B⟩) = (fun os => some ((⟨hF w.params, ⟨[]⟩, boot_drawn, 484, os⟩ : Shared))) := by
 rw [PySem.W.Fast.te14082659384304107361, PySem.W.Fast.te14364793385576792824]
 kernel_rfl
theorem hb : behindTheImports pr = g0 ++ (g1 ++ (g2 ++ [])) := by kernel_rfl
theorem aPu (w : World) (os : OsState) : topRun treeTable pr w 11 (some (.ref 6)) (12 + (1 + (386 + (380 + (206 + (2)))))) ⟨boot_heap w.params, ⟨[]⟩, boot_drawn, boot_toks, os⟩ (topStub pr) = some ⟨hF w.params, ⟨[]⟩, boot_drawn, 484, os⟩ := go_top (congrFun (aJ3 w) os) (piece_block (congrFun (aM4 w) os) (by
 rw [hb]
 exact piece_app (segRun_of (congrFun (hg0 w) os)) (piece_app (segRun_of (congrFun (hg1 w) os)) (piece_app (segRun_of (congrFun (hg2 w) os)) (piece_nil (congrFun (aNr w) os))))))
noncomputable def qv : Program := { pr with main := { pr.main with body := [top 1, top 2, top 3, top 5, top 6, top 7, top 9, top 11, top 12, top 14, top 16, top 17, top 18, top 19, top 20, top 21, top 22, top 23, top 24, top 25, top 26, top 27, top 28, top 29, top 30, top 31, top 32, top 33, top 34] } }
noncomputable def ks : List Nat := [3, 20, 21, 27, 28, 34, 35, 41, 42, 48, 49, 55, 56, 62, 63, 67, 68, 72, 73, 79, 80, 86, 87, 93, 94, 100, 101, 107, 108, 114, 115, 121, 122, 128, 129, 135, 136, 142, 143, 149, 150, 156, 157, 161, 162, 168, 169, 173, 174, 180, 181, 187, 188, 194, 195, 201, 202, 208, 209]
noncomputable def K (P : Params) : Frag := ks.map fun a => (a, ((t3 P).get a).getD default)
theorem ksE (P : Params) : ks = (K P).map (·.1) := by kernel_rfl
noncomputable abbrev hk : Hook := kHook K ks ksE
noncomputable abbrev xt : Shared -> Bool := fun s => xlAt qv [] s && recOk [] s
theorem aOs (w : World) : ((boot_heap w.params).isNs mainGlobals && (⟨[]⟩ : Array GenState).size == 0, (boot_heap w.params).objs.size, (boot_heap w.params).nsMap mainGlobals "__annotations__") = (true, 11, (some (.ref 6))) := by kernel_rfl
theorem aOz (w : World) : (fun os : OsState => (staticsOk (importedModules pr.main.body) (boot_heap w.params) (hF w.params) && namesBound pr (hF w.params) && gensDone ⟨hF w.params, ⟨[]⟩, boot_drawn, 484, os⟩ && laidKept (boot_heap w.params) (hF w.params))) = fun _ => true := by
 rw [PySem.W.Fast.te5923862056798008813]
 kernel_rfl
theorem aOa (w : World) : (fun os : OsState => openSeen qv [] (importedModules pr.main.body) xt true ⟨hF w.params, ⟨[]⟩, boot_drawn, 484, os⟩) = fun _ => openGood qv [] := by
 rw [PySem.W.Fast.te4187177175401517315, PySem.W.Fast.te5923862056798008813]
 kernel_rfl
theorem aNj (w : World) : (fun os : OsState => hk.obs ⟨hF w.params, ⟨[]⟩, boot_drawn, 484, os⟩) = fun _ => hk.val w := by kernel_rfl
theorem left : LeftO pr qv [] xt hk.obs hk.val 2064 := LeftO.of_pieces (boot_open (by kernel_rfl) (by decide) (fun _ => by kernel_rfl)) aOs aPu (by decide) fun w => funext fun os => looks_pair (congrFun (aOz w) os) (looks_pair (congrFun (aOa w) os) (congrFun (aNj w) os))
theorem h1 (w : World) : FnAt (K w.params) "greatest_divisor" dO 21 (vs "creasecurve.fractions" 187) 20 := by constructor <;> kernel_rfl
theorem h2 (w : World) : FnAt (K w.params) "common_bottom" eP 28 (vs "creasecurve.fractions" 187) 27 := by constructor <;> kernel_rfl
theorem h3 (w : World) : FnAt (K w.params) "whole" qL 35 (vs "creasecurve.fractions" 187) 34 := by constructor <;> kernel_rfl
theorem h4 (w : World) : FnAt (K w.params) "turn" wL 42 (vs "creasecurve.hulls" 217) 41 := by constructor <;> kernel_rfl
theorem h5 (w : World) : FnAt (K w.params) "chain" qS 49 (vs "creasecurve.hulls" 217) 48 := by constructor <;> kernel_rfl
theorem h6 (w : World) : FnAt (K w.params) "hull" vN 56 (vs "creasecurve.hulls" 217) 55 := by constructor <;> kernel_rfl
theorem h7 (w : World) : FnAt (K w.params) "slope_of" jF 63 (vs "creasecurve.roofs" 249) 62 := by constructor <;> kernel_rfl
theorem h8 (w : World) : FnAt (K w.params) "heights_over" fQ 68 (vs "creasecurve.tops" 258) 67 := by constructor <;> kernel_rfl
theorem h9 (w : World) : FnAt (K w.params) "tops" vX 73 (vs "creasecurve.tops" 258) 72 := by constructor <;> kernel_rfl
theorem h10 (w : World) : FnAt (K w.params) "field" qX 80 (vs "creasecurve.fields" 272) 79 := by constructor <;> kernel_rfl
theorem h11 (w : World) : FnAt (K w.params) "_law_cell_at" fL 87 (vs "law_creasecurve_k27_fields_at_points" 282) 86 := by constructor <;> kernel_rfl
theorem h12 (w : World) : FnAt (K w.params) "_law_stir" iG 94 (vs "law_creasecurve_k27_fields_at_points" 282) 93 := by constructor <;> kernel_rfl
theorem h13 (w : World) : FnAt (K w.params) "_law_whole" gX 101 (vs "law_creasecurve_k27_fields_at_points" 282) 100 := by constructor <;> kernel_rfl
theorem h14 (w : World) : FnAt (K w.params) "_law_divisor" fM 108 (vs "law_creasecurve_k27_fields_at_points" 282) 107 := by constructor <;> kernel_rfl
theorem h15 (w : World) : FnAt (K w.params) "_law_fraction" eR 115 (vs "law_creasecurve_k27_fields_at_points" 282) 114 := by constructor <;> kernel_rfl
theorem h16 (w : World) : FnAt (K w.params) "_law_turn" iI 122 (vs "law_creasecurve_k27_fields_at_points" 282) 121 := by constructor <;> kernel_rfl
theorem h17 (w : World) : FnAt (K w.params) "_law_farther" fP 129 (vs "law_creasecurve_k27_fields_at_points" 282) 128 := by constructor <;> kernel_rfl
theorem h18 (w : World) : FnAt (K w.params) "_law_hull_by" fU 136 (vs "law_creasecurve_k27_fields_at_points" 282) 135 := by constructor <;> kernel_rfl
theorem h19 (w : World) : FnAt (K w.params) "_law_pairs_like" dW 143 (vs "law_creasecurve_k27_fields_at_points" 282) 142 := by constructor <;> kernel_rfl
theorem h20 (w : World) : FnAt (K w.params) "_law_height_by" eI 150 (vs "law_creasecurve_k27_fields_at_points" 282) 149 := by constructor <;> kernel_rfl
theorem h21 (w : World) : FnAt (K w.params) "_law_slope_by" eN 157 (vs "law_creasecurve_k27_fields_at_points" 282) 156 := by constructor <;> kernel_rfl
theorem h22 (w : World) : FnAt (K w.params) "_law_roof_by" fN 162 (vs "law_creasecurve_k27_fields_at_points" 282) 161 := by constructor <;> kernel_rfl
theorem h23 (w : World) : FnAt (K w.params) "_law_high_by" fT 169 (vs "law_creasecurve_k27_fields_at_points" 282) 168 := by constructor <;> kernel_rfl
theorem h24 (w : World) : FnAt (K w.params) "_law_tops_by" fK 174 (vs "law_creasecurve_k27_fields_at_points" 282) 173 := by constructor <;> kernel_rfl
theorem h25 (w : World) : FnAt (K w.params) "_law_tie_by" gB 181 (vs "law_creasecurve_k27_fields_at_points" 282) 180 := by constructor <;> kernel_rfl
theorem h26 (w : World) : FnAt (K w.params) "_law_point_by" eQ 188 (vs "law_creasecurve_k27_fields_at_points" 282) 187 := by constructor <;> kernel_rfl
theorem h27 (w : World) : FnAt (K w.params) "_law_crease_by" eG 195 (vs "law_creasecurve_k27_fields_at_points" 282) 194 := by constructor <;> kernel_rfl
theorem h28 (w : World) : FnAt (K w.params) "_law_spot_by" fJ 202 (vs "law_creasecurve_k27_fields_at_points" 282) 201 := by constructor <;> kernel_rfl
theorem h29 (w : World) : FnAt (K w.params) "law" tD 209 (vs "law_creasecurve_k27_fields_at_points" 282) 208 := by constructor <;> kernel_rfl
end Hd
open PySem PySem.W PyProof.Rows
theorem Hd.said : PySem.Challenge.rw_creasecurve_k27_fields_at_points.wellSaid = true := by kernel_rfl
set_option maxRecDepth 100000 in
set_option maxHeartbeats 0 in
theorem PySem.Challenge.cw_creasecurve_k27_fields_at_points_holds : PySem.Challenge.rw_creasecurve_k27_fields_at_points.Holds := by
 refine holds_law Hd.said fun said => ?_
 refine holds_open (q := Hd.qv) (Xt := Hd.xt) (XP := XL Hd.qv []) (YP := Hd.hk.says) (N := 2064) Hd.left Hd.hk.of Hd.hk.keeps (fun s e => xl_of s (Bool.and_eq_true_iff.mp e).1) XL.keeps (by rfl) (by rfl) (by rfl) (fun s e => recFacts_of (Bool.and_eq_true_iff.mp e).2) (by rfl) said (by decide +kernel) ⟨rfl, rfl, rfl, rfl, rfl, by decide +kernel⟩ ?hw ?hc
 case hw => w_witness2
 refine My.walk (l := PySem.Challenge.rw_creasecurve_k27_fields_at_points) rfl rfl (fun w h Y => PySem.W.kIn_of Y) (fun w => by kernel_rfl) ?F
 case F =>
  intro w mg fa h KX G hmg
  exact My.all_mk KX G hmg (Hd.h1 w) (Hd.h2 w) (Hd.h3 w) (Hd.h4 w) (Hd.h5 w) (Hd.h6 w) (Hd.h7 w) (Hd.h8 w) (Hd.h9 w) (Hd.h10 w) (Hd.h11 w) (Hd.h12 w) (Hd.h13 w) (Hd.h14 w) (Hd.h15 w) (Hd.h16 w) (Hd.h17 w) (Hd.h18 w) (Hd.h19 w) (Hd.h20 w) (Hd.h21 w) (Hd.h22 w) (Hd.h23 w) (Hd.h24 w) (Hd.h25 w) (Hd.h26 w) (Hd.h27 w) (Hd.h28 w) (Hd.h29 w) (by kernel_rfl) (by kernel_rfl) (by kernel_rfl) (by kernel_rfl) (by kernel_rfl) (by kernel_rfl) (by kernel_rfl) (by kernel_rfl) (by kernel_rfl) (by kernel_rfl) (by kernel_rfl) (by kernel_rfl) (by kernel_rfl) (by kernel_rfl) (by kernel_rfl) (by kernel_rfl) (by kernel_rfl)

import PyProof.Rows.All
import Wide.All
import OpenK.AllK
import Wide.FinOn
import Lean
import PyProof.EqAt
import PyProof.EqKinds
import PyProof.TupleCall
import PySem.Challenge.RW_creasecurve_k03_roofs_made
set_option Elab.async false
set_option linter.all false
set_option maxRecDepth 100000
namespace L2
open PySem PySem.Spec PyProof.Rows
abbrev Key := Sum Int Str
def vJ : Key -> Value -> Bool
 | .inl k, v => Value.isInt k v
 | .inr x, v => Value.isStrOf x v
def aHr (w : World) : Key -> Int
 | .inl k => hashInt k
 | .inr x => hashStr w x
theorem dR : ∀ {k : Key} {v : Value}, vJ k v = true -> (∃ i t, k = Sum.inl i /\ v = Value.int i t) \/ (∃ x t, k = Sum.inr x /\ v = Value.str x t)
 | .inl i, v, h => by
  obtain ⟨t, e⟩ := Value.isInt_shape (k := i) (v := v) h
  exact .inl ⟨i, t, rfl, e⟩
 | .inr x, v, h => by
  obtain ⟨t, e⟩ := Value.isStrOf_shape (x := x) (v := v) h
  exact .inr ⟨x, t, rfl, e⟩
theorem xJ (i : Int) (t : Tok) : vJ (.inl i) (.int i t) = true := by simp [vJ, Value.isInt]
theorem x6 (x : Str) (t : Tok) : vJ (.inr x) (.str x t) = true := by simp [vJ, Value.isStrOf]
theorem aE3 (a b : Int) : decide ((Sum.inl a : Key) = Sum.inl b) = (a == b) := by
 by_cases e : a = b
 ·subst e; simp
 ·have h : ¬ (Sum.inl a : Key) = Sum.inl b := fun q => e (Sum.inl.inj q)
  rw [decide_eq_false h]
  exact (beq_eq_false_iff_ne.mpr e).symm
theorem aEa (a b : Str) : decide ((Sum.inr a : Key) = Sum.inr b) = decide (a = b) := by
 by_cases e : a = b
 ·subst e; simp
 ·have h : ¬ (Sum.inr a : Key) = Sum.inr b := fun q => e (Sum.inr.inj q)
  rw [decide_eq_false h, decide_eq_false e]
theorem aEd (a : Int) (b : Str) : decide ((Sum.inl a : Key) = Sum.inr b) = false := decide_eq_false (fun q => nomatch q)
theorem aFl (a : Str) (b : Int) : decide ((Sum.inr a : Key) = Sum.inl b) = false := decide_eq_false (fun q => nomatch q)
def fK (prog : Program) (w : World) : PySem.KeyKind prog w Key where
 is := vJ
 hash := aHr w
 inj := fun v a b ha hb => by
  rcases dR ha with ⟨i, t, rfl, rfl⟩ | ⟨x, t, rfl, rfl⟩
  ·rcases dR hb with ⟨j, u, rfl, e⟩ | ⟨y, u, rfl, e⟩
   ·injection e with e1 _; rw [e1]
   ·exact nomatch e
  ·rcases dR hb with ⟨j, u, rfl, e⟩ | ⟨y, u, rfl, e⟩
   ·exact nomatch e
   ·injection e with e1 _; rw [e1]
 byValue := fun k v h => by
  rcases dR h with ⟨i, t, rfl, rfl⟩ | ⟨x, t, rfl, rfl⟩ <;> rfl
 pyHash := fun hv h => by
  rcases dR hv with ⟨i, t, rfl, rfl⟩ | ⟨x, t, rfl, rfl⟩
  ·exact wpAny_pyHash_int h
  ·exact wpAny_pyHash_str h
 eqBool := fun hu hv h => by
  rcases dR hu with ⟨i, t, rfl, rfl⟩ | ⟨x, t, rfl, rfl⟩
  ·rcases dR hv with ⟨j, u, rfl, rfl⟩ | ⟨y, u, rfl, rfl⟩
   ·rw [aE3] at h; exact wpAny_eqBool_int h
   ·rw [aEd] at h; exact SeqAt.EqAt.int_str i t y u _ _ _ _ h
  ·rcases dR hv with ⟨j, u, rfl, rfl⟩ | ⟨y, u, rfl, rfl⟩
   ·rw [aFl] at h; exact SeqAt.EqAt.str_int x t j u _ _ _ _ h
   ·rw [aEa] at h; exact wpAny_eqBool_str h
 «strs» := fun k x t v h => by
  rcases dR h with ⟨i, u, rfl, e⟩ | ⟨y, u, rfl, e⟩
  ·exact nomatch e
  ·injection e with e1 _
   subst e1
   cases v <;> rfl
theorem sI (prog : Program) (w : World) (i : Int) (t : Tok) : (fK prog w).is (.inl i) (.int i t) = true := xJ i t
theorem rZ (prog : Program) (w : World) (x : Str) (t : Tok) : (fK prog w).is (.inr x) (.str x t) = true := x6 x t
inductive V where
 | non | bl (b : Bool) | int (i : Int) | str (x : Str) | byt (b : Array UInt8) | flt (b : UInt64) | ref (a : Addr) | ty (n : String)
 deriving DecidableEq
def RelV : V -> Value -> Prop
 | .non, u => u = Value.none
 | .bl b, u => u = Value.bool b
 | .int i, u => ∃ t, u = Value.int i t
 | .str x, u => ∃ t, u = Value.str x t
 | .byt b, u => ∃ t, u = Value.bytes b t
 | .flt b, u => ∃ t, u = Value.float b t
 | .ref a, u => u = Value.ref a
 | .ty n, u => u = Value.type n
abbrev Vals : List V -> List Value -> Prop := Paired RelV
theorem Vals.length {xs : List V} {us : List Value} (r : Vals xs us) : xs.length = us.length := Paired.length r
theorem Vals.get : ∀ {xs : List V} {us : List Value} {i : Nat} {x : V}, Vals xs us -> xs[i]? = some x -> ∃ u, us[i]? = some u /\ RelV x u
 | _, _, _, _, .nil, e => by simp at e
 | _, _, 0, _, .cons r _, e => by simp at e; subst e; exact ⟨_, rfl, r⟩
 | _, _, i + 1, x, .cons _ t, e => by
  obtain ⟨u, h1, h2⟩ := Vals.get (i := i) (x := x) t (by simpa using e)
  exact ⟨u, by simpa using h1, h2⟩
theorem Vals.set {x : V} {u : Value} (r : RelV x u) : ∀ {xs : List V} {us : List Value} (i : Nat), Vals xs us -> Vals (xs.set i x) (us.set i u)
 | _, _, _, .nil => .nil
 | _, _, 0, .cons _ t => .cons r t
 | _, _, i + 1, .cons q t => .cons q (Vals.set r i t)
theorem Vals.append : ∀ {xs ys : List V} {us ws : List Value}, Vals xs us -> Vals ys ws -> Vals (xs ++ ys) (us ++ ws)
 | _, _, _, _, .nil, s => s
 | _, _, _, _, .cons r t, s => .cons r (Vals.append t s)
def RelO : Option V -> Option Value -> Prop
 | some v, some u => RelV v u
 | none, none => True
 | _, _ => False
def KV {κ : Type} : List (κ × V) -> List (κ × Value) -> Prop := Paired fun (p : κ × V) (q : κ × Value) => p.1 = q.1 /\ RelV p.2 q.2
def kV : Key -> V
 | .inl i => .int i
 | .inr x => .str x
inductive HO where
 /-- a list -/
 | lst (xs : List V)
 /-- a tuple (never changes) -/
 | tup (xs : List V)
 /-- a dict whose keys are ints and texts; one whose keys are tuples of ints and texts (the empty one is both) -/
 | dK (kvs : List (Key × V)) | dT (kvs : List (List Key × V))
 /-- a set of ints: its members, its size -/
 | set (S : Int -> Bool) (n : Nat)
 /-- an instance of the class at C, its dict at dx, its attributes -/
 | ins (C dx : Addr) (fs : List (Str × V))
 /-- the dict of the instance at x -/
 | own (x : Addr)
 /-- the dict of an exception -/
 | xd (fs : List (Str × V))
 /-- a bound method, f of x -/
 | met (f x : Addr)
 /-- a range object lo, lo + 1, .. below hi -/
 | rng (lo hi : Int)
 /-- a thing that is known to the object (the script; a dict while a loop walks it): read, never written while it is so -/
 | frz (o : Obj) (u : HO)
 /-- a code object's table -/
 | tbl (ps : Array Value)
 /-- any other thing, by what is true of its one object (a def of one's own: SetO a S n := HO.ext fun h => ..) -/
 | ext (φ : Heap -> Prop)
abbrev Hp := Addr -> Option HO
def upd (H : Hp) (a : Addr) (o : HO) : Hp := fun b => if b = a then some o else H b
theorem cJ {H : Hp} {a : Addr} {o : HO} : upd H a o a = some o := by unfold upd; rw [if_pos rfl]
theorem bP {H : Hp} {a b : Addr} {o : HO} (h : b ≠ a) : upd H a o b = H b := by unfold upd; rw [if_neg h]
theorem aG8 {H : Hp} {a b : Addr} {o u : HO} (h : H a = some o) (h' : H b = some u) (d : o ≠ u) : a ≠ b := by
 intro e; subst e; rw [h] at h'; exact d (Option.some.inj h')
theorem dM {H : Hp} {a b : Addr} {o : HO} (h : H a = some o) (h' : H b = none) : a ≠ b := by
 intro e; subst e; rw [h] at h'; cases h'
section
variable (P : Program) (w : World)
def ObjOk (H : Hp) (h : Heap) (a : Addr) : HO -> Prop
 | .lst xs => xs.length <= sizeLine /\ ∃ (its : List Value) (n : Nat), Vals xs its /\ h.get? a = some { cls := .type "list", data := .seq its.toArray n }
 | .tup xs => xs.length <= sizeLine /\ ∃ its : List Value, Vals xs its /\ IsTup h a its.toArray
 | .dK kvs => kvs.length <= sizeLine /\ (a == sysModules) = false /\ ∃ vs, KV kvs vs /\ h.DictOf (fK P w) a vs
 | .dT kvs => kvs.length <= sizeLine /\ (a == sysModules) = false /\ ∃ xs : List (List Key × Addr × Value),
   Paired (fun (p : List Key × V) (q : List Key × Addr × Value) => p.1 = q.1 /\ H q.2.1 = some (.tup (p.1.map kV)) /\ RelV p.2 q.2.2) kvs xs /\
   ∃ o es ep, h.get? a = some o /\ o.ExactDict /\ o.data = .dict es ep /\ es.toList = xs.map (entryOfKey (tupleKind (fK P w))) /\ (xs.map (·.1)).Nodup
 | .set S n => h.SetOf (intKind P w) a S n
 | .ins C dx fs => H dx = some (.own a) /\ fs.length <= 1000 /\ dx ≠ a /\ h.get? a = some (PySem.W.instObj C dx) /\
   ∃ mA, h.Ns1 dx mA /\ (∀ f, RelO (fs.lookup f) (mA f)) /\ PySem.Within mA (fs.map (·.1))
 | .own _ => ∃ o, h.get? a = some o
 | .xd fs => ∃ mA, h.Ns1 a mA /\ ∀ f, RelO (fs.lookup f) (mA f)
 | .rng lo hi => ∃ t u v, h.get? a = some { cls := .type "range", data := .fields #[.int lo t, .int hi u, .int 1 v] }
 | .frz o u => h.get? a = some o /\ ObjOk H h a u
 | .tbl ps => h.get? a = some { cls := .none, data := .fields ps }
 | .met f x => h.get? a = some (PySem.W.methodObj (.ref f) (.ref x))
 | .ext φ => φ h /\ (∃ o, h.get? a = some o) /\ ∀ h1 h2 : Heap, φ h1 -> (∀ o, h1.get? a = some o -> h2.get? a = some o) -> φ h2
def HOk (H : Hp) (h : Heap) : Prop := ∀ a o, H a = some o -> ObjOk P w H h a o
end
section
variable {P : Program} {w : World} {H H' : Hp} {h h' : Heap} {a : Addr} {o : HO}
theorem ObjOk.lt (x : ObjOk P w H h a o) : a < h.objs.size := by
 cases o with
 | lst xs => obtain ⟨_, _, _, _, e⟩ := x; exact Heap.lt_size e
 | tup xs => obtain ⟨_, _, _, p⟩ := x; exact p.lt
 | dK kvs => obtain ⟨_, _, _, _, o, _, _, e, _⟩ := x; exact Heap.lt_size e
 | dT kvs => obtain ⟨_, _, _, _, o, _, _, e, _⟩ := x; exact Heap.lt_size e
 | set S n => obtain ⟨o, _, _, _, e, _⟩ := x; exact Heap.lt_size e
 | ins C dx fs => obtain ⟨_, _, _, e, _⟩ := x; exact Heap.lt_size e
 | own y => obtain ⟨_, e⟩ := x; exact Heap.lt_size e
 | xd fs => obtain ⟨_, ⟨_, _, _, e, _⟩, _⟩ := x; exact Heap.lt_size e
 | rng lo hi => obtain ⟨_, _, _, e⟩ := x; exact Heap.lt_size e
 | frz ob u => obtain ⟨e, _⟩ := x; exact Heap.lt_size e
 | tbl ps => exact Heap.lt_size (show h.get? a = some _ from x)
 | met f y => exact Heap.lt_size (show h.get? a = some _ from x)
 | ext φ => obtain ⟨_, ⟨_, e⟩, _⟩ := x; exact Heap.lt_size e
theorem Paired.mapP {α β : Type} {F G : α -> β -> Prop} : ∀ {l₁ : List α} {l₂ : List β}, Paired F l₁ l₂ -> (∀ a b, F a b -> G a b) -> Paired G l₁ l₂
 | _, _, .nil, _ => .nil
 | _, _, .cons r t, f => .cons (f _ _ r) (Paired.mapP t f)
theorem ObjOk.stay (x : ObjOk P w H h a o) (k : ∀ b u, (b = a \/ H b = some (.own a)) -> h.get? b = some u -> h'.get? b = some u)
  (ho : ∀ b, H b = some (.own a) -> H' b = some (.own a)) (ht : ∀ b xs, H b = some (.tup xs) -> H' b = some (.tup xs)) : ObjOk P w H' h' a o := by
 induction o with
 | lst xs => obtain ⟨z, its, n, r, e⟩ := x; exact ⟨z, its, n, r, k _ _ (.inl rfl) e⟩
 | tup xs => obtain ⟨z, its, r, ob, e, c⟩ := x; exact ⟨z, its, r, ob, k _ _ (.inl rfl) e, c⟩
 | dK kvs => obtain ⟨z, y, vs, r, ob, es, ep, e, c⟩ := x; exact ⟨z, y, vs, r, ob, es, ep, k _ _ (.inl rfl) e, c⟩
 | dT kvs =>
  obtain ⟨z, y, xs, r, ob, es, ep, e, c⟩ := x
  exact ⟨z, y, xs, Paired.mapP r fun p q z => ⟨z.1, ht _ _ z.2.1, z.2.2⟩, ob, es, ep, k _ _ (.inl rfl) e, c⟩
 | set S n => obtain ⟨ob, es, ep, t, e, c⟩ := x; exact ⟨ob, es, ep, t, k _ _ (.inl rfl) e, c⟩
 | ins C dx fs =>
  obtain ⟨d, z, ne, e, mA, ⟨od, es, ep, e2, c⟩, r⟩ := x
  exact ⟨ho _ d, z, ne, k _ _ (.inl rfl) e, mA, ⟨od, es, ep, k _ _ (.inr d) e2, c⟩, r⟩
 | own y => obtain ⟨ob, e⟩ := x; exact ⟨ob, k _ _ (.inl rfl) e⟩
 | xd fs => obtain ⟨mA, ⟨od, es, ep, e, c⟩, r⟩ := x; exact ⟨mA, ⟨od, es, ep, k _ _ (.inl rfl) e, c⟩, r⟩
 | rng lo hi => obtain ⟨t, u, v, e⟩ := x; exact ⟨t, u, v, k _ _ (.inl rfl) e⟩
 | frz ob u ih => obtain ⟨e, q⟩ := x; exact ⟨k _ _ (.inl rfl) e, ih q⟩
 | tbl ps =>
  have e : h.get? a = some { cls := .none, data := .fields ps } := x
  show h'.get? a = some { cls := .none, data := .fields ps }
  exact k a _ (.inl rfl) e
 | met f y =>
  have e : h.get? a = some (PySem.W.methodObj (.ref f) (.ref y)) := x
  show h'.get? a = some (PySem.W.methodObj (.ref f) (.ref y))
  exact k a _ (.inl rfl) e
 | ext φ => obtain ⟨p, ⟨o, e⟩, st⟩ := x; exact ⟨st _ _ p fun o q => k _ _ (.inl rfl) q, ⟨o, k _ _ (.inl rfl) e⟩, st⟩
theorem HOk.lt (x : HOk P w H h) (e : H a = some o) : a < h.objs.size := (x a o e).lt
theorem HOk.fresh (x : HOk P w H h) (e : h.objs.size <= a) : H a = none := by
 cases q : H a with
 | none => rfl
 | some u => exact absurd (Nat.lt_of_lt_of_le (x.lt q) e) (Nat.lt_irrefl _)
theorem HOk.kept (x : HOk P w H h) (k : ∀ b u, h.get? b = some u -> h'.get? b = some u) : HOk P w H h' := fun a o e =>
 (x a o e).stay (fun b u _ q => k b u q) (fun _ q => q) fun _ _ q => q
theorem HOk.laid (x : HOk P w H h) (k : ∀ b u, h.get? b = some u -> h'.get? b = some u) (hp : h.objs.size <= a) (new : ObjOk P w (upd H a o) h' a o) : HOk P w (upd H a o) h' := fun b u e => by
 have hn := x.fresh hp
 by_cases hb : b = a
 ·subst hb; rw [cJ] at e; cases e; exact new
 ·rw [bP hb] at e
  exact (x b u e).stay (fun c v _ q => k c v q) (fun c q => by rw [bP (dM q hn)]; exact q) fun c xs q => by rw [bP (dM q hn)]; exact q
end
def Rd (H : Hp) (a : Addr) (u : HO) : Prop := H a = some u \/ ∃ o, H a = some (.frz o u)
theorem Rd.ok {P : Program} {w : World} {H : Hp} {h : Heap} {a : Addr} {u : HO} (r : Rd H a u) (x : HOk P w H h) : ObjOk P w H h a u := by
 rcases r with r | ⟨o, r⟩
 ·exact x a u r
 ·obtain ⟨_, q⟩ := x a _ r
  exact q
def Mut : Option HO -> Prop
 | some (.lst _) => True
 | some (.dK _) => True
 | some (.dT _) => True
 | some (.set _ _) => True
 | some (.ins _ _ _) => True
 | some (.ext _) => True
 | _ => False
section
variable {P : Program} {w : World} {H : Hp} {h h' : Heap} {x e : Addr} {o' : HO}
theorem HOk.write (ok : HOk P w H h) (mu : Mut (H x)) (he : e = x \/ H e = some (.own x)) (k : ∀ b u, b ≠ e -> h.get? b = some u -> h'.get? b = some u) (heo : ∃ u, h'.get? e = some u)
  (new : ObjOk P w (upd H x o') h' x o') : HOk P w (upd H x o') h' := fun b u q => by
 have nown : ∀ c y, H c = some (.own y) -> c ≠ x := fun c y r z => by subst z; rw [r] at mu; exact mu
 have ntup : ∀ c xs, H c = some (.tup xs) -> c ≠ x := fun c xs r z => by subst z; rw [r] at mu; exact mu
 by_cases hb : b = x
 ·subst hb; rw [cJ] at q; cases q; exact new
 ·rw [bP hb] at q
  by_cases hbe : b = e
  ·have q' : H b = some (.own x) := by
    rcases he with z | z
    ·exact absurd (hbe.trans z) hb
    ·rw [hbe]; exact z
   rw [q] at q'; cases q'
   obtain ⟨v, hv⟩ := heo
   exact ⟨v, by rw [hbe]; exact hv⟩
  ·refine (ok b u q).stay (fun c v hc r => k c v ?_ r) (fun c r => by rw [bP (nown c b r)]; exact r) fun c xs r => by rw [bP (ntup c xs r)]; exact r
   rcases hc with rfl | hc
   ·exact hbe
   ·rintro rfl
    rcases he with z | z
    ·exact nown c b hc z
    ·rw [hc] at z; cases z; exact hb rfl
end
structure Un (fs ex : List Addr) (H H' : Hp) (h h' : Heap) : Prop where
 keep : ∀ b o, h.get? b = some o -> H b = none -> b ∉ fs -> b ∉ ex -> h'.get? b = some o
 slot : ∀ b o, h.get? b = some o -> H b = none -> b ∈ fs -> b ∉ ex -> ∃ sl, h'.get? b = some { o with slots := sl }
 free : ∀ b o, h.get? b = some o -> H b = none -> b ∉ ex -> H' b = none
 there : ∀ b o, h.get? b = some o -> b ∉ ex -> ∃ o', h'.get? b = some o'
 tups : ∀ b xs, H b = some (.tup xs) -> H' b = some (.tup xs)
 frzs : ∀ b o u, H b = some (.frz o u) -> H' b = some (.frz o u)
 tbls : ∀ b ps, H b = some (.tbl ps) -> ∃ more, H' b = some (.tbl (ps ++ more))
section
variable {fs fs' ex ex' : List Addr} {H H1 H2 : Hp} {h h1 h2 h' : Heap} {a x e : Addr} {o : HO}
theorem Un.any (u : Un fs ex H H1 h h1) {b : Addr} {ob : Obj} (q : h.get? b = some ob) (n : H b = none) (hx : b ∉ ex) : ∃ sl, h1.get? b = some { ob with slots := sl } := by
 by_cases hb : b ∈ fs
 ·exact u.slot b ob q n hb hx
 ·exact ⟨ob.slots, u.keep b ob q n hb hx⟩
theorem Un.kept (k : ∀ b u, h.get? b = some u -> h'.get? b = some u) : Un fs ex H H h h' :=
 ⟨fun b ob q _ _ _ => k b ob q, fun b ob q _ _ _ => ⟨ob.slots, k b ob q⟩, fun _ _ _ n _ => n, fun b ob q _ => ⟨ob, k b ob q⟩, fun _ _ q => q, fun _ _ _ q => q, fun _ ps q => ⟨#[], by rw [q]; simp⟩⟩
theorem Un.refl : Un fs ex H H h h := Un.kept fun _ _ q => q
theorem Un.laid (k : ∀ b u, h.get? b = some u -> h'.get? b = some u) (hp : h.objs.size <= a) (hn : H a = none) : Un fs ex H (upd H a o) h h' where
 keep := fun b u q _ _ _ => k b u q
 slot := fun b u q _ _ _ => ⟨u.slots, k b u q⟩
 free := fun b u q n _ => by rw [bP (Nat.ne_of_lt (Nat.lt_of_lt_of_le (Heap.lt_size q) hp))]; exact n
 there := fun b u q _ => ⟨u, k b u q⟩
 tups := fun b xs q => by rw [bP (dM q hn)]; exact q
 frzs := fun b u xs q => by rw [bP (dM q hn)]; exact q
 tbls := fun b ps q => ⟨#[], by rw [bP (dM q hn), q]; simp⟩
theorem Un.write (mu : Mut (H x)) (he : e = x \/ H e = some (.own x)) (k : ∀ b u, b ≠ e -> h.get? b = some u -> h'.get? b = some u) (heo : ∃ u, h'.get? e = some u) : Un fs ex H (upd H x o) h h' := by
 have hx : ∀ b, H b = none -> b ≠ x := fun b n z => by subst z; rw [n] at mu; exact mu
 have hb : ∀ b, H b = none -> b ≠ e := fun b n z => by
  subst z
  rcases he with r | r
  ·exact hx b n r
  ·rw [n] at r; cases r
 have hm : ∀ b u, H b = some u -> ¬ Mut (some u) -> b ≠ x := fun b u q nm z => by subst z; rw [q] at mu; exact nm mu
 refine ⟨fun b u q n _ _ => k b u (hb b n) q, fun b u q n _ _ => ⟨u.slots, k b u (hb b n) q⟩, fun b u q n _ => by rw [bP (hx b n)]; exact n, fun b u q _ => ?_,
  fun b xs q => by rw [bP (hm b _ q fun z => z)]; exact q, fun b u xs q => by rw [bP (hm b _ q fun z => z)]; exact q, fun b ps q => ⟨#[], by rw [bP (hm b _ q fun z => z), q]; simp⟩⟩
 by_cases hbe : b = e
 ·subst hbe; exact heo
 ·exact ⟨u, k b u hbe q⟩
end
def trk (h : Heap) (H : Hp) : List Addr := (List.range h.objs.size).filter fun a => (H a).isSome
def aA3 (h : Heap) (H : Hp) : Heap := PySem.W.hideAll h (trk h H)
theorem wX (h : Heap) (H : Hp) : (aA3 h H).objs.size = h.objs.size := PySem.W.hideAll_size _ _
theorem aAq {h : Heap} {H : Hp} {b : Addr} {o : Obj} (e : h.get? b = some o) (n : H b = none) : (aA3 h H).get? b = some o :=
 PySem.W.hideAll_get _ e fun hm => by
  have q : (H b).isSome = true := (List.mem_filter.mp hm).2
  rw [n] at q; simp at q
theorem aCj {h : Heap} {H : Hp} {b : Addr} {o : Obj} (e : (aA3 h H).get? b = some o) : h.get? b = some o /\ H b = none := by
 have e' : h.get? b = some o := PySem.W.of_hideAll (trk h H) e
 refine ⟨e', ?_⟩
 cases q : H b with
 | none => rfl
 | some x =>
  have hm : b ∈ trk h H := List.mem_filter.mpr ⟨List.mem_range.mpr (Heap.lt_size e'), by simp [q]⟩
  have z : (aA3 h H).get? b = none := PySem.W.hideAll_none (trk h H) hm
  rw [z] at e; cases e
def aC7 (g h : Heap) (L : Addr) : List (Addr × Obj) := (List.range h.objs.size).filterMap fun a => if a = L \/ (g.get? a).isSome = true then none else (h.get? a).map fun o => (a, o)
def rest (g h : Heap) (L d : Addr) : List (Addr × Obj) := (aC7 g h L).filter fun p => decide (p.1 ≠ d)
structure Mod (K : PySem.W.Frag) (mg : Str -> Option Value) (base : Heap) : Prop where
 kin : K.In base
 glob : base.Ns mainGlobals mg
 blt : ∃ mb, base.Ns builtinsNs mb /\ ∀ x : Str, x ≠ "__name__" -> mb x = bootBuiltins x
 nolimit : base.NoLimit
structure Cx where
 prog : Program
 w : World
 K : PySem.W.Frag
 mg : Str -> Option Value
 base : Heap
 A : Around
 N : List Str
 s₀ : Shared
 H₀ : Hp
 env : Env
 outer : List Env
 stack : List Env
 ex : List Addr
 fn : Str -> Bool
 calm : Bool
 pn : List (Addr × Obj)
 xe : Value -> Shared -> Prop
def frs (l : List Env) : List Addr := l.filterMap (·.frame)
abbrev Cx.fs (X : Cx) : List Addr := frs X.outer
def Vis (sc : Scope) (x : Str) : Prop := sc.names.lookup x = some .local \/ sc.names.lookup x = some .cell \/ sc.names.lookup x = some .free
def Loc (sc : Scope) (x : Str) : Prop := sc.names.lookup x = some .local \/ sc.names.lookup x = some .cell
def Look (env : Env) (h : Heap) (m : Str -> Option Value) (x : Str) (u : Value) : Prop :=
 (env.kindOf x = some .local /\ m x = some u) \/ ((env.kindOf x = some .cell \/ env.kindOf x = some .free) /\ ∃ c, env.cells.lookup x = some c /\ h.IsCell c (some u))
structure Cx.Ok (X : Cx) : Prop where
 mod : Mod X.K X.mg X.base
 kind : X.env.scope.kind = .function
 glob : X.env.globals = mainGlobals
 blt : X.env.builtins = builtinsNs
 above : X.s₀.heap.objs.size <= X.env.locals
 inj : ∀ x y c, X.env.cells.lookup x = some c -> X.env.cells.lookup y = some c -> x = y
 has : ∀ x, (X.env.kindOf x = some .cell \/ X.env.kindOf x = some .free) -> ∃ c, X.env.cells.lookup x = some c
 cab : ∀ x c, X.fn x = true -> X.env.cells.lookup x = some c -> X.s₀.heap.objs.size <= c
 hd : X.calm = true -> X.A.handled = none
 frames : X.A.frames = some X.stack
 stk : X.stack = X.outer \/ (X.stack = X.env :: X.outer /\ X.env.frame = some X.env.locals)
 exf : ∀ b ∈ X.ex, b ≠ X.env.locals /\ ∀ x c, X.env.cells.lookup x = some c -> c ≠ b
 bs : ∀ b o, X.base.get? b = some o -> X.s₀.heap.get? b = some o /\ X.H₀ b = none
 bsz : X.base.objs.size <= X.s₀.heap.objs.size
 noex : ∀ b o, X.base.get? b = some o -> b ∉ X.ex
 exfs : ∀ b ∈ X.ex, b ∉ X.fs
 funs : X.s₀.heap.FunFrames X.base X.outer
 frf : ∀ b ∈ X.fs, X.H₀ b = none
structure Inv (X : Cx) (pins : List (Addr × Obj)) (σ : List (Option V)) (H : Hp) (s : Shared) : Prop where
 ok : X.Ok
 os : s.os = X.s₀.os
 bare : AllBare s.gens
 base : Un X.fs X.ex X.H₀ H X.s₀.heap s.heap
 loc : ∃ m, s.heap.Ns X.env.locals m /\ ∀ (i : Nat) (x : Str) (v : V), X.N[i]? = some x -> σ[i]? = some (some v) -> Vis X.env.scope x -> ∃ u, RelV v u /\ Look X.env s.heap m x u
 cell : ∀ x c, X.env.cells.lookup x = some c -> ∃ v, s.heap.IsCell c v
 free : H X.env.locals = none
 freeC : ∀ x c, X.env.cells.lookup x = some c -> H c = none
 pin : ∀ p ∈ X.pn ++ pins, s.heap.get? p.1 = some p.2 /\ H p.1 = none /\ p.1 ≠ X.env.locals /\ p.1 ∉ X.fs /\ ∀ v, p.2.data ≠ .cell v
 hok : HOk X.prog X.w H s.heap
 len : σ.length = X.N.length
section
variable {X : Cx} {pins : List (Addr × Obj)} {σ : List (Option V)} {H H' : Hp} {s : Shared} {h' : Heap}
theorem Cx.Ok.nofr (ok : X.Ok) {b : Addr} {o : Obj} (e : X.base.get? b = some o) : b ∉ X.fs := fun hb => by
 have := (ok.funs.mem hb).1
 rw [e] at this; cases this
theorem Inv.bs (I : Inv X pins σ H s) : ∀ b o, X.base.get? b = some o -> s.heap.get? b = some o /\ H b = none := fun b o e =>
 ⟨I.base.keep b o (I.ok.bs b o e).1 (I.ok.bs b o e).2 (I.ok.nofr e) (I.ok.noex b o e), I.base.free b o (I.ok.bs b o e).1 (I.ok.bs b o e).2 (I.ok.noex b o e)⟩
theorem Inv.bk (I : Inv X pins σ H s) : ∀ b o, X.base.get? b = some o -> s.heap.get? b = some o := fun b o e => (I.bs b o e).1
theorem Inv.mod (I : Inv X pins σ H s) : Mod X.K X.mg X.base := I.ok.mod
theorem Inv.kIn (I : Inv X pins σ H s) : X.K.In s.heap := I.ok.mod.kin.keeps I.bk
theorem Inv.lt (I : Inv X pins σ H s) : X.env.locals < s.heap.objs.size := let ⟨_, hn, _⟩ := I.loc; hn.lt
theorem Inv.sz (I : Inv X pins σ H s) : X.s₀.heap.objs.size <= s.heap.objs.size := Nat.le_trans I.ok.above (Nat.le_of_lt I.lt)
theorem Inv.nofs (I : Inv X pins σ H s) {a : Addr} (h : s.heap.objs.size <= a) : a ∉ X.fs := fun hb => by
 obtain ⟨_, o, ho, _⟩ := I.ok.funs.mem hb
 exact absurd (Nat.lt_of_lt_of_le (Heap.lt_size ho) (Nat.le_trans I.sz h)) (Nat.lt_irrefl _)
theorem Inv.cne (I : Inv X pins σ H s) : ∀ x c, X.env.cells.lookup x = some c -> c ≠ X.env.locals := fun x c e z => by
 obtain ⟨v, o, ho, hd⟩ := I.cell x c e
 obtain ⟨m, ⟨o', es, ep, ho', hd', _⟩, _⟩ := I.loc
 rw [z, ho'] at ho; cases ho; rw [hd'] at hd; cases hd
theorem Inv.funs (I : Inv X pins σ H s) : s.heap.FunFrames X.base X.outer := by
 have all : ∀ (l : List Env), (∀ b ∈ frs l, b ∈ X.fs) -> X.s₀.heap.FunFrames X.base l -> s.heap.FunFrames X.base l := by
  intro l
  induction l with
  | nil => intro _ _; trivial
  | cons env r ih =>
   intro hs hl
   obtain ⟨hk, ⟨L, o, hf, hn, ho, hd⟩, hr⟩ := hl
   have hL : L ∈ X.fs := hs L (by unfold frs; rw [List.filterMap_cons, hf]; exact List.mem_cons_self)
   obtain ⟨sl, e⟩ := I.base.slot L o ho (I.ok.frf L hL) hL fun z => I.ok.exfs L z hL
   exact ⟨hk, ⟨L, _, hf, hn, e, hd⟩, ih (fun b hb => hs b (by unfold frs; rw [List.filterMap_cons, hf]; exact List.mem_cons_of_mem _ hb)) hr⟩
 exact all X.outer (fun _ hb => hb) I.ok.funs
theorem Inv.stack (I : Inv X pins σ H s) : s.heap.FunFrames X.base X.stack := by
 rcases I.ok.stk with e | ⟨e, hf⟩
 ·rw [e]; exact I.funs
 ·rw [e]
  obtain ⟨m, hn, _⟩ := I.loc
  refine .cons (by rw [I.ok.kind]; decide) hf hn ?_ I.funs
  exact Heap.get?_none_of_le (Nat.le_trans I.ok.bsz I.ok.above)
theorem Inv.stkSub (I : Inv X pins σ H s) : ∀ b ∈ frs X.stack, b ∈ X.env.locals :: X.fs := fun b hb => by
 rcases I.ok.stk with e | ⟨e, hf⟩
 ·rw [e] at hb; exact List.mem_cons_of_mem _ hb
 ·rw [e] at hb
  unfold frs at hb
  rw [List.filterMap_cons, hf] at hb
  exact hb
theorem Inv.stkFree (I : Inv X pins σ H s) : ∀ b ∈ frs X.stack, H b = none := fun b hb => by
 rcases List.mem_cons.mp (I.stkSub b hb) with e | hb
 ·rw [e]; exact I.free
 ·obtain ⟨_, o, ho, _⟩ := I.ok.funs.mem hb
  exact I.base.free b o ho (I.ok.frf b hb) fun z => I.ok.exfs b z hb
theorem Inv.step {g' : Array GenState} {t' : Nat} {d' : Drawn} {ch : List Addr} (I : Inv X pins σ H s)
  (hch : ∀ b ∈ ch, (b ∈ X.ex \/ X.s₀.heap.objs.size <= b) /\ b ≠ X.env.locals /\ (∀ x c, X.env.cells.lookup x = some c -> c ≠ b) /\ ∀ p ∈ X.pn ++ pins, p.1 ≠ b)
  (keep : ∀ b o, b ≠ X.env.locals -> b ∉ X.fs -> b ∉ ch -> s.heap.get? b = some o -> H b = none -> h'.get? b = some o)
  (slot : ∀ b o, b ≠ X.env.locals -> b ∈ X.fs -> b ∉ ch -> s.heap.get? b = some o -> H b = none -> ∃ sl, h'.get? b = some { o with slots := sl }) (free : ∀ b o, b ∉ ch -> s.heap.get? b = some o -> H b = none -> H' b = none)
  (there : ∀ b o, b ∉ ch -> s.heap.get? b = some o -> ∃ o', h'.get? b = some o')
  (tups : ∀ b xs, H b = some (.tup xs) -> H' b = some (.tup xs)) (frzs : ∀ b o u, H b = some (.frz o u) -> H' b = some (.frz o u)) (tbls : ∀ b ps, H b = some (.tbl ps) -> ∃ more, H' b = some (.tbl (ps ++ more)))
  (ns : ∀ m, s.heap.Ns X.env.locals m -> h'.Ns X.env.locals m) (hok : HOk X.prog X.w H' h') (hg : AllBare g') :
  Inv X pins σ H' { s with heap := h', gens := g', drawn := d', toks := t' } := by
 have neL : ∀ b o, X.s₀.heap.get? b = some o -> b ≠ X.env.locals := fun b o e => Nat.ne_of_lt (Nat.lt_of_lt_of_le (Heap.lt_size e) I.ok.above)
 have neC : ∀ b o, X.s₀.heap.get? b = some o -> b ∉ X.ex -> b ∉ ch := fun b o e hx hb => by
  rcases (hch b hb).1 with z | z
  ·exact hx z
  ·exact absurd (Nat.lt_of_lt_of_le (Heap.lt_size e) z) (Nat.lt_irrefl _)
 have cellK : ∀ x c, X.env.cells.lookup x = some c -> ∀ v, s.heap.IsCell c v -> h'.IsCell c v := fun x c e v ⟨o, ho, hd⟩ => by
  have nch : c ∉ ch := fun z => (hch c z).2.2.1 x c e rfl
  by_cases hc : c ∈ X.fs
  ·obtain ⟨sl, q⟩ := slot c o (I.cne x c e) hc nch ho (I.freeC x c e)
   exact ⟨_, q, hd⟩
  ·exact ⟨o, keep c o (I.cne x c e) hc nch ho (I.freeC x c e), hd⟩
 refine ⟨I.ok, I.os, hg, ⟨fun b o e n hb hx => ?_, fun b o e n hb hx => ?_, fun b o e n hx => ?_, fun b o e hx => ?_, fun b xs e => tups b xs (I.base.tups b xs e), fun b o xs e => frzs b o xs (I.base.frzs b o xs e), fun b ps e => ?_⟩, ?_, fun x c e => ?_, ?_, fun x c e => ?_, fun p hp => ?_, hok, I.len⟩
 ·exact keep b o (neL b o e) hb (neC b o e hx) (I.base.keep b o e n hb hx) (I.base.free b o e n hx)
 ·obtain ⟨sl, e1⟩ := I.base.slot b o e n hb hx
  obtain ⟨sl', e2⟩ := slot b _ (neL b o e) hb (neC b o e hx) e1 (I.base.free b o e n hx)
  exact ⟨sl', e2⟩
 ·obtain ⟨o', e1⟩ := I.base.there b o e hx
  exact free b o' (neC b o e hx) e1 (I.base.free b o e n hx)
 ·obtain ⟨o', e1⟩ := I.base.there b o e hx
  exact there b o' (neC b o e hx) e1
 ·obtain ⟨m1, e1⟩ := I.base.tbls b ps e
  obtain ⟨m2, e2⟩ := tbls b _ e1
  exact ⟨m1 ++ m2, by rw [e2, Array.append_assoc]⟩
 ·obtain ⟨m, hn, hl⟩ := I.loc
  refine ⟨m, ns m hn, fun i x v e1 e2 e3 => ?_⟩
  obtain ⟨u, r, l⟩ := hl i x v e1 e2 e3
  refine ⟨u, r, ?_⟩
  rcases l with l | ⟨k, c, e, z⟩
  ·exact .inl l
  ·exact .inr ⟨k, c, e, cellK x c e _ z⟩
 ·obtain ⟨v, z⟩ := I.cell x c e
  exact ⟨v, cellK x c e v z⟩
 ·obtain ⟨m, ⟨o, _, _, ho, _⟩, _⟩ := I.loc
  exact free _ o (fun z => (hch _ z).2.1 rfl) ho I.free
 ·obtain ⟨v, o, ho, hd⟩ := I.cell x c e
  exact free c o (fun z => (hch c z).2.2.1 x c e rfl) ho (I.freeC x c e)
 ·obtain ⟨e, n, ne, nf, d⟩ := I.pin p hp
  have nch : p.1 ∉ ch := fun z => (hch p.1 z).2.2.2 p hp rfl
  exact ⟨keep p.1 p.2 ne nf nch e n, free p.1 p.2 nch e n, ne, nf, d⟩
theorem Inv.un {t' : Nat} (I : Inv X pins σ H s) (u : Un X.fs [] H H' s.heap h') (hok : HOk X.prog X.w H' h') : Inv X pins σ H' { s with heap := h', toks := t' } := by
 obtain ⟨m, ⟨o, es, ep, ho, r⟩, _⟩ := id I.loc
 obtain ⟨sl, hL⟩ := u.any ho I.free (by simp)
 exact I.step (g' := s.gens) (d' := s.drawn) (ch := []) (fun _ z => nomatch z) (fun b o _ hb _ e n => u.keep b o e n hb (by simp)) (fun b o _ hb _ e n => u.slot b o e n hb (by simp)) (fun b o _ e n => u.free b o e n (by simp)) (fun b o _ e => u.there b o e (by simp)) u.tups u.frzs u.tbls (fun m' hm => by
  obtain ⟨o', es', ep', ho', r'⟩ := hm
  rw [ho] at ho'; cases ho'
  exact ⟨_, es', ep', hL, r'⟩) hok I.bare
theorem Inv.call {g' : Array GenState} {t' : Nat} {d' : Drawn} {ch : List Addr} (I : Inv X pins σ H s) (u : Un (frs X.stack) ch H H' s.heap h') (hok : HOk X.prog X.w H' h') (hg : AllBare g')
  (hch : ∀ b ∈ ch, (b ∈ X.ex \/ X.s₀.heap.objs.size <= b) /\ b ≠ X.env.locals /\ (∀ x c, X.env.cells.lookup x = some c -> c ≠ b) /\ ∀ p ∈ X.pn ++ pins, p.1 ≠ b) :
  Inv X pins σ H' { s with heap := h', gens := g', drawn := d', toks := t' } := by
 obtain ⟨m, ⟨o, es, ep, ho, r⟩, _⟩ := id I.loc
 obtain ⟨sl, hL⟩ := u.any ho I.free fun z => (hch _ z).2.1 rfl
 exact I.step (ch := ch) hch (fun b o hL hb hc e n => u.keep b o e n (fun z => (List.mem_cons.mp (I.stkSub b z)).elim hL hb) hc) (fun b o _ _ hc e n => u.any e n hc) (fun b o hc e n => u.free b o e n hc) (fun b o hc e => u.there b o e hc) u.tups u.frzs u.tbls (fun m' hm => by
  obtain ⟨o', es', ep', ho', r'⟩ := hm
  rw [ho] at ho'; cases ho'
  exact ⟨_, es', ep', hL, r'⟩) hok hg
theorem Inv.turned {t' : Nat} {it : Addr} (I : Inv X pins σ H s) (k : ∀ b o, b ≠ it -> s.heap.get? b = some o -> h'.get? b = some o) (hn : H it = none) (hL : it ≠ X.env.locals)
  (h1 : it ∈ X.ex \/ X.s₀.heap.objs.size <= it) (h2 : ∀ x c, X.env.cells.lookup x = some c -> c ≠ it) (h3 : ∀ p ∈ X.pn ++ pins, p.1 ≠ it) : Inv X pins σ H { s with heap := h', toks := t' } := by
 have nit : ∀ b u, H b = some u -> b ≠ it := fun b u e z => by rw [z, hn] at e; cases e
 refine I.step (g' := s.gens) (d' := s.drawn) (ch := [it]) (fun b hb => ?_) (fun b o _ _ hc e _ => k b o (fun z => hc (by simp [z])) e) (fun b o _ _ hc e _ => ⟨o.slots, k b o (fun z => hc (by simp [z])) e⟩) (fun _ _ _ _ n => n)
  (fun b o hc e => ⟨o, k b o (fun z => hc (by simp [z])) e⟩) (fun _ _ e => e) (fun _ _ _ e => e) (fun b ps e => ⟨#[], by rw [e]; simp⟩) (fun m hm => ?_) (fun b u e => ?_) I.bare
 ·have e : b = it := by simpa using hb
  subst e
  exact ⟨h1, hL, h2, h3⟩
 ·obtain ⟨o, es, ep, ho, r⟩ := hm
  exact ⟨o, es, ep, k _ o (Ne.symm hL) ho, r⟩
 ·refine (I.hok b u e).stay (fun c v hc q => k c v ?_ q) (fun _ q => q) fun _ _ q => q
  rcases hc with z | z
  ·rw [z]; exact nit b u e
  ·exact nit c _ z
theorem Inv.tok (I : Inv X pins σ H s) (t : Nat) : Inv X pins σ H { s with toks := t } := I.un (h' := s.heap) (t' := t) Un.refl I.hok
theorem Inv.kept {t' : Nat} (I : Inv X pins σ H s) (k : ∀ b u, s.heap.get? b = some u -> h'.get? b = some u) : Inv X pins σ H { s with heap := h', toks := t' } := I.un (Un.kept k) (I.hok.kept k)
theorem Inv.laid {a : Addr} {o : HO} {t' : Nat} (I : Inv X pins σ H s) (k : ∀ b u, s.heap.get? b = some u -> h'.get? b = some u) (hp : s.heap.objs.size <= a) (new : ObjOk X.prog X.w (upd H a o) h' a o) :
  Inv X pins σ (upd H a o) { s with heap := h', toks := t' } := I.un (Un.laid k hp (I.hok.fresh hp)) (I.hok.laid k hp new)
theorem Inv.write {x e : Addr} {o : HO} {t' : Nat} (I : Inv X pins σ H s) (mu : Mut (H x)) (he : e = x \/ H e = some (.own x)) (k : ∀ b u, b ≠ e -> s.heap.get? b = some u -> h'.get? b = some u) (heo : ∃ u, h'.get? e = some u)
  (new : ObjOk X.prog X.w (upd H x o) h' x o) : Inv X pins σ (upd H x o) { s with heap := h', toks := t' } := I.un (Un.write mu he k heo) (I.hok.write mu he k heo new)
theorem Inv.weak {σ' : List (Option V)} (I : Inv X pins σ H s) (hl : σ'.length = σ.length) (w : ∀ (i : Nat) v, σ'[i]? = some (some v) -> σ[i]? = some (some v)) : Inv X pins σ' H s :=
 ⟨I.ok, I.os, I.bare, I.base, let ⟨m, hn, hl'⟩ := I.loc; ⟨m, hn, fun i x v e1 e2 e3 => hl' i x v e1 (w i v e2) e3⟩, I.cell, I.free, I.freeC, I.pin, I.hok, hl.trans I.len⟩
theorem Inv.pins_of {pins' : List (Addr × Obj)} (I : Inv X pins σ H s) (h : ∀ p ∈ pins', s.heap.get? p.1 = some p.2 /\ H p.1 = none /\ p.1 ≠ X.env.locals /\ p.1 ∉ X.fs /\ ∀ v, p.2.data ≠ .cell v) : Inv X pins' σ H s :=
 ⟨I.ok, I.os, I.bare, I.base, I.loc, I.cell, I.free, I.freeC, fun p hp => (List.mem_append.mp hp).elim (fun z => I.pin p (List.mem_append_left _ z)) (h p), I.hok, I.len⟩
theorem o6 {N : List Str} (hN : N.Nodup) {i j : Nat} {x : Str} (a : N[i]? = some x) (b : N[j]? = some x) : i = j := by
 obtain ⟨h1, e1⟩ := List.getElem?_eq_some_iff.mp a
 obtain ⟨h2, e2⟩ := List.getElem?_eq_some_iff.mp b
 exact (List.getElem_inj hN).mp (e1.trans e2.symm)
theorem zO {M : Model} {A : Around} {E : Value -> Shared -> Prop} {i : Nat} {x : Str} {v : V} {u : Value} {Q : Unit -> Shared -> Prop} (I : Inv X pins σ H s) (hN : X.N.Nodup) (hi : X.N[i]? = some x) (hx : Loc X.env.scope x) (r : RelV v u)
  (h : ∀ s', Inv X pins (σ.set i (some v)) H s' -> (∃ a, Heap.SameBut a s.heap s'.heap /\ (a = X.env.locals \/ X.env.cells.lookup x = some a)) -> Q () s') (hf : X.fn x = true \/ X.env.scope.names.lookup x = some .local := by first | exact .inl rfl | exact .inr rfl | assumption) : wpAny M A (storeName X.env x u) Q E s := by
 obtain ⟨m, hn, hl⟩ := id I.loc
 have hcls : (X.env.scope.kind == .class || (X.env.scope.kind == .module && X.env.locals != X.env.globals)) = false := by rw [I.ok.kind]; rfl
 have hiσ : i < σ.length := by rw [I.len]; exact (List.getElem?_eq_some_iff.mp hi).1
 have cne := I.cne
 have tracked : ∀ {a : Addr} {h' : Heap}, (∃ o, s.heap.get? a = some o /\ H a = none) -> Heap.SameBut a s.heap h' -> HOk X.prog X.w H h' := fun {a h'} ha hs b ob e => by
  obtain ⟨_, _, hfree⟩ := ha
  refine (I.hok b ob e).stay (fun c w' hc q => (hs.2 c ?_).trans q) (fun _ q => q) fun _ _ q => q
  rintro rfl
  rcases hc with rfl | hc
  ·rw [hfree] at e; cases e
  ·rw [hfree] at hc; cases hc
 rcases hx with hk | hk
 ·refine wpAny_storeName_local hk hn (fun h' hn' hs => ?_) hcls
  obtain ⟨oL, _, _, hoL, _⟩ := id hn
  refine h _ ⟨I.ok, I.os, I.bare, ⟨fun b o e n hb hx => ?_, fun b o e n hb hx => ?_, I.base.free, fun b o e hx => ?_, I.base.tups, I.base.frzs, I.base.tbls⟩, ⟨_, hn', fun j y v' e1 e2 e3 => ?_⟩, fun y c e => ?_, I.free, I.freeC, fun p hp => ?_, tracked ⟨oL, hoL, I.free⟩ hs, by simpa using I.len⟩ ⟨_, hs, .inl rfl⟩
  ·exact (hs.2 b (Nat.ne_of_lt (Nat.lt_of_lt_of_le (Heap.lt_size e) I.ok.above))).trans (I.base.keep b o e n hb hx)
  ·obtain ⟨sl, e1⟩ := I.base.slot b o e n hb hx
   exact ⟨sl, (hs.2 b (Nat.ne_of_lt (Nat.lt_of_lt_of_le (Heap.lt_size e) I.ok.above))).trans e1⟩
  ·obtain ⟨o', e1⟩ := I.base.there b o e hx
   exact ⟨o', (hs.2 b (Nat.ne_of_lt (Nat.lt_of_lt_of_le (Heap.lt_size e) I.ok.above))).trans e1⟩
  ·by_cases hj : j = i
   ·subst hj
    rw [hi] at e1; cases e1
    rw [List.getElem?_set_self hiσ] at e2
    cases e2
    exact ⟨u, r, .inl ⟨hk, by simp⟩⟩
   ·rw [List.getElem?_set_ne (Ne.symm hj)] at e2
    obtain ⟨u', r', q⟩ := hl j y v' e1 e2 e3
    refine ⟨u', r', ?_⟩
    rcases q with ⟨k, e⟩ | ⟨k, c, e, z⟩
    ·refine .inl ⟨k, ?_⟩
     have : y ≠ x := fun e => hj (o6 hN e1 (e ▸ hi))
     simp [this, e]
    ·exact .inr ⟨k, c, e, z.sameBut hs (cne y c e)⟩
  ·obtain ⟨w', z⟩ := I.cell y c e
   exact ⟨w', z.sameBut hs (cne y c e)⟩
  ·obtain ⟨e, n, ne, nf, d⟩ := I.pin p hp
   exact ⟨(hs.2 p.1 ne).trans e, n, ne, nf, d⟩
 ·have hfn : X.fn x = true := by
   rcases hf with z | z
   ·exact z
   ·rw [z] at hk; cases hk
  obtain ⟨c, hc⟩ := I.ok.has x (.inl hk)
  obtain ⟨w', z⟩ := I.cell x c hc
  refine wpAny_storeName_cell I.ok.kind hk hc z (fun h' hc' hs => ?_)
  obtain ⟨oc, hoc, hocd⟩ := id z
  refine h { s with heap := h' } ⟨I.ok, I.os, I.bare, ⟨fun b o e n hb hx => ?_, fun b o e n hb hx => ?_, I.base.free, fun b o e hx => ?_, I.base.tups, I.base.frzs, I.base.tbls⟩, ⟨m, hn.sameBut hs (Ne.symm (cne x c hc)), fun j y v' e1 e2 e3 => ?_⟩, fun y c' e => ?_, I.free, I.freeC, fun p hp => ?_, tracked ⟨oc, hoc, I.freeC x c hc⟩ hs, by simpa using I.len⟩ ⟨c, hs, .inr hc⟩
  ·exact (hs.2 b (Nat.ne_of_lt (Nat.lt_of_lt_of_le (Heap.lt_size e) (I.ok.cab x c hfn hc)))).trans (I.base.keep b o e n hb hx)
  ·obtain ⟨sl, e1⟩ := I.base.slot b o e n hb hx
   exact ⟨sl, (hs.2 b (Nat.ne_of_lt (Nat.lt_of_lt_of_le (Heap.lt_size e) (I.ok.cab x c hfn hc)))).trans e1⟩
  ·obtain ⟨o', e1⟩ := I.base.there b o e hx
   exact ⟨o', (hs.2 b (Nat.ne_of_lt (Nat.lt_of_lt_of_le (Heap.lt_size e) (I.ok.cab x c hfn hc)))).trans e1⟩
  ·by_cases hj : j = i
   ·subst hj
    rw [hi] at e1; cases e1
    rw [List.getElem?_set_self hiσ] at e2
    cases e2
    exact ⟨u, r, .inr ⟨.inl hk, c, hc, hc'⟩⟩
   ·rw [List.getElem?_set_ne (Ne.symm hj)] at e2
    obtain ⟨u', r', q⟩ := hl j y v' e1 e2 e3
    refine ⟨u', r', ?_⟩
    rcases q with q | ⟨k, c', e, z'⟩
    ·exact .inl q
    ·refine .inr ⟨k, c', e, z'.sameBut hs ?_⟩
     rintro rfl
     exact hj (o6 hN e1 (I.ok.inj _ _ _ e hc ▸ hi))
  ·by_cases hcc : c' = c
   ·subst hcc; exact ⟨_, hc'⟩
   ·obtain ⟨w2, z2⟩ := I.cell y c' e
    exact ⟨w2, z2.sameBut hs hcc⟩
  ·obtain ⟨e, n, ne, nf, d⟩ := I.pin p hp
   refine ⟨(hs.2 p.1 ?_).trans e, n, ne, nf, d⟩
   intro q
   rw [q, hoc] at e
   have q' : oc = p.2 := Option.some.inj e
   exact d w' (by rw [<- q']; exact hocd)
theorem oK {M : Model} {A : Around} {E : Value -> Shared -> Prop} {i : Nat} {x : Str} {v : V} {u : Value} {Q : Unit -> Shared -> Prop} (I : Inv X pins σ H s) (hN : X.N.Nodup) (hi : X.N[i]? = some x) (hx : Loc X.env.scope x) (r : RelV v u)
  (h : ∀ s', Inv X pins (σ.set i (some v)) H s' -> Q () s') (hf : X.fn x = true \/ X.env.scope.names.lookup x = some .local := by first | exact .inl rfl | exact .inr rfl | assumption) : wpAny M A (storeName X.env x u) Q E s :=
 zO I hN hi hx r (fun s' I' _ => h s' I') hf
theorem Inv.call' {s' : Shared} {ch : List Addr} (I : Inv X pins σ H s) (ho : s'.os = s.os) (u : Un (frs X.stack) ch H H' s.heap s'.heap) (hok : HOk X.prog X.w H' s'.heap) (hg : AllBare s'.gens)
  (hch : ∀ b ∈ ch, (b ∈ X.ex \/ X.s₀.heap.objs.size <= b) /\ b ≠ X.env.locals /\ (∀ x c, X.env.cells.lookup x = some c -> c ≠ b) /\ ∀ p ∈ X.pn ++ pins, p.1 ≠ b) : Inv X pins σ H' s' := by
 obtain ⟨h', g', d', t', o'⟩ := s'
 have e : o' = s.os := ho
 subst e
 exact I.call (g' := g') (t' := t') (d' := d') u hok hg hch
end
abbrev XK := Value -> Option Addr -> Hp -> Prop
abbrev St := List (Option V)
abbrev VK := V -> Hp -> Prop
abbrev TE := St -> Hp -> VK -> Prop
abbrev TT := St -> Hp -> (Bool -> Hp -> Prop) -> Prop
abbrev TA := St -> Hp -> (List V -> Hp -> Prop) -> Prop
structure Ends where
 nx : St -> Hp -> Prop
 rt : VK
 bk : St -> Hp -> Prop := fun _ _ => False
 ct : St -> Hp -> Prop := fun _ _ => False
abbrev TS := Ends -> St -> Hp -> Prop
def EP (X : Cx) (pins : List (Addr × Obj)) (σ : St) (Q : VK) (u : Value) (s' : Shared) : Prop := ∃ v H', Inv X pins σ H' s' /\ RelV v u /\ Q v H'
def TP (X : Cx) (pins : List (Addr × Obj)) (σ : St) (Q : Bool -> Hp -> Prop) (b : Bool) (s' : Shared) : Prop := ∃ H', Inv X pins σ H' s' /\ Q b H'
def AP (X : Cx) (pins : List (Addr × Obj)) (σ : St) (Q : List V -> Hp -> Prop) (us : List Value) (s' : Shared) : Prop := ∃ vs H', Inv X pins σ H' s' /\ Vals vs us /\ Q vs H'
def SP (X : Cx) (pins : List (Addr × Obj)) (D : Ends) (f : Flow) (s' : Shared) : Prop :=
 match f with
 | .next => ∃ σ' H', Inv X pins σ' H' s' /\ D.nx σ' H'
 | .brk => ∃ σ' H', Inv X pins σ' H' s' /\ D.bk σ' H'
 | .cont => ∃ σ' H', Inv X pins σ' H' s' /\ D.ct σ' H'
 | .ret u => ∃ v σ' H', Inv X pins σ' H' s' /\ RelV v u /\ D.rt v H'
def PE (X : Cx) (e : Expr) (t : TE) : Prop :=
 ∀ (pins : List (Addr × Obj)) (s : Shared) (σ : St) (H : Hp) (Q : VK), Inv X pins σ H s -> t σ H Q -> wpAny (model X.prog X.w) X.A (eval e X.env) (EP X pins σ Q) X.xe s
def PT (X : Cx) (e : Expr) (t : TT) : Prop :=
 ∀ (pins : List (Addr × Obj)) (s : Shared) (σ : St) (H : Hp) (Q : Bool -> Hp -> Prop), Inv X pins σ H s -> t σ H Q -> wpAny (model X.prog X.w) X.A (isTrue e X.env (eval e X.env)) (TP X pins σ Q) X.xe s
def PW (X : Cx) (e : Expr) (t : TT) : Prop :=
 ∀ (whole : Sem Value) (pins : List (Addr × Obj)) (s : Shared) (σ : St) (H : Hp) (Q : Bool -> Hp -> Prop), Inv X pins σ H s -> t σ H Q -> wpAny (model X.prog X.w) X.A (isTrue e X.env whole) (TP X pins σ Q) X.xe s
def PA (X : Cx) (es : List Expr) (t : TA) : Prop :=
 ∀ (pos : Pos) (pins : List (Addr × Obj)) (s : Shared) (σ : St) (H : Hp) (Q : List V -> Hp -> Prop), Inv X pins σ H s -> t σ H Q -> wpAny (model X.prog X.w) X.A (spliced (backTo pos (starEach es X.env))) (AP X pins σ Q) X.xe s
def PS (X : Cx) (st : Stmt) (t : TS) : Prop :=
 ∀ (pins : List (Addr × Obj)) (s : Shared) (σ : St) (H : Hp) (D : Ends), Inv X pins σ H s -> t D σ H -> wpAny (model X.prog X.w) X.A (exec st X.env) (SP X pins D) X.xe s
def PSs (X : Cx) (st : List Stmt) (t : TS) : Prop :=
 ∀ (pins : List (Addr × Obj)) (s : Shared) (σ : St) (H : Hp) (D : Ends), Inv X pins σ H s -> t D σ H -> wpAny (model X.prog X.w) X.A (execs st X.env) (SP X pins D) X.xe s
theorem thn {α : Type} {t : Sem α} {Q Q' : α -> Shared -> Prop} {M : Model} {A : Around} {E : Value -> Shared -> Prop} {s : Shared} (h : wpAny M A t Q E s) (hQ : ∀ a s, Q a s -> Q' a s) : wpAny M A t Q' E s := wpAny_mono h hQ fun _ _ x => x
section
variable {X : Cx}
def aEw (i : Nat) : TE := fun σ H Q => ∃ v, σ[i]? = some (some v) /\ Q v H
def tC (v : V) : TE := fun _ H Q => Q v H
theorem aB6 {i : Nat} {x : Str} {pos : Pos} (hN : X.N[i]? = some x) (hv : Vis X.env.scope x) (hd : (x == ("__debug__" : Str)) = false := by decide) (hcd : (x == ("__classdict__" : Str)) = false := by decide) : PE X (.Name x pos) (aEw i) := by
 intro pins s σ H Q I h
 obtain ⟨v, e, h⟩ := h
 obtain ⟨m, hn, hl⟩ := I.loc
 obtain ⟨u, r, l⟩ := hl i x v hN e hv
 have fin : EP X pins σ Q u s := ⟨v, H, I, r, h⟩
 rcases l with ⟨hk, hm⟩ | ⟨hk, c, hc, hcell⟩
 ·exact wpAny_Name (wpAny_loadName_local I.ok.kind hk hn hm fin) hd
 ·rcases hk with hk | hk
  ·exact wpAny_Name (wpAny_loadName_cell I.ok.kind hk hc hcell fin) hd
  ·exact wpAny_Name (wpAny_loadName_free I.ok.kind hk hc hcell fin hcd) hd
theorem aE8 {i j pos} : PE X (.Constant (.int i) j pos) (tC (.int i)) := fun _ _ _ H _ I h => wpAny_Constant_int ⟨.int i, H, I.tok _, ⟨_, rfl⟩, h⟩
theorem aGw {b j pos} : PE X (.Constant (.bool b) j pos) (tC (.bl b)) := fun _ _ _ H _ I h => Constant_bool ⟨.bl b, H, I, rfl, h⟩
theorem aEv {j pos} : PE X (.Constant .none j pos) (tC .non) := fun _ _ _ H _ I h => Constant_none ⟨.non, H, I, rfl, h⟩
theorem aF1 {x j pos} : PE X (.Constant (.str x) j pos) (tC (.str x)) := fun _ _ _ H _ I h => Calls.Constant_str ⟨.str x, H, I.tok _, ⟨_, rfl⟩, h⟩
def Gl (X : Cx) (x : Str) : Prop := X.env.kindOf x = some .globalImplicit
theorem l0 {E : Value -> Shared -> Prop} {pins : List (Addr × Obj)} {s : Shared} {σ : St} {H : Hp} {x : Str} {u : Value} {pos : Pos} {Q : Value -> Shared -> Prop} (I : Inv X pins σ H s) (hg : Gl X x) (hm : X.mg x = some u) (h : Q u s)
  (hd : (x == ("__debug__" : Str)) = false := by decide) : wpAny (model X.prog X.w) X.A (eval (.Name x pos) X.env) Q E s :=
 Calls.Name_function_global I.ok.kind hg (Calls.loadGlobal_global (by rw [I.ok.glob]; exact I.mod.glob.keeps I.bk) hm h) hd
theorem n4 {E : Value -> Shared -> Prop} {pins : List (Addr × Obj)} {s : Shared} {σ : St} {H : Hp} {x : Str} {u : Value} {pos : Pos} {Q : Value -> Shared -> Prop} (I : Inv X pins σ H s) (hg : Gl X x) (hm : X.mg x = none) (hv : bootBuiltins x = some u) (h : Q u s)
  (hn : x ≠ "__name__" := by decide) (hd : (x == ("__debug__" : Str)) = false := by decide) : wpAny (model X.prog X.w) X.A (eval (.Name x pos) X.env) Q E s := by
 obtain ⟨mb, h1, h2⟩ := I.mod.blt
 exact Calls.Name_function_global I.ok.kind hg (Calls.loadGlobal_builtin (by rw [I.ok.glob]; exact I.mod.glob.keeps I.bk) hm (by rw [I.ok.blt]; exact h1.keeps I.bk) ((h2 x hn).trans hv) h) hd
theorem gL {x : Str} {v : V} {u : Value} {pos : Pos} (hg : Gl X x) (hm : X.mg x = some u) (r : RelV v u) (hd : (x == ("__debug__" : Str)) = false := by decide) : PE X (.Name x pos) (tC v) :=
 fun _ _ _ H _ I h => l0 I hg hm ⟨v, H, I, r, h⟩ hd
theorem i4 {x : Str} {v : V} {u : Value} {pos : Pos} (hg : Gl X x) (hm : X.mg x = none) (hv : bootBuiltins x = some u) (r : RelV v u) (hn : x ≠ "__name__" := by decide) (hd : (x == ("__debug__" : Str)) = false := by decide) : PE X (.Name x pos) (tC v) :=
 fun _ _ _ H _ I h => n4 I hg hm hv ⟨v, H, I, r, h⟩ hn hd
variable {a b : Expr} {ta tb : TE} {pos : Pos}
def PC (X : Cx) (op : CmpOp) (a b : Expr) (t : TE) : Prop :=
 ∀ (pins : List (Addr × Obj)) (s : Shared) (σ : St) (H : Hp) (Q : VK), Inv X pins σ H s -> t σ H Q ->
  wpAny (model X.prog X.w) X.A (eval a X.env) (fun v s₁ => wpAny (model X.prog X.w) X.A (eval b X.env) (fun u s₂ => wpAny (model X.prog X.w) X.A (compareOp op v u) (EP X pins σ Q) X.xe s₂) X.xe s₁) X.xe s
theorem uI (b : Expr) {op : CmpOp} (h : op ≠ .In) (h2 : op ≠ .NotIn) : behindInMarks op b = false := by
 have e1 : (op == CmpOp.In) = false := by cases op <;> first | rfl | exact absurd rfl h
 have e2 : (op == CmpOp.NotIn) = false := by cases op <;> first | rfl | exact absurd rfl h2
 cases b <;> simp [behindInMarks, e1, e2]
def aH8 (ta : TE) : TE := fun σ H Q => ta σ H fun x H1 => Q (.bl (decide (x = .non))) H1
def aE4 (ta : TE) : TE := fun σ H Q => ta σ H fun x H1 => Q (.bl (!decide (x = .non))) H1
theorem RelV.none_iff {x : V} {v : Value} (r : RelV x v) : (v == Value.none) = decide (x = .non) := by
 cases x with
 | non => cases r; rfl
 | bl _ => cases r; rfl
 | int _ => obtain ⟨t, rfl⟩ := r; rfl
 | str _ => obtain ⟨t, rfl⟩ := r; rfl
 | byt _ => obtain ⟨t, rfl⟩ := r; rfl
 | flt _ => obtain ⟨t, rfl⟩ := r; rfl
 | ref _ => cases r; rfl
 | ty _ => cases r; rfl
theorem aBy {j pos'} (ha : PE X a ta) : PC X .Is a (.Constant .none j pos') (aH8 ta) := by
 intro pins s σ H Q I h
 refine thn (ha pins s σ H _ I h) fun v s1 ⟨x, H1, I1, r1, q1⟩ => ?_
 exact Constant_none (is_none_gen ⟨.bl _, H1, I1, by rw [r1.none_iff]; rfl, q1⟩)
theorem aC8 {j pos'} (ha : PE X a ta) : PC X .IsNot a (.Constant .none j pos') (aE4 ta) := by
 intro pins s σ H Q I h
 refine thn (ha pins s σ H _ I h) fun v s1 ⟨x, H1, I1, r1, q1⟩ => ?_
 exact Constant_none (isnot_none_gen ⟨.bl _, H1, I1, by rw [r1.none_iff]; rfl, q1⟩)
def tB (t : TE) : TT := fun σ H Q => t σ H fun x H1 => ∃ c, x = .bl c /\ Q c H1
theorem aEp {op : CmpOp} {t : TE} (h : PC X op a b t) (h1 : behindInMarks op b = false := by first | exact uI _ (by decide) (by decide) | rfl) : PE X (.Compare a [op] [b] pos) t := fun pins s σ H Q I hw => wpAny_Compare1 (h pins s σ H Q I hw) h1
theorem yH {op : CmpOp} {t : TE} (h : PC X op a b t) (h1 : behindInMarks op b = false := by first | exact uI _ (by decide) (by decide) | rfl) : PT X (.Compare a [op] [b] pos) (tB t) := by
 intro pins s σ H Q I hw
 refine wpAny_isTrue_Compare1 (thn (h pins s σ H _ I hw) fun v s1 h1 => thn h1 fun u s2 h2 => thn h2 fun c s3 ⟨x, H1, I1, r1, q1⟩ => ?_) h1
 obtain ⟨d, rfl, q⟩ := q1
 cases r1
 exact wpAny_truthy_bool ⟨H1, I1, q⟩
theorem aEx {e : Expr} {t : TE} (h : PE X e t) (he : ∀ whole, isTrue e X.env whole = (do let v <- whole; standAt e.pos; holding [v] (truthy v)) := by intro _; rfl) : PT X e (tB t) := by
 intro pins s σ H Q I hw
 refine isTrue_plain (thn (h pins s σ H _ I hw) fun v s1 ⟨x, H1, I1, r1, q1⟩ => ?_) (he _)
 obtain ⟨d, rfl, q⟩ := q1
 cases r1
 exact wpAny_truthy_bool ⟨H1, I1, q⟩
variable {tA tB' : TT} {rest : List Expr}
def aIr (t u : TT) : TT := fun σ H Q => t σ H fun c H1 => if c = true then u σ H1 Q else Q false H1
def tOr (t u : TT) : TT := fun σ H Q => t σ H fun c H1 => if c = true then Q true H1 else u σ H1 Q
def aIk (t : TT) : TT := fun σ H Q => t σ H fun c H1 => Q (!c) H1
theorem aDi (ha : PT X a tA) : PW X (.BoolOp .And [a] pos) tA := by
 intro wh pins s σ H Q I h
 refine isTrue_and (thn (ha pins s σ H Q I h) fun c s1 e => ?_)
 cases c with
 | true => exact isTrue_and_nil e
 | false => exact e
theorem aEm (ha : PT X a tA) : PW X (.BoolOp .Or [a] pos) tA := by
 intro wh pins s σ H Q I h
 refine isTrue_or (thn (ha pins s σ H Q I h) fun c s1 e => ?_)
 cases c with
 | false => exact isTrue_or_nil e
 | true => exact e
theorem aE9 (ha : PT X a tA) (hb : PW X (.BoolOp .And (b :: rest) pos) tB') : PW X (.BoolOp .And (a :: b :: rest) pos) (aIr tA tB') := by
 intro wh pins s σ H Q I h
 refine isTrue_and (thn (ha pins s σ H _ I h) fun c s1 ⟨H1, I1, q1⟩ => ?_)
 cases c with
 | true => exact hb wh pins s1 σ H1 Q I1 q1
 | false => exact ⟨H1, I1, q1⟩
theorem aG1 (ha : PT X a tA) (hb : PW X (.BoolOp .Or (b :: rest) pos) tB') : PW X (.BoolOp .Or (a :: b :: rest) pos) (tOr tA tB') := by
 intro wh pins s σ H Q I h
 refine isTrue_or (thn (ha pins s σ H _ I h) fun c s1 ⟨H1, I1, q1⟩ => ?_)
 cases c with
 | true => exact ⟨H1, I1, q1⟩
 | false => exact hb wh pins s1 σ H1 Q I1 q1
theorem aGg (ha : PT X a tA) : PT X (.UnaryOp .Not a pos) (aIk tA) := by
 intro pins s σ H Q I h
 exact isTrue_not (ha pins s σ H (fun c H1 => Q (!c) H1) I h)
def aGr (ta tb : TE) : TE := fun σ H Q => ta σ H fun x H1 => ∃ c, x = .bl c /\ if c = true then tb σ H1 Q else Q (.bl false) H1
def aIw (ta tb : TE) : TE := fun σ H Q => ta σ H fun x H1 => ∃ c, x = .bl c /\ if c = true then Q (.bl true) H1 else tb σ H1 Q
def aGm (ta : TE) : TE := fun σ H Q => ta σ H fun x H1 => ∃ c, x = .bl c /\ Q (.bl (!c)) H1
theorem aF2 {op} {t : TE} (h : PE X a t) : PE X (.BoolOp op [a] pos) t := fun pins s σ H Q I hw => BoolOp_one (h pins s σ H Q I hw)
theorem aE6 (ha : PE X a ta) (hb : PE X (.BoolOp .And (b :: rest) pos) tb) : PE X (.BoolOp .And (a :: b :: rest) pos) (aGr ta tb) := by
 intro pins s σ H Q I h
 refine BoolOp_and (thn (ha pins s σ H _ I h) fun v s1 ⟨x, H1, I1, r1, q1⟩ => ?_)
 obtain ⟨c, rfl, q1⟩ := q1
 cases r1
 refine wpAny_truthy_bool ?_
 cases c with
 | true => exact hb pins s1 σ H1 Q I1 q1
 | false => exact ⟨.bl false, H1, I1, rfl, q1⟩
theorem aHk (ha : PE X a ta) (hb : PE X (.BoolOp .Or (b :: rest) pos) tb) : PE X (.BoolOp .Or (a :: b :: rest) pos) (aIw ta tb) := by
 intro pins s σ H Q I h
 refine BoolOp_or (thn (ha pins s σ H _ I h) fun v s1 ⟨x, H1, I1, r1, q1⟩ => ?_)
 obtain ⟨c, rfl, q1⟩ := q1
 cases r1
 refine wpAny_truthy_bool ?_
 cases c with
 | false => exact hb pins s1 σ H1 Q I1 q1
 | true => exact ⟨.bl true, H1, I1, rfl, q1⟩
theorem aF5 (ha : PE X a ta) : PE X (.UnaryOp .Not a pos) (aGm ta) := by
 intro pins s σ H Q I h
 refine UnaryOp_ (thn (ha pins s σ H _ I h) fun v s1 ⟨x, H1, I1, r1, q1⟩ => ?_)
 obtain ⟨c, rfl, q1⟩ := q1
 cases r1
 exact not_of (wpAny_truthy_bool ⟨.bl (!c), H1, I1, rfl, q1⟩)
end
def SqL (K : PySem.W.Frag) (H : Hp) (a : Addr) (xs : List V) : Prop :=
 Rd H a (.lst xs) \/
  ∃ (o : Obj) (its : Array Value) (n : Nat), K.lookup a = some o /\ o.cls = .type "list" /\ o.dict = none /\ o.data = .seq its n /\ its.size <= sizeLine /\ Vals xs its.toList
def SqT (K : PySem.W.Frag) (H : Hp) (a : Addr) (xs : List V) : Prop :=
 Rd H a (.tup xs) \/
  ∃ (o : Obj) (its : Array Value) (n : Nat), K.lookup a = some o /\ o.cls = .type "tuple" /\ o.data = .seq its n /\ its.size <= sizeLine /\ Vals xs its.toList
def aI7 : Value -> Option V
 | .none => some .non
 | .bool b => some (.bl b)
 | .int i _ => some (.int i)
 | .str x _ => some (.str x)
 | .bytes b _ => some (.byt b)
 | .float b _ => some (.flt b)
 | .ref a => some (.ref a)
 | .type n => some (.ty n)
 | _ => none
theorem RelV.abs {x : V} {u : Value} (r : RelV x u) : aI7 u = some x := by
 cases x with
 | non => cases r; rfl
 | bl _ => cases r; rfl
 | int _ => obtain ⟨t, rfl⟩ := r; rfl
 | str _ => obtain ⟨t, rfl⟩ := r; rfl
 | byt _ => obtain ⟨t, rfl⟩ := r; rfl
 | flt _ => obtain ⟨t, rfl⟩ := r; rfl
 | ref _ => cases r; rfl
 | ty _ => cases r; rfl
theorem RelV.inj {x y : V} {u : Value} (r : RelV x u) (q : RelV y u) : x = y := Option.some.inj (r.abs.symm.trans q.abs)
theorem Vals.inj : ∀ {xs ys : List V} {us : List Value}, Vals xs us -> Vals ys us -> xs = ys
 | _, _, _, .nil, .nil => rfl
 | _, _, _, .cons r t, .cons r' t' => by rw [r.inj r', Vals.inj t t']
section
variable {X : Cx} {pins : List (Addr × Obj)} {σ : St} {H : Hp} {s : Shared} {a : Addr} {xs ys : List V}
theorem SqL.of {K : PySem.W.Frag} (h : H a = some (.lst xs)) : SqL K H a xs := .inl (.inl h)
theorem SqT.of {K : PySem.W.Frag} (h : H a = some (.tup xs)) : SqT K H a xs := .inl (.inl h)
theorem Inv.list (I : Inv X pins σ H s) (h : SqL X.K H a xs) : ∃ its : List Value, Vals xs its /\ PlainL s.heap a its.toArray /\ xs.length <= sizeLine := by
 rcases h with h | ⟨o, its, n, hk, hc, hd, hs, hz, r⟩
 ·obtain ⟨z, its, n, r, e⟩ := h.ok I.hok
  exact ⟨its, r, ⟨_, n, e, rfl, rfl, rfl⟩, z⟩
 ·refine ⟨its.toList, r, ⟨o, n, I.kIn a o hk, hc, hd, by simpa using hs⟩, ?_⟩
  have e := r.length
  simp only [Array.length_toList] at e
  omega
theorem Inv.tuple (I : Inv X pins σ H s) (h : SqT X.K H a xs) : ∃ its : List Value, Vals xs its /\ IsTup s.heap a its.toArray /\ xs.length <= sizeLine := by
 rcases h with h | ⟨o, its, n, hk, hc, hs, hz, r⟩
 ·obtain ⟨z, its, r, p⟩ := h.ok I.hok
  exact ⟨its, r, p, z⟩
 ·refine ⟨its.toList, r, ⟨o, I.kIn a o hk, hc, n, by simpa using hs⟩, ?_⟩
  have e := r.length
  simp only [Array.length_toList] at e
  omega
theorem Inv.list_inj (I : Inv X pins σ H s) (h : SqL X.K H a xs) (h' : SqL X.K H a ys) : xs = ys := by
 obtain ⟨its, r, ⟨o, n, e, _, _, d⟩, _⟩ := I.list h
 obtain ⟨its', r', ⟨o', n', e', _, _, d'⟩, _⟩ := I.list h'
 rw [e] at e'; cases e'
 rw [d] at d'
 injection d' with d1 _
 have : its = its' := by simpa using congrArg Array.toList d1
 subst this
 exact r.inj r'
end
section
variable {X : Cx} {pins : List (Addr × Obj)} {σ : St} {H : Hp} {s : Shared} {E : Value -> Shared -> Prop}
end
section
variable {X : Cx} {st : Stmt} {rest : List Stmt} {t u : TS} {e : Expr} {te : TE} {pos : Pos}
def aHc : TS := fun D σ H => D.nx σ H
def aI4 (t u : TS) : TS := fun D σ H => t { D with nx := u D } σ H
theorem aCt : PSs X [] aHc := fun _ _ σ H _ I h => wpAny_execs_nil ⟨σ, H, I, h⟩
theorem aAd (h1 : PS X st t) (h2 : PSs X rest u) : PSs X (st :: rest) (aI4 t u) := by
 intro pins s σ H D I h
 refine wpAny_execs_cons (thn (h1 pins s σ H { D with nx := u D } I h) fun f s1 q => ?_)
 cases f with
 | next =>
  obtain ⟨σ', H', I', q⟩ := q
  exact h2 pins s1 σ' H' D I' q
 | ret v => exact q
 | brk => exact q
 | cont => exact q
theorem aDf (h1 : PS X st t) : PSs X [st] t := by
 intro pins s σ H D I h
 refine wpAny_execs_cons (thn (h1 pins s σ H D I h) fun f s1 q => ?_)
 cases f with
 | next => exact wpAny_execs_nil q
 | ret v => exact q
 | brk => exact q
 | cont => exact q
theorem Inv.quiet {pins : List (Addr × Obj)} {σ : St} {H : Hp} {s : Shared} (I : Inv X pins σ H s) : interactive X.env = false := by simp [interactive, I.ok.kind]
def aEj (te : TE) : TS := fun D σ H => te σ H fun _ H1 => D.nx σ H1
theorem zE (he : PE X e te) (hs : swapsWith e none pos.line X.env = pure false := by rfl) : PS X (.Expr e pos) (aEj te) := by
 intro pins s σ H D I h
 exact wpAny_Expr_any (thn (he pins s σ H _ I h) fun v s1 ⟨x, H1, I1, r1, q1⟩ => ⟨σ, H1, I1, q1⟩) I.quiet hs
def aIy (te : TE) : TS := fun D σ H => te σ H D.rt
theorem aEc (he : PE X e te) : PS X (.Return (some e) pos) (aIy te) := by
 intro pins s σ H D I h
 exact wpAny_Return_some (thn (he pins s σ H _ I h) fun v s1 ⟨x, H1, I1, r1, q1⟩ => ⟨x, σ, H1, I1, r1, q1⟩)
def aI8 (c : TT) (t u : TS) : TS := fun D σ H => c σ H fun b H1 => if b = true then t D σ H1 else u D σ H1
theorem aHj {c : Expr} {a b : List Stmt} {tc : TT} (hc : PT X c tc) (ha : PSs X a t) (hb : PSs X b u) : PS X (.If c a b pos) (aI8 tc t u) := by
 intro pins s σ H D I h
 refine wpAny_If (thn (hc pins s σ H _ I h) fun d s1 ⟨H1, I1, q1⟩ => ?_)
 cases d with
 | true => exact ha pins s1 σ H1 D I1 q1
 | false => exact hb pins s1 σ H1 D I1 q1
end
abbrev TG := V -> St -> Hp -> (St -> Hp -> Prop) -> Prop
abbrev TGs := List V -> St -> Hp -> (St -> Hp -> Prop) -> Prop
def PG (X : Cx) (target : Expr) (t : TG) : Prop :=
 ∀ (pins : List (Addr × Obj)) (s : Shared) (σ : St) (H : Hp) (v : V) (u : Value) (Q : St -> Hp -> Prop), Inv X pins σ H s -> RelV v u -> t v σ H Q ->
  wpAny (model X.prog X.w) X.A (assign target X.env u) (fun _ s' => ∃ σ' H', Inv X pins σ' H' s' /\ Q σ' H') X.xe s
def PGs (X : Cx) (ts : List Expr) (t : TGs) : Prop :=
 ∀ (pins : List (Addr × Obj)) (s : Shared) (σ : St) (H : Hp) (vs : List V) (us : List Value) (Q : St -> Hp -> Prop), Inv X pins σ H s -> Vals vs us -> t vs σ H Q ->
  wpAny (model X.prog X.w) X.A (assignInOrder ((assignEach ts X.env).map (·.2)) us) (fun _ s' => ∃ σ' H', Inv X pins σ' H' s' /\ Q σ' H') X.xe s
abbrev aGu := V -> V -> V -> Hp -> (Hp -> Prop) -> Prop
def aIc (X : Cx) (t : aGu) : Prop :=
 ∀ (pins : List (Addr × Obj)) (s : Shared) (σ : St) (H : Hp) (o i v : V) (ov iv u : Value) (Q : Hp -> Prop), Inv X pins σ H s -> RelV o ov -> RelV i iv -> RelV v u -> t o i v H Q ->
  wpAny (model X.prog X.w) X.A (setItem ov iv u) (fun _ s' => ∃ H', Inv X pins σ H' s' /\ Q H') X.xe s
section
variable {X : Cx} {pos : Pos}
def aGi (i : Nat) : TG := fun v σ H Q => Q (σ.set i (some v)) H
theorem aDk {i : Nat} {x : Str} (hN : X.N.Nodup) (hi : X.N[i]? = some x) (hx : Loc X.env.scope x) (hf : X.fn x = true \/ X.env.scope.names.lookup x = some .local := by first | exact .inl rfl | exact .inr rfl | assumption) : PG X (.Name x pos) (aGi i) := by
 intro pins s σ H v u Q I r h
 exact wpAny_assign_Name (oK I hN hi hx r (fun s' I' => ⟨_, H, I', h⟩) hf)
def aIx : TGs := fun vs σ H Q => vs = [] /\ Q σ H
def aHb (t : TG) (u : TGs) : TGs := fun vs σ H Q => ∃ v r, vs = v :: r /\ t v σ H fun σ' H' => u r σ' H' Q
theorem aCv : PGs X [] aIx := by
 intro pins s σ H vs us Q I r h
 obtain ⟨e, h⟩ := h
 subst e
 cases r
 exact assignInOrder_nil ⟨σ, H, I, h⟩
theorem aA7 {e : Expr} {es : List Expr} {t : TG} {u : TGs} (h1 : PG X e t) (h2 : PGs X es u)
  (hs : (assignEach (e :: es) X.env).map (·.2) = assign e X.env :: (assignEach es X.env).map (·.2) := by rfl) : PGs X (e :: es) (aHb t u) := by
 intro pins s σ H vs us Q I r h
 obtain ⟨v, vr, e1, h⟩ := h
 subst e1
 cases r with
 | cons r rr =>
  rw [hs]
  refine assignInOrder_cons (thn (h1 pins s σ H _ _ _ I r h) fun _ s1 ⟨σ1, H1, I1, q1⟩ => ?_)
  exact h2 pins s1 σ1 H1 _ _ Q I1 rr q1
def aIz (K : PySem.W.Frag) (n : Nat) (t : TGs) : TG := fun v σ H Q => ∃ a xs, v = .ref a /\ SqT K H a xs /\ xs.length = n /\ t xs σ H Q
theorem aF6 {es : List Expr} {k : Nat} {t : TGs} {n : Nat} (hc : X.calm = true) (h : PGs X es t)
  (hn : (assignEach es X.env).length = n := by rfl) (hst : (assignEach es X.env).findIdx? (·.1) = none := by rfl) : PG X (.Tuple es k pos) (aIz X.K n t) := by
 intro pins s σ H v u Q I r hw
 obtain ⟨a, xs, e1, hq, hl, hw⟩ := hw
 subst e1
 cases r
 obtain ⟨its, rv, ht, hz⟩ := I.tuple hq
 refine assign_Tuple_tuple (I.ok.hd hc) ht (by simp [hn, <- hl, rv.length]) hst fun h' hx => ?_
 have I1 : Inv X pins σ H { s with heap := h' } := I.kept (t' := s.toks) fun b o e => hx b o (Nat.ne_of_lt (Heap.lt_size e)) e
 exact h pins _ σ H xs _ Q I1 (by simpa using rv) hw
def aH9 (to ti : TE) (t : aGu) : TG := fun v σ H Q => to σ H fun o H1 => ti σ H1 fun i H2 => t o i v H2 fun H3 => Q σ H3
theorem aEr {o i : Expr} {to ti : TE} {t : aGu} (ho : PE X o to) (hi : PE X i ti) (hs : aIc X t)
  (ha : ∀ v, assign (.Subscript o i pos) X.env v = (do
   let ov <- holding [v] (eval o X.env)
   let iv <- holding [v, ov] (eval i X.env)
   standAt pos
   holding [v, ov, iv] (setItem ov iv v)
   release [v, ov, iv] []) := by intro _; rfl) : PG X (.Subscript o i pos) (aH9 to ti t) := by
 intro pins s σ H v u Q I r h
 rw [ha]
 refine wpAny_bind (wpAny_holding (thn (ho pins s σ H _ I h) fun ov s1 ⟨x, H1, I1, r1, q1⟩ => ?_))
 refine wpAny_bind (wpAny_holding (thn (hi pins s1 σ H1 _ I1 q1) fun iv s2 ⟨y, H2, I2, r2, q2⟩ => ?_))
 refine wpAny_bind (wpAny_standAt (wpAny_bind (wpAny_holding (thn (hs pins s2 σ H2 x y v ov iv u _ I2 r1 r2 r q2) fun _ s3 ⟨H3, I3, q3⟩ => ?_))))
 exact wpAny_release ⟨σ, H3, I3, q3⟩
def aHf (te : TE) (g : TG) : TS := fun D σ H => te σ H fun x H1 => g x σ H1 D.nx
theorem aGh {tg e : Expr} {te : TE} {g : TG} (he : PE X e te) (hg : PG X tg g) (hs : swapsWithSole [tg] e pos.line X.env = pure false := by rfl) (hw : swappedStores [tg] e X.env = pure none := by rfl)
  (h1 : (assignEach [tg] X.env).map (·.2) = [assign tg X.env] := by rfl) : PS X (.Assign [tg] e pos) (aHf te g) := by
 intro pins s σ H D I h
 refine wpAny_Assign_stores (thn (he pins s σ H _ I h) fun v s1 ⟨x, H1, I1, r1, q1⟩ => ?_) hs hw
 rw [h1]
 exact thn (hg pins s1 σ H1 x v _ I1 r1 q1) fun _ s2 q => q
theorem aEf {i : Nat} {x : Str} {e : Expr} {te : TE} {pos' : Pos} (hN : X.N.Nodup) (hi : X.N[i]? = some x) (hx : Loc X.env.scope x) (he : PE X e te) (hs : swapsWith e (some (.Name x pos')) pos.line X.env = pure false := by rfl) (hf : X.fn x = true \/ X.env.scope.names.lookup x = some .local := by first | exact .inl rfl | exact .inr rfl | assumption) :
  PS X (.Assign [.Name x pos'] e pos) (aHf te (aGi i)) := by
 intro pins s σ H D I h
 refine wpAny_Assign_Name (thn (he pins s σ H _ I h) fun v s1 ⟨y, H1, I1, r1, q1⟩ => ?_) hs
 exact oK I1 hN hi hx r1 (fun s2 I2 => ⟨_, H1, I2, q1⟩) hf
end
section
variable {X : Cx} {pos : Pos}
def aE2 (c : TT) (tb : TS) : TS := fun D σ H => ∃ W : Nat -> St -> Hp -> Prop, (∃ m, W m σ H) /\ ∀ m σ H, W m σ H ->
 c σ H fun b H1 => if b = true then ∃ N : St -> Hp -> Prop, (∀ σ' H', N σ' H' -> ∃ m', m' < m /\ W m' σ' H') /\ tb { D with nx := N, ct := N, bk := D.nx } σ H1 else D.nx σ H1
theorem aAe {c : Expr} {body : List Stmt} {tc : TT} {tb : TS} (hp : PassesOwn (model X.prog X.w) X.A X.env X.xe) (hc : PT X c tc) (hb : PSs X body tb) : PS X (.While c body [] pos) (aE2 tc tb) := by
 intro pins s σ H D I h
 obtain ⟨W, ⟨m0, w0⟩, turn⟩ := h
 refine wpAny_While (codeAny_whileLoop (fun n s' => ∃ σ' H', Inv X pins σ' H' s' /\ W n σ' H') ?_ m0 ⟨σ, H, I, w0⟩)
 rintro n s1 ⟨σ1, H1, I1, w1⟩
 refine wpAny_passesOwn hp (thn (hc pins s1 σ1 H1 _ I1 (turn n σ1 H1 w1)) fun b s2 ⟨H2, I2, q2⟩ => ?_)
 cases b with
 | true =>
  obtain ⟨N, hN, q2⟩ := q2
  rw [if_pos rfl]
  refine wpAny_passesOwn hp (thn (hb pins s2 σ1 H2 _ I2 q2) fun f s3 q3 => ?_)
  cases f with
  | next =>
   obtain ⟨σ3, H3, I3, n3⟩ := q3
   obtain ⟨m', hm, w3⟩ := hN σ3 H3 n3
   exact ⟨m', hm, σ3, H3, I3, w3⟩
  | cont =>
   obtain ⟨σ3, H3, I3, n3⟩ := q3
   obtain ⟨m', hm, w3⟩ := hN σ3 H3 n3
   exact ⟨m', hm, σ3, H3, I3, w3⟩
  | brk => exact q3
  | ret v => exact q3
 | false =>
  rw [if_neg Bool.false_ne_true]
  exact wpAny_execs_nil ⟨σ1, H2, I2, q2⟩
end
structure It where
 go : Nat -> Hp -> Prop
 yld : Nat -> Hp -> V -> Hp -> Prop
 stop : Nat -> Hp -> Prop
def aA4 (X : Cx) (pins : List (Addr × Obj)) (H : Hp) (b : Addr) : Prop :=
 H b = none /\ b ≠ X.env.locals /\ b ∉ X.fs /\ (b ∈ X.ex \/ X.s₀.heap.objs.size <= b) /\ (∀ x c, X.env.cells.lookup x = some c -> c ≠ b) /\ ∀ p ∈ X.pn ++ pins, p.1 ≠ b
theorem Inv.fpOk {X : Cx} {pins : List (Addr × Obj)} {σ : St} {H H' : Hp} {s : Shared} {b : Addr} (I : Inv X pins σ H s) (hb : s.heap.objs.size <= b) (hn : H' b = none) : aA4 X pins H' b := by
 refine ⟨hn, Nat.ne_of_gt (Nat.lt_of_lt_of_le I.lt hb), I.nofs hb, .inr (Nat.le_trans I.sz hb), fun x c e z => ?_, fun p hp z => ?_⟩
 ·obtain ⟨v, q⟩ := I.cell x c e
  exact absurd (Nat.lt_of_lt_of_le q.lt (by rw [z]; exact hb)) (Nat.lt_irrefl _)
 ·exact absurd (Nat.lt_of_lt_of_le (Heap.lt_size (I.pin p hp).1) (by rw [z]; exact hb)) (Nat.lt_irrefl _)
structure Turn (P : Program) (w : World) (K : PySem.W.Frag) (tg : Expr) (J : It) (fp : List Addr) (it : Addr) (tn : Nat -> Heap -> Prop) : Prop where
 mem : it ∈ fp
 obj : ∀ i h, tn i h -> ∀ b ∈ fp, ∃ o, h.get? b = some o /\ ∀ v, o.data ≠ .cell v
 keep : ∀ i h h', tn i h -> (∀ b ∈ fp, ∀ o, h.get? b = some o -> h'.get? b = some o) -> tn i h'
 item : ∀ (X : Cx), X.prog = P -> X.w = w -> X.K = K -> X.calm = true -> ∀ (i : Nat) (pins : List (Addr × Obj)) (s : Shared) (σ : St) (H : Hp) (E : Value -> Shared -> Prop), Inv X pins σ H s -> (∀ b ∈ fp, aA4 X pins H b) -> tn i s.heap -> J.go i H ->
  wpAny (model P w) X.A (pyNext (.ref it)) (fun r s1 => ∃ u, r = some u /\
   wpAny (model P w) X.A (letOwnedTupleGo tg (.ref it) u) (fun _ s2 => ∃ x H', Inv X pins σ H' s2 /\ RelV x u /\ J.yld i H x H' /\ tn (i + 1) s2.heap /\ ∀ b ∈ fp, H' b = none) E s1) E s
 done : ∀ (X : Cx), X.prog = P -> X.w = w -> X.K = K -> X.calm = true -> ∀ (i : Nat) (pins : List (Addr × Obj)) (s : Shared) (σ : St) (H : Hp) (E : Value -> Shared -> Prop), Inv X pins σ H s -> (∀ b ∈ fp, aA4 X pins H b) -> tn i s.heap -> J.stop i H ->
  wpAny (model P w) X.A (pyNext (.ref it)) (fun r s1 => r = none /\ Inv X pins σ H s1) E s
 self : ∀ (A : Around) (i : Nat) (s : Shared) (Q : Value -> Shared -> Prop) (E : Value -> Shared -> Prop), tn i s.heap -> Q (.ref it) s -> wpAny (model P w) A (pyIter (.ref it)) Q E s
abbrev TI := St -> Hp -> (It -> Hp -> Prop) -> Prop
def PIE (X : Cx) (pins : List (Addr × Obj)) (σ : St) (tg : Expr) (R : It -> Hp -> Prop) (itv : Value) (s2 : Shared) : Prop :=
 ∃ (it : Addr) (fp : List Addr) (tn : Nat -> Heap -> Prop) (J : It) (H' : Hp), itv = .ref it /\ Inv X pins σ H' s2 /\ Turn X.prog X.w X.K tg J fp it tn /\ tn 0 s2.heap /\ (∀ b ∈ fp, aA4 X pins H' b) /\ R J H'
def PI (X : Cx) (tg iter : Expr) (wi : TI) : Prop :=
 ∀ (pins : List (Addr × Obj)) (s : Shared) (σ : St) (H : Hp) (R : It -> Hp -> Prop), Inv X pins σ H s -> wi σ H R ->
  wpAny (model X.prog X.w) X.A (eval iter X.env) (fun v s1 => wpAny (model X.prog X.w) X.A (pyIter v) (PIE X pins σ tg R) X.xe s1) X.xe s
theorem aGe {M : Model} {A : Around} {E : Value -> Shared -> Prop} {s : Shared} {tg : Expr} {it : Addr} {u : Value} {o : Obj} {n : String} {vs : Array Value} {Q : Unit -> Shared -> Prop} (ho : s.heap.get? it = some o) (hc : o.cls = .type n) (hd : o.data = .fields vs)
  (hn : ["enumerate", "zip", "dict_itemiterator", "dict_reverseitemiterator", "odict_iterator", "itertools.zip_longest", "itertools.pairwise"].contains n = false) (hQ : Q () s) : wpAny M A (letOwnedTupleGo tg (.ref it) u) Q E s := by
 unfold letOwnedTupleGo
 cases tg <;> first
  | exact wpAny_pure hQ
  | (cases u <;> first
    | exact wpAny_pure hQ
    | (refine wpAny_bind (wpAny_load ho ?_)
       rw [hc, hd]
       show wpAny M A (if (["enumerate", "zip", "dict_itemiterator", "dict_reverseitemiterator", "odict_iterator", "itertools.zip_longest", "itertools.pairwise"].contains n && vs[0]? == some (rawInt _)) = true then _ else _) Q E s
       rw [if_neg (by intro h; rw [hn, Bool.false_and] at h; cases h)]
       exact wpAny_pure hQ))
def Itl (K : PySem.W.Frag) (a : Addr) : It :=
 ⟨fun i H => ∃ xs x, SqL K H a xs /\ xs[i]? = some x, fun i H x H' => H' = H /\ ∀ xs, SqL K H a xs -> xs[i]? = some x, fun i H => ∃ xs, SqL K H a xs /\ xs.length <= i⟩
def Itr (lo : Int) (n : Nat) : It := ⟨fun i _ => i < n, fun i H x H' => H' = H /\ x = .int (lo + i), fun i _ => n <= i⟩
theorem wO {P : Program} {w : World} {K : PySem.W.Frag} {tg : Expr} (a it : Addr) : Turn P w K tg (Itl K a) [it] it (fun i h => h.IsListIter it a i) where
 mem := by simp
 obj := fun i h st b hb => by
  have e : b = it := by simpa using hb
  subst e
  obtain ⟨o, e, c, d⟩ := st
  exact ⟨o, e, fun v z => by rw [d] at z; cases z⟩
 keep := fun i h h' st k => st.at fun o e => k it (by simp) o e
 item := by
  intro X hP hw hK hc i pins s σ H E I hf st hg
  subst hP hw hK
  obtain ⟨xs, x, hq, hx⟩ := hg
  obtain ⟨its, rv, p, hz⟩ := I.list hq
  obtain ⟨u, hu, ru⟩ := rv.get hx
  obtain ⟨f0, f1, f2, f3, f4, f5⟩ := hf it (by simp)
  refine wpAny_pyNext_list_item st p.isList (x := u) (by simpa using hu) fun h' st' sb => ?_
  have I1 : Inv X pins σ H { s with heap := h' } := I.turned (t' := s.toks) (fun b o hb e => (sb.2 b hb).trans e) f0 f1 f3 f4 f5
  obtain ⟨o, e, c, d⟩ := id st'
  exact ⟨u, rfl, aGe (s := { s with heap := h' }) e c d (by decide) ⟨x, H, I1, ru, ⟨rfl, fun ys hy => by rw [I.list_inj hy hq]; exact hx⟩, st', fun b hb => (hf b hb).1⟩⟩
 done := by
  intro X hP hw hK hc i pins s σ H E I hf st hg
  subst hP hw hK
  obtain ⟨xs, hq, hx⟩ := hg
  obtain ⟨its, rv, p, hz⟩ := I.list hq
  obtain ⟨f0, f1, f2, f3, f4, f5⟩ := hf it (by simp)
  have hl := rv.length
  exact wpAny_pyNext_list_end (I.ok.hd hc) st p.isList (by simp; omega) fun h' eb => ⟨rfl, I.turned (t' := s.toks) (fun b o hb e => eb b o hb e) f0 f1 f3 f4 f5⟩
 self := fun _ _ _ _ _ st h => wpAny_pyIter_listiter st h
theorem vX {P : Program} {w : World} {K : PySem.W.Frag} {tg : Expr} (it : Addr) (lo : Int) (n : Nat) : Turn P w K tg (Itr lo n) [it] it (fun i h => IsRangeIter h it (lo + (i : Nat) * 1) ((n : Int) - (i : Nat)) 1) where
 mem := by simp
 obj := fun i h st b hb => by
  have e : b = it := by simpa using hb
  subst e
  exact ⟨_, st, fun v z => by
   have z' : Data.fields _ = Data.cell v := z
   cases z'⟩
 keep := fun i h h' st k => k it (by simp) _ st
 item := by
  intro X hP hw hK hc i pins s σ H E I hf st hg
  subst hP hw hK
  obtain ⟨f0, f1, f2, f3, f4, f5⟩ := hf it (by simp)
  have W := Walks.range (prog := X.prog) (w := X.w) (I.ok.hd hc) it lo 1 n
  refine W.item i s _ _ hg st fun v h' tk hv st' kk => ?_
  obtain ⟨t, rfl⟩ := hv
  have I1 : Inv X pins σ H { s with heap := h', toks := tk } := I.turned (fun b o hb e => kk b o (by simpa using hb) e) f0 f1 f3 f4 f5
  refine ⟨_, rfl, aGe (s := { s with heap := h', toks := tk }) (n := "range_iterator") st' rfl rfl (by decide) ⟨.int (lo + i), H, I1, ⟨t, ?_⟩, ⟨rfl, rfl⟩, st', fun b hb => (hf b hb).1⟩⟩
  rw [Int.mul_one]
 done := by
  intro X hP hw hK hc i pins s σ H E I hf st hg
  subst hP hw hK
  obtain ⟨f0, f1, f2, f3, f4, f5⟩ := hf it (by simp)
  exact wpAny_pyNext_range_end (I.ok.hd hc) st (by have : n <= i := hg; omega) fun h' eb => ⟨rfl, I.turned (t' := s.toks) (fun b o hb e => eb b o hb e) f0 f1 f3 f4 f5⟩
 self := fun _ _ _ _ _ st h => wpAny_pyIter_rangeiter st h
section
variable {X : Cx} {tg : Expr}
def aHv (K : PySem.W.Frag) (tl : TE) : TI := fun σ H R => tl σ H fun x H1 => ∃ a, x = .ref a /\ (∃ xs, SqL K H1 a xs) /\ R (Itl K a) H1
theorem aDt {l : Expr} {tl : TE} (hl : PE X l tl) : PI X tg l (aHv X.K tl) := by
 intro pins s σ H R I h
 refine thn (hl pins s σ H _ I h) fun v s1 ⟨x, H1, I1, r1, q1⟩ => ?_
 obtain ⟨a, e, ⟨xs, hq⟩, q⟩ := q1
 subst e
 cases r1
 obtain ⟨its, rv, p, hz⟩ := I1.list hq
 refine wpAny_pyIter_list p.isList ?_
 refine ⟨s1.heap.objs.size, [s1.heap.objs.size], _, _, H1, rfl, I1.kept (t' := s1.toks) fun b o e => Heap.get?_push_of_some _ e, wO a _, ⟨_, Heap.get?_push_size _ rfl, rfl, rfl⟩, fun b hb => ?_, q⟩
 have e : b = s1.heap.objs.size := by simpa using hb
 subst e
 exact I1.fpOk (Nat.le_refl _) (I1.hok.fresh (Nat.le_refl _))
theorem uP {pins : List (Addr × Obj)} {σ : St} {H : Hp} {s : Shared} {R : It -> Hp -> Prop} {E : Value -> Shared -> Prop} {lo hi : Int} {t u v : Tok} {tk : Nat} (I : Inv X pins σ H s) (h1 : -(2 ^ 62) <= lo) (h2 : lo < 2 ^ 62) (h3 : -(2 ^ 62) <= hi) (h4 : hi < 2 ^ 62)
  (q : R (Itr lo (hi - lo).toNat) H) : wpAny (model X.prog X.w) X.A (pyIter (.ref s.heap.objs.size)) (PIE X pins σ tg R) E { s with heap := s.heap.push { cls := .type "range", data := .fields #[.int lo t, .int hi u, .int 1 v] }, toks := tk } := by
 refine wpAny_pyIter_range (IsRange.new ..) (small_one h1 h2 h3 h4) ?_
 have I1 : Inv X pins σ H { s with heap := s.heap.push { cls := .type "range", data := .fields #[.int lo t, .int hi u, .int 1 v] }, toks := tk } := I.kept fun b o e => Heap.get?_push_of_some _ e
 refine ⟨(s.heap.push { cls := .type "range", data := .fields #[.int lo t, .int hi u, .int 1 v] }).objs.size, [(s.heap.push { cls := .type "range", data := .fields #[.int lo t, .int hi u, .int 1 v] }).objs.size], _, _, H, rfl,
  I1.kept (t' := tk) fun b o e => Heap.get?_push_of_some _ e, vX _ lo (hi - lo).toNat, ?_, fun b hb => ?_, q⟩
 ·have e1 : lo + ((0 : Nat) : Int) * 1 = lo := by simp
  have e2 : (((hi - lo).toNat : Nat) : Int) - ((0 : Nat) : Int) = Builtin.Range.rangeSize lo hi 1 := by rw [rangeSize_one]; split <;> omega
  show IsRangeIter _ _ (lo + ((0 : Nat) : Int) * 1) ((((hi - lo).toNat : Nat) : Int) - ((0 : Nat) : Int)) 1
  rw [e1, e2]
  exact Heap.get?_push_size _ rfl
 ·have e : b = (s.heap.push { cls := .type "range", data := .fields #[.int lo t, .int hi u, .int 1 v] }).objs.size := by simpa using hb
  subst e
  exact I1.fpOk (Nat.le_refl _) (I1.hok.fresh (Nat.le_refl _))
def aG2 (ta : TA) : TI := fun σ H R => ta σ H fun vs H1 => ∃ j : Int, vs = [.int j] /\ -(2 ^ 62) <= j /\ j < 2 ^ 62 /\ R (Itr 0 j.toNat) H1
def aHz (ta : TA) : TI := fun σ H R => ta σ H fun vs H1 => ∃ i j : Int, vs = [.int i, .int j] /\ (-(2 ^ 62) <= i /\ i < 2 ^ 62 /\ -(2 ^ 62) <= j /\ j < 2 ^ 62) /\ R (Itr i (j - i).toNat) H1
theorem wN {a : Expr} {ta : TA} {p pos : Pos} (hg : Gl X "range") (hm : X.mg "range" = none) (ha : PA X [a] ta) (hs : starEach [a] X.env = [(false, eval a X.env)] := by rfl) : PI X tg (.Call (.Name "range" p) [a] [] pos) (aG2 ta) := by
 intro pins s σ H R I h
 refine Call_ (n4 I hg hm boot_range (PyProof.Rows.callWith_type1 (thn (ha pos pins s σ H _ I h) fun us s1 ⟨vs, H1, I1, r1, q1⟩ => ?_) hs rfl))
 obtain ⟨j, e, q1, q2, q⟩ := q1
 subst e
 cases r1 with
 | cons r rr =>
  cases rr
  obtain ⟨t, rfl⟩ := r
  exact call_range_1 (uP I1 (by omega) (by omega) q1 q2 (by simpa using q))
theorem wZ {a b : Expr} {ta : TA} {p pos : Pos} (hg : Gl X "range") (hm : X.mg "range" = none) (ha : PA X [a, b] ta) (hs : starEach [a, b] X.env = [(false, eval a X.env), (false, eval b X.env)] := by rfl) (hs2 : starEach [b] X.env = [(false, eval b X.env)] := by rfl) :
  PI X tg (.Call (.Name "range" p) [a, b] [] pos) (aHz ta) := by
 intro pins s σ H R I h
 refine Call_ (n4 I hg hm boot_range (PyProof.Rows.callWith_type1 (thn (ha pos pins s σ H _ I h) fun us s1 ⟨vs, H1, I1, r1, q1⟩ => ?_) (by rw [hs, hs2]) (by rw [hs2]; rfl)))
 obtain ⟨i, j, e, ⟨q1, q2, q3, q4⟩, q⟩ := q1
 subst e
 cases r1 with
 | cons r rr =>
  cases rr with
  | cons r' rr =>
   cases rr
   obtain ⟨t, rfl⟩ := r
   obtain ⟨t', rfl⟩ := r'
   exact call_range_2 (uP I1 q1 q2 q3 q4 q)
def aI6 (wi : TI) (g : TG) (tb : TS) : TS := fun D σ H => wi σ H fun J H1 => ∃ W : Nat -> Nat -> St -> Hp -> Prop, (∃ m, W 0 m σ H1) /\ ∀ i m σ H, W i m σ H ->
 (J.stop i H /\ D.nx σ H) \/ (J.go i H /\ ∃ N : St -> Hp -> Prop, (∀ σ' H', N σ' H' -> ∃ m', m' < m /\ W (i + 1) m' σ' H') /\ ∀ x H', J.yld i H x H' -> g x σ H' fun σ2 H2 => tb { D with nx := N, ct := N, bk := D.nx } σ2 H2)
def uM (fp : List Addr) (h : Heap) : List (Addr × Obj) := fp.filterMap fun b => (h.get? b).map fun o => (b, o)
theorem gF {fp : List Addr} {h : Heap} {b : Addr} {o : Obj} (hb : b ∈ fp) (e : h.get? b = some o) : (b, o) ∈ uM fp h := List.mem_filterMap.mpr ⟨b, hb, by rw [e]; rfl⟩
theorem yE {fp : List Addr} {h : Heap} {p : Addr × Obj} (hp : p ∈ uM fp h) : p.1 ∈ fp /\ h.get? p.1 = some p.2 := by
 obtain ⟨b, hb, e⟩ := List.mem_filterMap.mp hp
 cases q : h.get? b with
 | none => rw [q] at e; cases e
 | some o =>
  rw [q] at e
  have e' : (b, o) = p := Option.some.inj e
  subst e'
  exact ⟨hb, q⟩
theorem Inv.pinned {pins : List (Addr × Obj)} {σ : St} {H : Hp} {s : Shared} {fp : List Addr} (I : Inv X pins σ H s) (hf : ∀ b ∈ fp, aA4 X pins H b) (ho : ∀ b ∈ fp, ∃ o, s.heap.get? b = some o /\ ∀ v, o.data ≠ .cell v) : Inv X (pins ++ uM fp s.heap) σ H s :=
 I.pins_of fun p hp => (List.mem_append.mp hp).elim (fun z => I.pin p (List.mem_append_right _ z)) fun z => by
  obtain ⟨hb, e⟩ := yE z
  obtain ⟨f0, f1, f2, _⟩ := hf p.1 hb
  obtain ⟨o, e', d⟩ := ho p.1 hb
  rw [e] at e'; cases e'
  exact ⟨e, f0, f1, f2, d⟩
theorem Inv.unpinned {pins pl : List (Addr × Obj)} {σ : St} {H : Hp} {s : Shared} (I : Inv X (pins ++ pl) σ H s) : Inv X pins σ H s := I.pins_of fun p hp => I.pin p (List.mem_append_right _ (List.mem_append_left _ hp))
theorem aD6 {iter : Expr} {body : List Stmt} {wi : TI} {g : TG} {tb : TS} {pos : Pos} (hp : PassesOwn (model X.prog X.w) X.A X.env X.xe) (hc : X.calm = true) (hi : PI X tg iter wi) (hg : PG X tg g) (hb : PSs X body tb)
  (hs : ∀ x, foldedSetIterable iter X.env x = pure x := by intro _; rfl) : PS X (.For tg iter body [] pos) (aI6 wi g tb) := by
 intro pins s σ H D I h
 refine wpAny_For (thn (hi pins s σ H _ I h) fun v s1 h1 => thn h1 fun itv s2 h2 => ?_) hs
 obtain ⟨it, fp, tn, J, H2, e, I2, T, st2, f2, W, ⟨m0, w0⟩, turn⟩ := h2
 subst e
 have stat : ∀ {H' : Hp}, (∀ b ∈ fp, H' b = none) -> ∀ b ∈ fp, aA4 X pins H' b := fun hn b hb => ⟨hn b hb, (f2 b hb).2⟩
 refine codeAny_forLoop_any (fun n s' => ∃ i σ' H', Inv X pins σ' H' s' /\ tn i s'.heap /\ (∀ b ∈ fp, H' b = none) /\ W i n σ' H') ?_ m0 ⟨0, σ, H2, I2, st2, fun b hb => (f2 b hb).1, w0⟩
 rintro n s3 ⟨i, σ3, H3, I3, st3, fr3, w3⟩
 rcases turn i n σ3 H3 w3 with ⟨stop, qn⟩ | ⟨go, N, hN, step⟩
 ·refine wpAny_passesOwn hp (thn (T.done X rfl rfl rfl hc i pins s3 σ3 H3 X.xe I3 (stat fr3) st3 stop) fun r s4 ⟨hr, I4⟩ => ?_)
  subst hr
  exact wpAny_execs_nil ⟨σ3, H3, I4, qn⟩
 ·refine wpAny_passesOwn hp (thn (T.item X rfl rfl rfl hc i pins s3 σ3 H3 X.xe I3 (stat fr3) st3 go) fun r s4 ⟨u, hr, h4⟩ => ?_)
  subst hr
  refine wpAny_passesOwn hp (thn h4 fun _ s5 ⟨x, H5, I5, r5, y5, st5, fr5⟩ => ?_)
  have I5' := I5.pinned (stat fr5) (T.obj _ _ st5)
  refine wpAny_passesOwn hp (thn (hg _ s5 σ3 H5 x u _ I5' r5 (step x H5 y5)) fun _ s6 ⟨σ6, H6, I6, q6⟩ => ?_)
  refine wpAny_passesOwn hp (thn (hb _ s6 σ6 H6 _ I6 q6) fun f s7 q7 => ?_)
  have again : ∀ {σ7 : St} {H7 : Hp}, Inv X (pins ++ uM fp s5.heap) σ7 H7 s7 -> N σ7 H7 -> ∃ m, m < n /\ ∃ i σ' H', Inv X pins σ' H' s7 /\ tn i s7.heap /\ (∀ b ∈ fp, H' b = none) /\ W i m σ' H' := fun {σ7 H7} I7 n7 => by
   obtain ⟨m', hm, w7⟩ := hN σ7 H7 n7
   refine ⟨m', hm, i + 1, σ7, H7, I7.unpinned, T.keep _ _ _ st5 fun b hb o e => (I7.pin (b, o) (List.mem_append_right _ (List.mem_append_right _ (gF hb e)))).1, fun b hb => ?_, w7⟩
   obtain ⟨o, e, d⟩ := T.obj _ _ st5 b hb
   exact (I7.pin (b, o) (List.mem_append_right _ (List.mem_append_right _ (gF hb e)))).2.1
  cases f with
  | next => obtain ⟨σ7, H7, I7, n7⟩ := q7; exact again I7 n7
  | cont => obtain ⟨σ7, H7, I7, n7⟩ := q7; exact again I7 n7
  | brk => obtain ⟨σ7, H7, I7, q7⟩ := q7; exact ⟨σ7, H7, I7.unpinned, q7⟩
  | ret v => obtain ⟨x7, σ7, H7, I7, r7, q7⟩ := q7; exact ⟨x7, σ7, H7, I7.unpinned, r7, q7⟩
end
abbrev R2 := V -> V -> Hp -> VK -> Prop
def OpR (X : Cx) (f : Value -> Value -> Sem Value) (r : R2) : Prop :=
 ∀ (pins : List (Addr × Obj)) (s : Shared) (σ : St) (H : Hp) (x y : V) (v u : Value) (Q : VK), Inv X pins σ H s -> RelV x v -> RelV y u -> r x y H Q ->
  wpAny (model X.prog X.w) X.A (f v u) (EP X pins σ Q) X.xe s
def UnR (X : Cx) (f : Value -> Sem Value) (r : V -> Hp -> VK -> Prop) : Prop :=
 ∀ (pins : List (Addr × Obj)) (s : Shared) (σ : St) (H : Hp) (x : V) (v : Value) (Q : VK), Inv X pins σ H s -> RelV x v -> r x H Q ->
  wpAny (model X.prog X.w) X.A (f v) (EP X pins σ Q) X.xe s
def kO (X : Cx) (f : Value) (r : List V -> Hp -> VK -> Prop) : Prop :=
 ∀ (pins : List (Addr × Obj)) (s : Shared) (σ : St) (H : Hp) (xs : List V) (us : List Value) (Q : VK), Inv X pins σ H s -> Vals xs us -> r xs H Q ->
  wpAny (model X.prog X.w) X.A (call f us) (EP X pins σ Q) X.xe s
def tOp (r : R2) (ta tb : TE) : TE := fun σ H Q => ta σ H fun x H1 => tb σ H1 fun y H2 => r x y H2 Q
def tUn (r : V -> Hp -> VK -> Prop) (ta : TE) : TE := fun σ H Q => ta σ H fun x H1 => r x H1 Q
def rI (C : Int -> Int -> Prop) (g : Int -> Int -> V) : R2 := fun x y H Q => ∃ i j, x = .int i /\ y = .int j /\ C i j /\ Q (g i j) H
def rI0 (g : Int -> Int -> V) : R2 := fun x y H Q => ∃ i j, x = .int i /\ y = .int j /\ Q (g i j) H
def rU (g : Int -> V) : V -> Hp -> VK -> Prop := fun x H Q => ∃ i, x = .int i /\ Q (g i) H
section
variable {X : Cx} {a b c : Expr} {ta tb tc : TE} {pos : Pos}
theorem aGv (ha : PE X a ta) (hb : PE X b tb) {pins : List (Addr × Obj)} {s : Shared} {σ : St} {H : Hp} {R : V -> V -> Hp -> Prop} (I : Inv X pins σ H s)
  (h : ta σ H fun x H1 => tb σ H1 fun y H2 => R x y H2) {Q : Value -> Shared -> Prop} {f : Value -> Value -> Sem Value}
  (hf : ∀ v u s2 x y H2, Inv X pins σ H2 s2 -> RelV x v -> RelV y u -> R x y H2 -> wpAny (model X.prog X.w) X.A (f v u) Q X.xe s2) :
  wpAny (model X.prog X.w) X.A (eval a X.env) (fun v s₁ => wpAny (model X.prog X.w) X.A (eval b X.env) (fun u s₂ => wpAny (model X.prog X.w) X.A (f v u) Q X.xe s₂) X.xe s₁) X.xe s := by
 refine thn (ha pins s σ H _ I h) fun v s1 ⟨x, H1, I1, r1, q1⟩ => ?_
 refine thn (hb pins s1 σ H1 _ I1 q1) fun u s2 ⟨y, H2, I2, r2, q2⟩ => ?_
 exact hf v u s2 x y H2 I2 r1 r2 q2
theorem aH5 {op : Operator} {r : R2} (ho : OpR X (binaryOp op) r) (ha : PE X a ta) (hb : PE X b tb) : PE X (.BinOp a op b pos) (tOp r ta tb) := by
 intro pins s σ H Q I h
 exact wpAny_BinOp (aGv ha hb I h fun v u s2 x y H2 I2 rx ry q => ho pins s2 σ H2 x y v u Q I2 rx ry q)
theorem aHm {op : UnaryOp} {r : V -> Hp -> VK -> Prop} (ho : UnR X (unaryOp op) r) (ha : PE X a ta) : PE X (.UnaryOp op a pos) (tUn r ta) := by
 intro pins s σ H Q I h
 exact UnaryOp_ (thn (ha pins s σ H _ I h) fun v s1 ⟨x, H1, I1, r1, q1⟩ => ho pins s1 σ H1 x v Q I1 r1 q1)
theorem opI {f : Value -> Value -> Sem Value} {C : Int -> Int -> Prop} {g : Int -> Int -> Int}
  (rule : ∀ (i j : Int) (t u : Tok) (s : Shared) (Q : Value -> Shared -> Prop) (E : Value -> Shared -> Prop), C i j -> Q (.int (g i j) s.toks) { s with toks := s.toks + 1 } -> wpAny (model X.prog X.w) X.A (f (.int i t) (.int j u)) Q E s) :
  OpR X f (rI C fun i j => .int (g i j)) := by
 intro pins s σ H x y v u Q I rx ry h
 obtain ⟨i, j, rfl, rfl, hc, q⟩ := h
 obtain ⟨t, rfl⟩ := rx
 obtain ⟨t', rfl⟩ := ry
 exact rule i j t t' s _ _ hc ⟨.int (g i j), H, I.tok _, ⟨_, rfl⟩, q⟩
theorem aH7 {f : Value -> Value -> Sem Value} {g : Int -> Int -> Int}
  (rule : ∀ (i j : Int) (t u : Tok) (s : Shared) (Q : Value -> Shared -> Prop) (E : Value -> Shared -> Prop), Q (.int (g i j) s.toks) { s with toks := s.toks + 1 } -> wpAny (model X.prog X.w) X.A (f (.int i t) (.int j u)) Q E s) :
  OpR X f (rI0 fun i j => .int (g i j)) := by
 intro pins s σ H x y v u Q I rx ry h
 obtain ⟨i, j, rfl, rfl, q⟩ := h
 obtain ⟨t, rfl⟩ := rx
 obtain ⟨t', rfl⟩ := ry
 exact rule i j t t' s _ _ ⟨.int (g i j), H, I.tok _, ⟨_, rfl⟩, q⟩
theorem aIe {f : Value -> Value -> Sem Value} {g : Int -> Int -> Bool}
  (rule : ∀ (i j : Int) (t u : Tok) (s : Shared) (Q : Value -> Shared -> Prop) (E : Value -> Shared -> Prop), Q (.bool (g i j)) s -> wpAny (model X.prog X.w) X.A (f (.int i t) (.int j u)) Q E s) :
  OpR X f (rI0 fun i j => .bl (g i j)) := by
 intro pins s σ H x y v u Q I rx ry h
 obtain ⟨i, j, rfl, rfl, q⟩ := h
 obtain ⟨t, rfl⟩ := rx
 obtain ⟨t', rfl⟩ := ry
 exact rule i j t t' s _ _ ⟨.bl (g i j), H, I, rfl, q⟩
def aD3 (i j : Int) : Prop := 0 <= j /\ j <= 1000000 /\ i.natAbs < 2 ^ 64
theorem aFv : OpR X (binaryOp .Add) (rI0 fun i j => .int (i + j)) := aH7 fun _ _ _ _ _ _ _ q => add_int q
theorem qC : OpR X (binaryOp .Sub) (rI0 fun i j => .int (i - j)) := aH7 fun _ _ _ _ _ _ _ q => sub_int q
theorem bV : OpR X (binaryOp .Mod) (rI (fun _ j => j ≠ 0) fun i j => .int (i.fmod j)) := opI fun _ _ _ _ _ _ _ hc q => mod_int' hc q
theorem mH : OpR X (binaryOp .Pow) (rI aD3 fun i j => .int (i ^ j.toNat)) := opI fun _ _ _ _ _ _ _ hc q => pow_int_small hc.1 hc.2.1 hc.2.2 q
theorem unI {f : Value -> Sem Value} {g : Int -> Int}
  (rule : ∀ (i : Int) (t : Tok) (s : Shared) (Q : Value -> Shared -> Prop) (E : Value -> Shared -> Prop), Q (.int (g i) s.toks) { s with toks := s.toks + 1 } -> wpAny (model X.prog X.w) X.A (f (.int i t)) Q E s) :
  UnR X f (rU fun i => .int (g i)) := by
 intro pins s σ H x v Q I rx h
 obtain ⟨i, rfl, q⟩ := h
 obtain ⟨t, rfl⟩ := rx
 exact rule i t s _ _ ⟨.int (g i), H, I.tok _, ⟨_, rfl⟩, q⟩
theorem aGj : UnR X (unaryOp .USub) (rU fun i => .int (-i)) := unI fun _ _ _ _ _ q => neg_int q
end
section
variable {X : Cx} {a b c : Expr} {ta tb tc : TE} {pos : Pos}
theorem nS : OpR X (compareOp .Lt) (rI0 fun i j => .bl (decide (i < j))) := aIe fun _ _ _ _ _ _ _ q => lt_int q
theorem sC : OpR X (compareOp .Gt) (rI0 fun i j => .bl (decide (j < i))) := aIe fun _ _ _ _ _ _ _ q => gt_int q
theorem OpR.or {f : Value -> Value -> Sem Value} {r r' : R2} (h : OpR X f r) (h' : OpR X f r') : OpR X f (fun x y H Q => r x y H Q \/ r' x y H Q) := by
 intro pins s σ H x y v u Q I rx ry q
 rcases q with q | q
 ·exact h pins s σ H x y v u Q I rx ry q
 ·exact h' pins s σ H x y v u Q I rx ry q
theorem cG (b : Expr) {op : CmpOp} (h : op ≠ .In := by decide) (h2 : op ≠ .NotIn := by decide) : behindInMarks op b = false := by
 have e1 : (op == CmpOp.In) = false := by cases op <;> first | rfl | exact absurd rfl h
 have e2 : (op == CmpOp.NotIn) = false := by cases op <;> first | rfl | exact absurd rfl h2
 cases b <;> simp [behindInMarks, e1, e2]
theorem aDr {op : CmpOp} {r : R2} (ho : OpR X (compareOp op) r) (ha : PE X a ta) (hb : PE X b tb) (hm : behindInMarks op b = false) : PE X (.Compare a [op] [b] pos) (tOp r ta tb) := by
 intro pins s σ H Q I h
 exact wpAny_Compare1 (aGv ha hb I h fun v u s2 x y H2 I2 rx ry q => ho pins s2 σ H2 x y v u Q I2 rx ry q) hm
def aHx (t : TE) : TT := fun σ H Q => t σ H fun x H' => ∃ k, x = .bl k /\ Q k H'
theorem aCn {op : CmpOp} {r : R2} (ho : OpR X (compareOp op) r) (ha : PE X a ta) (hb : PE X b tb) (hm : behindInMarks op b = false) : PT X (.Compare a [op] [b] pos) (aHx (tOp r ta tb)) := by
 intro pins s σ H Q I h
 refine wpAny_isTrue_Compare1 (thn (ha pins s σ H _ I h) fun v s1 ⟨x, H1, I1, r1, q1⟩ => thn (hb pins s1 σ H1 _ I1 q1) fun u s2 ⟨y, H2, I2, r2, q2⟩ =>
  thn (ho pins s2 σ H2 x y v u _ I2 r1 r2 q2) fun c s3 ⟨z, H3, I3, r3, k, e, q3⟩ => ?_) hm
 subst e
 cases r3
 exact wpAny_truthy_bool ⟨H3, I3, q3⟩
theorem vD : (sizeLine : Nat) < 2 ^ 63 := by rw [sizeLine_eq]; decide
theorem vV : OpR X (binaryOp .Add) (fun x y H Q => ∃ i j, x = .str i /\ y = .str j /\ i.length + j.length <= sizeLine /\ Q (.str (i ++ j)) H) := by
 intro pins s σ H x y v u Q I rx ry h
 obtain ⟨i, j, rfl, rfl, hz, q⟩ := h
 obtain ⟨t, rfl⟩ := rx
 obtain ⟨t', rfl⟩ := ry
 exact add_str (fun t' tk => ⟨.str (i ++ j), H, I.tok _, ⟨_, rfl⟩, q⟩) hz
theorem vals1 {x : V} {us : List Value} (r : Vals [x] us) : ∃ u, us = [u] /\ RelV x u := by
 cases r with
 | cons r1 r2 => cases r2; exact ⟨_, rfl, r1⟩
theorem vals2 {x y : V} {us : List Value} (r : Vals [x, y] us) : ∃ u w', us = [u, w'] /\ RelV x u /\ RelV y w' := by
 cases r with
 | cons r1 r2 =>
  cases r2 with
  | cons r3 r4 => cases r4; exact ⟨_, _, rfl, r1, r3⟩
theorem lO : kO X (.builtin "abs") (fun xs H Q => ∃ i, xs = [.int i] /\ Q (.int (if i < 0 then -i else i)) H) := by
 intro pins s σ H xs us Q I r h
 obtain ⟨i, rfl, q⟩ := h
 obtain ⟨u, rfl, t, rfl⟩ := vals1 r
 exact call_abs_int fun u tk => ⟨.int (if i < 0 then -i else i), H, I.tok _, ⟨_, rfl⟩, q⟩
theorem x9 (hc : X.calm = true) : kO X (.builtin "min") (fun xs H Q => ∃ i j, xs = [.int i, .int j] /\ Q (.int (if j < i then j else i)) H) := by
 intro pins s σ H xs us Q I r h
 obtain ⟨i, j, rfl, q⟩ := h
 obtain ⟨u, w', rfl, ⟨t, rfl⟩, ⟨t', rfl⟩⟩ := vals2 r
 refine min_two_ints (I.ok.hd hc) fun h' tk k => ⟨_, H, I.kept k, ?_, q⟩
 by_cases hj : j < i
 ·rw [if_pos hj, if_pos hj]; exact ⟨_, rfl⟩
 ·rw [if_neg hj, if_neg hj]; exact ⟨_, rfl⟩
end
structure ObjM (h : Heap) (x dx C : Addr) (mA : Str -> Option Value) : Prop where
 obj : h.get? x = some (PySem.W.instObj C dx)
 ns : h.Ns1 dx mA
 ne : dx ≠ x
theorem yM {h : Heap} {dx : Addr} {mA : Str -> Option Value} (n : h.Ns1 dx mA) : ∃ od, h.get? dx = some od /\ ∀ name, PySem.W.lookIn name od = some (mA name) := by
 obtain ⟨o, es, ep, ho, hd, hk, _, hm⟩ := n
 refine ⟨o, ho, fun name => ?_⟩
 have e := hm name
 unfold nsFind findBy at e
 rw [<- Array.find?_toList] at e
 unfold PySem.W.lookIn
 rw [hd]
 dsimp only
 split
 ·rename_i y q
  rw [q] at e
  exact congrArg some e
 ·rename_i q
  rw [q] at e
  have a : es.toList.any (·.refKey) = false := by
   rw [List.any_eq_false]
   intro y hy
   obtain ⟨z, t, hkey⟩ := hk y (Array.mem_toList_iff.mp hy)
   simp [DictEntry.refKey, hkey]
  have a' : ¬ es.toList.any (·.refKey) = true := by rw [a]; exact Bool.false_ne_true
  rw [if_neg a']
  exact congrArg some e
theorem ObjM.look {h : Heap} {x dx C : Addr} {mA : Str -> Option Value} (I : ObjM h x dx C mA) : ∃ od, PySem.W.InstAt h x (PySem.W.instObj C dx) C (some od) /\ ∀ name, PySem.W.lookIn name od = some (mA name) :=
 let ⟨od, ho, hl⟩ := yM I.ns
 ⟨od, ⟨I.obj, rfl, rfl, ho⟩, hl⟩
section
variable {prog : Program} {w : World} {A : Around} {E : Value -> Shared -> Prop} {s : Shared} {K : PySem.W.Frag} {x dx C f : Addr} {mA : Str -> Option Value} {name : Str} {v : Value}
end
theorem RelO.some_of {v : V} {o : Option Value} (r : RelO (some v) o) : ∃ u, o = some u /\ RelV v u := by
 cases o with
 | none => exact (show False from r).elim
 | some u => exact ⟨u, rfl, r⟩
section
variable {P : Program} {w : World} {H H' : Hp} {h h' : Heap} {a C dx : Addr} {fs fs' : List (Str × V)}
theorem aCq (hok : HOk P w H h) (e : H a = some (.ins C dx fs)) : ∃ mA, ObjM h a dx C mA /\ (∀ f, RelO (fs.lookup f) (mA f)) /\ PySem.Within mA (fs.map (·.1)) /\ fs.length <= 1000 /\ H dx = some (.own a) := by
 obtain ⟨d, z, ne, ob, mA, n, r, q⟩ := (show ObjOk P w H h a (.ins C dx fs) from hok a _ e)
 exact ⟨mA, ⟨ob, n, ne⟩, r, q, z, d⟩
end
structure Cls (K : PySem.W.Frag) (C : Addr) : Prop where
 pg : PySem.W.plainGet K C Str.empty = true
 hd : PySem.W.hasDictIn K C = true
 po : PySem.W.plainOver K C = true
 sa : PySem.W.findIn K (.ref C) "__setattr__" = some (some (.builtin "object.__setattr__"))
theorem Cls.get {K : PySem.W.Frag} {C : Addr} (c : Cls K C) (f : Str) : PySem.W.plainGet K C f = true := c.pg
section
variable {X : Cx} {pins : List (Addr × Obj)} {σ : St} {H : Hp} {s : Shared} {a C dx : Addr} {fs : List (Str × V)} {f : Str} {v : V} {A : Around} {E : Value -> Shared -> Prop}
end
section
variable {X : Cx} {o e value : Expr} {f : Str} {pos pos' tpos : Pos} {ta tv : TE}
end
section
variable {X : Cx} {pins : List (Addr × Obj)} {σ : St} {H : Hp} {s : Shared} {A : Around} {E : Value -> Shared -> Prop} {Q : Value -> Shared -> Prop} {c : Value} {b : Bool}
inductive tZ (K : PySem.W.Frag) (H : Hp) : V -> Value -> Prop where
 | non : tZ K H .non (.type "NoneType")
 | bl (x : Bool) : tZ K H (.bl x) (.type "bool")
 | int (i : Int) : tZ K H (.int i) (.type "int")
 | str (x : Str) : tZ K H (.str x) (.type "str")
 | flt (x : UInt64) : tZ K H (.flt x) (.type "float")
 | lst {a : Addr} {xs : List V} (e : H a = some (.lst xs)) : tZ K H (.ref a) (.type "list")
 | frz {a : Addr} {o : Obj} {xs : List V} (e : H a = some (.frz o (.lst xs))) : tZ K H (.ref a) (.type "list")
 | tup {a : Addr} {xs : List V} (e : H a = some (.tup xs)) : tZ K H (.ref a) (.type "tuple")
 | dK {a : Addr} {kvs : List (Key × V)} (e : H a = some (.dK kvs)) : tZ K H (.ref a) (.type "dict")
 | dT {a : Addr} {kvs : List (List Key × V)} (e : H a = some (.dT kvs)) : tZ K H (.ref a) (.type "dict")
 | ins {a C dx : Addr} {fs : List (Str × V)} (e : H a = some (.ins C dx fs)) (cl : Cls K C) (ha : PySem.W.findIn K (.ref C) "__class__" = some (some (.builtin "object.__class__")))
   (hn : PySem.W.specialIn K (.builtin "object.__class__") "__get__" = some (some (.builtin "getset_descriptor.__get__"))) (htk : PySem.W.takesIn K (.builtin "object.__class__") = some true)
   (hm : PySem.W.mroIn K C (.type "object") = some true) : tZ K H (.ref a) (.ref C)
theorem yU {x : V} {u t : Value} (I : Inv X pins σ H s) (rx : RelV x u) (ty : tZ X.K H x t) (e : PySem.W.kitOne X.K t c = some b) (h : ∀ tk, Q (.bool b) { s with toks := tk }) :
  wpAny (model X.prog X.w) A (call (.builtin "isinstance") [u, c]) Q E s := by
 cases ty with
 | non => cases (show u = Value.none from rx); exact PySem.W.kia_one PySem.W.kitx_none I.kIn True.intro e (fun z => nomatch z) h
 | bl y => cases (show u = Value.bool y from rx); exact PySem.W.kia_one PySem.W.kitx_bool I.kIn True.intro e (fun z => nomatch z) h
 | int i => obtain ⟨t, q⟩ := (show ∃ t, u = Value.int i t from rx); cases q; exact PySem.W.kia_one PySem.W.kitx_int I.kIn True.intro e (fun z => nomatch z) h
 | str y => obtain ⟨t, q⟩ := (show ∃ t, u = Value.str y t from rx); cases q; exact PySem.W.kia_one PySem.W.kitx_str I.kIn True.intro e (fun z => nomatch z) h
 | flt y => obtain ⟨t, q⟩ := (show ∃ t, u = Value.float y t from rx); cases q; exact PySem.W.kia_one PySem.W.kitx_float I.kIn True.intro e (fun z => nomatch z) h
 | @lst a xs ea =>
  cases (show u = Value.ref a from rx)
  obtain ⟨_, _, n, _, h1⟩ := (show ObjOk X.prog X.w H s.heap a (.lst xs) from I.hok a _ ea)
  exact PySem.W.kia_one PySem.W.kitx_list I.kIn ⟨_, h1, rfl⟩ e (fun z => nomatch z) h
 | @frz a ob xs ea =>
  cases (show u = Value.ref a from rx)
  obtain ⟨_, _, _, n, _, h1⟩ := (show ObjOk X.prog X.w H s.heap a (.frz ob (.lst xs)) from I.hok a _ ea)
  exact PySem.W.kia_one PySem.W.kitx_list I.kIn ⟨_, h1, rfl⟩ e (fun z => nomatch z) h
 | @tup a xs ea =>
  cases (show u = Value.ref a from rx)
  obtain ⟨_, _, _, p⟩ := (show ObjOk X.prog X.w H s.heap a (.tup xs) from I.hok a _ ea)
  obtain ⟨o, h1, h2, _⟩ := p
  exact PySem.W.kia_one PySem.W.kitx_tuple I.kIn ⟨o, h1, h2⟩ e (fun z => nomatch z) h
 | @dK a kvs ea =>
  cases (show u = Value.ref a from rx)
  obtain ⟨_, _, vs, _, p⟩ := (show ObjOk X.prog X.w H s.heap a (.dK kvs) from I.hok a _ ea)
  obtain ⟨o, es, ep, h1, h2, _⟩ := p
  exact PySem.W.kia_one PySem.W.kitx_dict I.kIn ⟨o, h1, h2.1⟩ e (fun z => nomatch z) h
 | @dT a kvs ea =>
  cases (show u = Value.ref a from rx)
  obtain ⟨_, _, xs, _, o, es, ep, h1, h2, _⟩ := (show ObjOk X.prog X.w H s.heap a (.dT kvs) from I.hok a _ ea)
  exact PySem.W.kia_one PySem.W.kitx_dict I.kIn ⟨o, h1, h2.1⟩ e (fun z => nomatch z) h
 | @ins a C dx fs ea cl ha hn htk hm =>
  cases (show u = Value.ref a from rx)
  obtain ⟨mA, O, _⟩ := aCq I.hok ea
  obtain ⟨od, J, _⟩ := O.look
  exact PySem.W.kia_one (PySem.W.kitx_own (cl.get _) cl.hd ha hn htk hm) I.kIn J e (fun z => nomatch z) h
end
structure Room (k : Nat) (A : Around) : Prop where
 hd : A.handled = none
 dp : A.depth + 3 * k + 5 < recursionLimit
 un : A.units + 16 * k + 200 < cLine
theorem Room.mono {j k : Nat} {A : Around} (r : Room k A) (h : j <= k) : Room j A := ⟨r.hd, by have := r.dp; omega, by have := r.un; omega⟩
theorem Room.deeper {k : Nat} {A : Around} (r : Room (k + 1) A) (env : Env) : Room k (A.deeper env) :=
 ⟨r.hd, by have := r.dp; show A.depth + 1 + 3 * k + 5 < _; omega, by have := r.un; show A.units + 3 + 16 * k + 200 < _; omega⟩
theorem Room.depth {k : Nat} {A : Around} (r : Room k A) : A.depth < recursionLimit := by have := r.dp; omega
def aIg : TA := fun _ H Q => Q [] H
def aGf (ta : TE) (tr : TA) : TA := fun σ H Q => ta σ H fun x H1 => tr σ H1 fun xs H2 => Q (x :: xs) H2
section
variable {X : Cx} {e : Expr} {es : List Expr} {te : TE} {t : TA} {pos : Pos}
theorem vG : PA X [] aIg := fun _ _ _ _ H Q I h => Calls.spliced_nil ⟨[], H, I, .nil, h⟩
theorem mT (ha : PE X e te) (hr : PA X es t) (hs : starEach (e :: es) X.env = (false, eval e X.env) :: starEach es X.env := by rfl) : PA X (e :: es) (aGf te t) := by
 intro pos pins s σ H Q I h
 rw [hs]
 show wpAny _ _ (spliced ((false, eval e X.env) :: backTo pos (starEach es X.env))) _ _ s
 refine Calls.spliced_cons (thn (ha pins s σ H _ I h) fun u s1 ⟨x, H1, I1, r1, q1⟩ => ?_)
 exact thn (hr pos pins s1 σ H1 _ I1 q1) fun us s2 ⟨xs, H2, I2, r2, q2⟩ => ⟨x :: xs, H2, I2, .cons r1 r2, q2⟩
def aI2 (t : TA) : TE := fun σ H Q => t σ H fun xs H1 => xs.length <= sizeLine /\ ∀ p, H1 p = none -> Q (.ref p) (upd H1 p (.tup xs))
def aIt (t : TA) : TE := fun σ H Q => t σ H fun xs H1 => xs.length <= sizeLine /\ ∀ p, H1 p = none -> Q (.ref p) (upd H1 p (.lst xs))
theorem aF3 {x1} (h : PA X es t) : PE X (.Tuple es x1 pos) (aI2 t) := by
 intro pins s σ H Q I hq
 refine wpAny_Tuple_spliced (thn (h pos pins s σ H _ I hq) fun us s1 ⟨xs, H1, I1, r, z, q⟩ => ⟨by rw [<- r.length]; exact z, ?_⟩)
 have hf : H1 s1.heap.objs.size = none := I1.hok.fresh (Nat.le_refl _)
 refine ⟨.ref s1.heap.objs.size, upd H1 s1.heap.objs.size (.tup xs), I1.laid (t' := s1.toks) (fun b u e => Heap.get?_push_of_some _ e) (Nat.le_refl _) ?_, rfl, q _ hf⟩
 exact ⟨z, us, r, ⟨_, Heap.get?_push_size _ rfl, rfl, _, rfl⟩⟩
theorem aEb (h : PA X es t) : PE X (.List es pos) (aIt t) := by
 intro pins s σ H Q I hq
 refine wpAny_List_spliced (thn (h pos pins s σ H _ I hq) fun us s1 ⟨xs, H1, I1, r, z, q⟩ => ⟨by rw [<- r.length]; exact z, ?_⟩)
 have hf : H1 s1.heap.objs.size = none := I1.hok.fresh (Nat.le_refl _)
 refine ⟨.ref s1.heap.objs.size, upd H1 s1.heap.objs.size (.lst xs), I1.laid (t' := s1.toks) (fun b u e => Heap.get?_push_of_some _ e) (Nat.le_refl _) ?_, rfl, q _ hf⟩
 exact ⟨z, us, 0, r, Heap.get?_push_size _ rfl⟩
end
abbrev Sp := List V -> Hp -> VK -> XK -> Prop
abbrev CXT := List Env -> Hp -> Shared -> XK -> Value -> Shared -> Prop
structure aD2 (P : Program) (w : World) (K : PySem.W.Frag) (mg : Str -> Option Value) (base : Heap) (A : Around) (outer : List Env) (s : Shared) (H : Hp) : Prop where
 frames : A.frames = some outer
 mod : Mod K mg base
 bs : ∀ b o, base.get? b = some o -> s.heap.get? b = some o /\ H b = none
 bsz : base.objs.size <= s.heap.objs.size
 funs : s.heap.FunFrames base outer
 frf : ∀ b ∈ frs outer, H b = none
 hok : HOk P w H s.heap
 bare : AllBare s.gens
def CE (outer : List Env) (P : Program) (w : World) (H : Hp) (s : Shared) (Q : VK) (u : Value) (s' : Shared) : Prop :=
 ∃ v H', s'.os = s.os /\ AllBare s'.gens /\ Un (frs outer) [] H H' s.heap s'.heap /\ HOk P w H' s'.heap /\ RelV v u /\ Q v H'
def CR (CX : CXT) (outer : List Env) (P : Program) (w : World) (H : Hp) (s : Shared) (Q : VK) (E : XK) (r : Result) (s' : Shared) : Prop :=
 match r with
 | .ok (.ret u) => CE outer P w H s Q u s'
 | .ok _ => False
 | .error e => CX outer H s E e s'
structure FnOk (P : Program) (w : World) (K : PySem.W.Frag) (mg : Str -> Option Value) (base : Heap) (CX : CXT) (k : Nat) (f : Addr) (fd : FuncData) (ps : List Str) (sp : Sp) : Prop where
 len : ∀ vs H Q E, sp vs H Q E -> vs.length = ps.length
 run : ∀ (A : Around) (outer : List Env) (s : Shared) (H : Hp) (args : Args) (us : List Value) (vs : List V) (Q : VK) (E : XK), Room k A -> aD2 P w K mg base A outer s H -> BindsTo s fd args (ps.zip us) -> Vals vs us -> sp vs H Q E ->
  codeAny (model P w) A (.call (.ref f) args) (CR CX outer P w H s Q E) s
theorem FnOk.mono {P : Program} {w : World} {K : PySem.W.Frag} {mg : Str -> Option Value} {base : Heap} {CX : CXT} {j k : Nat} {f : Addr} {fd : FuncData} {ps : List Str} {sp : Sp} (F : FnOk P w K mg base CX j f fd ps sp) (h : j <= k) :
  FnOk P w K mg base CX k f fd ps sp := ⟨F.len, fun A outer s H args us vs Q E hr => F.run A outer s H args us vs Q E (hr.mono h)⟩
theorem FnOk.imp {P : Program} {w : World} {K : PySem.W.Frag} {mg : Str -> Option Value} {base : Heap} {CX : CXT} {k : Nat} {f : Addr} {fd : FuncData} {ps : List Str} {sp sp' : Sp} (F : FnOk P w K mg base CX k f fd ps sp)
  (h : ∀ vs H Q E, sp' vs H Q E -> sp vs H Q E) : FnOk P w K mg base CX k f fd ps sp' :=
 ⟨fun vs H Q E q => F.len vs H Q E (h _ _ _ _ q), fun A outer s H args us vs Q E hr he hb hv hs => F.run A outer s H args us vs Q E hr he hb hv (h _ _ _ _ hs)⟩
section
variable {X : Cx} {pins : List (Addr × Obj)} {σ : St} {H : Hp} {s s' : Shared}
theorem Inv.env0 (I : Inv X pins σ H s) : aD2 X.prog X.w X.K X.mg X.base X.A X.stack s H :=
 ⟨I.ok.frames, I.ok.mod, I.bs, Nat.le_trans I.ok.bsz I.sz, I.stack, I.stkFree, I.hok, I.bare⟩
theorem Inv.after {Q : VK} {u : Value} (I : Inv X pins σ H s) (h : CE X.stack X.prog X.w H s Q u s') : EP X pins σ Q u s' := by
 obtain ⟨v, H', os, bare, un, hok, r, q⟩ := h
 obtain ⟨hh, g, d, t, os'⟩ := s'
 obtain rfl : os' = s.os := os
 exact ⟨v, H', I.call (h' := hh) (g' := g) (d' := d) (t' := t) (ch := []) un hok bare (fun b z => absurd z (by simp)), r, q⟩
end
def Binds (K : PySem.W.Frag) (fd : FuncData) (ps : List Str) (ds : List Value) : Prop :=
 ∀ (s : Shared) (us : List Value), K.In s.heap -> (us ++ ds).length = ps.length -> BindsTo s fd ⟨us, []⟩ (ps.zip (us ++ ds))
theorem Binds.all {K : PySem.W.Frag} {fd : FuncData} {ps : List Str} (h : ∀ us : List Value, us.length = ps.length -> bindArgs fd ⟨us, []⟩ = pure (ps.zip us)) : Binds K fd ps [] := fun s us _ hl => by
 rw [List.append_nil] at hl ⊢
 exact .of_eq (h us hl)
def aFu (CX : CXT) (X : Cx) (E : XK) : Prop := ∀ (pins : List (Addr × Obj)) (σ : St) (H : Hp) (s : Shared) (e : Value) (s' : Shared), Inv X pins σ H s -> CX X.stack H s E e s' -> X.xe e s'
section
variable {X : Cx} {CX : CXT} {k : Nat} {f C : Addr} {fd : FuncData} {ps : List Str} {sp : Sp} {dvs : List V} {ds : List Value} {E : XK} {x m : Str} {p pos apos : Pos} {e o : Expr} {es : List Expr} {ta : TE} {t : TA}
end
section
variable {X : Cx} {CX : CXT} {k : Nat} {f C : Addr} {fd : FuncData} {ps ks : List Str} {sp : Sp} {E : XK} {x m : Str} {p pos apos kpos : Pos} {e o : Expr} {es : List Expr} {kws : List Keyword} {te ta : TE} {t tk : TA} {nm : Option Str}
variable {g : List Value -> List Value -> List Value} {gV : List V -> List V -> List V}
end
structure a9 (N P : List Str) (sc : Scope) : Prop where
 kind : sc.kind = .function
 co : sc.isCoroutine = false
 gen : sc.isGenerator = false
 nd : N.Nodup
 pre : N.take P.length = P
 par : ∀ x ∈ P, sc.names.lookup x = some .local \/ sc.names.lookup x = some .cell
 nofree : ∀ y ∈ sc.names, y.2 ≠ .free
theorem rD {kindOf : Str -> Option NameKind} {x : Str} : ∀ {binds : List (Str × Value)} {m : Str -> Option Value}, (∀ v, (x, v) ∉ binds) -> bindL kindOf binds m x = m x
 | [], _, _ => rfl
 | (n, v) :: r, m, h => by
  unfold bindL
  rw [rD fun w hw => h w (List.mem_cons_of_mem _ hw)]
  split
  ·have : x ≠ n := by rintro rfl; exact h v List.mem_cons_self
   simp [this]
  ·rfl
theorem pY {kindOf : Str -> Option NameKind} {x : Str} : ∀ {binds : List (Str × Value)} {m : Str -> Option Value}, (∀ v, (x, v) ∉ binds) -> bindC kindOf binds m x = m x
 | [], _, _ => rfl
 | (n, v) :: r, m, h => by
  unfold bindC
  rw [pY fun w hw => h w (List.mem_cons_of_mem _ hw)]
  split
  ·rfl
  ·have : x ≠ n := by rintro rfl; exact h v List.mem_cons_self
   simp [this]
theorem qR {kindOf : Str -> Option NameKind} {x : Str} {v : Value} : ∀ {P : List Str} {vs : List Value} {i : Nat} {m : Str -> Option Value}, P.Nodup -> P[i]? = some x -> vs[i]? = some v -> kindOf x = some .local ->
  bindL kindOf (P.zip vs) m x = some v
 | [], _, _, _, _, h, _, _ => by simp at h
 | _ :: _, [], _, _, _, _, h, _ => by simp at h
 | p :: P, w :: vs, 0, m, nd, h1, h2, hk => by
  simp at h1 h2; subst h1; subst h2
  show bindL kindOf ((p, w) :: P.zip vs) m p = _
  unfold bindL
  rw [rD fun v hv => (List.nodup_cons.mp nd).1 (List.of_mem_zip hv).1, if_pos hk]
  simp
 | p :: P, w :: vs, i + 1, m, nd, h1, h2, hk => by
  show bindL kindOf ((p, w) :: P.zip vs) m x = _
  unfold bindL
  exact qR (i := i) (List.nodup_cons.mp nd).2 (by simpa using h1) (by simpa using h2) hk
theorem qT {kindOf : Str -> Option NameKind} {x : Str} {v : Value} : ∀ {P : List Str} {vs : List Value} {i : Nat} {m : Str -> Option Value}, P.Nodup -> P[i]? = some x -> vs[i]? = some v -> kindOf x ≠ some .local ->
  bindC kindOf (P.zip vs) m x = some v
 | [], _, _, _, _, h, _, _ => by simp at h
 | _ :: _, [], _, _, _, _, h, _ => by simp at h
 | p :: P, w :: vs, 0, m, nd, h1, h2, hk => by
  simp at h1 h2; subst h1; subst h2
  show bindC kindOf ((p, w) :: P.zip vs) m p = _
  unfold bindC
  rw [pY fun v hv => (List.nodup_cons.mp nd).1 (List.of_mem_zip hv).1, if_neg hk]
  simp
 | p :: P, w :: vs, i + 1, m, nd, h1, h2, hk => by
  show bindC kindOf ((p, w) :: P.zip vs) m x = _
  unfold bindC
  exact qT (i := i) (List.nodup_cons.mp nd).2 (by simpa using h1) (by simpa using h2) hk
def start (N : List Str) (vs : List V) : St := vs.map some ++ List.replicate (N.length - vs.length) none
def lL (CX : CXT) (P : Program) (w : World) (K : PySem.W.Frag) (mg : Str -> Option Value) (base : Heap) (N : List Str) (qual : Str) (scope : Scope) (f : Addr) (cd : Value) (A : Around) (outer : List Env) (s : Shared) (H : Hp) (E : XK) : Cx where
 prog := P
 w := w
 K := K
 mg := mg
 base := base
 A := A.deeper (envOfC qual scope s.heap.objs.size f cd)
 N := N
 s₀ := s
 H₀ := H
 env := envOfC qual scope s.heap.objs.size f cd
 outer := outer
 stack := envOfC qual scope s.heap.objs.size f cd :: outer
 ex := []
 calm := true
 fn := fun _ => true
 pn := []
 xe := fun e s' => wpAny (model P w) (A.deeper (envOfC qual scope s.heap.objs.size f cd)) (leaving (envOfC qual scope s.heap.objs.size f cd) e) (fun _ s'' => CX outer H s E e s'') (fun e' s'' => CX outer H s E e' s'') s'
theorem u6 {sc : Scope} {n : Nat} {x : Str} (h : sc.names.lookup x = some .cell) : ∃ c, (cellsFrom n sc.names []).lookup x = some c := by
 have q := PySem.W.cellsFrom_some sc.names n [] (.inl h)
 exact Option.isSome_iff_exists.mp q
theorem rH {CX : CXT} {P : Program} {w : World} {K : PySem.W.Frag} {mg : Str -> Option Value} {base : Heap} {N ps : List Str} {qual : Str} {scope : Scope} {f : Addr} {cd : Value} {A : Around} {outer : List Env} {s s1 : Shared} {H : Hp} {E : XK} {us : List Value} {vs : List V}
  (S : a9 N ps scope) (hd : A.handled = none) (e0 : aD2 P w K mg base A outer s H) (hl : vs.length = ps.length) (r : Vals vs us)
  (x : InCallC s s.heap.objs.size (bindL (envOfC qual scope s.heap.objs.size f cd).kindOf (ps.zip us) fun _ => none) (cellsFrom (s.heap.objs.size + 1) scope.names []) (bindC (envOfC qual scope s.heap.objs.size f cd).kindOf (ps.zip us) fun _ => none) s1) :
  Inv (lL CX P w K mg base N qual scope f cd A outer s H E) [] (start N vs) H s1 := by
 have hpl : ps.length <= N.length := by have := congrArg List.length S.pre; rw [List.length_take] at this; omega
 obtain ⟨h1, tk, rfl, hk⟩ := x.done
 have noA : ∀ b : Addr, b ∉ (lL CX P w K mg base N qual scope f cd A outer s H E).ex := fun b z => absurd (show b ∈ ([] : List Addr) from z) (by simp)
 refine ⟨⟨e0.mod, S.kind, rfl, rfl, Nat.le_refl _, fun y z c h1 h2 => ?_, fun y hy => ?_, fun y c _ h => ?_, fun _ => hd, Around.frames_deeper e0.frames, .inr ⟨rfl, rfl⟩, fun b z => absurd z (noA b), e0.bs, e0.bsz, fun b _ _ => noA b, fun b z => absurd z (noA b), e0.funs, e0.frf⟩,
  rfl, e0.bare, Un.kept hk, ⟨_, x.toInCall.ns, fun i y v h1 h2 h3 => ?_⟩, fun y c h => ⟨_, x.cell y c h⟩, e0.hok.fresh (Nat.le_refl _), fun y c h => ?_, fun p hp => absurd (show p ∈ ([] : List (Addr × Obj)) from hp) (by simp), e0.hok.kept hk, ?_⟩
 ·exact name_of_addr x.apart (PySem.mem_of_lookup h1) (PySem.mem_of_lookup h2)
 ·have hy : scope.names.lookup y = some .cell \/ scope.names.lookup y = some .free := hy
  rcases hy with hy | hy
  ·exact u6 hy
  ·exact absurd rfl (S.nofree _ (PySem.mem_of_lookup hy))
 ·exact Nat.le_of_lt (x.above y c (PySem.mem_of_lookup h))
 ·have hi : i < vs.length := by
   unfold start at h2
   by_cases hi : i < vs.length
   ·exact hi
   ·rw [List.getElem?_append_right (by simpa using hi)] at h2
    rw [List.getElem?_replicate] at h2
    split at h2 <;> cases h2
  have ha : vs[i]? = some v := by
   unfold start at h2
   rw [List.getElem?_append_left (by simpa using hi), List.getElem?_map] at h2
   cases e : vs[i]? with
   | none => rw [e] at h2; cases h2
   | some a => rw [e] at h2; cases h2; rfl
  obtain ⟨u, hu, rv⟩ := r.get ha
  have hp : ps[i]? = some y := by
   rw [<- S.pre, List.getElem?_take_of_lt (by omega)]; exact h1
  have ndP : ps.Nodup := by rw [<- S.pre]; exact S.nd.sublist (List.take_sublist _ _)
  refine ⟨u, rv, ?_⟩
  rcases S.par y (List.mem_of_getElem? hp) with k | k
  ·exact .inl ⟨k, qR ndP hp hu k⟩
  ·obtain ⟨c, e⟩ := u6 (n := s.heap.objs.size + 1) k
   refine .inr ⟨.inl k, c, e, ?_⟩
   have q := x.cell y c e
   rw [qT ndP hp hu (by show scope.names.lookup y ≠ _; rw [k]; decide)] at q
   exact q
 ·exact e0.hok.fresh (Nat.le_of_lt (x.above y c (PySem.mem_of_lookup h)))
 ·unfold start
  show _ = N.length
  rw [List.length_append, List.length_map, List.length_replicate]
  omega
theorem aHa {CX : CXT} {P : Program} {w : World} {K : PySem.W.Frag} {mg : Str -> Option Value} {base : Heap} {k : Nat} {f : Addr} {name qual : Str} {params : Arguments} {body : List Stmt} {scope : Scope} {dV kV doc pm cdv ct oc : Value} {an od : Option Addr}
  {osl : Array (Option Value)} {N ps : List Str} {sp : Sp} (lk : K.lookup f = some ⟨oc, od, .func (PySem.W.fnOf name qual params body scope dV kV doc pm an cdv ct), osl⟩) (hcd : PySem.W.codeIn K cdv qual = true) (S : a9 N ps scope)
  (len : ∀ vs H Q E, sp vs H Q E -> vs.length = ps.length)
  (hbody : ∀ (A : Around) (outer : List Env) (s : Shared) (H : Hp) (vs : List V) (Q : VK) (E : XK), Room k (A.deeper (envOfC qual scope s.heap.objs.size f cdv)) -> sp vs H Q E ->
   ∃ t, PSs (lL CX P w K mg base N qual scope f cdv A outer s H E) body t /\ t { nx := fun _ H' => Q .non H', rt := Q } (start N vs) H) :
  FnOk P w K mg base CX (k + 1) f (PySem.W.fnOf name qual params body scope dV kV doc pm an cdv ct) ps sp := by
 refine ⟨len, fun A outer s H args us vs Q E hr e0 hb r hsp => ?_⟩
 have hl := len _ _ _ _ hsp
 have KX : K.In s.heap := e0.mod.kin.keeps fun b o e => (e0.bs b o e).1
 have lim : s.heap.NoLimit := e0.mod.nolimit.keeps fun b o e => (e0.bs b o e).1
 have hkind : ∀ y ∈ ps.zip us, scope.names.lookup y.1 = some .local \/ (scope.names.lookup y.1 = some .cell /\ ((cellsFrom (s.heap.objs.size + 1) scope.names []).lookup y.1).isSome = true) := fun ⟨n, v⟩ hy => by
  rcases S.par n (List.of_mem_zip hy).1 with q | q
  ·exact .inl q
  ·exact .inr ⟨q, PySem.W.cellsFrom_some _ _ _ (.inl q)⟩
 refine codeAny_call_function hr.depth (KX _ _ lk) rfl S.co S.gen rfl (PySem.W.codeRec_of KX hcd) (hb _ _ _ _ ?_)
 refine wpAny_newFunctionEnv_cells S.kind hkind fun env he s1 x => ?_
 subst he
 refine ⟨lim.keeps x.toInCall.keep, codeAny_func ?_⟩
 obtain ⟨t, ht, hq⟩ := hbody A outer s H vs Q E (hr.deeper _) hsp
 have I : Inv (lL CX P w K mg base N qual scope f cdv A outer s H E) [] (start N vs) H s1 := rH S hr.hd e0 hl r x
 refine wpAny_mono (ht [] s1 (start N vs) H _ I hq) (fun fl s' hs => ?_) fun e s' hs => hs
 have fin : ∀ {σ' : St} {H' : Hp} {v : V} {u : Value}, Inv (lL CX P w K mg base N qual scope f cdv A outer s H E) [] σ' H' s' -> RelV v u -> Q v H' -> CE outer P w H s Q u s' :=
  fun {σ' H' v u} J rv q => ⟨v, H', J.os, J.bare, J.base, J.hok, rv, q⟩
 cases fl with
 | ret u =>
  obtain ⟨v, σ', H', J, rv, q⟩ := hs
  exact fin J rv q
 | next =>
  obtain ⟨σ', H', J, q⟩ := hs
  exact fin (v := V.non) (u := Value.none) J rfl q
 | brk =>
  obtain ⟨_, _, _, q⟩ := hs
  exact False.elim q
 | cont =>
  obtain ⟨_, _, _, q⟩ := hs
  exact False.elim q
section
variable {X : Cx} {x : Str} {p pos : Pos} {e : Expr} {es : List Expr} {t : TA} {id T : String} {r : List V -> Hp -> VK -> Prop}
def tCB (r : List V -> Hp -> VK -> Prop) (t : TA) : TE := fun σ H Q => t σ H fun vs H1 => r vs H1 Q
theorem uX (hc : kO X (.builtin id) r) (hg : Gl X x) (hm : X.mg x = none) (hv : bootBuiltins x = some (.builtin id)) (ha : PA X (e :: es) t) (hn : x ≠ "__name__" := by decide) (hdb : (x == ("__debug__" : Str)) = false := by decide)
  (he : starEach (e :: es) X.env = (false, eval e X.env) :: starEach es X.env := by rfl) (hpl : (backTo pos (starEach es X.env)).any (·.1) = false := by rfl) : PE X (.Call (.Name x p) (e :: es) [] pos) (tCB r t) := by
 intro pins s σ H Q I h
 refine wpAny_Call_Name_kw (n4 I hg hm hv ?_ hn hdb)
 exact PyProof.Rows.callWith_builtin1 (thn (ha pos pins s σ H _ I h) fun us s1 ⟨vs, H1, I1, r1, q1⟩ => hc pins s1 σ H1 vs us Q I1 r1 q1) he hpl
theorem y2 (hc : kO X (.type T) r) (hg : Gl X x) (hm : X.mg x = none) (hv : bootBuiltins x = some (.type T)) (ha : PA X (e :: es) t) (hn : x ≠ "__name__" := by decide) (hdb : (x == ("__debug__" : Str)) = false := by decide)
  (he : starEach (e :: es) X.env = (false, eval e X.env) :: starEach es X.env := by rfl) (hpl : (backTo pos (starEach es X.env)).any (·.1) = false := by rfl) : PE X (.Call (.Name x p) (e :: es) [] pos) (tCB r t) := by
 intro pins s σ H Q I h
 refine wpAny_Call_Name_kw (n4 I hg hm hv ?_ hn hdb)
 exact PyProof.Rows.callWith_type1 (thn (ha pos pins s σ H _ I h) fun us s1 ⟨vs, H1, I1, r1, q1⟩ => hc pins s1 σ H1 vs us Q I1 r1 q1) he hpl
end
end L2
namespace HT
open PySem PyProof.Rows
def lexLt : List Int -> List Int -> Bool
 | [], [] => false
 | [], _ :: _ => true
 | _ :: _, [] => false
 | x :: xs, y :: ys => if x = y then lexLt xs ys else decide (x < y)
theorem jG (x y : Int) (xs ys : List Int) : lexLt (x :: xs) (y :: ys) = if x = y then lexLt xs ys else decide (x < y) := rfl
section
open PySem.SeqAt
open PySem.AutoSeq1 (wpAny_loadPart')
open PySem.MeetsSeq PySem.MeetsSeq2 PySem.MeetsSeq3
end
section
variable {prog : Program} {w : World} {A : Around} {E : Value -> Shared -> Prop} {s : Shared}
end
end HT
namespace L2
open PySem PySem.Spec PyProof.Rows
abbrev TO := St -> Hp -> (Option Int -> Hp -> Prop) -> Prop
theorem intsAre_of {ns : List Int} : ∀ {us : List Value}, Vals (ns.map V.int) us -> IntsAre us ns := by
 induction ns with
 | nil => intro us r; rw [List.map_nil] at r; cases r; exact .nil
 | cons n ns ih =>
  intro us r
  rw [List.map_cons] at r
  cases r with
  | cons r1 r2 =>
   obtain ⟨t, e⟩ := r1
   subst e
   exact .cons n t (ih r2)
section
variable {X : Cx} {e : Expr} {te : TE} {lo hi : Option Expr} {tl th : TO} {pos p2 : Pos}
end
def ixN (n : Nat) (i : Int) : Option Nat := if 0 <= i then (if i < n then some i.toNat else none) else if -(n : Int) <= i then some (i + n).toNat else none
def atI {α : Type} (xs : List α) (i : Int) : Option α := (ixN xs.length i).bind fun j => xs[j]?
theorem wV {n : Nat} {i : Int} {j : Nat} (h : ixN n i = some j) : seqIndex? i n = some j /\ j < n /\ -(n : Int) <= i /\ i < n := by
 unfold ixN at h
 by_cases h0 : 0 <= i
 ·rw [if_pos h0] at h
  by_cases h1 : i < n
  ·rw [if_pos h1] at h
   have e : i.toNat = j := Option.some.inj h
   exact ⟨by rw [seqIndex_of h0 h1, e], by omega, by omega, h1⟩
  ·rw [if_neg h1] at h; cases h
 ·rw [if_neg h0] at h
  by_cases h1 : -(n : Int) <= i
  ·rw [if_pos h1] at h
   have e : (i + n).toNat = j := Option.some.inj h
   exact ⟨by rw [seqIndex_neg (by omega) h1, e], by omega, h1, by omega⟩
  ·rw [if_neg h1] at h; cases h
theorem yN {α : Type} {xs : List α} {i : Int} {v : α} (h : atI xs i = some v) : ∃ j, seqIndex? i xs.length = some j /\ xs[j]? = some v /\ j < xs.length /\ -(xs.length : Int) <= i /\ i < xs.length := by
 unfold atI at h
 cases e : ixN xs.length i with
 | none => rw [e] at h; cases h
 | some j =>
  rw [e] at h
  obtain ⟨h1, h2, h3, h4⟩ := wV e
  exact ⟨j, h1, h, h2, h3, h4⟩
theorem iN {α : Type} {xs : List α} {j : Nat} {v : α} (h : xs[j]? = some v) : atI xs (j : Int) = some v := by
 have hj : j < xs.length := (List.getElem?_eq_some_iff.mp h).1
 have e : ixN xs.length (j : Int) = some j := by
  unfold ixN
  rw [if_pos (by omega), if_pos (by omega)]; simp
 unfold atI; rw [e]; exact h
def y4 (b : Expr) : Prop := ∀ o i, subscripted b false o i = operate [o, i] (getItem o i)
def IxR (X : Cx) (r : R2) : Prop :=
 ∀ (value slice : Expr) (pins : List (Addr × Obj)) (s : Shared) (σ : St) (H : Hp) (x y : V) (v u : Value) (Q : VK), Inv X pins σ H s -> RelV x v -> RelV y u -> r x y H Q ->
  subscripted slice false v u = operate [v, u] (getItem v u) -> wpAny (model X.prog X.w) X.A (subscriptTail value slice v u) (EP X pins σ Q) X.xe s
def MtR (X : Cx) (id : String) (r : V -> List V -> Hp -> VK -> Prop) : Prop :=
 ∀ (pins : List (Addr × Obj)) (s : Shared) (σ : St) (H : Hp) (x : V) (xs : List V) (v : Value) (us : List Value) (Q : VK), Inv X pins σ H s -> RelV x v -> Vals xs us -> r x xs H Q ->
  wpAny (model X.prog X.w) X.A (call (.builtin id) (v :: us)) (EP X pins σ Q) X.xe s
section
variable {X : Cx} {a b : Expr} {ta tb : TE} {pos : Pos}
theorem IxR.or {r r' : R2} (h : IxR X r) (h' : IxR X r') : IxR X (fun x y H Q => r x y H Q \/ r' x y H Q) := by
 intro value slice pins s σ H x y v u Q I rx ry q hs
 rcases q with q | q
 ·exact h value slice pins s σ H x y v u Q I rx ry q hs
 ·exact h' value slice pins s σ H x y v u Q I rx ry q hs
theorem aG0 {r : R2} (hr : IxR X r) (ha : PE X a ta) (hb : PE X b tb) (hs : y4 b) : PE X (.Subscript a b pos) (tOp r ta tb) := by
 intro pins s σ H Q I h
 exact Subscript_ (aGv ha hb I h fun v u s2 x y H2 I2 rx ry q => hr a b pins s2 σ H2 x y v u Q I2 rx ry q (hs _ _))
def aIa (K : PySem.W.Frag) : R2 := fun x y H Q => ∃ p xs i v, x = .ref p /\ y = .int i /\ SqL K H p xs /\ atI xs i = some v /\ Q v H
def aIf (K : PySem.W.Frag) : R2 := fun x y H Q => ∃ p xs i v, x = .ref p /\ y = .int i /\ SqT K H p xs /\ atI xs i = some v /\ Q v H
theorem ix_list : IxR X (aIa X.K) := by
 intro value slice pins s σ H x y v u Q I rx ry h hs
 obtain ⟨p, xs, i, z, rfl, rfl, hq, he, q⟩ := h
 cases rx
 obtain ⟨t, rfl⟩ := ry
 obtain ⟨its, r, pl, hz⟩ := I.list hq
 obtain ⟨j, h1, h2, h3, h4, h5⟩ := yN he
 obtain ⟨w, ew, rw'⟩ := r.get h2
 have hl := r.length
 have hn := vD
 have fin : EP X pins σ Q w s := ⟨z, H, I, rw', q⟩
 by_cases h0 : 0 <= i
 ·have hj : i.toNat = j := by
   rw [seqIndex_of h0 h5] at h1
   exact Option.some.inj h1
  exact item_listR pl.isList h0 (by omega) (by rw [hj]; simpa using ew) fin hs
 ·have hj : (i + (its.toArray.size : Int)).toNat = j := by
   rw [seqIndex_neg (by omega) h4] at h1
   rw [List.size_toArray, <- hl]
   exact Option.some.inj h1
  exact subscriptTail_builtinR (x := w) pl.isList.typeIs slot_list_getitem.lookup
   (wpAny_getItem_list_neg (Q := fun r s' => r = w /\ EP X pins σ Q r s') pl.isList (by omega) (by rw [List.size_toArray] <;> omega) (by omega) (by rw [hj]; simpa using ew) ⟨rfl, fin⟩) hs
theorem aEs : IxR X (aIf X.K) := by
 intro value slice pins s σ H x y v u Q I rx ry h hs
 obtain ⟨p, xs, i, z, rfl, rfl, hq, he, q⟩ := h
 cases rx
 obtain ⟨t, rfl⟩ := ry
 obtain ⟨its, r, pl, hz⟩ := I.tuple hq
 obtain ⟨j, h1, h2, h3, h4, h5⟩ := yN he
 obtain ⟨w, ew, rw'⟩ := r.get h2
 have hl := r.length
 have hn := vD
 have fin : EP X pins σ Q w s := ⟨z, H, I, rw', q⟩
 exact subscriptTail_builtinR (x := w) pl.typeIs slot_tuple_getitem.lookup
  (getItem_tuple (j := j) (Q := fun r s' => r = w /\ EP X pins σ Q r s') pl (by omega) (by omega) (by rw [List.size_toArray, <- hl]; exact h1) (by simpa using ew) ⟨rfl, fin⟩) hs
theorem vK (its : List Value) (n j : Nat) (u : Value) : Obj.mapSeq (·.setIfInBounds j u) { cls := .type "list", data := .seq its.toArray n } = { cls := .type "list", data := .seq (its.set j u).toArray n } := by
 simp [Obj.mapSeq]
theorem Inv.lst {pins : List (Addr × Obj)} {σ : St} {H : Hp} {s : Shared} {p : Addr} {xs : List V} (I : Inv X pins σ H s) (h : H p = some (.lst xs)) :
  ∃ (its : List Value) (n : Nat), Vals xs its /\ s.heap.get? p = some { cls := .type "list", data := .seq its.toArray n } /\ xs.length <= sizeLine := by
 obtain ⟨z, its, n, r, e⟩ := I.hok p _ h
 exact ⟨its, n, r, e, z⟩
theorem Inv.lstUpd {pins : List (Addr × Obj)} {σ : St} {H : Hp} {s : Shared} {p : Addr} {xs ys : List V} {its its' : List Value} {n n' : Nat} {f : Obj -> Obj} (I : Inv X pins σ H s) (h : H p = some (.lst xs))
  (ho : s.heap.get? p = some { cls := .type "list", data := .seq its.toArray n }) (hf : f { cls := .type "list", data := .seq its.toArray n } = { cls := .type "list", data := .seq its'.toArray n' }) (r : Vals ys its') (hz : ys.length <= sizeLine) (t : Nat) :
  Inv X pins σ (upd H p (.lst ys)) { s with heap := s.heap.update p f, toks := t } := by
 have e : (s.heap.update p f).get? p = some { cls := .type "list", data := .seq its'.toArray n' } := by
  rw [Heap.get?_update_self f ho (by rw [hf] <;> rfl), hf]
 refine I.write (x := p) (e := p) (by rw [h]; trivial) (.inl rfl) (fun b u hb q => (Heap.get?_update_other _ _ (Ne.symm hb)).trans q) ⟨_, e⟩ ?_
 exact ⟨hz, its', n', r, e⟩
def aD7 : V -> V -> V -> Hp -> (Hp -> Prop) -> Prop := fun o i v H Q => ∃ p xs k j, o = .ref p /\ i = .int k /\ H p = some (.lst xs) /\ ixN xs.length k = some j /\ Q (upd H p (.lst (xs.set j v)))
theorem set_list : aIc X aD7 := by
 intro pins s σ H o i v ov iv u Q I ro ri rv h
 obtain ⟨p, xs, k, j, rfl, rfl, hp, hj, q⟩ := h
 cases ro
 obtain ⟨t, rfl⟩ := ri
 obtain ⟨its, n, r, ho, hz⟩ := I.lst hp
 obtain ⟨h1, h2, h3, h4⟩ := wV hj
 have hl := r.length
 have hn := vD
 have I' : Inv X pins σ (upd H p (.lst (xs.set j v))) { s with heap := s.heap.update p (Obj.mapSeq (·.setIfInBounds j u)) } :=
  I.lstUpd hp ho (vK its n j u) (r.set rv j) (by rw [List.length_set]; exact hz) s.toks
 by_cases h0 : 0 <= k
 ·have hk : k.toNat = j := by
   rw [seqIndex_of h0 h4] at h1
   exact Option.some.inj h1
  exact PySem.W.ki_setAt ho h0 (by omega) (by rw [List.size_toArray, <- hl]; exact h4) (by rw [hk]; exact ⟨_, I', q⟩)
 ·have hk : (k + (its.toArray.size : Int)).toNat = j := by
   rw [seqIndex_neg (by omega) h3] at h1
   rw [List.size_toArray, <- hl]
   exact Option.some.inj h1
  exact PySem.W.ki_setBack ho (by omega) (by rw [List.size_toArray, <- hl]; exact h3) (by omega) (by rw [hk]; exact ⟨_, I', q⟩)
def l7 : V -> Bool
 | .non => true
 | .bl _ => true
 | .int _ => true
 | .str _ => true
 | _ => false
def eqV : V -> V -> Bool
 | .non, .non => true
 | .bl a, .bl b => a == b
 | .bl a, .int b => (if a then 1 else 0) == b
 | .int a, .bl b => a == (if b then 1 else 0)
 | .int a, .int b => a == b
 | .str a, .str b => a == b
 | _, _ => false
theorem aE1 {A : Around} {s : Shared} {y x : V} {u v : Value} (ry : RelV y u) (rx : RelV x v) (fy : l7 y = true) (fx : l7 x = true) : SeqAt.EqAt A s u v (eqV y x) := by
 cases y with
 | non =>
  cases ry
  cases x with
  | non => cases rx; exact SeqAt.EqAt.same _
  | bl b => cases rx; exact SeqAt.EqAt.none_bool b
  | int b => obtain ⟨t, rfl⟩ := rx; exact SeqAt.EqAt.none_int b t
  | str b => obtain ⟨t, rfl⟩ := rx; exact SeqAt.EqAt.none_str b t
  | _ => exact absurd (show false = true from fx) Bool.false_ne_true
 | bl a =>
  cases ry
  cases x with
  | non => cases rx; exact SeqAt.EqAt.bool_none a
  | bl b => cases rx; exact SeqAt.EqAt.bool_bool a b
  | int b => obtain ⟨t, rfl⟩ := rx; exact SeqAt.EqAt.bool_int a b t
  | str b => obtain ⟨t, rfl⟩ := rx; exact SeqAt.EqAt.bool_str a b t
  | _ => exact absurd (show false = true from fx) Bool.false_ne_true
 | int a =>
  obtain ⟨t', rfl⟩ := ry
  cases x with
  | non => cases rx; exact SeqAt.EqAt.int_none a t'
  | bl b => cases rx; exact SeqAt.EqAt.int_bool a t' b
  | int b => obtain ⟨t, rfl⟩ := rx; exact SeqAt.EqAt.int_int a t' b t
  | str b => obtain ⟨t, rfl⟩ := rx; exact SeqAt.EqAt.int_str a t' b t
  | _ => exact absurd (show false = true from fx) Bool.false_ne_true
 | str a =>
  obtain ⟨t', rfl⟩ := ry
  cases x with
  | non => cases rx; exact SeqAt.EqAt.str_none a t'
  | bl b => cases rx; exact SeqAt.EqAt.str_bool a t' b
  | int b => obtain ⟨t, rfl⟩ := rx; exact SeqAt.EqAt.str_int a t' b t
  | str b => obtain ⟨t, rfl⟩ := rx; exact SeqAt.EqAt.str_str a t' b t
  | _ => exact absurd (show false = true from fx) Bool.false_ne_true
 | _ => exact absurd (show false = true from fy) Bool.false_ne_true
def eqU (x : V) (u : Value) : Bool := match u with
 | .none => eqV .non x
 | .bool b => eqV (.bl b) x
 | .int i _ => eqV (.int i) x
 | .str z _ => eqV (.str z) x
 | _ => false
theorem aB9 {x y : V} {u : Value} (r : RelV y u) (f : l7 y = true) : eqU x u = eqV y x := by
 cases y with
 | non => cases r; rfl
 | bl b => cases r; rfl
 | int i => obtain ⟨t, rfl⟩ := r; rfl
 | str z => obtain ⟨t, rfl⟩ := r; rfl
 | _ => exact absurd (show false = true from f) Bool.false_ne_true
theorem r9 {x : V} : ∀ {xs : List V} {us : List Value}, Vals xs us -> xs.all l7 = true -> us.any (eqU x) = xs.any fun y => eqV y x
 | _, _, .nil, _ => rfl
 | y :: xs, u :: us, .cons r t, f => by
  rw [List.all_cons, Bool.and_eq_true] at f
  rw [List.any_cons, List.any_cons, aB9 r f.1, r9 t f.2]
theorem o9 {A : Around} {s : Shared} {x : V} {v : Value} (rx : RelV x v) (fx : l7 x = true) : ∀ {xs : List V} {us : List Value}, Vals xs us -> xs.all l7 = true -> ∀ u ∈ us, SeqAt.EqAt A s u v (eqU x u)
 | _, _, .nil, _ => fun u hu => by cases hu
 | y :: xs, u :: us, .cons r t, f => fun u' hu => by
  rw [List.all_cons, Bool.and_eq_true] at f
  rcases List.mem_cons.mp hu with rfl | hu
  ·rw [aB9 r f.1]; exact aE1 r rx f.1 fx
  ·exact o9 rx fx t f.2 u' hu
def inV (x : V) (xs : List V) : Bool := xs.any fun y => eqV y x
def rIn (K : PySem.W.Frag) (neg : Bool) : R2 := fun x y H Q => ∃ p xs, y = .ref p /\ (SqL K H p xs \/ SqT K H p xs) /\ l7 x = true /\ xs.all l7 = true /\ Q (.bl (if neg then !inV x xs else inV x xs)) H
theorem zM : OpR X (compareOp .In) (rIn X.K false) := by
 intro pins s σ H x y v u Q I rx ry h
 obtain ⟨p, xs, rfl, hq, fx, fs, q⟩ := h
 cases ry
 rcases hq with hq | hq
 ·obtain ⟨its, r, pl, hz⟩ := I.list hq
  refine SeqAt.in_listAt (eqU x) pl.isList (fun w hw => o9 rx fx r fs w (by simpa using hw)) ⟨.bl _, H, I, rfl, ?_⟩
  rw [show its.toArray.any (eqU x) = its.any (eqU x) by simp, r9 r fs]
  exact q
 ·obtain ⟨its, r, pl, hz⟩ := I.tuple hq
  refine SeqAt.in_tupleAt (eqU x) pl (fun w hw => o9 rx fx r fs w (by simpa using hw)) ⟨.bl _, H, I, rfl, ?_⟩
  rw [show its.toArray.any (eqU x) = its.any (eqU x) by simp, r9 r fs]
  exact q
theorem cN : kO X (.builtin "len") (fun xs H Q => ∃ p ys, xs = [.ref p] /\ (SqL X.K H p ys \/ SqT X.K H p ys) /\ Q (.int ys.length) H) := by
 intro pins s σ H xs us Q I r h
 obtain ⟨p, ys, rfl, hq, q⟩ := h
 obtain ⟨u, rfl, rx⟩ := vals1 r
 cases rx
 have hn := vD
 rcases hq with hq | hq
 ·obtain ⟨its, r', pl, hz⟩ := I.list hq
  have hlen := r'.length
  exact Calls.call_len_list pl.isList (by simp only [List.size_toArray] <;> omega) ⟨.int ys.length, H, I.tok _, ⟨s.toks + 1, by rw [List.size_toArray, hlen]⟩, q⟩
 ·obtain ⟨its, r', pl, hz⟩ := I.tuple hq
  have hlen := r'.length
  exact len_tuple pl (by simp only [List.size_toArray] <;> omega) ⟨.int ys.length, H, I.tok _, ⟨s.toks + 1, by rw [List.size_toArray, hlen]⟩, q⟩
theorem lE : kO X (.type "list") (fun xs H Q => ∃ p ys, xs = [.ref p] /\ (SqL X.K H p ys \/ SqT X.K H p ys) /\ ∀ l, H l = none -> Q (.ref l) (upd H l (.lst ys))) := by
 intro pins s σ H xs us Q I r h
 obtain ⟨p, ys, rfl, hq, q⟩ := h
 obtain ⟨u, rfl, rx⟩ := vals1 r
 cases rx
 have fin : ∀ (its : List Value), Vals ys its -> ys.length <= sizeLine -> ∀ (h' : Heap) (c' : Nat), (∀ b o', s.heap.get? b = some o' -> h'.get? b = some o') ->
   h'.get? s.heap.objs.size = some { cls := .type "list", dict := none, data := .seq its.toArray c', slots := #[] } -> EP X pins σ Q (.ref s.heap.objs.size) { s with heap := h' } := fun its r' hz h' c' kp e =>
  ⟨.ref s.heap.objs.size, _, I.laid (t' := s.toks) kp (Nat.le_refl _) (show ObjOk X.prog X.w _ h' _ (.lst ys) from ⟨hz, its, c', r', e⟩), rfl, q _ (I.hok.fresh (Nat.le_refl _))⟩
 rcases hq with hq | hq
 ·obtain ⟨its, r', pl, hz⟩ := I.list hq
  have hlen := r'.length
  obtain ⟨o, ho, hc, n, hd⟩ := pl.isList
  exact call_list_seq p (.inl rfl) ho hc hd (fun h' c' kp e => fin its r' hz h' c' kp e) (by simp only [List.size_toArray] <;> omega)
 ·obtain ⟨its, r', pl, hz⟩ := I.tuple hq
  have hlen := r'.length
  obtain ⟨o, ho, hc, n, hd⟩ := pl
  exact call_list_seq p (.inr rfl) ho hc hd (fun h' c' kp e => fin its r' hz h' c' kp e) (by simp only [List.size_toArray] <;> omega)
def tyV (K : PySem.W.Frag) (T : String) (x : V) (H : Hp) : Prop := match x with
 | .str _ => T = "str"
 | .int _ => T = "int"
 | .ref p => (T = "list" /\ ∃ xs, SqL K H p xs) \/ (T = "tuple" /\ ∃ o, K.lookup p = some o /\ o.cls = .type "tuple" /\ o.dict = none) \/
   (T = "dict" /\ ((∃ kvs, H p = some (.dK kvs)) \/ ∃ kvs, H p = some (.dT kvs))) \/ (T = "set" /\ ∃ S n, H p = some (.set S n))
 | _ => False
theorem aFg {pins : List (Addr × Obj)} {σ : St} {H : Hp} {s : Shared} {T : String} {x : V} {v : Value} (I : Inv X pins σ H s) (r : RelV x v) (ty : tyV X.K T x H) :
  s.TypeIs v T /\ ∀ a, v = .ref a -> ∃ ob, s.heap.get? a = some ob /\ ob.dict = none := by
 cases x with
 | str z =>
  obtain ⟨t, rfl⟩ := r
  cases (show T = "str" from ty)
  exact ⟨typeIs_str s z t, fun _ e => nomatch e⟩
 | int i =>
  obtain ⟨t, rfl⟩ := r
  cases (show T = "int" from ty)
  exact ⟨typeIs_int s i t, fun _ e => nomatch e⟩
 | ref p =>
  cases r
  rcases ty with ⟨rfl, xs, hq⟩ | ⟨rfl, o, hk, hc, hd⟩ | ⟨rfl, hk⟩ | ⟨rfl, S, n, hk⟩
  ·obtain ⟨its, _, pl, _⟩ := I.list hq
   refine ⟨pl.isList.typeIs, fun a e => ?_⟩
   cases e
   obtain ⟨o, n, e, c, hd, _⟩ := pl
   exact ⟨o, e, hd⟩
  ·refine ⟨⟨o, I.kIn p o hk, hc⟩, fun a e => ?_⟩
   cases e
   exact ⟨o, I.kIn _ o hk, hd⟩
  ·have z : ∃ o, s.heap.get? p = some o /\ o.ExactDict := by
    rcases hk with ⟨kvs, hk⟩ | ⟨kvs, hk⟩
    ·obtain ⟨_, _, _, _, o, _, _, e, ex, _⟩ := I.hok p _ hk
     exact ⟨o, e, ex⟩
    ·obtain ⟨_, _, _, _, o, _, _, e, ex, _⟩ := I.hok p _ hk
     exact ⟨o, e, ex⟩
   obtain ⟨o, e, ex⟩ := z
   refine ⟨⟨o, e, ex.1⟩, fun a e2 => ?_⟩
   cases e2
   exact ⟨o, e, ex.2.1⟩
  ·obtain ⟨o, _, _, _, e, ex, _⟩ := I.hok p _ hk
   refine ⟨⟨o, e, ex.1⟩, fun a e2 => ?_⟩
   cases e2
   exact ⟨o, e, ex.2.1⟩
 | _ => exact False.elim ty
def tBM (K : PySem.W.Frag) (T : String) (r : V -> List V -> Hp -> VK -> Prop) (to : TE) (t : TA) : TE := fun σ H Q => to σ H fun x H1 => tyV K T x H1 /\ t σ H1 fun xs H2 => r x xs H2 Q
variable {o e : Expr} {es : List Expr} {to : TE} {t : TA} {name : Str} {apos cpos : Pos} {T id : String} {r : V -> List V -> Hp -> VK -> Prop}
theorem aEu (pa : PlainAttrs T) (slot : Slot T name id) (hty : typeOf (.builtin id) = pure (.type "method_descriptor")) (hm : MtR X id r) (ho : PE X o to) (ha : PA X (e :: es) t)
  (hbase : attributeBase o name X.env (eval o X.env) = eval o X.env := by rfl)
  (hfew : ((backTo cpos (starEach (e :: es) X.env)).all (fun x => !x.1) && (backToKw cpos (keywordEach [] X.env)).all (fun x => x.1.isSome)
   && decide ((e :: es).length + ([] : List Keyword).length + (if ([] : List Keyword).isEmpty then 0 else 1) < 30)) = true := by rfl)
  (hline : (apos.endLine == cpos.line) = true := by rfl) (hs : starEach (e :: es) X.env = (false, eval e X.env) :: starEach es X.env := by rfl) (hplain : (backTo cpos (starEach es X.env)).any (·.1) = false := by rfl) :
  PE X (.Call (.Attribute o name apos) (e :: es) [] cpos) (tBM X.K T r to t) := by
 intro pins s σ H Q I h
 refine wpAny_Call_method_late hbase hfew hline rfl (thn (ho pins s σ H _ I h) fun v s1 ⟨x, H1, I1, r1, ty, q1⟩ => ?_)
 obtain ⟨h1, h2⟩ := aFg I1 r1 ty
 refine ⟨T, id, pa, slot, hty, h1, h2, ?_⟩
 have hA := ha cpos pins s1 σ H1 _ I1 q1
 rw [hs] at hA ⊢
 refine Calls.callWith_builtin (by show (false || (backTo cpos (starEach es X.env)).any (·.1)) = false; rw [hplain] <;> rfl) (Calls.evalArgs_plain ?_)
 exact thn hA fun us s2 ⟨vs, H2, I2, r2, q2⟩ => hm pins s2 σ H2 x vs v us Q I2 r1 r2 q2
end
def MtM (X : Cx) (id : String) (r : V -> List V -> Hp -> VK -> Prop) : Prop :=
 ∀ (pins : List (Addr × Obj)) (s : Shared) (σ : St) (H : Hp) (x : V) (xs : List V) (v : Value) (us : List Value) (Q : VK), Inv X pins σ H s -> RelV x v -> Vals xs us -> r x xs H Q ->
  wpAny (model X.prog X.w) X.A (call (.builtin id) (v :: us)) (EP X pins σ Q) X.xe s
theorem Vals.one : ∀ {x : V} {us : List Value}, Vals [x] us -> ∃ u, us = [u] /\ RelV x u
 | _, _, .cons r .nil => ⟨_, rfl, r⟩
section
variable {X : Cx} {pins : List (Addr × Obj)} {σ : St} {H : Hp} {s : Shared} {l b : Addr} {xs ys zs : List V}
theorem Inv.lset {its its' : List Value} {n : Nat} {f : Array Value -> Array Value} {t' : Nat} (I : Inv X pins σ H s) (hH : H l = some (.lst xs))
  (e : s.heap.get? l = some { cls := .type "list", data := .seq its.toArray n }) (hf : f its.toArray = its'.toArray) (hv : Vals ys its') (hz : ys.length <= sizeLine) :
  Inv X pins σ (upd H l (.lst ys)) { s with heap := s.heap.update l (Obj.mapSeq f), toks := t' } := by
 have q := PySem.IsL.update e f
 rw [hf] at q
 refine I.write (x := l) (e := l) (by rw [hH]; exact trivial) (.inl rfl) (fun b' u hb hu => (Heap.get?_update_other s.heap (Obj.mapSeq f) (Ne.symm hb)).trans hu) ⟨_, q⟩ ?_
 exact ⟨hz, its', _, hv, q⟩
theorem Inv.lnew {its : List Value} {t' : Nat} (I : Inv X pins σ H s) (hv : Vals ys its) (hz : ys.length <= sizeLine) :
  Inv X pins σ (upd H s.heap.objs.size (.lst ys)) { s with heap := s.heap.push { cls := .type "list", data := .seq its.toArray }, toks := t' } :=
 I.laid (fun _ _ q => Heap.get?_push_of_some _ q) (Nat.le_refl _) ⟨hz, its, 0, hv, Heap.get?_push_size _ rfl⟩
theorem Inv.fresh (I : Inv X pins σ H s) : H s.heap.objs.size = none := I.hok.fresh (Nat.le_refl _)
theorem Inv.lstM (I : Inv X pins σ H s) (hH : H l = some (.lst xs)) : xs.length <= sizeLine /\ ∃ (its : List Value) (n : Nat), Vals xs its /\ xs.length = its.length /\ s.heap.get? l = some { cls := .type "list", data := .seq its.toArray n } := by
 obtain ⟨z, its, n, r, e⟩ := I.hok l _ hH
 exact ⟨z, its, n, r, r.length, e⟩
end
section
variable {X : Cx}
def yO : V -> List V -> Hp -> VK -> Prop := fun x vs H Q => ∃ l xs y, x = .ref l /\ vs = [y] /\ H l = some (.lst xs) /\ xs.length < sizeLine /\ Q .non (upd H l (.lst (xs ++ [y])))
theorem qQ : MtM X "list.append" yO := by
 intro pins s σ H x vs v us Q I rx rv h
 obtain ⟨l, xs, y, rfl, rfl, hH, hz, q⟩ := h
 cases rx
 obtain ⟨u, rfl, ru⟩ := rv.one
 obtain ⟨z, its, n, r, hl, e⟩ := I.lstM hH
 refine call_meets F.slot_list_append ⟨_, e, rfl⟩ F.entry_list_append (F.args_list_append_2 _ _) (PySem.list_append l its.toArray n u (by rw [List.size_toArray]; omega)) ⟨e, ?_⟩
 refine ⟨.non, _, I.lset (its' := its ++ [u]) hH e (by simp) (r.append (.cons ru .nil)) ?_, rfl, q⟩
 rw [List.length_append, List.length_singleton]
 omega
end
section
variable {prog : Program} {w : World} {A : Around} {E : Value -> Shared -> Prop} {s : Shared}
set_option maxRecDepth 100000 in
end
section
variable {X : Cx}
end
section
variable {κ : Type} [DecidableEq κ]
def pX (kvs : List (κ × V)) (k : κ) : Option V := (kvs.find? fun kv => decide (kv.1 = k)).map (·.2)
def putK (kvs : List (κ × V)) (k : κ) (v : V) : List (κ × V) :=
 if (kvs.any fun kv => decide (kv.1 = k)) = true then kvs.map (fun kv => if kv.1 = k then (kv.1, v) else kv) else kvs ++ [(k, v)]
theorem j6 {p : κ × V} {r : List (κ × V)} {k : κ} (e : p.1 = k) : pX (p :: r) k = some p.2 := by simp [pX, List.find?_cons, e]
theorem kH {p : κ × V} {r : List (κ × V)} {k : κ} (e : ¬ p.1 = k) : pX (p :: r) k = pX r k := by simp [pX, List.find?_cons, e]
theorem lI (k : κ) : ∀ kvs : List (κ × V), (kvs.any fun kv => decide (kv.1 = k)) = (pX kvs k).isSome
 | [] => rfl
 | p :: r => by
  rw [List.any_cons]
  by_cases e : p.1 = k
  ·simp only [j6 e, decide_eq_true e, Bool.true_or, Option.isSome_some]
  ·rw [kH e, decide_eq_false e, Bool.false_or]; exact lI k r
theorem l9 (kvs : List (κ × V)) (k : κ) (v : V) : (putK kvs k v).length <= kvs.length + 1 := by
 unfold putK
 split
 ·rw [List.length_map]; omega
 ·rw [List.length_append, List.length_cons, List.length_nil]; omega
theorem RelO.isSome_eq {o : Option V} {u : Option Value} (r : RelO o u) : o.isSome = u.isSome := by
 cases o with
 | none => cases u with
  | none => rfl
  | some _ => exact (show False from r).elim
 | some _ => cases u with
  | none => exact (show False from r).elim
  | some _ => rfl
theorem KV.val {kvs : List (κ × V)} {vs : List (κ × Value)} (r : KV kvs vs) (k : κ) : RelO (pX kvs k) (valueAt vs k) := by
 unfold KV at r
 induction r with
 | nil => exact True.intro
 | @cons p q ps qs h t ih =>
  obtain ⟨h1, h2⟩ := h
  by_cases e : p.1 = k
  ·have e' : q.1 = k := h1.symm.trans e
   have b : valueAt (q :: qs) k = some q.2 := by simp [valueAt, List.find?_cons, e']
   rw [j6 e, b]; exact h2
  ·have e' : ¬ q.1 = k := fun z => e (h1.trans z)
   have b : valueAt (q :: qs) k = valueAt qs k := by simp [valueAt, List.find?_cons, e']
   rw [kH e, b]; exact ih
theorem KV.any {kvs : List (κ × V)} {vs : List (κ × Value)} (r : KV kvs vs) (k : κ) : (kvs.any fun kv => decide (kv.1 = k)) = vs.any fun kv => decide (kv.1 = k) := by
 unfold KV at r
 induction r with
 | nil => rfl
 | cons h t ih => rw [List.any_cons, List.any_cons, ih, h.1]
theorem KV.repl {kvs : List (κ × V)} {vs : List (κ × Value)} (r : KV kvs vs) (k : κ) {y : V} {u : Value} (ry : RelV y u) :
  KV (kvs.map fun kv => if kv.1 = k then (kv.1, y) else kv) (vs.map fun kv => if kv.1 = k then (kv.1, u) else kv) := by
 unfold KV at r ⊢
 induction r with
 | nil => exact .nil
 | @cons p q ps qs h t ih =>
  rw [List.map_cons, List.map_cons]
  refine .cons ?_ ih
  obtain ⟨h1, h2⟩ := h
  by_cases e : p.1 = k
  ·rw [if_pos e, if_pos (h1.symm.trans e)]; exact ⟨h1, ry⟩
  ·rw [if_neg e, if_neg (fun z => e (h1.trans z))]; exact ⟨h1, h2⟩
theorem KV.put {kvs : List (κ × V)} {vs : List (κ × Value)} (r : KV kvs vs) (k : κ) {y : V} {u : Value} (ry : RelV y u) : KV (putK kvs k y) (stored vs k u) := by
 unfold putK stored
 rw [r.any k]
 by_cases e : (vs.any fun kv => decide (kv.1 = k)) = true
 ·rw [if_pos e, if_pos e]; exact r.repl k ry
 ·rw [if_neg e, if_neg e]; exact Paired.snoc r ⟨rfl, ry⟩
theorem KV.length {kvs : List (κ × V)} {vs : List (κ × Value)} (r : KV kvs vs) : kvs.length = vs.length := Paired.length r
end
theorem aAp {P : Program} {w : World} {k : Key} {u : Value} (r : RelV (kV k) u) : (fK P w).is k u = true := by
 cases k with
 | inl i => obtain ⟨t, e⟩ := (show ∃ t, u = Value.int i t from r); subst e; exact sI P w i t
 | inr x => obtain ⟨t, e⟩ := (show ∃ t, u = Value.str x t from r); subst e; exact rZ P w x t
theorem rF {P : Program} {w : World} : ∀ {ks : List Key} {us : List Value}, Vals (ks.map kV) us -> ItemsAre (fK P w) ks us
 | [], _, r => by rw [List.map_nil] at r; cases r; exact .nil
 | k :: ks, _, r => by
  rw [List.map_cons] at r
  cases r with
  | cons h t => exact .cons (aAp h) (rF t)
abbrev KT (H : Hp) : List (List Key × V) -> List (List Key × Addr × Value) -> Prop := Paired fun p q => p.1 = q.1 /\ H q.2.1 = some (.tup (p.1.map kV)) /\ RelV p.2 q.2.2
theorem KT.val {H : Hp} {kvs : List (List Key × V)} {xs : List (List Key × Addr × Value)} (r : KT H kvs xs) (k : List Key) : RelO (pX kvs k) ((atKey xs k).map (·.2)) := by
 induction r with
 | nil => exact True.intro
 | @cons p q ps qs h t ih =>
  obtain ⟨h1, _, h2⟩ := h
  by_cases e : p.1 = k
  ·have e' : q.1 = k := h1.symm.trans e
   have b : atKey (q :: qs) k = some q.2 := by simp [atKey, List.find?_cons, e']
   rw [j6 e, b]; exact h2
  ·have e' : ¬ q.1 = k := fun z => e (h1.trans z)
   have b : atKey (q :: qs) k = atKey qs k := by simp [atKey, List.find?_cons, e']
   rw [kH e, b]; exact ih
theorem KT.repl {H : Hp} {kvs : List (List Key × V)} {xs : List (List Key × Addr × Value)} (r : KT H kvs xs) (k : List Key) {y : V} {u : Value} (ry : RelV y u) :
  KT H (kvs.map fun kv => if kv.1 = k then (kv.1, y) else kv) (xs.map (putAt k u)) := by
 induction r with
 | nil => exact .nil
 | @cons p q ps qs h t ih =>
  rw [List.map_cons, List.map_cons]
  refine .cons ?_ ih
  obtain ⟨h1, h2, h3⟩ := h
  unfold putAt
  by_cases e : p.1 = k
  ·rw [if_pos e, if_pos (h1.symm.trans e)]; exact ⟨h1, h2, ry⟩
  ·rw [if_neg e, if_neg (fun z => e (h1.trans z))]; exact ⟨h1, h2, h3⟩
theorem KT.put {H : Hp} {kvs : List (List Key × V)} {xs : List (List Key × Addr × Value)} (r : KT H kvs xs) (k : List Key) {b : Addr} {y : V} {u : Value} (hb : H b = some (.tup (k.map kV))) (ry : RelV y u) :
  KT H (putK kvs k y) (storedH xs k b u) := by
 have e : (kvs.any fun kv => decide (kv.1 = k)) = (atKey xs k).isSome := by
  rw [lI, (r.val k).isSome_eq, Option.isSome_map]
 unfold putK storedH
 rw [e]
 by_cases q : (atKey xs k).isSome = true
 ·rw [if_pos q, if_pos q]; exact r.repl k ry
 ·rw [if_neg q, if_neg q]; exact Paired.snoc r ⟨rfl, hb, ry⟩
theorem KT.keeps {H H' : Hp} {kvs : List (List Key × V)} {xs : List (List Key × Addr × Value)} (r : KT H kvs xs) (ht : ∀ b ys, H b = some (.tup ys) -> H' b = some (.tup ys)) : KT H' kvs xs :=
 Paired.mapP r fun _ _ z => ⟨z.1, ht _ _ z.2.1, z.2.2⟩
section
variable {P : Program} {w : World} {H : Hp} {h : Heap} {a : Addr}
theorem aEe {u : HO} (ok : HOk P w H h) (e : Rd H a u) : ObjOk P w H h a u := e.ok ok
theorem x8 {kvs : List (Key × V)} (ok : HOk P w H h) (e : Rd H a (.dK kvs)) : kvs.length <= sizeLine /\ (a == sysModules) = false /\ ∃ vs, KV kvs vs /\ h.DictOf (fK P w) a vs :=
 show ObjOk P w H h a (.dK kvs) from aEe ok e
theorem aHy {kvs : List (Key × V)} (ok : HOk P w H h) (e : H a = some (.dK kvs)) : kvs.length <= sizeLine /\ (a == sysModules) = false /\ ∃ vs, KV kvs vs /\ h.DictOf (fK P w) a vs := x8 ok (.inl e)
theorem u3 {ks : List Key} (ok : HOk P w H h) (e : H a = some (.tup (ks.map kV))) : (tupleKind (fK P w)).is h ks a := by
 obtain ⟨_, its, r, o, h1, h2, n, h3⟩ := (show ObjOk P w H h a (.tup (ks.map kV)) from ok a _ e)
 exact ⟨o, its.toArray, n, h1, h2, h3, by simpa using rF r⟩
theorem aBi {kvs : List (List Key × V)} (ok : HOk P w H h) (e : Rd H a (.dT kvs)) : kvs.length <= sizeLine /\ (a == sysModules) = false /\
  ∃ xs, KT H kvs xs /\ h.DictOfH (tupleKind (fK P w)) a xs := by
 obtain ⟨z, y, xs, r, o, es, ep, h1, h2, h3, h4, h5⟩ := (show ObjOk P w H h a (.dT kvs) from aEe ok e)
 refine ⟨z, y, xs, r, o, es, ep, h1, h2, h3, h4, fun x hx => ?_, h5⟩
 have all : ∀ {l : List (List Key × V)} {m : List (List Key × Addr × Value)}, KT H l m -> ∀ x ∈ m, (tupleKind (fK P w)).is h x.1 x.2.1 := by
  intro l m q
  induction q with
  | nil => intro x hx; exact nomatch hx
  | @cons p q ps qs hq t ih =>
   intro x hx
   rcases List.mem_cons.mp hx with e | hx
   ·subst e
    exact u3 ok (by rw [<- hq.1]; exact hq.2.1)
   ·exact ih x hx
 exact all r x hx
theorem aGn {kvs : List (List Key × V)} (ok : HOk P w H h) (e : H a = some (.dT kvs)) : kvs.length <= sizeLine /\ (a == sysModules) = false /\
  ∃ xs, KT H kvs xs /\ h.DictOfH (tupleKind (fK P w)) a xs := aBi ok (.inl e)
end
def DGet (H : Hp) (a : Addr) (y : V) (r : Option V) : Prop :=
 (∃ kvs k, Rd H a (.dK kvs) /\ y = kV k /\ r = pX kvs k) \/ ∃ kvs k b, Rd H a (.dT kvs) /\ y = .ref b /\ H b = some (.tup (k.map kV)) /\ r = pX kvs k
def DPut (H : Hp) (a : Addr) (y v : V) (H' : Hp) : Prop :=
 (∃ kvs k, H a = some (.dK kvs) /\ y = kV k /\ kvs.length < sizeLine /\ H' = upd H a (.dK (putK kvs k v))) \/
 ∃ kvs k b, H a = some (.dT kvs) /\ y = .ref b /\ H b = some (.tup (k.map kV)) /\ kvs.length < sizeLine /\ H' = upd H a (.dT (putK kvs k v))
theorem DGet.k {H : Hp} {a : Addr} {kvs : List (Key × V)} {k : Key} (e : H a = some (.dK kvs)) : DGet H a (kV k) (pX kvs k) := .inl ⟨kvs, k, .inl e, rfl, rfl⟩
theorem DGet.t {H : Hp} {a b : Addr} {kvs : List (List Key × V)} {k : List Key} (e : H a = some (.dT kvs)) (eb : H b = some (.tup (k.map kV))) : DGet H a (.ref b) (pX kvs k) := .inr ⟨kvs, k, b, .inl e, rfl, eb, rfl⟩
theorem DPut.k {H : Hp} {a : Addr} {kvs : List (Key × V)} {k : Key} {v : V} (e : H a = some (.dK kvs)) (hl : kvs.length < sizeLine) : DPut H a (kV k) v (upd H a (.dK (putK kvs k v))) := .inl ⟨kvs, k, e, rfl, hl, rfl⟩
theorem DPut.t {H : Hp} {a b : Addr} {kvs : List (List Key × V)} {k : List Key} {v : V} (e : H a = some (.dT kvs)) (eb : H b = some (.tup (k.map kV))) (hl : kvs.length < sizeLine) :
  DPut H a (.ref b) v (upd H a (.dT (putK kvs k v))) := .inr ⟨kvs, k, b, e, rfl, eb, hl, rfl⟩
section
variable {X : Cx} {pins : List (Addr × Obj)} {σ : St} {H : Hp} {s : Shared} {a : Addr} {y v : V} {u r : Value} {o : Option V} {A : Around} {E : Value -> Shared -> Prop}
theorem Inv.big (I : Inv X pins σ H s) : sysModules < s.heap.objs.size := by
 have h : mainGlobals < s.heap.objs.size := (I.mod.glob.keeps I.bk).lt
 exact Nat.lt_trans (by decide) h
theorem xD {Q : Value -> Shared -> Prop} (hu : A.units + 1 < cLine) (I : Inv X pins σ H s) (g : DGet H a y (some v)) (ry : RelV y u) (h : ∀ w' s', Inv X pins σ H s' -> RelV v w' -> Q w' s') :
  wpAny (model X.prog X.w) A (getItem (.ref a) u) Q E s := by
 rcases g with ⟨kvs, k, e, ey, l⟩ | ⟨kvs, k, b, e, ey, eb, l⟩
 ·subst ey
  obtain ⟨z, hd, vs, rel, dd⟩ := x8 I.hok e
  obtain ⟨w', hw, rw'⟩ := RelO.some_of (v := v) (o := valueAt vs k) (by rw [l]; exact rel.val k)
  exact wpAny_getItem_of (aAp ry) dd.mapOf hw (h w' _ (I.tok _) rw')
 ·subst ey
  cases (show u = Value.ref b from ry)
  obtain ⟨z, hd, xs, rel, dd⟩ := aBi I.hok e
  obtain ⟨w', hw, rw'⟩ := RelO.some_of (v := v) (o := (atKey xs k).map (·.2)) (by rw [l]; exact rel.val k)
  obtain ⟨p, hp, hp2⟩ := Option.map_eq_some_iff.mp hw
  refine wpAny_getItem_heap (tupleKind_room_in1 hu) (u3 I.hok eb) dd hp ?_
  rw [hp2]
  exact h w' _ (I.tok _) rw'
theorem aCs {Q : Value -> Shared -> Prop} (hu : A.units + 1 < cLine) (I : Inv X pins σ H s) (g : DGet H a y o) (ry : RelV y u) (h : ∀ s', Inv X pins σ H s' -> Q (.bool (!o.isSome)) s') :
  wpAny (model X.prog X.w) A (compareOp .NotIn u (.ref a)) Q E s := by
 rcases g with ⟨kvs, k, e, ey, l⟩ | ⟨kvs, k, b, e, ey, eb, l⟩
 ·subst ey
  obtain ⟨z, hd, vs, rel, dd⟩ := x8 I.hok e
  refine wpAny_notIn_of (aAp ry) hd dd.mapOf ?_
  rw [<- (rel.val k).isSome_eq, <- l]
  exact h _ (I.tok _)
 ·subst ey
  cases (show u = Value.ref b from ry)
  obtain ⟨z, hd, xs, rel, dd⟩ := aBi I.hok e
  refine wpAny_notIn_heap (tupleKind_room_in1 hu) (u3 I.hok eb) hd dd ?_
  have q := (rel.val k).isSome_eq
  rw [Option.isSome_map] at q
  rw [<- q, <- l]
  exact h _ (I.tok _)
theorem xW {h' : Heap} {t' : Nat} {ob : HO} (I : Inv X pins σ H s) (mu : Mut (H a)) (hs : Heap.SameBut a s.heap h') (he : ∃ q, h'.get? a = some q) (new : ObjOk X.prog X.w (upd H a ob) h' a ob) :
  Inv X pins σ (upd H a ob) { s with heap := h', toks := t' } :=
 I.write (x := a) (e := a) mu (.inl rfl) (fun b q hb z => (hs.2 b hb).trans z) he new
theorem aD9 {P : Program} {w : World} {H' : Hp} {h' : Heap} {kvs : List (Key × V)} {vs : List (Key × Value)} (z : kvs.length <= sizeLine) (hd : (a == sysModules) = false) (rel : KV kvs vs) (dd : h'.DictOf (fK P w) a vs) :
  ObjOk P w H' h' a (.dK kvs) := ⟨z, hd, vs, rel, dd⟩
theorem zD {H' : Hp} {Q : Unit -> Shared -> Prop} (hu : A.units + 1 < cLine) (I : Inv X pins σ H s) (g : DPut H a y v H') (ry : RelV y u) (rv : RelV v r) (h : ∀ s', Inv X pins σ H' s' -> Q () s') :
  wpAny (model X.prog X.w) A (setItem (.ref a) u r) Q E s := by
 rcases g with ⟨kvs, k, e, ey, l, eH⟩ | ⟨kvs, k, b, e, ey, eb, l, eH⟩
 ·subst ey eH
  obtain ⟨z, hd, vs, rel, dd⟩ := aHy I.hok e
  have hz : vs.length <= sizeLine := by rw [<- rel.length]; exact z
  have hl : (putK kvs k v).length <= sizeLine := by have := l9 kvs k v; omega
  refine wpAny_setItem_pairs (hsz := hz) (aAp ry) dd fun h' dd' hs => h _ ?_
  have he : ∃ q, h'.get? a = some q := let ⟨q, _, _, hq, _⟩ := dd'; ⟨q, hq⟩
  exact xW I (by rw [e]; exact True.intro) hs he (aD9 hl hd (rel.put k rv) dd')
 ·subst ey eH
  cases (show u = Value.ref b from ry)
  obtain ⟨z, hd, xs, rel, dd⟩ := aGn I.hok e
  have hz : xs.length <= sizeLine := by rw [<- Paired.length rel]; exact z
  have hl : (putK kvs k v).length <= sizeLine := by have := l9 kvs k v; omega
  refine wpAny_setItem_heap (hsz := hz) (tupleKind_room_in1 hu) (u3 I.hok eb) dd fun h' dd' hs => h _ ?_
  obtain ⟨q, es, ep, hq, h2, h3, h4, _, h5⟩ := dd'
  refine xW I (by rw [e]; exact True.intro) hs ⟨q, hq⟩ ⟨hl, hd, _, (rel.put k eb rv).keeps fun c ys ec => ?_, q, es, ep, hq, h2, h3, h4, h5⟩
  rw [bP (aG8 ec e (fun z => nomatch z))]
  exact ec
end
section
variable {X : Cx} {pins : List (Addr × Obj)} {σ : St} {H : Hp} {s : Shared} {a : Addr} {kvs : List (Key × V)} {k : Key} {u : Value} {A : Around} {E : Value -> Shared -> Prop}
theorem aHs {Q : Value -> Shared -> Prop} (I : Inv X pins σ H s) (e : Rd H a (.dK kvs)) (h : ∀ t s', Inv X pins σ H s' -> Q (.int kvs.length t) s') : wpAny (model X.prog X.w) A (call (.builtin "len") [.ref a]) Q E s := by
 obtain ⟨z, hd, vs, rel, dd⟩ := x8 I.hok e
 refine call_len_dict hd dd (by rw [<- rel.length]; rw [sizeLine_eq] at z; omega) ?_
 rw [<- rel.length]
 exact h _ _ (I.tok _)
end
def aGq (i : Expr) : Prop := ∀ ov iv, subscripted i false ov iv = operate [ov, iv] (getItem ov iv)
theorem aDj {prog : Program} {w : World} {A : Around} {E : Value -> Shared -> Prop} {s : Shared} {env : Env} {value slice : Expr} {pos : Pos} {T id : String} {Q : Value -> Shared -> Prop}
  (hl : typeLookup (.type T) "__getitem__" = pure (some (.builtin id))) (hs : aGq slice)
  (h : wpAny (model prog w) A (eval value env) (fun o s₁ => wpAny (model prog w) A (eval slice env) (fun i s₂ => s₂.TypeIs o T /\ wpAny (model prog w) A (getItem o i) Q E s₂) E s₁) E s) :
  wpAny (model prog w) A (eval (.Subscript value slice pos) env) Q E s := by
 refine Subscript_ (wpAny_mono h (fun o s₁ h₁ => wpAny_mono h₁ (fun i s₂ h₂ => ?_) fun _ _ x => x) fun _ _ x => x)
 obtain ⟨hT, h₂⟩ := h₂
 unfold subscriptTail
 refine wpAny_bind ?_
 rw [getitemInPython_of_ne hT.not_modules]
 refine wpAny_bind (wpAny_specialOf hT hl ?_)
 have fin : wpAny (model prog w) A (subscripted slice false o i) (fun r s₃ => wpAny (model prog w) A (letTemporaryGo value o r >>= fun _ => pure r) Q E s₃) E s₂ := by
  rw [hs o i]
  exact wpAny_operating (wpAny_mono h₂ (fun r s₃ h₃ => wpAny_bind (wpAny_letTemporaryGo (wpAny_pure h₃))) fun _ _ x => x)
 first
  | exact wpAny_pure (wpAny_bind fin)
  | exact wpAny_bind (wpAny_pure (wpAny_bind fin))
  | exact wpAny_bind fin
theorem sX {X : Cx} {pins : List (Addr × Obj)} {σ : St} {H : Hp} {s : Shared} {a : Addr} {y : V} {o : Option V} (I : Inv X pins σ H s) (g : DGet H a y o) : s.TypeIs (.ref a) "dict" := by
 rcases g with ⟨kvs, k, e, _, _⟩ | ⟨kvs, k, b, e, _, _, _⟩
 ·obtain ⟨_, _, vs, _, dd⟩ := x8 I.hok e
  exact dd.typeIs
 ·obtain ⟨_, _, xs, _, dd⟩ := aBi I.hok e
  exact dd.typeIs
def aHq (td ty : TE) : TE := fun σ H Q => td σ H fun x H1 => ty σ H1 fun y H2 => ∃ a v, x = .ref a /\ DGet H2 a y (some v) /\ Q v H2
def wH (ty td : TE) : TE := fun σ H Q => ty σ H fun y H1 => td σ H1 fun x H2 => ∃ a o, x = .ref a /\ DGet H2 a y o /\ Q (.bl (!o.isSome)) H2
def aHw (td ty tv : TE) : TS := fun D σ H => tv σ H fun v H1 => td σ H1 fun x H2 => ty σ H2 fun y H3 => ∃ a H4, x = .ref a /\ DPut H3 a y v H4 /\ D.nx σ H4
section
variable {X : Cx} {o i e value : Expr} {pos pos' tpos : Pos} {td ty tv : TE}
theorem aCo (hu : X.A.units + 1 < cLine) (ho : PE X o td) (hi : PE X i ty) (hs : aGq i) : PE X (.Subscript o i pos) (aHq td ty) := by
 intro pins s σ H Q I h
 refine aDj PySem.F.slot_dict_getitem.lookup hs (thn (ho pins s σ H _ I h) fun u s1 ⟨x, H1, I1, rx, q1⟩ => thn (hi pins s1 σ H1 _ I1 q1) fun iv s2 ⟨y, H2, I2, ry, a, v, ex, g, q2⟩ => ?_)
 subst ex
 obtain rfl : u = Value.ref a := rx
 exact ⟨sX I2 g, xD hu I2 g ry fun w' s3 I3 rw' => ⟨v, H2, I3, rw', q2⟩⟩
theorem w6 (hu : X.A.units + 1 < cLine) (hi : PE X i ty) (ho : PE X o td) : PC X .NotIn i o (wH ty td) := by
 intro pins s σ H Q I h
 refine thn (hi pins s σ H _ I h) fun iv s1 ⟨y, H1, I1, ry, q1⟩ => thn (ho pins s1 σ H1 _ I1 q1) fun u s2 ⟨x, H2, I2, rx, a, ov, ex, g, q2⟩ => ?_
 subst ex
 obtain rfl : u = Value.ref a := rx
 exact aCs hu I2 g ry fun s3 I3 => ⟨.bl (!ov.isSome), H2, I3, rfl, q2⟩
theorem aCu (hu : X.A.units + 1 < cLine) (ho : PE X o td) (hi : PE X i ty) (hv : PE X value tv) (hs : swapsWith value (some (.Subscript o i pos')) pos.line X.env = pure false) :
  PS X (.Assign [.Subscript o i pos'] value pos) (aHw td ty tv) := by
 intro pins s σ H D I h
 refine wpAny_Assign_Subscript (thn (hv pins s σ H _ I h) fun r s1 ⟨v, H1, I1, rv, q1⟩ => thn (ho pins s1 σ H1 _ I1 q1) fun u s2 ⟨x, H2, I2, rx, q2⟩ => thn (hi pins s2 σ H2 _ I2 q2) fun iv s3 ⟨y, H3, I3, ry, a, H4, ex, g, q3⟩ => ?_) hs
 subst ex
 obtain rfl : u = Value.ref a := rx
 exact zD hu I3 g ry rv fun s4 I4 => ⟨σ, H4, I4, q3⟩
end
theorem aAj {P : Program} {w : World} {H : Hp} (h : Heap) (hb : sysModules < h.objs.size) : ObjOk P w H (h.push { cls := .type "dict", data := .dict #[] }) h.objs.size (.dT []) :=
 ⟨Nat.zero_le _, beq_eq_false_iff_ne.mpr (Ne.symm (Nat.ne_of_lt hb)), [], .nil, _, #[], 0, Heap.get?_push_size _ rfl, ⟨rfl, rfl, rfl⟩, rfl, rfl, List.nodup_nil⟩
def aE0 : TE := fun _ H Q => ∀ p, H p = none -> Q (.ref p) (upd H p (.dT []))
section
variable {X : Cx} {pos : Pos}
theorem aA0 : PE X (.Dict [] [] pos) aE0 := fun pins s σ H Q I h =>
 wpAny_Dict_empty ⟨.ref s.heap.objs.size, _, I.laid (a := s.heap.objs.size) (o := .dT []) (t' := s.toks) (fun _ _ q => Heap.get?_push_of_some _ q) (Nat.le_refl _) (aAj s.heap I.big), rfl, h _ (I.hok.fresh (Nat.le_refl _))⟩
end
section
variable {X : Cx} {pins : List (Addr × Obj)} {σ : St} {H : Hp} {s : Shared} {a : Addr} {y d : V} {u r : Value} {o : Option V} {A : Around} {E : Value -> Shared -> Prop}
end
section
variable {X : Cx} {o e f : Expr} {apos cpos : Pos} {td ty tx : TE}
end
section
variable {X : Cx} {pins : List (Addr × Obj)} {σ : St} {H : Hp} {s : Shared} {a : Addr} {kvs : List (Key × V)} {A : Around} {E : Value -> Shared -> Prop}
end
section
variable {X : Cx} {pins : List (Addr × Obj)} {σ : St} {H : Hp} {s : Shared} {a : Addr} {y : V} {u : Value} {A : Around} {E : Value -> Shared -> Prop}
end
end L2
namespace Att
open PySem PySem.W PySem.Calls PyProof.Rows
theorem mL {P : Params} {h : Heap} : ∀ (ns : List Int) (vs : List Value), WellAll P h vs (ns.map WData.int) -> IntsAre vs ns := by
 intro ns
 induction ns with
 | nil =>
  intro vs w
  rw [List.map_nil] at w
  cases w
  exact .nil
 | cons n ns ih =>
  intro vs w
  rw [List.map_cons] at w
  cases w with
  | cons a b =>
   cases a
   exact .cons _ _ (ih _ b)
theorem yY {l : OpenLaw} {n : Nat} (hn : l.most = some n) {P : Params} {h : Heap} {args : List WData} {vals : List Value}
  (aD1 : l.row.toRowW.claim.pre args = true) (hwl : WellAll P h vals args) :
  ∃ a vs ns, vals = [Value.ref a] /\ args = [WData.list (ns.map WData.int)] /\ h.get? a = some { cls := .type "list", data := .seq vs.toArray } /\ IntsAre vs ns /\ ns.length <= n := by
 have hsh : WShape.hasAll [] args [.list .int] = true := (pre_splitW aD1).1
 have hc : l.pre.holds [] { args := args } = true := (pre_splitW aD1).2
 obtain ⟨d, r, rfl, h1, h2⟩ := hasAllW_cons hsh
 obtain rfl := hasAllW_nil h2
 obtain ⟨xs, rfl, h3⟩ := hasW_list h1
 obtain ⟨ns, rfl⟩ := items_int h3
 have hlen : ns.length <= n := by
  unfold OpenLaw.pre at hc
  have h4 : (WTm.not (.lt (.lit (.int (n : Int))) (.len (.arg 0)))).holds [] { args := [.list (ns.map .int)] } = true := by
   have h4 := (holds_andW hc).1
   rw [hn] at h4
   exact h4
  have h5 := condW_of h4 (w_not (w_lt w_lit (w_len_list (w_arg rfl))))
  rw [List.length_map] at h5
  refine Nat.le_of_not_lt fun q => ?_
  have q' : (n : Int) < ((ns.length : Nat) : Int) := by omega
  first
   | (rw [decide_eq_true q'] at h5; exact absurd h5 (by decide))
   | (simp at h5; omega)
 cases hwl with
 | cons w1 w2 =>
  cases w2
  cases w1 with
  | list ho hall => exact ⟨_, _, ns, rfl, rfl, ho, mL ns _ hall, hlen⟩
theorem yZ (l : OpenLaw) (args : List WData) : l.row.toRowW.claim.post args (.bool true) args = true :=
 postW_of (r := l.row.toRowW) (X := (true == true))
  (show WShape.has [] (.bool true) .bool = true by first | rfl | decide | simp [WShape.has, WShape.arms, WShape.armsAll])
  (show (WTm.eq .res (.lit (.bool true))).value [] { args := args, res := some (.bool true), after := args } = some (.bool (true == true)) from w_eq_bool (w_res rfl) w_lit) rfl
theorem r0 {l : OpenLaw} {n : Nat} {q : Program} {loose : List Str} {XP : (Str -> Option Value) -> Heap -> Prop} {YP : World -> Heap -> Prop} {d : DefRec}
  (hn : l.most = some n) (hdf : d.params.defaults = [])
  (call : ∀ (w : World) (s₀ s₁ : Shared) (mg mb : Str -> Option Value) (fa : Addr) (o : Obj) (pm cd doc : Value) (a : Addr) (vs : List Value) (ns : List Int),
   Ground q loose [] XP w s₀ mg mb s₁.heap -> YP w s₁.heap ->
   s₁.heap.get? fa = some o -> o.data = .func (docDef d.name d.params d.body d.scope pm cd doc) -> s₁.heap.CodeRec cd d.name -> mg d.name = some (.ref fa) ->
   s₁.heap.get? a = some { cls := .type "list", data := .seq vs.toArray } -> IntsAre vs ns -> ns.length <= n -> s₁.gens = #[] ->
   codeAny (model l.prog w) callerA (.call (.ref fa) ⟨[.ref a], []⟩) (fun r s' => r = .ok (.ret (.bool true)) /\ OldK s₁.heap s'.heap /\ s'.os = s₁.os /\ AllBare s'.gens) s₁) :
  WalkO q loose XP YP l.row.toRowW d [] (fun f vs => PySem.call f vs) := by
 intro w s₀ s₁ mg mb G Y fa o pm cd doc dV kV ho hd hcd hD hmg hg args vals as aD1 hlay hrd hwl hlo
 obtain rfl : dV = .none := Dflts.none hD hdf
 obtain rfl : kV = .none := Dflts.noKw hD
 obtain ⟨a, vs, ns, rfl, rfl, hobj, hints, hlen⟩ := yY hn aD1 hwl
 refine enter_call (codeAny_mono (call w s₀ s₁ mg mb fa o pm cd doc a vs ns G Y ho (fd_plain hd) hcd hmg hobj hints hlen hg) fun r s' hq => ?_)
 obtain ⟨rfl, h2, h3, h4⟩ := hq
 exact ⟨.inl ⟨.bool true, .bool true, [], rfl, fun _ => rfl, .bool true, yZ l _, fun _ => ⟨List.Pairwise.nil, fun _ hm => (nomatch hm)⟩⟩, h2, h3, h4⟩
section
variable {prog : Program} {w : World} {A : Around} {E : Value -> Shared -> Prop} {s : Shared} {K : Frag}
end
end Att
namespace L2
open PySem PySem.Spec PyProof.Rows
theorem pZ : ∀ {vs : List Value} {ns : List Int}, IntsAre vs ns -> Vals (ns.map V.int) vs
 | _, _, .nil => .nil
 | _, _, .cons n t h => .cons ⟨t, rfl⟩ (pZ h)
def aGy (H : Hp) : Prop := ∀ b, H b = none \/ ∃ o xs, H b = some (.frz o (.lst xs))
theorem aBd {P : Program} {w : World} {K : PySem.W.Frag} {mg mb : Str -> Option Value} {CX : CXT} {k : Nat} {fa a : Addr} {fd : FuncData} {x : Str} {sp : Sp} {s₁ : Shared} {vs : List Value} {ns : List Int}
  (KX : K.In s₁.heap) (hns : s₁.heap.Ns mainGlobals mg) (hb : s₁.heap.Ns builtinsNs mb) (hbb : ∀ x : Str, x ≠ "__name__" -> mb x = bootBuiltins x) (hlim : s₁.heap.NoLimit) (hg : s₁.gens = #[])
  (ha : s₁.heap.get? a = some { cls := .type "list", data := .seq vs.toArray }) (hi : IntsAre vs ns) (hl : ns.length <= sizeLine) (hr : Room k callerA)
  (F : ∀ base : Heap, K.In base -> base.Ns mainGlobals mg -> FnOk P w K mg base CX k fa fd [x] sp) (hbind : ∀ (s : Shared) (u : Value), BindsTo s fd ⟨[u], []⟩ [(x, u)])
  (hsp : ∀ H : Hp, aGy H -> SqL K H a (ns.map V.int) -> sp [.ref a] H (fun v _ => v = .bl true) fun _ _ _ => False)
  (hCX : ∀ H e s', CX [] H s₁ (fun _ _ _ => False) e s' -> False) :
  codeAny (model P w) callerA (.call (.ref fa) ⟨[.ref a], []⟩) (fun r s' => r = .ok (.ret (.bool true)) /\ OldK s₁.heap s'.heap /\ s'.os = s₁.os /\ AllBare s'.gens) s₁ := by
 have rv := pZ hi
 have lenV := hi.length
 have core : ∀ H : Hp, aGy H -> SqL K H a (ns.map V.int) -> HOk P w H s₁.heap -> (∀ b, H b ≠ none -> b = a) -> (H a ≠ none -> K.lookup a = none) ->
   codeAny (model P w) callerA (.call (.ref fa) ⟨[.ref a], []⟩) (fun r s' => r = .ok (.ret (.bool true)) /\ OldK s₁.heap s'.heap /\ s'.os = s₁.os /\ AllBare s'.gens) s₁ := by
  intro H hO hS hok hA hK
  have base_of : ∀ {b : Addr} {o : Obj}, s₁.heap.get? b = some o -> H b = none -> (aA3 s₁.heap H).get? b = some o := fun e n => aAq e n
  have noA : ∀ {b : Addr} {o : Obj} {es : Array DictEntry} {ep : Nat}, s₁.heap.get? b = some o -> o.data = .dict es ep -> H b = none := fun {b o es ep} e d => by
   cases q : H b with
   | none => rfl
   | some u =>
    have e' : b = a := hA b (by rw [q]; simp)
    subst e'
    rw [ha] at e; cases e
    have d' : Data.seq vs.toArray _ = Data.dict es ep := d
    cases d'
  have nsK : ∀ {b : Addr} {m : Str -> Option Value}, s₁.heap.Ns b m -> (aA3 s₁.heap H).Ns b m := fun {b m} ⟨o, es, ep, e, d, r⟩ => ⟨o, es, ep, base_of e (noA e d), d, r⟩
  have hKb : K.In (aA3 s₁.heap H) := fun b o e => base_of (KX b o e) (by
   cases q : H b with
   | none => rfl
   | some u =>
    have e' : b = a := hA b (by rw [q]; simp)
    subst e'
    rw [hK (by rw [q]; simp)] at e; cases e)
  have hM : Mod K mg (aA3 s₁.heap H) := ⟨hKb, nsK hns, ⟨mb, nsK hb, hbb⟩, let ⟨mc, h1, h2⟩ := hlim; ⟨mc, nsK h1, h2⟩⟩
  have e0 : aD2 P w K mg (aA3 s₁.heap H) callerA [] s₁ H := ⟨rfl, hM, fun b o e => aCj e, Nat.le_of_eq (wX _ _), trivial, fun b hb => absurd (show b ∈ ([] : List Addr) from hb) (by simp), hok, .of_eq hg⟩
  refine codeAny_mono ((F _ hKb (nsK hns)).run callerA [] s₁ H ⟨[.ref a], []⟩ [.ref a] [.ref a] _ _ hr e0 (hbind s₁ (.ref a)) (.cons rfl .nil) (hsp H hO hS)) fun r s' h => ?_
  cases r with
  | error e => exact (hCX H e s' h).elim
  | ok fl =>
   cases fl with
   | next => exact False.elim h
   | brk => exact False.elim h
   | cont => exact False.elim h
   | ret u =>
    obtain ⟨v, H', os, bare, un, hok', r', q⟩ := h
    have q' : v = .bl true := q
    subst q'
    obtain rfl : u = Value.bool true := r'
    refine ⟨rfl, OldK.of_keep fun b o e => ?_, os, bare⟩
    cases q : H b with
    | none => exact un.keep b o e q (by intro z; exact absurd (show b ∈ ([] : List Addr) from z) (by simp)) (by simp)
    | some u =>
     rcases hO b with z | ⟨ob, xs, z⟩
     ·rw [q] at z; cases z
     ·have z2 := un.frzs b ob _ z
      obtain ⟨e1, _⟩ := hok b _ z
      obtain ⟨e2, _⟩ := hok' b _ z2
      rw [e] at e1; cases e1
      exact e2
 cases hk : K.lookup a with
 | some o =>
  have e := KX a o hk
  rw [ha] at e
  cases e
  refine core (fun _ => none) (fun _ => .inl rfl) (.inr ⟨_, vs.toArray, _, hk, rfl, rfl, rfl, by rw [List.size_toArray, lenV]; exact hl, by simpa using rv⟩) (fun b u z => by have z' : (none : Option HO) = some u := z; cases z') (fun b z => absurd rfl z) fun z => absurd rfl z
 | none =>
  refine core (fun b => if b = a then some (.frz { cls := .type "list", data := .seq vs.toArray } (.lst (ns.map V.int))) else none) (fun b => ?_) (.inl (.inr ⟨{ cls := .type "list", data := .seq vs.toArray }, if_pos rfl⟩)) (fun b u z => ?_) (fun b z => ?_) fun _ => hk
  ·by_cases hb : b = a
   ·exact .inr ⟨_, _, if_pos hb⟩
   ·exact .inl (if_neg hb)
  ·by_cases hb : b = a
   ·have z' := (if_pos hb).symm.trans z
    cases z'
    subst hb
    exact ⟨ha, by rw [List.length_map]; exact hl, vs, _, rv, ha⟩
   ·have z' := (if_neg hb).symm.trans z
    cases z'
  ·by_cases hb : b = a
   ·exact hb
   ·exact absurd (if_neg hb) z
theorem aDm {l : PySem.W.OpenLaw} {n k : Nat} {q : Program} {loose : List Str} {XP : (Str -> Option Value) -> Heap -> Prop} {YP : World -> Heap -> Prop} {d : DefRec} {K : Params -> PySem.W.Frag} {CX : World -> CXT} {sp : World -> Sp} {x : Str}
  (hn : l.most = some n) (hn2 : n <= sizeLine) (hdf : d.params.defaults = []) (hr : Room k callerA)
  (hY : ∀ (w : World) (h : Heap), YP w h -> (K w.params).In h)
  (F : ∀ (w : World) (mg : Str -> Option Value) (fa : Addr) (h : Heap), (K w.params).In h -> h.Ns mainGlobals mg -> mg d.name = some (.ref fa) ->
   ∃ fd : FuncData, (∀ (s : Shared) (u : Value), BindsTo s fd ⟨[u], []⟩ [(x, u)]) /\
    ∀ base : Heap, (K w.params).In base -> base.Ns mainGlobals mg -> FnOk l.prog w (K w.params) mg base (CX w) k fa fd [x] (sp w))
  (hsp : ∀ (w : World) (H : Hp) (a : Addr) (ns : List Int), ns.length <= n -> aGy H -> SqL (K w.params) H a (ns.map V.int) -> sp w [.ref a] H (fun v _ => v = .bl true) fun _ _ _ => False)
  (hCX : ∀ (w : World) (H : Hp) (s : Shared) (e : Value) (s' : Shared), CX w [] H s (fun _ _ _ => False) e s' -> False) :
  PySem.W.WalkO q loose XP YP l.row.toRowW d [] (fun f vs => PySem.call f vs) := by
 refine Att.r0 hn hdf fun w s₀ s₁ mg mb fa o pm cd doc a vs ns G Y ho hd hcd hmg hobj hints hlen hg => ?_
 have KX := hY w _ Y
 obtain ⟨fd, hb, hF⟩ := F w mg fa _ KX G.T.g hmg
 exact aBd KX G.T.g G.T.b G.T.builtins G.T.nolimit hg hobj hints (Nat.le_trans hlen hn2) hr hF hb (fun H hO hS => hsp w H a ns hlen hO hS) fun H e s' => hCX w H s₁ e s'
def fX (s : Stmt) : Arguments := match s with
 | .FunctionDef _ a _ _ _ _ _ _ _ _ => a
 | _ => { posonlyargs := [], args := [], vararg := none, kwonlyargs := [], kw_defaults := [], kwarg := none, defaults := [] }
def d8 (s : Stmt) : List Stmt := match s with
 | .FunctionDef _ _ b _ _ _ _ _ _ _ => b
 | _ => []
def aJ (s : Stmt) : Scope := match s with
 | .FunctionDef _ _ _ _ _ _ sc _ _ _ => sc
 | _ => { kind := .function, names := [], isGenerator := false, isCoroutine := false }
abbrev CX0 : CXT := fun _ _ _ _ _ _ => False
abbrev E0 : XK := fun _ _ _ => False
structure Fun (K : PySem.W.Frag) (x qual : Str) (st : Stmt) (f : Addr) (fd : FuncData) : Prop where
 ex : ∃ (oc : Value) (od : Option Addr) (kV doc pm : Value) (an : Option Addr) (cdv ct : Value) (osl : Array (Option Value)),
  fd = PySem.W.fnOf x qual (fX st) (d8 st) (aJ st) .none kV doc pm an cdv ct /\ K.lookup f = some ⟨oc, od, .func fd, osl⟩ /\ PySem.W.codeIn K cdv qual = true
 kp : PySem.W.keepIn K (.ref f) = true
section
variable {P : Program} {w : World} {K : PySem.W.Frag} {mg : Str -> Option Value} {base : Heap}
theorem Fun.binds {x qual : Str} {st : Stmt} {f : Addr} {fd : FuncData} {ps : List Str} (F : Fun K x qual st f fd)
  (h : ∀ (kV doc pm : Value) (an : Option Addr) (cdv ct : Value) (us : List Value), us.length = ps.length -> bindArgs (PySem.W.fnOf x qual (fX st) (d8 st) (aJ st) .none kV doc pm an cdv ct) ⟨us, []⟩ = pure (ps.zip us)) : Binds K fd ps [] := by
 obtain ⟨oc, od, kV, doc, pm, an, cdv, ct, osl, rfl, lk, hcd⟩ := F.ex
 exact .all (h kV doc pm an cdv ct)
theorem aB3 {x qual : Str} {st : Stmt} {f : Addr} {oc : Value} {od an : Option Addr} {osl : Array (Option Value)} {kV doc pm cdv ct : Value} (l : K.lookup f = some ⟨oc, od, .func (PySem.W.fnOf x qual (fX st) (d8 st) (aJ st) .none kV doc pm an cdv ct), osl⟩)
  (c : PySem.W.codeIn K cdv qual = true) (k : PySem.W.keepIn K (.ref f) = true) : Fun K x qual st f (PySem.W.fnOf x qual (fX st) (d8 st) (aJ st) .none kV doc pm an cdv ct) := ⟨⟨oc, od, kV, doc, pm, an, cdv, ct, osl, rfl, l, c⟩, k⟩
end
section
variable {X : Cx}
theorem pv (i : Nat) {x : Str} {pos : Pos} (hN : X.N[i]? = some x := by rfl) (hv : Vis X.env.scope x := by first | exact Or.inl rfl | exact Or.inr (Or.inl rfl) | exact Or.inr (Or.inr rfl)) (hd : (x == ("__debug__" : Str)) = false := by decide)
  (hcd : (x == ("__classdict__" : Str)) = false := by decide) : PE X (.Name x pos) (aEw i) := aB6 hN hv hd hcd
end
def Same (H H' : Hp) : Prop := ∀ b o, H b = some o -> H' b = some o
theorem Same.refl (H : Hp) : Same H H := fun _ _ h => h
theorem Same.trans {H H1 H2 : Hp} (a : Same H H1) (b : Same H1 H2) : Same H H2 := fun c o h => b c o (a c o h)
theorem Same.free {H H' : Hp} (e : Same H H') {l : Addr} (h : H' l = Option.none) : H l = Option.none := by
 cases q : H l with
 | none => rfl
 | some o =>
  rw [e l o q] at h
  cases h
theorem Same.seq {K : PySem.W.Frag} {H H' : Hp} {a : Addr} {xs : List V} (e : Same H H') (h : SqL K H a xs) : SqL K H' a xs := by
 rcases h with (h | ⟨o, h⟩) | h
 ·exact .inl (.inl (e _ _ h))
 ·exact .inl (.inr ⟨o, e _ _ h⟩)
 ·exact .inr h
section
variable {X : Cx}
end
section
variable {κ : Type} [DecidableEq κ]
end
end L2
set_option maxHeartbeats 4000000
namespace PySem.W
open PySem PySem.Spec PySem.Calls PyProof.Rows Builtin Builtin.ObjectAttr Builtin.Getset_descriptor
section
variable {prog : Program} {w : World} {A : Around} {E : Value -> Shared -> Prop} {K : Frag} {h : Heap} {g : Array GenState} {d : Drawn} {t : Nat} {os : OsState} {a C : Addr}
structure ExcK (K : Frag) (C : Addr) : Prop where
 ga : findIn K (.ref C) "__getattribute__" = some (some (.builtin "BaseException.__getattribute__"))
 gt : findIn K (.ref C) "__getattr__" = some none
 cl : findIn K (.ref C) "__class__" = some (some (.builtin "object.__class__"))
 mo : mroIn K C (.type "object") = some true
 mb : mroIn K C (.type "BaseException") = some true
 ic : (clsIn K C).isSome = true
def ExcAt (a : Addr) (cls : Value) (h : Heap) : Prop := ∃ o, h.get? a = some o /\ o.cls = cls /\ ∃ vs, o.data = .fields vs
theorem ExcAt.ty {cls : Value} (p : ExcAt a cls h) (M : Model) : Looks M h (typeOf (.ref a)) cls := by
 obtain ⟨o, h1, h2, _⟩ := p
 exact h2 ▸ (Looks.ld h1).andThen .now
theorem aFc {tp : Value} {R : Result -> Shared -> Prop} (X : K.In h) (T : ExcK K C) (p : ExcAt a (.ref C) h) (hq : R (.ok (.ret (.ref C))) ⟨h, g, d, t, os⟩) :
  codeAny (model prog w) A (.call (.builtin "getset_descriptor.__get__") ⟨[.builtin "object.__class__", .ref a, tp], []⟩) R ⟨h, g, d, t, os⟩ := by
 have La := p.ty (model prog w)
 have Lb := looks_mroIn (M := model prog w) X T.mo
 refine codeAny_call_builtin KF.slot_gs.plain KF.entry_gs (KF.slot_gs.check _ _ _ _ _ _ _ _ KF.type_class (KF.args_gs _ _ _) ?_)
 unfold Builtin.«getset_descriptor.__get__» descrGet
 rw [dga_obj]
 refine wpAny_bind (wpAny_pure ?_)
 unfold descrGetter descrCheckInstance descrNameAndClass isInstance
 simp only [KF.owner_class]
 repeat lk
 refine ⟨Code.quiet_builtin _ (by decide +kernel), codeAny_builtin KF.entry_class ?_⟩
 unfold Builtin.«object.__class__» shownTypeOf
 repeat lk
 exact hq
theorem zX {tk : Tok} {Q : Fin -> Shared -> Prop} (X : K.In h) (T : ExcK K C) (p : ExcAt a (.ref C) h) (hq : Q (.done (.ret (.ref C))) ⟨h, g, d, t, os⟩) :
  wpAny (model prog w) A (Builtin.«object.__getattribute__» ⟨[.ref a, .str "__class__" tk], []⟩) Q E ⟨h, g, d, t, os⟩ := by
 have La := p.ty (model prog w)
 have Lc := looks_findIn (M := model prog w) X T.cl
 have hT5 : (⟨h, g, d, t, os⟩ : Shared).TypeIs (.builtin "object.__class__") "getset_descriptor" := F.typeOf_object_class
 have e5 := F.typeOf_object_class
 have e6 := F.slot_gs_get.lookup
 have e7 := F.slot_gs_set.lookup
 repeat (any_goals (first | assumption | with_reducible refine Looks.at (by assumption) ?_ | wp_step))
 refine aFc X T p ?_
 repeat (any_goals (first | assumption | wp_step))
theorem aA1 {M : Model} {nameV : Value} {Q : Unit -> Shared -> Prop} (X : K.In h) (T : ExcK K C) (p : ExcAt a (.ref C) h) (hq : Q () ⟨h, g, d, t, os⟩) :
  wpAny M A (checkBuiltinCall "BaseException.__getattribute__" ⟨[.ref a, nameV], []⟩) Q E ⟨h, g, d, t, os⟩ := by
 have hk : builtinKind "BaseException.__getattribute__" = some .slot := by decide +kernel
 have hsp : splitId "BaseException.__getattribute__" = some ("BaseException", "__getattribute__") := by decide +kernel
 have La := p.ty M
 have Lb := looks_mroIn (M := M) X T.mb
 have ha := F.args_bexc_ga (.ref a) nameV
 simp only [checkBuiltinCall, hk, hsp]
 refine wpAny_bind ?_
 unfold isInstance
 repeat (any_goals (first | assumption | with_reducible refine Looks.at (by assumption) ?_ | wp_step))
theorem aDa {tk : Tok} {R : Result -> Shared -> Prop} (X : K.In h) (T : ExcK K C) (p : ExcAt a (.ref C) h) (hq : R (.ok (.ret (.ref C))) ⟨h, g, d, t, os⟩) :
  codeAny (model prog w) A (.call (.builtin "BaseException.__getattribute__") ⟨[.ref a, .str "__class__" tk], []⟩) R ⟨h, g, d, t, os⟩ :=
 codeAny_call_builtin F.attr_ValueError.ga.plain F.entry_bexc_ga (aA1 X T p (zX X T p hq))
theorem aH3 {tk : Tok} {Q : Value -> Shared -> Prop} (X : K.In h) (T : ExcK K C) (p : ExcAt a (.ref C) h) (hq : Q (.ref C) ⟨h, g, d, t, os⟩) : wpAny (model prog w) A (getAttrBy (.ref a) (.str "__class__" tk) false) Q E ⟨h, g, d, t, os⟩ := by
 have La := p.ty (model prog w)
 have Lg := looks_findIn (M := model prog w) X T.ga
 have Lt := looks_findIn (M := model prog w) X T.gt
 have f3 := F.attr_ValueError.ga.bind (.ref a)
 have hx0 : (false && onTheHeap (Value.builtin "BaseException.__getattribute__")) = false := rfl
 have hx2 : (Value.builtin "BaseException.__getattribute__" == Value.builtin "object.__getattribute__") = false := by decide +kernel
 have hx1 : (onTheHeap (Value.ref C) && Value.builtin "BaseException.__getattribute__" == Value.builtin "object.__getattribute__") = false := by rw [hx2]; rfl
 repeat (any_goals (first | assumption | with_reducible refine Looks.at (by assumption) ?_ | wp_step))
 refine aDa X T p ?_
 repeat (any_goals (first | assumption | wp_step))
theorem aCx {Q : Option Value -> Shared -> Prop} (X : K.In h) (T : ExcK K C) (p : ExcAt a (.ref C) h) (hq : Q (some (.ref C)) ⟨h, g, d, t + 1, os⟩) : wpAny (model prog w) A (getAttr? (.ref a) "__class__") Q E ⟨h, g, d, t, os⟩ := by
 unfold getAttr? getAttrBy?
 repeat (any_goals (first | assumption | with_reducible apply aH3 X T p | wp_step))
theorem kitx_exc (T : ExcK K C) : KitX K (.ref a) (.ref C) (ExcAt a (.ref C)) where
 ty := fun M _ _ p => p.ty M
 it := fun _ _ X _ => by
  have hs := T.ic
  unfold clsIn at hs
  split at hs
  ·rename_i ho
   intro A' Q' E' s' k q
   unfold isType loadHead
   exact wpAny_bind (wpAny_loadPart (k _ _ (X _ _ ho)) (wpAny_pure q))
  ·cases hs
 ne := fun h tp dd its n sl X htp => by
  refine Bool.eq_false_iff.mpr fun q => ?_
  have e : C = tp := Value.ref.inj (beq_iff_eq.mp q)
  have hs := T.ic
  unfold clsIn at hs
  split at hs
  ·rename_i ho
   have z := X _ _ ho
   rw [e, htp] at z
   cases z
  ·cases hs
 ca := fun {_ _ _ _ _ s} X p k => by
  obtain ⟨hh, gg, dd, tt, oo⟩ := s
  exact aCx X T p k
end
end PySem.W
namespace L2
open PySem PySem.Spec PyProof.Rows
structure aA2 (P : Program) (w : World) (outer : List Env) (H : Hp) (s : Shared) (ea : Addr) (cls : Value) (H' : Hp) (B : Heap) (a0 : Value) (s' : Shared) : Prop where
 os : s'.os = s.os
 bare : AllBare s'.gens
 un : Un (frs outer) [] H H' s.heap s'.heap
 hok : HOk P w H' s'.heap
 fly : Heap.FlyingW B outer ea cls a0 s'.heap
 inB : ∀ b o, s'.heap.get? b = some o -> (H' b ≠ none \/ ((∃ u, s.heap.get? b = some u) /\ b ∉ frs outer)) -> B.get? b = some o
 new : s.heap.get? ea = none
 nt : H' ea = none
def CXr (P : Program) (w : World) : CXT := fun outer H s E e s' =>
 ∃ (ea : Addr) (cls : Value) (H' : Hp) (B : Heap) (a0 : Value), e = .ref ea /\ aA2 P w outer H s ea cls H' B a0 s' /\ E cls none H'
theorem lJ {P : Program} {w : World} {H : Hp} {h h' : Heap} (ok : HOk P w H h) (k : ∀ b o, H b ≠ none -> h.get? b = some o -> h'.get? b = some o) : HOk P w H h' := fun a o e =>
 (ok a o e).stay (fun b u hb q => k b u (by
  rcases hb with z | z
  ·rw [z, e]; exact fun q => nomatch q
  ·rw [z]; exact fun q => nomatch q) q) (fun _ q => q) fun _ _ q => q
theorem lY {P : Program} {w : World} {H : Hp} {h : Heap} {a : Addr} {o : HO} (x : ObjOk P w H h a o) : ∃ ob, h.get? a = some ob := by
 cases o with
 | lst xs => obtain ⟨_, _, _, _, e⟩ := x; exact ⟨_, e⟩
 | tup xs => obtain ⟨_, _, _, ob, e, _⟩ := x; exact ⟨_, e⟩
 | dK kvs => obtain ⟨_, _, _, _, o, _, _, e, _⟩ := x; exact ⟨_, e⟩
 | dT kvs => obtain ⟨_, _, _, _, o, _, _, e, _⟩ := x; exact ⟨_, e⟩
 | set S n => obtain ⟨o, _, _, _, e, _⟩ := x; exact ⟨_, e⟩
 | ins C dx fs => obtain ⟨_, _, _, e, _⟩ := x; exact ⟨_, e⟩
 | own y => exact x
 | xd fs => obtain ⟨_, ⟨_, _, _, e, _⟩, _⟩ := x; exact ⟨_, e⟩
 | rng lo hi => obtain ⟨_, _, _, e⟩ := x; exact ⟨_, e⟩
 | frz ob u => obtain ⟨e, _⟩ := x; exact ⟨_, e⟩
 | tbl ps => exact ⟨_, (show h.get? a = some _ from x)⟩
 | met f y => exact ⟨_, (show h.get? a = some _ from x)⟩
 | ext φ => obtain ⟨_, e, _⟩ := x; exact e
theorem HOk.there {P : Program} {w : World} {H : Hp} {h : Heap} {a : Addr} (x : HOk P w H h) (n : H a ≠ none) : ∃ ob, h.get? a = some ob := by
 cases q : H a with
 | none => exact absurd q n
 | some u => exact lY (x a u q)
section
variable {P : Program} {w : World} {K : PySem.W.Frag} {mg : Str -> Option Value} {base : Heap} {N : List Str} {qual : Str} {scope : Scope} {f : Addr} {cd : Value} {A : Around} {outer : List Env} {s : Shared} {H : Hp} {E : XK}
theorem oY {env : Env} {l : List Env} {L : Addr} (h : env.frame = some L) : frs (env :: l) = L :: frs l := by
 unfold frs
 rw [List.filterMap_cons, h]
theorem uU {X : Cx} {pins : List (Addr × Obj)} {σ : St} {H1 H' : Hp} {s1 : Shared} {B h'' : Heap} {ea : Addr} {cls a0 : Value} {g' : Array GenState} {d' : Drawn} {t' : Nat} {os' : OsState}
  (I : Inv X pins σ H1 s1) (hx : X.ex = []) (hs : X.env.locals ∉ frs X.outer)
  (ho : os' = X.s₀.os) (hg : AllBare g')
  (fly : Heap.FlyingW B X.outer ea cls a0 h'')
  (kp : ∀ b o, s1.heap.get? b = some o -> H1 b = none -> b ∉ frs X.outer -> b ≠ X.env.locals -> B.get? b = some o)
  (sl : ∀ b o, s1.heap.get? b = some o -> b ∈ frs X.outer -> ∃ sl, h''.get? b = some { o with slots := sl })
  (fr : ∀ b o, s1.heap.get? b = some o -> H1 b = none -> H' b = none)
  (tups : ∀ b xs, H1 b = some (.tup xs) -> H' b = some (.tup xs)) (frzs : ∀ b o u, H1 b = some (.frz o u) -> H' b = some (.frz o u)) (tbls : ∀ b ps, H1 b = some (.tbl ps) -> ∃ more, H' b = some (.tbl (ps ++ more)))
  (hok : HOk X.prog X.w H' h'') (inH : ∀ b o, h''.get? b = some o -> H' b ≠ none -> B.get? b = some o)
  (th : ∀ b o, s1.heap.get? b = some o -> H1 b ≠ none -> ∃ o', h''.get? b = some o')
  (inB : ∀ b o, s1.heap.get? b = some o -> b ∉ frs X.outer -> b ≠ X.env.locals -> ∃ o', B.get? b = some o')
  (new : s1.heap.get? ea = none) (nt : H' ea = none) :
  aA2 X.prog X.w X.outer X.H₀ X.s₀ ea cls H' B a0 ⟨h'', g', d', t', os'⟩ := by
 have hxn : ∀ b : Addr, b ∉ X.ex := fun b z => by rw [hx] at z; cases z
 have neL : ∀ b o, X.s₀.heap.get? b = some o -> b ≠ X.env.locals := fun b o e => Nat.ne_of_lt (Nat.lt_of_lt_of_le (Heap.lt_size e) I.ok.above)
 have st := fly.1
 refine ⟨ho, hg, ⟨fun b o e n hb _ => ?_, fun b o e n hb _ => ?_, fun b o e n _ => ?_, fun b o e _ => ?_, fun b xs e => tups b xs (I.base.tups b xs e), fun b o u e => frzs b o u (I.base.frzs b o u e), fun b ps e => ?_⟩, hok, fly, fun b o e hb => ?_, ?_, nt⟩
 ·exact st b o (kp b o (I.base.keep b o e n hb (hxn b)) (I.base.free b o e n (hxn b)) hb (neL b o e))
 ·obtain ⟨l1, e1⟩ := I.base.slot b o e n hb (hxn b)
  obtain ⟨l2, e2⟩ := sl b _ e1 hb
  exact ⟨l2, e2⟩
 ·obtain ⟨o1, e1⟩ := I.base.there b o e (hxn b)
  exact fr b o1 e1 (I.base.free b o e n (hxn b))
 ·obtain ⟨o1, e1⟩ := I.base.there b o e (hxn b)
  by_cases hb : b ∈ frs X.outer
  ·obtain ⟨l2, e2⟩ := sl b o1 e1 hb
   exact ⟨_, e2⟩
  ·obtain ⟨o2, e2⟩ := inB b o1 e1 hb (neL b o e)
   exact ⟨o2, st b o2 e2⟩
 ·obtain ⟨m1, e1⟩ := I.base.tbls b ps e
  obtain ⟨m2, e2⟩ := tbls b _ e1
  exact ⟨m1 ++ m2, by rw [e2, Array.append_assoc]⟩
 ·rcases hb with hb | ⟨⟨u, hu⟩, hb⟩
  ·exact inH b o e hb
  ·obtain ⟨o1, e1⟩ := I.base.there b u hu (hxn b)
   obtain ⟨o2, e2⟩ := inB b o1 e1 hb (neL b u hu)
   have e3 := st b o2 e2
   have e4 : h''.get? b = some o := e
   rw [e3] at e4
   cases e4
   exact e2
 ·cases q : X.s₀.heap.get? ea with
  | none => rfl
  | some o =>
   obtain ⟨o', e'⟩ := I.base.there ea o q (hxn ea)
   rw [new] at e'
   cases e'
theorem aH4 : aFu (CXr P w) (lL (CXr P w) P w K mg base N qual scope f cd A outer s H E) E := by
 intro pins σ H1 s1 e s1' I h
 obtain ⟨ea, cls, H', B, a0, rfl, F, want⟩ := h
 have hfr : (lL (CXr P w) P w K mg base N qual scope f cd A outer s H E).A.frames = some (envOfC qual scope s.heap.objs.size f cd :: outer) := I.ok.frames
 have hstk : frs (lL (CXr P w) P w K mg base N qual scope f cd A outer s H E).stack = s.heap.objs.size :: frs outer := oY rfl
 have hLo : s.heap.objs.size ∉ frs outer := fun z => by
  obtain ⟨_, o, ho, _⟩ := I.ok.funs.mem z
  exact absurd (Heap.lt_size ho) (Nat.lt_irrefl _)
 have nst : ∀ {b : Addr}, b ∉ frs outer -> b ≠ s.heap.objs.size -> b ∉ frs (lL (CXr P w) P w K mg base N qual scope f cd A outer s H E).stack := fun h1 h2 z => by
  rw [hstk] at z
  rcases List.mem_cons.mp z with z | z
  ·exact h2 z
  ·exact h1 z
 show wpAny (model P w) _ (leaving _ (.ref ea)) _ _ s1'
 refine wpAny_leaves_onW hfr rfl F.fly fun h'' fl' up => ?_
 have inB' : ∀ b o, s1'.heap.get? b = some o -> H' b ≠ none -> h''.get? b = some o := fun b o e n => fl'.1 b o (F.inB b o e (.inl n))
 refine ⟨ea, cls, H', B, a0, rfl, uU (X := lL (CXr P w) P w K mg base N qual scope f cd A outer s H E) I rfl hLo (F.os.trans I.os) F.bare fl' (fun b o e n hb hL => ?_) (fun b o e hb => ?_) (fun b o e n => F.un.free b o e n (by simp)) F.un.tups F.un.frzs F.un.tbls
  (lJ F.hok fun b o n e => inB' b o e n) (fun b o e n => ?_) (fun b o e n => ?_) (fun b o e hb hL => ?_) F.new F.nt, want⟩
 ·exact F.inB b o (F.un.keep b o e n (nst hb hL) (by simp)) (.inr ⟨⟨o, e⟩, nst hb hL⟩)
 ·have hb' : b ∈ frs outer := hb
  have n : H1 b = none := by
   have := I.stkFree b (by rw [hstk]; exact List.mem_cons_of_mem _ hb')
   exact this
  obtain ⟨l1, e1⟩ := F.un.slot b o e n (by rw [hstk]; exact List.mem_cons_of_mem _ hb') (by simp)
  obtain ⟨_, o', ho', hd'⟩ := F.fly.2.2.1.mem (b := b) (by
   have : b ∈ frs (lL (CXr P w) P w K mg base N qual scope f cd A outer s H E).stack := by rw [hstk]; exact List.mem_cons_of_mem _ hb'
   exact this)
  rw [e1] at ho'
  cases ho'
  obtain ⟨l2, e2⟩ := up b _ e1 hd'
  exact ⟨l2, e2⟩
 ·obtain ⟨o1, e1⟩ := F.hok.there n
  have e2 := F.inB b o1 e1 (.inl n)
  have e3 := fl'.1 b o1 e2
  rw [e] at e3
  cases e3
  exact e2
 ·obtain ⟨o1, e1⟩ := F.un.there b o e (by simp)
  by_cases hb : b ∈ frs outer
  ·have hz : H1 b = none := I.stkFree b (by rw [hstk]; exact List.mem_cons_of_mem _ hb)
   exact absurd hz n
  ·by_cases hL : b = s.heap.objs.size
   ·have hz : H1 b = none := I.stkFree b (by rw [hstk, hL]; exact List.mem_cons_self)
    exact absurd hz n
   ·exact ⟨o1, fl'.1 b o1 (F.inB b o1 e1 (.inr ⟨⟨o, e⟩, nst hb hL⟩))⟩
 ·obtain ⟨o1, e1⟩ := F.un.there b o e (by simp)
  exact ⟨o1, F.inB b o1 e1 (.inr ⟨⟨o, e⟩, nst hb hL⟩)⟩
def xT (X : Cx) (E : XK) : Prop := ∀ (pins : List (Addr × Obj)) (σ : St) (H : Hp) (s : Shared) (C : Addr) (h' : Heap) (e : Addr) (vs : List Value), Inv X pins σ H s -> Heap.MadeExcOf s.heap h' e (.ref C) vs -> E (.ref C) none H -> X.xe (.ref e) { s with heap := h' }
theorem oD : xT (lL (CXr P w) P w K mg base N qual scope f cd A outer s H E) E := by
 intro pins σ H1 s1 C h' e vs I hx want
 have hstk : frs (lL (CXr P w) P w K mg base N qual scope f cd A outer s H E).stack = s.heap.objs.size :: frs outer := oY rfl
 have hfr : (lL (CXr P w) P w K mg base N qual scope f cd A outer s H E).A.frames = some (envOfC qual scope s.heap.objs.size f cd :: outer) := I.ok.frames
 have hLo : s.heap.objs.size ∉ frs outer := fun z => by
  obtain ⟨_, o, ho, _⟩ := I.ok.funs.mem z
  exact absurd (Heap.lt_size ho) (Nat.lt_irrefl _)
 have st : s1.heap.FunFrames base (envOfC qual scope s.heap.objs.size f cd :: outer) := I.stack
 have fin : s1.heap.FunFrames (PySem.W.hideAll s1.heap (s.heap.objs.size :: frs outer)) (envOfC qual scope s.heap.objs.size f cd :: outer) :=
  PySem.W.funFrames_hide st fun env he a ha => by
   rw [<- hstk]
   exact List.mem_filterMap.mpr ⟨env, he, ha⟩
 have nfr : ∀ {b : Addr}, H1 b ≠ none -> b ∉ s.heap.objs.size :: frs outer := fun n z => n (I.stkFree _ (by rw [hstk]; exact z))
 have nin : ∀ {b : Addr}, b ∉ frs outer -> b ≠ s.heap.objs.size -> b ∉ s.heap.objs.size :: frs outer := fun h1 h2 z => (List.mem_cons.mp z).elim h2 h1
 show wpAny (model P w) _ (leaving _ (.ref e)) _ _ { s1 with heap := h' }
 refine wpAny_leaves_madeW (base := PySem.W.hideAll s1.heap (s.heap.objs.size :: frs outer)) (h := s1.heap) hfr rfl (fun b o q => PySem.W.of_hideAll _ q) fin hx fun h'' t fl _ _ up => ?_
 refine ⟨e, .ref C, H1, _, .ref t, rfl, uU (X := lL (CXr P w) P w K mg base N qual scope f cd A outer s H E) I rfl hLo I.os I.bare fl (fun b o q n hb hL => PySem.W.hideAll_get _ q (nin hb hL)) (fun b o q hb => ?_) (fun _ _ _ n => n) (fun _ _ q => q) (fun _ _ _ q => q)
  (fun b ps q => ⟨#[], by rw [q]; simp⟩) (lJ I.hok fun b o n q => fl.1 b o (PySem.W.hideAll_get _ q (nfr n))) (fun b o q n => ?_) (fun b o q n => ⟨o, fl.1 b o (PySem.W.hideAll_get _ q (nfr n))⟩) (fun b o q hb hL => ⟨o, PySem.W.hideAll_get _ q (nin hb hL)⟩) hx.new ?_, want⟩
 ·obtain ⟨_, o', ho', hd'⟩ := st.mem (b := b) (by
   have : b ∈ frs (envOfC qual scope s.heap.objs.size f cd :: outer) := by
    rw [oY rfl]
    exact List.mem_cons_of_mem _ hb
   exact this)
  rw [q] at ho'
  cases ho'
  exact up b o (hx.keeps b o q) hd'
 ·obtain ⟨o1, e1⟩ := I.hok.there n
  have e2 := PySem.W.hideAll_get _ e1 (nfr n)
  have e3 := fl.1 b o1 e2
  rw [q] at e3
  cases e3
  exact e2
 ·cases q : H1 e with
  | none => rfl
  | some u =>
   obtain ⟨ob, eo⟩ := lY (I.hok e u q)
   rw [hx.new] at eo
   cases eo
end
section
variable {X : Cx} {E : XK}
def aEg (C : Addr) (E : XK) (t : TA) : TS := fun _ σ H => t σ H fun vs H1 => vs.length <= sizeLine /\ E (.ref C) none H1
theorem zZ {x : Str} {e₀ : Expr} {rest : List Expr} {t : TA} {C : Addr} {bm : List Value} {B newId initId : String} {np cpos pos : Pos} (hx : xT X E) (hc : X.calm = true) (hg : Gl X x) (O : OwnCls x C bm newId X.mg X.base)
  (FB : ExcBaseFacts B newId initId bm) (ha : PA X (e₀ :: rest) t) (hdb : (x == ("__debug__" : Str)) = false := by decide)
  (he : starEach (e₀ :: rest) X.env = (false, eval e₀ X.env) :: starEach rest X.env := by rfl) (hpl : (backTo cpos (starEach rest X.env)).any (·.1) = false := by rfl) :
  PS X (.Raise (some (.Call (.Name x np) (e₀ :: rest) [] cpos)) none pos) (aEg C E t) := by
 intro pins s σ H D I h
 obtain ⟨tl, NN, nm, qn, bs, hdc, sn, sb, ab, cl, dd, z0, z1, z2, z3, z5, mN, hC, hN, hni, T⟩ := O.obj
 have hp : (backTo cpos (starEach (e₀ :: rest) X.env)).any (·.1) = false := by
  rw [he]
  show (false || (backTo cpos (starEach rest X.env)).any (·.1)) = false
  rw [hpl]
  all_goals rfl
 have h2 := ha cpos pins s σ H _ I h
 refine wpAny_Raise_call_subT (bm := tl) (N := NN) (nm := nm) (q := qn) (bs := bs) (hdct := hdc) (sn := sn) (sub := sb) (ab := ab) (col := cl) (dd := dd) (k0 := z0) (k1 := z1) (k2 := z2) (k3 := z3) (k5 := z5) FB (T.hasType FB.hasBase) (I.ok.hd hc) hp hni
  (l0 I hg O.bound ⟨rfl, ?_⟩ hdb)
 rw [he] at h2 ⊢
 refine Calls.evalArgs_plain (thn h2 fun us s2 ⟨vs, H1, I1, r, z, w'⟩ => ?_)
 exact ⟨rfl, by rw [<- r.length]; exact z, I1.bk _ _ hC, hN.keeps I1.bk, T.keeps I1.bk, fun h' e hm => hx pins σ H1 s2 C h' e us I1 hm w'⟩
end
def jY (CX : CXT) (X : Cx) (E : St -> XK) : Prop := ∀ (pins : List (Addr × Obj)) (σ : St) (H : Hp) (s : Shared) (e : Value) (s' : Shared), Inv X pins σ H s -> CX X.stack H s (E σ) e s' -> X.xe e s'
def aB5 (sp : Sp) (E : St -> XK) (t : TA) : TE := fun σ H Q => t σ H fun vs H1 => sp vs H1 Q (E σ)
section
variable {X : Cx} {CX : CXT} {k : Nat} {f : Addr} {fd : FuncData} {ps : List Str} {sp : Sp} {E : St -> XK} {x : Str} {p pos : Pos} {e : Expr} {es : List Expr} {t : TA}
theorem aAm (F : FnOk X.prog X.w X.K X.mg X.base CX k f fd ps sp) (hr : Room k X.A) (hg : Gl X x) (hm : X.mg x = some (.ref f)) (hk : PySem.W.keepIn X.K (.ref f) = true) (hb : Binds X.K fd ps []) (hx : jY CX X E)
  (ha : PA X (e :: es) t) (hdb : (x == ("__debug__" : Str)) = false := by decide) (he : starEach (e :: es) X.env = (false, eval e X.env) :: starEach es X.env := by rfl) (hpl : (backTo pos (starEach es X.env)).any (·.1) = false := by rfl) :
  PE X (.Call (.Name x p) (e :: es) [] pos) (aB5 sp E t) := by
 intro pins s σ H Q I h
 refine wpAny_Call_Name_kw (l0 I hg hm ?_ hdb)
 refine PySem.W.callWith_K (h₀ := X.base) I.ok.mod.kin hk (thn (ha pos pins s σ H _ I h) fun us s1 ⟨vs, H1, I1, r, q⟩ => ⟨I1.kIn, ?_⟩) he hpl
 have hl : us.length = ps.length := by rw [<- r.length]; exact F.len _ _ _ _ q
 have hb' := hb s1 us I1.kIn (by rw [List.append_nil]; exact hl)
 rw [List.append_nil] at hb'
 refine wpAny_call (codeAny_mono (F.run X.A X.stack s1 H1 ⟨us, []⟩ us vs Q (E σ) hr I1.env0 hb' r q) fun rr s' hq => ?_)
 cases rr with
 | error e' => exact hx pins σ H1 s1 e' s' I1 hq
 | ok fl =>
  cases fl with
  | ret u => exact I1.after hq
  | next => exact False.elim hq
  | brk => exact False.elim hq
  | cont => exact False.elim hq
end
structure RoomQ (k : Nat) (A : Around) : Prop where
 dp : A.depth + 3 * k + 5 < recursionLimit
 un : A.units + 16 * k + 200 < cLine
theorem RoomQ.deeper {k : Nat} {A : Around} (r : RoomQ (k + 1) A) (env : Env) : RoomQ k (A.deeper env) :=
 ⟨by have := r.dp; show A.depth + 1 + 3 * k + 5 < _; omega, by have := r.un; show A.units + 3 + 16 * k + 200 < _; omega⟩
theorem RoomQ.depth {k : Nat} {A : Around} (r : RoomQ k A) : A.depth < recursionLimit := by have := r.dp; omega
structure y0 (P : Program) (w : World) (K : PySem.W.Frag) (mg : Str -> Option Value) (base : Heap) (k : Nat) (f : Addr) (fd : FuncData) (ps : List Str) (sp : Sp) : Prop where
 len : ∀ vs H Q E, sp vs H Q E -> vs.length = ps.length
 run : ∀ (A : Around) (outer : List Env) (s : Shared) (H : Hp) (args : Args) (us : List Value) (vs : List V) (Q : VK), RoomQ k A -> aD2 P w K mg base A outer s H -> BindsTo s fd args (ps.zip us) -> Vals vs us -> sp vs H Q E0 ->
  codeAny (model P w) A (.call (.ref f) args) (CR CX0 outer P w H s Q E0) s
abbrev Cx.quiet (X : Cx) : Cx := { X with calm := false, xe := fun _ _ => False }
theorem Fun.okQ {P : Program} {w : World} {K : PySem.W.Frag} {mg : Str -> Option Value} {base : Heap} {x qual : Str} {st : Stmt} {f : Addr} {fd : FuncData} {N ps : List Str} {k : Nat} {sp : Sp} (F : Fun K x qual st f fd) (S : a9 N ps (aJ st))
  (len : ∀ vs H Q E, sp vs H Q E -> vs.length = ps.length)
  (hbody : ∀ (cdv : Value) (A : Around) (outer : List Env) (s : Shared) (H : Hp) (vs : List V) (Q : VK), RoomQ k (A.deeper (envOfC qual (aJ st) s.heap.objs.size f cdv)) -> sp vs H Q E0 ->
   ∃ t, PSs (lL CX0 P w K mg base N qual (aJ st) f cdv A outer s H E0).quiet (d8 st) t /\ t { nx := fun _ H' => Q .non H', rt := Q } (start N vs) H) : y0 P w K mg base (k + 1) f fd ps sp := by
 obtain ⟨oc, od, kV, doc, pm, an, cdv, ct, osl, rfl, lk, hcd⟩ := F.ex
 refine ⟨len, fun A outer s H args us vs Q hr e0 hb r hsp => ?_⟩
 have hl := len _ _ _ _ hsp
 have KX : K.In s.heap := e0.mod.kin.keeps fun b o e => (e0.bs b o e).1
 have lim : s.heap.NoLimit := e0.mod.nolimit.keeps fun b o e => (e0.bs b o e).1
 have hkind : ∀ y ∈ ps.zip us, (aJ st).names.lookup y.1 = some .local \/ ((aJ st).names.lookup y.1 = some .cell /\ ((cellsFrom (s.heap.objs.size + 1) (aJ st).names []).lookup y.1).isSome = true) := fun ⟨n, v⟩ hy => by
  rcases S.par n (List.of_mem_zip hy).1 with q | q
  ·exact .inl q
  ·exact .inr ⟨q, PySem.W.cellsFrom_some _ _ _ (.inl q)⟩
 refine codeAny_call_function hr.depth (KX _ _ lk) rfl S.co S.gen rfl (PySem.W.codeRec_of KX hcd) (hb _ _ _ _ ?_)
 refine wpAny_newFunctionEnv_cells S.kind hkind fun env he s1 x => ?_
 subst he
 refine ⟨lim.keeps x.toInCall.keep, codeAny_func ?_⟩
 obtain ⟨t, ht, hq⟩ := hbody cdv A outer s H vs Q (hr.deeper _) hsp
 have e1 : aD2 P w K mg base { A with handled := none } outer s H := ⟨e0.frames, e0.mod, e0.bs, e0.bsz, e0.funs, e0.frf, e0.hok, e0.bare⟩
 have J : Inv (lL CX0 P w K mg base N qual (aJ st) f cdv { A with handled := none } outer s H E0) [] (start N vs) H s1 := rH S rfl e1 hl r x
 have o := J.ok
 have I : Inv (lL CX0 P w K mg base N qual (aJ st) f cdv A outer s H E0).quiet [] (start N vs) H s1 :=
  ⟨⟨o.mod, o.kind, o.glob, o.blt, o.above, o.inj, o.has, o.cab, (fun z => nomatch z), Around.frames_deeper e0.frames, o.stk, o.exf, o.bs, o.bsz, o.noex, o.exfs, o.funs, o.frf⟩, J.os, J.bare, J.base, J.loc, J.cell, J.free, J.freeC, J.pin, J.hok, J.len⟩
 refine wpAny_mono (ht [] s1 (start N vs) H _ I hq) (fun fl s' hs => ?_) fun e s' hs => hs.elim
 cases fl with
 | ret u =>
  obtain ⟨v, σ', H', J', rv, q⟩ := hs
  exact ⟨v, H', J'.os, J'.bare, J'.base, J'.hok, rv, q⟩
 | next =>
  obtain ⟨σ', H', J', q⟩ := hs
  exact ⟨V.non, H', J'.os, J'.bare, J'.base, J'.hok, rfl, q⟩
 | brk =>
  obtain ⟨_, _, _, q⟩ := hs
  exact False.elim q
 | cont =>
  obtain ⟨_, _, _, q⟩ := hs
  exact False.elim q
section
variable {X : Cx} {k : Nat} {f : Addr} {fd : FuncData} {ps : List Str} {sp : Sp} {x : Str} {p pos : Pos} {e : Expr} {es : List Expr} {t : TA}
theorem zU (F : y0 X.prog X.w X.K X.mg X.base k f fd ps sp) (hr : RoomQ k X.A) (hg : Gl X x) (hm : X.mg x = some (.ref f)) (hk : PySem.W.keepIn X.K (.ref f) = true) (hb : Binds X.K fd ps [])
  (ha : PA X (e :: es) t) (hdb : (x == ("__debug__" : Str)) = false := by decide) (he : starEach (e :: es) X.env = (false, eval e X.env) :: starEach es X.env := by rfl) (hpl : (backTo pos (starEach es X.env)).any (·.1) = false := by rfl) :
  PE X (.Call (.Name x p) (e :: es) [] pos) (aB5 sp (fun _ => E0) t) := by
 intro pins s σ H Q I h
 refine wpAny_Call_Name_kw (l0 I hg hm ?_ hdb)
 refine PySem.W.callWith_K (h₀ := X.base) I.ok.mod.kin hk (thn (ha pos pins s σ H _ I h) fun us s1 ⟨vs, H1, I1, r, q⟩ => ⟨I1.kIn, ?_⟩) he hpl
 have hl : us.length = ps.length := by rw [<- r.length]; exact F.len _ _ _ _ q
 have hb' := hb s1 us I1.kIn (by rw [List.append_nil]; exact hl)
 rw [List.append_nil] at hb'
 refine wpAny_call (codeAny_mono (F.run X.A X.stack s1 H1 ⟨us, []⟩ us vs Q hr I1.env0 hb' r q) fun rr s' hq => ?_)
 cases rr with
 | error e' => exact False.elim hq
 | ok fl =>
  cases fl with
  | ret u => exact I1.after hq
  | next => exact False.elim hq
  | brk => exact False.elim hq
  | cont => exact False.elim hq
end
def xP (e : Addr) (cls : Value) : HO := .ext fun h => ∃ o, h.get? e = some o /\ o.cls = cls /\ ∃ vs, o.data = .fields vs
theorem kE {X : Cx} {pins : List (Addr × Obj)} {σ : St} {H : Hp} {s : Shared} {M : Model} {A : Around} {E : Value -> Shared -> Prop} {i : Nat} {n : Str} {pos : Pos} {Q : Unit -> Shared -> Prop} (I : Inv X pins σ H s) (hN : X.N.Nodup) (hi : X.N[i]? = some n)
  (hk : X.env.kindOf n = some .local) (h : ∀ s', Inv X pins (σ.set i none) H s' -> Q () s') : wpAny M A (do bindName X.env n .none; unbindBehindTheSuite X.env n pos) Q E s := by
 obtain ⟨m, hn, hl⟩ := id I.loc
 have hcls : (X.env.scope.kind == .class || (X.env.scope.kind == .module && X.env.locals != X.env.globals)) = false := by rw [I.ok.kind]; rfl
 have cne := I.cne
 refine wpAny_nameGoes_keeps hk hn hcls fun h' v hn' hs => ?_
 have ne0 : ∀ b o, X.s₀.heap.get? b = some o -> b ≠ X.env.locals := fun b o e => Nat.ne_of_lt (Nat.lt_of_lt_of_le (Heap.lt_size e) I.ok.above)
 have tr : HOk X.prog X.w H h' := fun b ob e => by
  refine (I.hok b ob e).stay (fun c w' hc q => (hs.2 c ?_).trans q) (fun _ q => q) fun _ _ q => q
  rintro rfl
  rcases hc with z | z
  ·rw [<- z, I.free] at e; cases e
  ·rw [I.free] at z; cases z
 refine h _ ⟨I.ok, I.os, I.bare, ⟨fun b o e n' hb hx => (hs.2 b (ne0 b o e)).trans (I.base.keep b o e n' hb hx), fun b o e n' hb hx => ?_, I.base.free, fun b o e hx => ?_, I.base.tups, I.base.frzs, I.base.tbls⟩, ⟨_, hn', fun j y v' e1 e2 e3 => ?_⟩, fun y c e => ?_, I.free, I.freeC, fun p hp => ?_, tr, by simpa using I.len⟩
 ·obtain ⟨sl, e1⟩ := I.base.slot b o e n' hb hx
  exact ⟨sl, (hs.2 b (ne0 b o e)).trans e1⟩
 ·obtain ⟨o', e1⟩ := I.base.there b o e hx
  exact ⟨o', (hs.2 b (ne0 b o e)).trans e1⟩
 ·by_cases hj : j = i
  ·subst hj
   rw [List.getElem?_set] at e2
   split at e2
   ·split at e2 <;> cases e2
   ·rename_i z
    exact absurd rfl z
  ·rw [List.getElem?_set_ne (Ne.symm hj)] at e2
   obtain ⟨u', r', q⟩ := hl j y v' e1 e2 e3
   refine ⟨u', r', ?_⟩
   rcases q with ⟨k, e⟩ | ⟨k, c, e, z⟩
   ·refine .inl ⟨k, ?_⟩
    have hy : y ≠ n := fun e => hj (o6 hN e1 (e ▸ hi))
    simp [hy, e]
   ·exact .inr ⟨k, c, e, z.sameBut hs (cne y c e)⟩
 ·obtain ⟨w', z⟩ := I.cell y c e
  exact ⟨w', z.sameBut hs (cne y c e)⟩
 ·obtain ⟨e, n', ne, nf, d⟩ := I.pin p hp
  exact ⟨(hs.2 p.1 ne).trans e, n', ne, nf, d⟩
abbrev Cx.wp (X : Cx) (W : Value -> Shared -> Prop) (pn : List (Addr × Obj)) : Cx := { X with xe := W, pn := pn }
abbrev Cx.hot (X : Cx) (e : Addr) : Cx := { X with A := X.A.mark (some (.ref e)), calm := false, xe := fun _ _ => False }
theorem Inv.wp {X : Cx} {pins : List (Addr × Obj)} {σ : St} {H : Hp} {s : Shared} (I : Inv X pins σ H s) (W : Value -> Shared -> Prop) : Inv (X.wp W (X.pn ++ pins)) [] σ H s := by
 have ok := I.ok
 exact ⟨⟨ok.mod, ok.kind, ok.glob, ok.blt, ok.above, ok.inj, ok.has, ok.cab, ok.hd, ok.frames, ok.stk, ok.exf, ok.bs, ok.bsz, ok.noex, ok.exfs, ok.funs, ok.frf⟩, I.os, I.bare, I.base, I.loc, I.cell, I.free, I.freeC, fun p hp => I.pin p (by simpa using hp), I.hok, I.len⟩
theorem Inv.unwp {X : Cx} {pins pins' : List (Addr × Obj)} {σ : St} {H : Hp} {s : Shared} {W : Value -> Shared -> Prop} (I : Inv (X.wp W (X.pn ++ pins)) pins' σ H s) : Inv X pins σ H s := by
 have ok := I.ok
 exact ⟨⟨ok.mod, ok.kind, ok.glob, ok.blt, ok.above, ok.inj, ok.has, ok.cab, ok.hd, ok.frames, ok.stk, ok.exf, ok.bs, ok.bsz, ok.noex, ok.exfs, ok.funs, ok.frf⟩, I.os, I.bare, I.base, I.loc, I.cell, I.free, I.freeC, fun p hp => I.pin p (List.mem_append_left _ hp), I.hok, I.len⟩
theorem Inv.hot {X : Cx} {pins : List (Addr × Obj)} {σ : St} {H : Hp} {s : Shared} (I : Inv X pins σ H s) (e : Addr) : Inv (X.hot e) pins σ H s := by
 have ok := I.ok
 exact ⟨⟨ok.mod, ok.kind, ok.glob, ok.blt, ok.above, ok.inj, ok.has, ok.cab, (fun z => nomatch z), ok.frames, ok.stk, ok.exf, ok.bs, ok.bsz, ok.noex, ok.exfs, ok.funs, ok.frf⟩, I.os, I.bare, I.base, I.loc, I.cell, I.free, I.freeC, I.pin, I.hok, I.len⟩
theorem Inv.cool {X : Cx} {pins : List (Addr × Obj)} {σ : St} {H : Hp} {s : Shared} {e : Addr} (I : Inv (X.hot e) pins σ H s) (hd : X.calm = true -> X.A.handled = none) : Inv X pins σ H s := by
 have ok := I.ok
 exact ⟨⟨ok.mod, ok.kind, ok.glob, ok.blt, ok.above, ok.inj, ok.has, ok.cab, hd, ok.frames, ok.stk, ok.exf, ok.bs, ok.bsz, ok.noex, ok.exfs, ok.funs, ok.frf⟩, I.os, I.bare, I.base, I.loc, I.cell, I.free, I.freeC, I.pin, I.hok, I.len⟩
theorem SP.unwp {X : Cx} {pins : List (Addr × Obj)} {W : Value -> Shared -> Prop} {D : Ends} {f : Flow} {s' : Shared} (h : SP (X.wp W (X.pn ++ pins)) [] D f s') : SP X pins D f s' := by
 cases f with
 | next => obtain ⟨σ', H', I, q⟩ := h; exact ⟨σ', H', I.unwp, q⟩
 | brk => obtain ⟨σ', H', I, q⟩ := h; exact ⟨σ', H', I.unwp, q⟩
 | cont => obtain ⟨σ', H', I, q⟩ := h; exact ⟨σ', H', I.unwp, q⟩
 | ret u => obtain ⟨v, σ', H', I, r, q⟩ := h; exact ⟨v, σ', H', I.unwp, r, q⟩
theorem landed {X : Cx} {pins : List (Addr × Obj)} {σ : St} {H H' : Hp} {s s' : Shared} {ea : Addr} {cls a0 : Value} {B h' : Heap} (I : Inv X pins σ H s) (F : aA2 X.prog X.w X.stack H s ea cls H' B a0 s') (fl : Heap.FlyingW B X.stack ea cls a0 h') (up : s'.heap.UpToSlots h') :
  Inv X pins σ H' { s' with heap := h' } /\ Inv X pins σ (upd H' ea (xP ea cls)) { s' with heap := h' } := by
 have st := fl.1
 have tn : ∀ b u, H' b = some u -> b ≠ ea := fun b u e z => by rw [z, F.nt] at e; cases e
 have kB : ∀ b o, H' b ≠ none -> s'.heap.get? b = some o -> h'.get? b = some o := fun b o n e => st b o (F.inB b o e (.inl n))
 have frd : ∀ b ∈ frs X.stack, ∀ o, s'.heap.get? b = some o -> ∀ vs, o.data ≠ .fields vs := fun b hb o e => by
  obtain ⟨_, o', ho', hd'⟩ := F.fly.2.2.1.mem (b := b) hb
  rw [e] at ho'
  cases ho'
  exact hd'
 have ne : ∀ b o, s.heap.get? b = some o -> b ≠ ea := fun b o e z => by rw [z, F.new] at e; cases e
 have un : ∀ H2 : Hp, (∀ b, b ≠ ea -> H2 b = H' b) -> Un (frs X.stack) [] H H2 s.heap h' := fun H2 same =>
  ⟨fun b o e n hb _ => st b o (F.inB b o (F.un.keep b o e n hb (by simp)) (.inr ⟨⟨o, e⟩, hb⟩)), fun b o e n hb _ => by
   obtain ⟨sl, e1⟩ := F.un.slot b o e n hb (by simp)
   obtain ⟨sl2, e2⟩ := up b _ e1 (frd b hb _ e1)
   exact ⟨sl2, e2⟩, fun b o e n _ => by rw [same b (ne b o e)]; exact F.un.free b o e n (by simp), fun b o e _ => by
   obtain ⟨o1, e1⟩ := F.un.there b o e (by simp)
   by_cases hb : b ∈ frs X.stack
   ·obtain ⟨sl2, e2⟩ := up b _ e1 (frd b hb _ e1)
    exact ⟨_, e2⟩
   ·exact ⟨o1, st b o1 (F.inB b o1 e1 (.inr ⟨⟨o, e⟩, hb⟩))⟩, fun b xs e => by
   have q := F.un.tups b xs e
   rw [same b (tn b _ q)]
   exact q, fun b o u e => by
   have q := F.un.frzs b o u e
   rw [same b (tn b _ q)]
   exact q, fun b ps e => by
   obtain ⟨more, q⟩ := F.un.tbls b ps e
   exact ⟨more, by rw [same b (tn b _ q)]; exact q⟩⟩
 have ok1 : HOk X.prog X.w H' h' := lJ F.hok kB
 obtain ⟨oe, vs, hoe, hoc, hod, _⟩ := fl.first
 have ok2 : HOk X.prog X.w (upd H' ea (xP ea cls)) h' := fun a o e => by
  by_cases ha : a = ea
  ·subst ha
   rw [cJ] at e
   cases e
   refine ⟨⟨oe, hoe, hoc, vs, hod⟩, ⟨oe, hoe⟩, fun h1 h2 p k => ?_⟩
   obtain ⟨o1, p1, p2, p3⟩ := p
   exact ⟨o1, k o1 p1, p2, p3⟩
  ·rw [bP ha] at e
   refine (ok1 a o e).stay (fun _ _ _ q => q) (fun b q => ?_) fun b xs q => ?_
   ·rw [bP (tn b _ q)]; exact q
   ·rw [bP (tn b _ q)]; exact q
 exact ⟨I.call' (s' := { s' with heap := h' }) (ch := []) F.os (un H' fun _ _ => rfl) ok1 F.bare (fun _ z => absurd z (by simp)), I.call' (s' := { s' with heap := h' }) (ch := []) F.os (un _ fun b hb => bP hb) ok2 F.bare (fun _ z => absurd z (by simp))⟩
def aBp (K : PySem.W.Frag) (R : Addr) (i : Nat) (th : TS) (D : Ends) : St -> XK := fun σ cls _ H1 => PySem.W.exmOne K cls (.ref R) = some true /\ ∀ e, H1 e = none ->
 th { nx := fun σ2 H2 => D.nx (σ2.set i none) H2, rt := D.rt, bk := fun σ2 H2 => D.bk (σ2.set i none) H2, ct := fun σ2 H2 => D.ct (σ2.set i none) H2 } (σ.set i (some (.ref e))) (upd H1 e (xP e cls))
def aIm (K : PySem.W.Frag) (R : Addr) (i : Nat) (tb : (St -> XK) -> TS) (th : TS) : TS := fun D σ H => tb (aBp K R i th D) D σ H
theorem aF7 {X : Cx} {body : List Stmt} {b₀ : Stmt} {suite : List Stmt} {x n : Str} {np hpos pos : Pos} {i : Nat} {R : Addr} {tb : (St -> XK) -> TS} {th : TS} (hst : X.stack = X.env :: X.outer) (hfr : X.env.frame = some X.env.locals) (hN : X.N.Nodup) (hi : X.N[i]? = some n)
  (hk : X.env.kindOf n = some .local) (hg : Gl X x) (hm : X.mg x = some (.ref R))
  (hb : ∀ (W : Value -> Shared -> Prop) (pn : List (Addr × Obj)) (E : St -> XK), jY (CXr X.prog X.w) (X.wp W pn) E -> PSs (X.wp W pn) body (tb E)) (hh : ∀ e : Addr, PSs (X.hot e) (b₀ :: suite) th)
  (hdb : (x == ("__debug__" : Str)) = false := by decide) :
  PS X (.Try body [.ExceptHandler (some (.Name x np)) (some n) (b₀ :: suite) hpos] [] [] pos) (aIm X.K R i tb th) := by
 intro pins s σ H D I h
 refine wpAny_Try_except ?_
 refine wpAny_mono (hb _ (X.pn ++ pins) (aBp X.K R i th D) ?_ [] s σ H D (I.wp _) h) (fun f s₁ q => ?_) fun e s₁ q => q
 ·intro pins' σ1 H1 s1 e s1' I1 hq
  obtain ⟨ea, cls, H', B, a0, rfl, F, want⟩ := hq
  have I1' : Inv X pins σ1 H1 s1 := I1.unwp
  have hfr' : X.A.frames = some (X.env :: X.outer) := by rw [<- hst]; exact I.ok.frames
  have F' : aA2 X.prog X.w X.stack H1 s1 ea cls H' B a0 s1' := F
  have fly : Heap.FlyingW B (X.env :: X.outer) ea cls a0 s1'.heap := by rw [<- hst]; exact F'.fly
  refine wpAny_looks_onW hfr' hfr fly fun h₄ held₄ up₄ => ?_
  refine wpAny_landsW held₄ fun h₅ fl₅ up₅ => ?_
  have J5 := landed I1' F' (by rw [hst]; exact fl₅) (up₄.trans up₅)
  refine wpAny_handleBy_cons (codeAny_handlers_test ?_) (by intro q; cases q)
  refine l0 (X := X.hot ea) (J5.1.hot ea) hg hm ?_ hdb
  obtain ⟨oe, vs, hoe, hoc, hod, _⟩ := fl₅.first
  have LT : PySem.W.Looks (model X.prog X.w) h₅ (typeOf (.ref ea)) cls := by
   rw [<- hoc]
   exact (PySem.W.Looks.ld hoe).andThen .now
  refine PySem.W.exm_one (K := X.K) J5.1.kIn LT want.1 _ _ _ _ (fun _ _ q => q) ?_
  refine codeAny_handlers_suite_as ?_
  refine lands_againW fl₅ fun h₆ fl₆ up₆ => ?_
  have J6 := landed I1' F' (by rw [hst]; exact fl₆) ((up₄.trans up₅).trans up₆)
  have I6 := J6.2.hot ea
  refine oK (X := X.hot ea) I6 hN hi (.inl hk) (v := .ref ea) rfl (fun s₇ I7 => ?_) (.inr hk)
  refine wpAny_mono (hh ea pins s₇ _ _ _ I7 (want.2 ea F'.nt)) (fun f s₈ q8 => ?_) fun _ _ z => z.elim
  have hd : X.calm = true -> X.A.handled = none := I.ok.hd
  cases f with
  | next =>
   obtain ⟨σ8, H8, I8, q⟩ := q8
   exact kE (I8.cool hd) hN hi hk fun s₉ I9 => ⟨_, H8, I9, q⟩
  | brk =>
   obtain ⟨σ8, H8, I8, q⟩ := q8
   exact kE (I8.cool hd) hN hi hk fun s₉ I9 => ⟨_, H8, I9, q⟩
  | cont =>
   obtain ⟨σ8, H8, I8, q⟩ := q8
   exact kE (I8.cool hd) hN hi hk fun s₉ I9 => ⟨_, H8, I9, q⟩
  | ret u =>
   obtain ⟨v8, σ8, H8, I8, r8, q⟩ := q8
   exact kE (I8.cool hd) hN hi hk fun s₉ I9 => ⟨v8, _, H8, I9, r8, q⟩
 ·cases f with
  | next => exact wpAny_execs_nil (SP.unwp q)
  | brk => exact SP.unwp q
  | cont => exact SP.unwp q
  | ret u => exact SP.unwp (f := .ret u) q
abbrev dE (X : Cx) (scope : Scope) (cl : List (Str × Addr)) (C : Addr) (N : List Str) (s₀ : Shared) (H₀ : Hp) (ex : List Addr) (pn : List (Addr × Obj)) : Cx :=
 { X with env := compEnvC scope cl C X.env, N := N, s₀ := s₀, H₀ := H₀, outer := X.stack, stack := X.stack, ex := ex, fn := fun _ => false, pn := pn, xe := fun _ _ => False }
structure aFs (X : Cx) (scope : Scope) (cl : List (Str × Addr)) : Prop where
 clos : closureFor scope X.env = pure cl
 sub : ∀ y c, cl.lookup y = some c -> X.env.cells.lookup y = some c
 has : ∀ y, (relabel scope X.env).names.lookup y = some .cell \/ (relabel scope X.env).names.lookup y = some .free -> ∃ c, cl.lookup y = some c
def uW (js : List Nat) (σ : St) : St := js.map fun j => (σ[j]?).getD none
structure p8 (X : Cx) (scope : Scope) (cl : List (Str × Addr)) (ys : List Str) (js : List Nat) : Prop where
 len : ys.length = js.length
 at_ : ∀ (i : Nat) (y : Str) (j : Nat), ys[i]? = some y -> js[i]? = some j -> X.N[j]? = some y /\ (X.env.kindOf y = some .cell \/ X.env.kindOf y = some .free) /\ ((relabel scope X.env).names.lookup y = some .cell \/ (relabel scope X.env).names.lookup y = some .free) /\ (X.env.cells.lookup y).isSome = true /\ cl.lookup y = X.env.cells.lookup y
section
variable {X : Cx}
end
def Sz (n : Nat) (x : Int) : Prop := x.natAbs < 2 ^ n
theorem Sz.mono {m n : Nat} {x : Int} (h : Sz m x) (l : m <= n) : Sz n x := Nat.lt_of_lt_of_le h (Nat.pow_le_pow_right (by decide) l)
theorem Sz.mul {m n : Nat} {x y : Int} (hx : Sz m x) (hy : Sz n y) : Sz (m + n) (x * y) := by
 unfold Sz at *
 rw [Int.natAbs_mul, Nat.pow_add]
 exact Nat.mul_lt_mul'' hx hy
theorem Sz.add {n : Nat} {x y : Int} (hx : Sz n x) (hy : Sz n y) : Sz (n + 1) (x + y) := by
 unfold Sz at *
 have := Int.natAbs_add_le x y
 rw [Nat.pow_succ]
 omega
theorem Sz.le {n : Nat} {x y : Int} (hy : Sz n y) (h : x.natAbs <= y.natAbs) : Sz n x := Nat.lt_of_le_of_lt h hy
def CMulW (i j : Int) : Prop := Sz 60000 i /\ Sz 60000 j
theorem CMulW.ok {i j : Int} (h : CMulW i j) : IntMulOk i j := .of_le (intBits_le_iff.mpr h.1) (intBits_le_iff.mpr h.2) (by decide)
def mR (i j : Int) : Prop := j ≠ 0 /\ Sz 8000 j
section
variable {X : Cx}
theorem cW : OpR X (binaryOp .Mult) (rI CMulW fun i j => .int (i * j)) := opI fun _ _ _ _ _ _ _ hc q => mul_int q hc.ok
theorem log2_small {n : Nat} (h : n < 2 ^ 8000) : n.log2 < 9000 := by
 by_cases z : n = 0
 ·rw [z]; decide
 ·have : n.log2 < 8000 := (Nat.log2_lt z).mpr h
  omega
theorem dA : OpR X (binaryOp .FloorDiv) (rI mR fun i j => .int (i.fdiv j)) := opI fun _ _ _ _ _ _ _ hc q => floordiv_int hc.1 q (.inl (PyProof.noPylong_of_log2 (log2_small hc.2)))
inductive TyX (K : PySem.W.Frag) (H : Hp) : V -> Value -> Prop where
 | plain {x : V} {t : Value} (h : tZ K H x t) : TyX K H x t
 | exc {a C : Addr} (e : H a = some (xP a (.ref C))) (T : PySem.W.ExcK K C) : TyX K H (.ref a) (.ref C)
theorem RelV.tyOrRef {y : V} {c u : Value} (h : (∃ n, y = .ty n) \/ ∃ a, y = .ref a) (r : RelV y c) (r' : RelV y u) : u = c := by
 rcases h with ⟨n, rfl⟩ | ⟨n, rfl⟩
 ·cases r; cases r'; rfl
 ·cases r; cases r'; rfl
def aGc (K : PySem.W.Frag) : List V -> Hp -> VK -> Prop := fun xs H Q => ∃ x y t c b, xs = [x, y] /\ ((∃ n, y = .ty n) \/ ∃ a, y = .ref a) /\ TyX K H x t /\ RelV y c /\ PySem.W.kitOne K t c = some b /\ Q (.bl b) H
theorem aA5 : kO X (.builtin "isinstance") (aGc X.K) := by
 intro pins s σ H xs us Q I r h
 obtain ⟨x, y, t, c, b, rfl, hy, ty, rc, e, q⟩ := h
 obtain ⟨u, w', rfl, r1, r2⟩ := vals2 r
 have ec := RelV.tyOrRef hy rc r2
 subst ec
 cases ty with
 | plain ty => exact yU I r1 ty e fun tk => ⟨.bl b, H, I.tok _, rfl, q⟩
 | @exc a C ea T =>
  cases (show u = Value.ref a from r1)
  obtain ⟨p, _, _⟩ := (show ObjOk X.prog X.w H s.heap a (xP a (.ref C)) from I.hok a _ ea)
  exact PySem.W.kia_one (PySem.W.kitx_exc T) I.kIn p e (fun z => nomatch z) fun tk => ⟨.bl b, H, I.tok _, rfl, q⟩
end
def aI5 (K : PySem.W.Frag) (te : TE) (v : V) : TE := fun σ H Q => te σ H fun x H1 => aGc K [x, v] H1 Q
theorem aBm {X : Cx} {e c : Expr} {te : TE} {v : V} {p pos : Pos} (hg : Gl X "isinstance") (hm : X.mg "isinstance" = none) (he : PE X e te) (hc : PE X c (tC v)) (h1 : starEach [e, c] X.env = (false, eval e X.env) :: starEach [c] X.env := by rfl)
  (h2 : (backTo pos (starEach [c] X.env)).any (·.1) = false := by rfl) (h3 : starEach [c] X.env = (false, eval c X.env) :: starEach [] X.env := by rfl) : PE X (.Call (.Name "isinstance" p) [e, c] [] pos) (aI5 X.K te v) := fun pins s σ H Q I h =>
 uX aA5 hg hm (by decide +kernel) (mT he (mT hc vG h3) h1) (by decide) (by decide) h1 h2 pins s σ H Q I h
theorem Fun.okX {P : Program} {w : World} {K : PySem.W.Frag} {mg : Str -> Option Value} {base : Heap} {x qual : Str} {st : Stmt} {f : Addr} {fd : FuncData} {N ps : List Str} {k : Nat} {sp : Sp} (F : Fun K x qual st f fd) (S : a9 N ps (aJ st)) (len : ∀ vs H Q E, sp vs H Q E -> vs.length = ps.length)
  (hbody : ∀ (cdv : Value) (A : Around) (outer : List Env) (s : Shared) (H : Hp) (vs : List V) (Q : VK) (E : XK), Room k (A.deeper (envOfC qual (aJ st) s.heap.objs.size f cdv)) -> sp vs H Q E ->
   ∃ t, PSs (lL (CXr P w) P w K mg base N qual (aJ st) f cdv A outer s H E) (d8 st) t /\ t { nx := fun _ H' => Q .non H', rt := Q } (start N vs) H) : FnOk P w K mg base (CXr P w) (k + 1) f fd ps sp := by
 obtain ⟨oc, od, kV, doc, pm, an, cdv, ct, osl, rfl, lk, hcd⟩ := F.ex
 exact aHa lk hcd S len fun A outer s H vs Q E hr hsp => hbody cdv A outer s H vs Q E hr hsp
theorem Same.upd {H H' : Hp} {p : Addr} (h : Same H H') (hp : H' p = none) (o : HO) : Same H (upd H' p o) := fun b u q => by
 have := h b u q
 rw [bP (dM this hp)]
 exact this
end L2
namespace FR
theorem u9 {a b : Int} (ha : 0 <= a) (hb : 0 <= b) : Int.gcd b (a % b) = Int.gcd a b := by
 obtain ⟨m, rfl⟩ := Int.eq_ofNat_of_zero_le ha
 obtain ⟨n, rfl⟩ := Int.eq_ofNat_of_zero_le hb
 rw [<- Int.natCast_emod, Int.gcd_natCast_natCast, Int.gcd_natCast_natCast, Nat.gcd_comm n, <- Nat.gcd_rec, Nat.gcd_comm]
theorem yQ (a b : Int) : Int.gcd (if a < 0 then -a else a) (if b < 0 then -b else b) = Int.gcd a b := by
 split <;> split <;> simp [Int.gcd_neg, Int.neg_gcd]
theorem wA {a : Int} (ha : 0 <= a) : ((Int.gcd a 0 : Nat) : Int) = a := by
 rw [Int.gcd_zero_right]
 omega
def sgn (b : Int) (g : Int) : Int := if b < 0 then -g else g
def mk (t b : Int) : Int × Int := (t.fdiv (sgn b (Int.gcd t b)), b.fdiv (sgn b (Int.gcd t b)))
theorem sL {t b : Int} (hb : b ≠ 0) : 0 < Int.gcd t b := Int.gcd_pos_of_ne_zero_right t hb
theorem parts (t b : Int) (hb : b ≠ 0) : ∃ t' b' : Int, t = (Int.gcd t b : Int) * t' /\ b = (Int.gcd t b : Int) * b' /\ Int.gcd t' b' = 1 := by
 obtain ⟨t', ht⟩ := Int.gcd_dvd_left t b
 obtain ⟨b', hb'⟩ := Int.gcd_dvd_right t b
 refine ⟨t', b', ht, hb', ?_⟩
 have g0 := sL (t := t) hb
 have e : Int.gcd t b = Int.gcd t b * Int.gcd t' b' := by
  have h : Int.gcd ((Int.gcd t b : Int) * t') ((Int.gcd t b : Int) * b') = (Int.gcd t b : Int).natAbs * Int.gcd t' b' := Int.gcd_mul_left ..
  rw [<- ht, <- hb'] at h
  simpa using h
 have e2 : Int.gcd t b * 1 = Int.gcd t b * Int.gcd t' b' := by omega
 exact (Nat.eq_of_mul_eq_mul_left g0 e2).symm
theorem aAs {t b g t' b' : Int} (g0 : 0 < g) (ht : t = g * t') (hb : b = g * b') : (t.fdiv (sgn b g) = (if b < 0 then -t' else t')) /\ (b.fdiv (sgn b g) = if b < 0 then -b' else b') := by
 unfold sgn
 by_cases h : b < 0
 ·rw [if_pos h, if_pos h, if_pos h]
  have e1 : t = (-g) * (-t') := by rw [ht, Int.neg_mul_neg]
  have e2 : b = (-g) * (-b') := by rw [hb, Int.neg_mul_neg]
  constructor
  ·conv => lhs; rw [e1]
   exact Int.mul_fdiv_cancel_left _ (by omega)
  ·conv => lhs; rw [e2]
   exact Int.mul_fdiv_cancel_left _ (by omega)
 ·rw [if_neg h, if_neg h, if_neg h]
  constructor
  ·conv => lhs; rw [ht]
   exact Int.mul_fdiv_cancel_left _ (by omega)
  ·conv => lhs; rw [hb]
   exact Int.mul_fdiv_cancel_left _ (by omega)
structure Fr (f : Int × Int) : Prop where
 pos : 1 <= f.2
 low : Int.gcd f.1 f.2 = 1
theorem p9 {t b : Int} (hb : b ≠ 0) : Fr (mk t b) /\ (mk t b).1 * b = t * (mk t b).2 := by
 obtain ⟨t', b', e1, e2, e3⟩ := parts t b hb
 have g0 : (0 : Int) < (Int.gcd t b : Int) := by have := sL (t := t) hb; omega
 obtain ⟨p1, p2⟩ := aAs g0 e1 e2
 have q1 : (mk t b).1 = if b < 0 then -t' else t' := p1
 have q2 : (mk t b).2 = if b < 0 then -b' else b' := p2
 have hs : b < 0 ↔ b' < 0 := by
  constructor
  ·intro h
   rcases Int.lt_or_le b' 0 with z | z
   ·exact z
   ·have := Int.mul_nonneg (Int.le_of_lt g0) z
    omega
  ·intro h
   have := Int.mul_neg_of_pos_of_neg g0 h
   omega
 have hb' : b' ≠ 0 := by
  rintro rfl
  rw [Int.mul_zero] at e2
  exact hb e2
 refine ⟨⟨?_, ?_⟩, ?_⟩
 ·rw [q2]
  split
  ·rename_i h
   have := hs.mp h
   omega
  ·rename_i h
   have : ¬ b' < 0 := fun z => h (hs.mpr z)
   omega
 ·rw [q1, q2]
  split
  ·rw [Int.gcd_neg, Int.neg_gcd, e3]
  ·exact e3
 ·rw [q1, q2]
  generalize hg : (Int.gcd t b : Int) = g at *
  rw [e1, e2]
  split
  ·rw [Int.neg_mul, Int.mul_neg, Int.mul_left_comm, Int.mul_assoc]
  ·rw [Int.mul_left_comm, Int.mul_assoc]
end FR
namespace L2
open PySem PySem.Spec PyProof.Rows
theorem lV {h h' : Heap} {o : Obj} (hk : ∀ b x, b ∉ [h.objs.size] -> (h.push o).get? b = some x -> h'.get? b = some x) : ∀ b x, h.get? b = some x -> h'.get? b = some x := fun b x e =>
 hk b x (fun m => Nat.lt_irrefl _ (List.mem_singleton.mp m ▸ Heap.lt_size e)) (Heap.get?_push_of_some _ e)
theorem tX {h : Heap} {o : Obj} {l : Addr} (hl : l < h.objs.size) : ∀ b ∈ [h.objs.size, l], b < (h.push o).objs.size := fun b hb => by
 rw [Heap.size_push]
 rcases List.mem_cons.mp hb with e | hb
 ·subst e; exact Nat.lt_succ_self _
 ·rcases List.mem_cons.mp hb with e | hb
  ·subst e; exact Nat.lt_succ_of_lt hl
  ·cases hb
section
variable {X : Cx}
def aIj (K : PySem.W.Frag) : List V -> Hp -> VK -> Prop := fun xs H Q => ∃ (a : Addr) (bs : List Bool), xs = [.ref a] /\ SqL K H a (bs.map V.bl) /\ Q (.bl (bs.any id)) H
theorem zH : ∀ {bs : List Bool} {us : List Value}, Vals (bs.map V.bl) us -> us = bs.map Value.bool
 | [], _, .nil => rfl
 | _ :: _, _, .cons r t => by
  have e : _ = Value.bool _ := r
  rw [e, zH t]; rfl
theorem any_range (bs : List Bool) : ((List.range bs.length).any fun i => (bs[i]?).getD false) = bs.any id := by
 rw [Bool.eq_iff_iff, List.any_eq_true, List.any_eq_true]
 constructor
 ·rintro ⟨i, hi, e⟩
  have hi := List.mem_range.mp hi
  exact ⟨bs[i], List.getElem_mem hi, by simpa [hi] using e⟩
 ·rintro ⟨b, hb, e⟩
  obtain ⟨i, hi, e2⟩ := List.mem_iff_getElem.mp hb
  exact ⟨i, List.mem_range.mpr hi, by simp [hi, e2]; simpa using e⟩
theorem aAc (hc : X.calm = true) {K : PySem.W.Frag} (hK : X.K = K) : kO X (.builtin "any") (aIj K) := by
 subst hK
 intro pins s σ H xs us Q I r h
 obtain ⟨a, bs, rfl, hq, q⟩ := h
 obtain ⟨u, rfl, ru⟩ := vals1 r
 cases ru
 obtain ⟨its, rv, p, hz⟩ := I.list hq
 have ei := zH rv
 have hl := p.isList
 have lt : a < s.heap.objs.size := by obtain ⟨_, e, _⟩ := hl; exact Heap.lt_size e
 refine call_any_walk (wpAny_pyIter_list hl ?_)
 refine ⟨s.heap.objs.size, [s.heap.objs.size, a], [s.heap.objs.size], its.toArray.size, _, _, fun i => (bs[i]?).getD false, rfl, Walks.list (A := X.A.in1) (I.ok.hd hc) _ a (Nat.ne_of_lt lt) its.toArray,
  ⟨⟨_, Heap.get?_push_size _ rfl, rfl, rfl⟩, hl.push _⟩, fun i v s' Q' E' hP hQ => ?_, fun h' tk hk => ?_⟩
 ·have e : its[i]? = some v := by simpa using hP
  rw [ei, List.getElem?_map] at e
  cases eb : bs[i]? with
  | none => rw [eb] at e; cases e
  | some b =>
   have hQ : Q' ((bs[i]?).getD false) s' := hQ
   rw [eb] at e hQ
   cases e
   exact wpAny_truthy_bool hQ
 ·have e : its.toArray.size = bs.length := by rw [List.size_toArray, ei, List.length_map]
  rw [e, any_range]
  exact ⟨.bl (bs.any id), H, I.kept (lV hk), rfl, q⟩
def tM (K : PySem.W.Frag) (f : Int -> Int -> Int) : List V -> Hp -> VK -> Prop := fun xs H Q => ∃ a i j, xs = [.ref a] /\ SqT K H a [.int i, .int j] /\ Q (.int (f i j)) H
theorem qU {i j : Int} {us : List Value} (r : Vals [.int i, .int j] us) : ∃ t u, us.toArray = intItems #[(i, t), (j, u)] := by
 obtain ⟨a, b, rfl, ⟨t, rfl⟩, ⟨u, rfl⟩⟩ := vals2 r
 exact ⟨t, u, by simp [intItems]⟩
theorem w5 (hc : X.calm = true) {K : PySem.W.Frag} (hK : X.K = K) : kO X (.builtin "min") (tM K fun i j => if j < i then j else i) := by
 subst hK
 intro pins s σ H xs us Q I r h
 obtain ⟨a, i, j, rfl, hq, q⟩ := h
 obtain ⟨u, rfl, ru⟩ := vals1 r
 cases ru
 obtain ⟨its, rv, p, hz⟩ := I.tuple hq
 obtain ⟨t1, t2, ei⟩ := qU rv
 have hT : s.heap.IsTuple a (intItems #[(i, t1), (j, t2)]) := ei ▸ p
 have lt : a < s.heap.objs.size := by obtain ⟨_, e, _⟩ := p; exact Heap.lt_size e
 refine call_min_walk (wpAny_pyIter_tuple hT ?_)
 refine ⟨_, [_, a], [_], _, _, _, _, rfl, Walks.tuple (A := X.A.in1) (I.ok.hd hc) _ a (Nat.ne_of_lt lt) (intItems #[(i, t1), (j, t2)]), ⟨⟨_, Heap.get?_push_size _ rfl, rfl, rfl⟩, hT.push _⟩, tX lt, by simp [intItems],
  CmpOf.ints_lt (numAt #[(i, t1), (j, t2)]) (fun _ _ => intItems_at), fun v h' tk hP hk => ⟨_, H, I.kept (lV hk), ?_, q⟩⟩
 obtain ⟨t, rfl⟩ := intItems_at hP
 have z : (intItems #[(i, t1), (j, t2)]).size - 1 = 1 := by simp [intItems]
 rw [z]
 by_cases hj : j < i
 ·exact ⟨t, by simp [argBest, numAt, hj]⟩
 ·exact ⟨t, by simp [argBest, numAt, hj]⟩
theorem wC (hc : X.calm = true) {K : PySem.W.Frag} (hK : X.K = K) : kO X (.builtin "max") (tM K fun i j => if i < j then j else i) := by
 subst hK
 intro pins s σ H xs us Q I r h
 obtain ⟨a, i, j, rfl, hq, q⟩ := h
 obtain ⟨u, rfl, ru⟩ := vals1 r
 cases ru
 obtain ⟨its, rv, p, hz⟩ := I.tuple hq
 obtain ⟨t1, t2, ei⟩ := qU rv
 have hT : s.heap.IsTuple a (intItems #[(i, t1), (j, t2)]) := ei ▸ p
 have lt : a < s.heap.objs.size := by obtain ⟨_, e, _⟩ := p; exact Heap.lt_size e
 refine call_max_walk (wpAny_pyIter_tuple hT ?_)
 refine ⟨_, [_, a], [_], _, _, _, _, rfl, Walks.tuple (A := X.A.in1) (I.ok.hd hc) _ a (Nat.ne_of_lt lt) (intItems #[(i, t1), (j, t2)]), ⟨⟨_, Heap.get?_push_size _ rfl, rfl, rfl⟩, hT.push _⟩, tX lt, by simp [intItems],
  CmpOf.ints_gt (numAt #[(i, t1), (j, t2)]) (fun _ _ => intItems_at), fun v h' tk hP hk => ⟨_, H, I.kept (lV hk), ?_, q⟩⟩
 obtain ⟨t, rfl⟩ := intItems_at hP
 have z : (intItems #[(i, t1), (j, t2)]).size - 1 = 1 := by simp [intItems]
 rw [z]
 by_cases hj : i < j
 ·exact ⟨t, by simp [argBest, numAt, hj]⟩
 ·exact ⟨t, by simp [argBest, numAt, hj]⟩
end
open PySem.W (Dat kqdP kqdPs kqdOk kqd_lay kqd_eqv)
mutual
inductive HasD (H : Hp) : V -> Dat -> Prop
 | int (i : Int) : HasD H (.int i) (.int i)
 | tup {a : Addr} {xs : List V} {ds : List Dat} : H a = some (.tup xs) -> HasDs H xs ds -> HasD H (.ref a) (.tuple ds)
 | lst {a : Addr} {xs : List V} {ds : List Dat} : H a = some (.lst xs) -> HasDs H xs ds -> HasD H (.ref a) (.list ds)
inductive HasDs (H : Hp) : List V -> List Dat -> Prop
 | nil : HasDs H [] []
 | cons {x : V} {xs : List V} {d : Dat} {ds : List Dat} : HasD H x d -> HasDs H xs ds -> HasDs H (x :: xs) (d :: ds)
end
mutual
theorem HasD.keep {H H' : Hp} (k : ∀ a o, H a = some o -> H' a = some o) : ∀ {v : V} {d : Dat}, HasD H v d -> HasD H' v d
 | _, _, .int i => .int i
 | _, _, .tup h r => .tup (k _ _ h) (HasDs.keep k r)
 | _, _, .lst h r => .lst (k _ _ h) (HasDs.keep k r)
theorem HasDs.keep {H H' : Hp} (k : ∀ a o, H a = some o -> H' a = some o) : ∀ {v : List V} {d : List Dat}, HasDs H v d -> HasDs H' v d
 | _, _, .nil => .nil
 | _, _, .cons h r => .cons (HasD.keep k h) (HasDs.keep k r)
end
mutual
theorem HasD.reads {P : Program} {w : World} {H : Hp} {h : Heap} (ok : HOk P w H h) : ∀ {v : V} {d : Dat}, HasD H v d -> ∀ {u : Value}, RelV v u -> ∃ as, Reads h u (kqdP d) as
 | _, _, .int i, _, ⟨t, e⟩ => by subst e; exact ⟨_, Reads.int i t⟩
 | _, _, .tup hh r, _, e => by
  have e : _ = Value.ref _ := e
  subst e
  obtain ⟨_, its, rv, o, ho, hc, n, hd⟩ := (show ObjOk P w H h _ _ from ok _ _ hh)
  obtain ⟨as, q⟩ := HasDs.reads ok r rv
  rw [kqdP]
  exact ⟨as, reads_tuple_at ho hc hd (by simpa using q)⟩
 | _, _, .lst hh r, _, e => by
  have e : _ = Value.ref _ := e
  subst e
  obtain ⟨_, its, n, rv, ho⟩ := (show ObjOk P w H h _ _ from ok _ _ hh)
  obtain ⟨as, q⟩ := HasDs.reads ok r rv
  rw [kqdP]
  exact ⟨_, reads_list_at ho rfl rfl (by simpa using q)⟩
theorem HasDs.reads {P : Program} {w : World} {H : Hp} {h : Heap} (ok : HOk P w H h) : ∀ {vs : List V} {ds : List Dat}, HasDs H vs ds -> ∀ {us : List Value}, Vals vs us -> ∃ as, ReadsAll h us (kqdPs ds) as
 | _, _, .nil, _, .nil => ⟨_, ReadsAll.nil⟩
 | _, _, .cons hd r, _, .cons rv rt => by
  obtain ⟨as, q⟩ := HasD.reads ok hd rv
  obtain ⟨bs, p⟩ := HasDs.reads ok r rt
  rw [kqdPs]
  exact ⟨_, ReadsAll.cons q p⟩
end
section
variable {X : Cx}
end
def RawD (h : Heap) (d : Addr) (es : Array DictEntry) (ep : Nat) : Prop := ∃ o, h.get? d = some o /\ o.ExactDict /\ o.data = .dict es ep
theorem RawD.at {h h' : Heap} {d : Addr} {es : Array DictEntry} {ep : Nat} (x : RawD h d es ep) (k : ∀ o, h.get? d = some o -> h'.get? d = some o) : RawD h' d es ep := let ⟨o, ho, r⟩ := x; ⟨o, k o ho, r⟩
theorem RawD.lt {h : Heap} {d : Addr} {es : Array DictEntry} {ep : Nat} (x : RawD h d es ep) : d < h.objs.size := let ⟨_, ho, _⟩ := x; Heap.lt_size ho
theorem RawD.ty {s : Shared} {d : Addr} {es : Array DictEntry} {ep : Nat} (x : RawD s.heap d es ep) : s.TypeIs (.ref d) "dict" := let ⟨o, ho, hc, _⟩ := x; ⟨o, ho, hc.1⟩
section
variable {prog : Program} {w : World} {A : Around} {E : Value -> Shared -> Prop} {s : Shared} {d it : Addr} {es : Array DictEntry} {ep i : Nat}
theorem aA6 {Q : Value -> Shared -> Prop} (hd : (d == sysModules) = false) (hm : RawD s.heap d es ep)
  (q : Q (.ref s.heap.objs.size) { s with heap := s.heap.push { cls := .type "dict_keyiterator", data := .fields #[.ref d, .int 0 0, .int es.size 0, .int ep 0] } }) : wpAny (model prog w) A (pyIter (.ref d)) Q E s := by
 have ty := hm.ty
 obtain ⟨o, ho, hc, hdat⟩ := hm
 refine wpAny_pyIter_slot ty F.slot_dict_iter (wpAny_call_entry F.slot_dict_iter ty F.entry_dict_iter ?_ (F.args_dict_iter_1 _))
 unfold Builtin.«dict.__iter__» Builtin.Dict.dictSlotNone
 refine wpAny_bind (wpAny_bind (wpAny_notOrdered_dict ty (wpAny_pure ?_)))
 unfold Builtin.Dict.showsAll
 refine wpAny_bind (m := Builtin.Dict.addrOf (Value.ref d)) (wpAny_pure ?_)
 rw [if_neg (by rw [hd]; exact Bool.false_ne_true)]
 refine wpAny_bind (wpAny_pure (wpAny_bind (wpAny_dictEntries ho hdat (wpAny_bind (wpAny_dictEpoch ho hdat ?_)))))
 exact wpAny_bind (wpAny_newObj_type (wpAny_pure ⟨_, rfl, _, _, ⟨_, Heap.get?_push_size _ rfl, rfl⟩, F.slot_dict_keyiterator_next.lookup, q⟩))
theorem aBa {Q : Option Value -> Shared -> Prop} (hit : s.heap.IsKeyIter it d i es.size ep) (hm : RawD s.heap d es ep) (lt : i < es.size)
  (q : ∀ h', h'.IsKeyIter it d (i + 1) es.size ep -> Heap.SameBut it s.heap h' -> Q (some es[i].key) { s with heap := h' }) : wpAny (model prog w) A (pyNext (.ref it)) Q E s := by
 have ty := hit.typeIs
 obtain ⟨o, ho, hc, hd⟩ := hit
 obtain ⟨od, hod, _, hdd⟩ := hm
 have own : Builtin.Dict_items.ownsTuple "dict_keyiterator" = false := by decide
 have nn : ¬ ((i : Int) < 0) := Int.not_lt.mpr (Int.natCast_nonneg i)
 unfold pyNext
 refine wpAny_bind (wpAny_attempt (wpAny_callSpecial?_slot (name := Str.ofString "__next__") ty F.slot_dict_keyiterator_next (wpAny_call_entry F.slot_dict_keyiterator_next ty F.entry_dict_keyiterator_next ?_ (F.args_dict_keyiterator_next_1 _))))
 refine wpAny_bind (wpAny_pure (wpAny_bind (wpAny_bind ?_)))
 first | refine wpAny_bind (wpAny_typeNameOfWhole_keyiter ty (wpAny_pure ?_)) | refine wpAny_bind (wpAny_typeNameOf_keyiter ty (wpAny_pure ?_))
 refine wpAny_bind (wpAny_fieldsOf ho hd ?_)
 simp only [own, Bool.false_eq_true, if_false]
 show wpAny _ _ (if (Value.ref d == Value.none) = true then _ else _) _ _ s
 rw [if_neg (by intro z; cases z)]
 refine wpAny_bind (wpAny_pure (wpAny_bind (wpAny_dictEntries hod hdd ?_)))
 rw [if_neg (by simp)]
 refine wpAny_bind (wpAny_pure (wpAny_bind (wpAny_dictEpoch hod hdd ?_)))
 rw [if_neg (by simp)]
 refine wpAny_pure ?_
 simp only [nn, if_false, Int.toNat_natCast, Array.getElem?_eq_getElem lt]
 refine wpAny_bind ?_
 first | refine wpAny_bind (wpAny_typeNameOfWhole_keyiter ty (wpAny_pure ?_)) | refine wpAny_bind (wpAny_typeNameOf_keyiter ty (wpAny_pure ?_))
 refine wpAny_bind (wpAny_isOneOf_keyiter ty ?_)
 refine wpAny_bind (m := setField (.ref it) 1 (rawInt ((i : Int) + 1))) (wpAny_setField ho hd (by simp) ?_)
 have hit' : (s.heap.update it (Obj.mapFields (·.setIfInBounds 1 (rawInt ((i : Int) + 1))))).IsKeyIter it d (i + 1) es.size ep :=
  ⟨_, Heap.get?_update_self _ ho (Obj.isFreed_of_fields (Obj.data_mapFields hd _)), (Obj.cls_mapFields ..).trans hc, (Obj.data_mapFields hd _).trans (by simp [rawInt])⟩
 refine wpAny_bind (wpAny_holding (wpAny_bind (wpAny_isOneOf_keyiter (s := { s with heap := s.heap.update it (Obj.mapFields (·.setIfInBounds 1 (rawInt ((i : Int) + 1)))) }) hit'.typeIs ?_)))
 exact wpAny_pure (wpAny_pure ⟨_, rfl, wpAny_pure (q _ hit' (Heap.SameBut.update ..))⟩)
theorem aC9 {Q : Option Value -> Shared -> Prop} (hh : A.handled = none) (hit : s.heap.IsKeyIter it d es.size es.size ep) (hm : RawD s.heap d es ep) (q : ∀ h', Heap.ExtBut it s.heap h' -> Q none { s with heap := h' }) : wpAny (model prog w) A (pyNext (.ref it)) Q E s := by
 have ty := hit.typeIs
 obtain ⟨o, ho, hc, hd⟩ := hit
 obtain ⟨od, hod, _, hdd⟩ := hm
 have own : Builtin.Dict_items.ownsTuple "dict_keyiterator" = false := by decide
 have nn : ¬ ((es.size : Int) < 0) := Int.not_lt.mpr (Int.natCast_nonneg _)
 unfold pyNext
 refine wpAny_bind (wpAny_attempt (wpAny_callSpecial?_slot (name := Str.ofString "__next__") ty F.slot_dict_keyiterator_next (wpAny_call_entry F.slot_dict_keyiterator_next ty F.entry_dict_keyiterator_next ?_ (F.args_dict_keyiterator_next_1 _))))
 refine wpAny_bind (wpAny_pure (wpAny_bind (wpAny_bind ?_)))
 first | refine wpAny_bind (wpAny_typeNameOfWhole_keyiter ty (wpAny_pure ?_)) | refine wpAny_bind (wpAny_typeNameOf_keyiter ty (wpAny_pure ?_))
 refine wpAny_bind (wpAny_fieldsOf ho hd ?_)
 simp only [own, Bool.false_eq_true, if_false]
 show wpAny _ _ (if (Value.ref d == Value.none) = true then _ else _) _ _ s
 rw [if_neg (by intro z; cases z)]
 refine wpAny_bind (wpAny_pure (wpAny_bind (wpAny_dictEntries hod hdd ?_)))
 rw [if_neg (by simp)]
 refine wpAny_bind (wpAny_pure (wpAny_bind (wpAny_dictEpoch hod hdd ?_)))
 rw [if_neg (by simp)]
 refine wpAny_pure ?_
 simp only [nn, if_false, Int.toNat_natCast, Array.getElem?_eq_none (Nat.le_refl es.size)]
 refine wpAny_bind ?_
 first | refine wpAny_bind (wpAny_typeNameOfWhole_keyiter ty (wpAny_pure ?_)) | refine wpAny_bind (wpAny_typeNameOf_keyiter ty (wpAny_pure ?_))
 refine wpAny_bind (m := setField (.ref it) 0 .none) (wpAny_setField ho hd (by simp) ?_)
 refine wpAny_bind (m := newExc (.type "StopIteration") []) ?_
 simp only [newExc, newTuple]
 refine wpAny_bind (wpAny_newObj_type (wpAny_bind (m := firstArgMember _ _) (wpAny_of_eq (a := Value.none) (by first | rfl | (simp only [firstArgMember]; rfl)) ?_)) (by size_fits))
 refine wpAny_newObj_type ?_ (by size_fits)
 simp only [raiseNew]
 refine wpAny_bind (wpAny_handled ?_)
 rw [show A.in1.handled = none from hh]
 refine wpAny_bind (wpAny_pure (wpAny_throw ?_))
 refine wpAny_bind (wpAny_isInstance (T := "StopIteration") (b := true) ⟨_, Heap.get?_push_size _ rfl, rfl⟩ isSubtype_stop ?_)
 exact wpAny_pure (q _ (((Heap.SameBut.update ..).extBut.push _).push _))
theorem x4 (hh : A.handled = none) (I d : Addr) (hne : d ≠ I) (es : Array DictEntry) (ep : Nat) :
  Walks prog w A I [I, d] [I] es.size (fun i v => ∃ e, es[i]? = some e /\ v = e.key) (fun i h => h.IsKeyIter I d i es.size ep /\ RawD h d es ep) where
 sub := fun b hb => List.mem_cons.mpr (.inl (List.mem_singleton.mp hb))
 frame := fun _ _ _ st hk => ⟨st.1.at fun o e => hk I (by simp) o e, st.2.at fun o e => hk d (by simp) o e⟩
 item := fun i s Q E hi st hQ => aBa st.1 st.2 hi fun h' hit' sb => hQ _ h' s.toks ⟨es[i], by simp [hi], rfl⟩ ⟨hit', st.2.at fun o e => (sb.2 d hne).trans e⟩ fun b o hb e => (sb.2 b fun z => hb (by simp [z])).trans e
 done := fun s Q E st hQ => aC9 hh st.1 st.2 fun h' he' => hQ h' s.toks fun b o hb e => he' b o (fun z => hb (by simp [z])) e
 self := fun _ _ _ _ st hQ => wpAny_pyIter_keyiter st.1 hQ
theorem aDp (lo : (d == sysModules) = false) : PySem.W.KdlSrc prog w "dict" d d es.size (fun i v => ∃ e, es[i]? = some e /\ v = e.key) (fun h => RawD h d es ep) where
 type := fun _ hm => hm.ty
 there := fun _ hm => ⟨hm.lt, hm.lt⟩
 keep := fun _ _ hm hk => hm.at fun o e => hk d (.inl rfl) o e
 notList := by decide
 notTuple := by decide
 hint := fun _ _ _ _ hm hq => PySem.W.kdl_hint_dict hm.ty hq
 iter := fun _ _ hh hm => ⟨_, _, (fun _ _ hq => aA6 lo hm hq), x4 hh _ d (Nat.ne_of_lt hm.lt) es ep, ⟨⟨_, Heap.get?_push_size _ rfl, rfl, rfl⟩, hm.at fun o e => Heap.get?_push_of_some _ e⟩⟩
end
section
variable {prog : Program} {w : World} {A : Around} {R : Result -> Shared -> Prop} {s : Shared}
abbrev yD (ifs : List Expr) (env : Env) : Sem Bool := forIn ifs true fun c r => if r = true then do let ok <- isTrue c env (eval c env); pure (ForInStep.yield ok) else pure (ForInStep.yield r)
theorem yV {elt target iter : Expr} {ifs : List Expr} {scope : Scope} {pos : Pos} {it acc : Value} {env : Env} (I : Nat -> Shared -> Prop)
  (turn : ∀ n s, I n s -> wpAny (model prog w) A (pyNext it) (fun r s₁ => match r with
   | none => R (.ok .next) s₁
   | some v => wpAny (model prog w) A (letOwnedTupleGo target it v) (fun _ s₀ => wpAny (model prog w) A (assign target env v) (fun _ s₂ =>
     wpAny (model prog w) A (yD ifs env) (fun ok s₃ =>
      if ok = true then wpAny (model prog w) A (eval elt env) (fun x s₄ =>
       wpAny (model prog w) A (call (.builtin "list.append") [acc, x]) (fun _ s₅ => ∃ m, m < n /\ I m s₅) (fun _ _ => False) s₄) (fun _ _ => False) s₃
      else ∃ m, m < n /\ I m s₃) (fun _ _ => False) s₂) (fun _ _ => False) s₀) (fun _ _ => False) s₁) (fun _ _ => False) s)
  (n : Nat) (h : I n s) : codeAny (model prog w) A (.compLoop (.ListComp elt [⟨target, iter, ifs, 0⟩] scope pos) 0 it acc env) R s := by
 refine codeAny_loop rfl I (fun n s hI => ?_) n h
 show wpAny _ A ((compTurn (.ListComp elt [⟨target, iter, ifs, 0⟩] scope pos) 0 it acc env).onRaise (fun x => do noteFrame x env; theTreesLotGoes x)) _ _ s
 refine wpAny_noted ?_
 rw [compTurn_list]
 refine wpAny_bind (wpAny_standAt (wpAny_bind (wpAny_mono (turn n s hI) (fun r s₁ h₁ => ?_) fun _ _ z => z.elim)))
 cases r with
 | none => exact wpAny_pure h₁
 | some v =>
  refine wpAny_bind (wpAny_mono h₁ (fun _ s₀ h₀ => ?_) fun _ _ z => z.elim)
  refine wpAny_bind (wpAny_mono h₀ (fun _ s₂ h₂ => wpAny_bind (wpAny_mono h₂ (fun ok s₃ h₃ => ?_) fun _ _ z => z.elim)) fun _ _ z => z.elim)
  cases ok with
  | false => exact wpAny_pure ⟨rfl, h₃⟩
  | true =>
   exact wpAny_bind (wpAny_bind (wpAny_mono h₃ (fun x s₄ h₄ => wpAny_bind (wpAny_mono h₄ (fun _ s₅ h₅ => wpAny_pure (wpAny_pure ⟨rfl, h₅⟩)) fun _ _ z => z.elim)) fun _ _ z => z.elim))
end
def PTs (X : Cx) (ifs : List Expr) (t : TT) : Prop :=
 ∀ (pins : List (Addr × Obj)) (s : Shared) (σ : St) (H : Hp) (Q : Bool -> Hp -> Prop), Inv X pins σ H s -> t σ H Q -> wpAny (model X.prog X.w) X.A (yD ifs X.env) (TP X pins σ Q) X.xe s
def aIl : TT := fun _ H Q => Q true H
theorem aCe {X : Cx} : PTs X [] aIl := fun _ _ _ H _ I h => wpAny_tests_nil ⟨H, I, h⟩
def x5 (wi : TI) (g : TG) (tt : TT) (te : TE) (n : Nat) (js : List Nat) : TE := fun σ H Q => wi σ H fun J H1 => ∀ D, H1 D = none -> ∃ (N : Nat) (W : Nat -> List V -> Hp -> Prop), W 0 [] (upd H1 D (.lst [])) /\ ∀ i ys H2, W i ys H2 ->
 (J.stop i H2 /\ Q (.ref D) H2) \/ (i < N /\ J.go i H2 /\ ∀ v H3, J.yld i H2 v H3 -> g v (List.replicate n none ++ uW js σ) H3 fun σ2 H4 => (σ2.length = n + js.length /\ σ2.drop n = uW js σ) /\ tt σ2 H4 fun b H5 =>
  if b = true then te σ2 H5 fun y H6 => H6 D = some (.lst ys) /\ ys.length < sizeLine /\ W (i + 1) (ys ++ [y]) (upd H6 D (.lst (ys ++ [y]))) else W (i + 1) ys H5)
section
variable {X : Cx}
theorem Inv.but {pins : List (Addr × Obj)} {σ : St} {H : Hp} {s : Shared} {C : Addr} {h' : Heap} (I : Inv X pins σ H s) (f : aA4 X pins H C) (hs : Heap.SameBut C s.heap h') : Inv X pins σ H { s with heap := h' } := by
 have ne : ∀ b, b ∉ [C] -> b ≠ C := fun b hb z => hb (by rw [z]; exact .head _)
 refine I.call' (s' := { s with heap := h' }) (ch := [C]) rfl ⟨fun b o e n hb hx => (hs.2 b (ne b hx)).trans e, fun b o e n hb hx => ⟨o.slots, (hs.2 b (ne b hx)).trans e⟩, fun b o e n hx => n, fun b o e hx => ⟨o, (hs.2 b (ne b hx)).trans e⟩, fun b xs e => e, fun b o u e => e, fun b ps e => ⟨#[], by rw [Array.append_empty]; exact e⟩⟩ (lJ I.hok fun b o nn e => (hs.2 b (fun z => nn (by rw [z]; exact f.1))).trans e) I.bare fun b hb => ?_
 rw [List.mem_singleton.mp hb]
 exact ⟨f.2.2.2.1, f.2.1, f.2.2.2.2.1, f.2.2.2.2.2⟩
set_option maxHeartbeats 8000000 in
theorem wD {elt iter tg : Expr} {pos : Pos} {scope : Scope} {ifs : List Expr} {wi : TI} {g : TG} {tt : TT} {te : TE} {xs ys : List Str} {js : List Nat} {cl : List (Str × Addr)} (hc : X.calm = true) (hi : PI X tg iter wi)
  (hcl : aFs X scope cl) (hcap : p8 X scope cl ys js) (hcell : ∀ y ∈ scope.names, y.2 ≠ .cell) (hkind : scope.kind = .function) (hnames : ∀ y ∈ scope.names, y.2 = .local -> scope.names.lookup y.1 = some .local)
  (hg : ∀ C s₀ H₀ ex pn, PG (dE X scope cl C (xs ++ ys) s₀ H₀ ex pn) tg g) (ht : ∀ C s₀ H₀ ex pn, PTs (dE X scope cl C (xs ++ ys) s₀ H₀ ex pn) ifs tt) (hb : ∀ C s₀ H₀ ex pn, PE (dE X scope cl C (xs ++ ys) s₀ H₀ ex pn) elt te)
  (hs : ∀ x, foldedSetIterable iter X.env x = pure x) {use : Option (Value -> Sem Unit)} {QQ : Value -> Shared -> Prop} {Q : VK} {pins : List (Addr × Obj)} {s : Shared} {σ : St} {H : Hp} {cp : Pos} (I : Inv X pins σ H s)
  (aHe : ∀ (C D : Addr) (s' : Shared) (H' : Hp), Inv X pins σ H' s' -> aA4 X pins H' C -> (∃ m, s'.heap.Ns C m) -> Q (.ref D) H' -> compPost (model X.prog X.w) X.A X.xe use QQ (.ref D) C (.ok .next) s')
  (h : x5 wi g tt te xs.length js σ H Q) :
  wpAny (model X.prog X.w) X.A (comprehension (.ListComp elt [⟨tg, iter, ifs, 0⟩] scope pos) scope X.env cp (newList []) false (eval iter X.env) use) QQ X.xe s := by
 refine wpAny_comprehension_free rfl hs hcl.clos hkind hnames (thn (hi pins s σ H _ I h) fun v s1 h1 => thn h1 fun itv s2 h2 => ?_)
 obtain ⟨it, fp, tn, J, H2, e, I2, T, st2, f2, q2⟩ := h2
 subst e
 obtain ⟨n, W, w0, turn⟩ := q2 s2.heap.objs.size I2.fresh
 refine wpAny_newObj_type (wpAny_newFunctionEnv hcell (by intro y hy; simp at hy) (fun h₁ hns₁ hsb₁ => ?_) hkind)
 dsimp only at hns₁ hsb₁ ⊢
 have I3 := I2.lnew (ys := []) (its := []) (t' := s2.toks) .nil (Nat.zero_le _)
 generalize hg3 : s2.heap.push { cls := .type "list", dict := none, data := .seq ([] : List Value).toArray } = g3 at hns₁ hsb₁ I3 ⊢
 have sz3 : g3.objs.size = s2.heap.objs.size + 1 := by rw [<- hg3, Heap.size_push]
 generalize hC : g3.objs.size = C at hns₁ hsb₁ ⊢
 have old3 : ∀ b o, g3.get? b = some o -> h₁.get? b = some o := fun b o q => hsb₁.extBut b o (by rw [<- hC]; exact Nat.ne_of_lt (Heap.lt_size q)) (Heap.get?_push_of_some _ q)
 have old2 : ∀ b o, s2.heap.get? b = some o -> g3.get? b = some o := fun b o q => by rw [<- hg3]; exact Heap.get?_push_of_some _ q
 have fpl : ∀ b ∈ fp, ∃ o, s2.heap.get? b = some o /\ ∀ v, o.data ≠ .cell v := T.obj _ _ st2
 have fplt : ∀ b ∈ fp, b < s2.heap.objs.size := fun b hb => let ⟨o, q, _⟩ := fpl b hb; Heap.lt_size q
 have H3n : ∀ b, b ≠ s2.heap.objs.size -> upd H2 s2.heap.objs.size (.lst []) b = H2 b := fun b hb => bP hb
 have fp3 : ∀ b ∈ fp, upd H2 s2.heap.objs.size (.lst []) b = none := fun b hb => by rw [H3n b (Nat.ne_of_lt (fplt b hb))]; exact (f2 b hb).1
 have okX := I3.ok
 have inj : ∀ y z c, cl.lookup y = some c -> cl.lookup z = some c -> y = z := fun y z c h1 h2 => okX.inj y z c (hcl.sub y c h1) (hcl.sub z c h2)
 have cellE : ∀ y c, cl.lookup y = some c -> ∃ v, g3.IsCell c v := fun y c q => I3.cell y c (hcl.sub y c q)
 have st3 : g3.FunFrames X.base X.stack := I3.stack
 have exlt : ∀ b ∈ fp, b ≠ C := fun b hb => by rw [<- hC, sz3]; exact Nat.ne_of_lt (Nat.lt_succ_of_lt (fplt b hb))
 have frlt : ∀ b ∈ frs X.stack, b < g3.objs.size := fun b hb => let ⟨_, o, q, _⟩ := st3.mem hb; Heap.lt_size q
 have okB : (dE X scope cl C (xs ++ ys) { s2 with heap := g3 } (upd H2 s2.heap.objs.size (.lst [])) fp (X.pn ++ pins)).Ok := by
  refine ⟨okX.mod, hkind, okX.glob, okX.blt, Nat.le_of_eq hC, inj, fun y hy => hcl.has y hy, (fun y c hf _ => nomatch hf), okX.hd, okX.frames, .inl rfl, fun b hb => ⟨exlt b hb, fun y c q z => ?_⟩, I3.bs, Nat.le_trans okX.bsz I3.sz, fun b o q hb => ?_, fun b hb => ?_, st3, I3.stkFree⟩
  ·subst z
   exact (f2 c hb).2.2.2.2.1 y c (hcl.sub y c q) rfl
  ·rcases (f2 b hb).2.2.2.1 with z | z
   ·exact okX.noex b o q z
   ·have := Heap.lt_size (okX.bs b o q).1
    exact absurd (Nat.lt_of_lt_of_le this z) (Nat.lt_irrefl _)
  ·intro hz
   rcases List.mem_cons.mp (I3.stkSub b hz) with z | z
   ·exact (f2 b hb).2.1 z
   ·exact (f2 b hb).2.2.1 z
 have tot : ∀ tk : Nat, Inv (dE X scope cl C (xs ++ ys) { s2 with heap := g3 } (upd H2 s2.heap.objs.size (.lst [])) fp (X.pn ++ pins)) [] (List.replicate xs.length none ++ uW js σ) (upd H2 s2.heap.objs.size (.lst [])) { s2 with heap := h₁, toks := tk } := fun tk => by
  refine ⟨okB, rfl, I3.bare, Un.kept old3, ⟨_, hns₁, fun i y v' e1 e2 e3 => ?_⟩, fun y c q => ?_, I3.hok.fresh (Nat.le_of_eq hC), fun y c q => ?_, fun p hp => ?_, I3.hok.kept old3, ?_⟩
  ·by_cases hix : i < xs.length
   ·rw [List.getElem?_append_left (by rw [List.length_replicate]; exact hix), List.getElem?_replicate] at e2
    split at e2 <;> cases e2
   ·have hix' : xs.length <= i := by omega
    obtain ⟨k, rfl⟩ : ∃ k, i = xs.length + k := ⟨i - xs.length, by omega⟩
    have e1' : ys[k]? = some y := by
     rw [List.getElem?_append_right (by omega)] at e1
     simpa using e1
    have e2' : (uW js σ)[k]? = some (some v') := by
     rw [List.getElem?_append_right (by rw [List.length_replicate]; omega), List.length_replicate] at e2
     simpa using e2
    unfold uW at e2'
    rw [List.getElem?_map] at e2'
    cases ej : js[k]? with
    | none => rw [ej] at e2'; cases e2'
    | some j =>
     rw [ej] at e2'
     have e2'' : (σ[j]?).getD none = some v' := Option.some.inj e2'
     have eσ : σ[j]? = some (some v') := by
      cases es : σ[j]? with
      | none => rw [es] at e2''; cases e2''
      | some z => rw [es] at e2''; have : z = some v' := e2''; rw [this]
     obtain ⟨c1, c2, c3, c4, c5⟩ := hcap.at_ k y j e1' ej
     obtain ⟨m0, hn0, hl0⟩ := I3.loc
     obtain ⟨u, r, l⟩ := hl0 j y v' c1 eσ (c2.elim (fun z => .inr (.inl z)) fun z => .inr (.inr z))
     refine ⟨u, r, .inr ⟨c3, ?_⟩⟩
     rcases l with ⟨l, _⟩ | ⟨_, c, hcc, z⟩
     ·rcases c2 with c2 | c2
      ·rw [c2] at l; cases l
      ·rw [c2] at l; cases l
     ·obtain ⟨o, ho, hd⟩ := z
      exact ⟨c, c5.trans hcc, o, old3 c o ho, hd⟩
  ·obtain ⟨v0, o, ho, hd⟩ := cellE y c q
   exact ⟨v0, o, old3 c o ho, hd⟩
  ·exact I3.freeC y c (hcl.sub y c q)
  ·have hp' : p ∈ X.pn ++ pins := by simpa using hp
   obtain ⟨p1, p2, p3, p4, p5⟩ := I3.pin p hp'
   refine ⟨old3 _ _ p1, p2, ?_, fun hz => ?_, p5⟩
   ·show p.1 ≠ C
    rw [<- hC]
    exact Nat.ne_of_lt (Heap.lt_size p1)
   ·rcases List.mem_cons.mp (I3.stkSub p.1 hz) with z | z
    ·exact p3 z
    ·exact p4 z
  ·show (List.replicate xs.length none ++ uW js σ).length = (xs ++ ys).length
   unfold uW
   simp [hcap.len]
 have fpB : ∀ {H' : Hp}, (∀ b ∈ fp, H' b = none) -> ∀ b ∈ fp, aA4 (dE X scope cl C (xs ++ ys) { s2 with heap := g3 } (upd H2 s2.heap.objs.size (.lst [])) fp (X.pn ++ pins)) [] H' b := fun hn b hb =>
  ⟨hn b hb, exlt b hb, okB.exfs b hb, .inl hb, (okB.exf b hb).2, fun p hp => (f2 b hb).2.2.2.2.2 p (by simpa using hp)⟩
 have fin : ∀ s' : Shared, (∃ i zs σ' H', Inv (dE X scope cl C (xs ++ ys) { s2 with heap := g3 } (upd H2 s2.heap.objs.size (.lst [])) fp (X.pn ++ pins)) [] σ' H' s' /\ W i zs H' /\ J.stop i H' /\ Q (.ref s2.heap.objs.size) H') ->
   compPost (model X.prog X.w) X.A X.xe use QQ (.ref s2.heap.objs.size) C (.ok .next) s' := by
  rintro s' ⟨i, zs, σ', H', Ib, w, stop, q⟩
  obtain ⟨m', hn', _⟩ := Ib.loc
  have ub := Ib.base
  have un : Un (frs X.stack) fp (upd H2 s2.heap.objs.size (.lst [])) H' g3 s'.heap := ub
  have IX : Inv X pins σ H' s' := I3.call' (s' := s') (ch := fp) Ib.os un Ib.hok Ib.bare fun b hb => ⟨(f2 b hb).2.2.2.1, (f2 b hb).2.1, (f2 b hb).2.2.2.2.1, (f2 b hb).2.2.2.2.2⟩
  exact aHe C _ s' H' IX (I3.fpOk (Nat.le_of_eq hC) Ib.free) ⟨m', hn'⟩ q
 have loop : ∀ s₃ : Shared, (∃ tk, s₃ = { s2 with heap := h₁, toks := tk }) ->
   codeAny (model X.prog X.w) X.A (.compLoop (.ListComp elt [⟨tg, iter, ifs, 0⟩] scope pos) 0 (.ref it) (.ref s2.heap.objs.size) (compEnvC scope cl C X.env)) (compPost (model X.prog X.w) X.A X.xe use QQ (.ref s2.heap.objs.size) C) s₃ := by
  rintro s₃ ⟨tk, rfl⟩
  refine yV (fun k s' => ∃ i zs H', k = n + 1 - i /\ i <= n /\ Inv (dE X scope cl C (xs ++ ys) { s2 with heap := g3 } (upd H2 s2.heap.objs.size (.lst [])) fp (X.pn ++ pins)) [] (List.replicate xs.length none ++ uW js σ) H' s' /\ tn i s'.heap /\ (∀ b ∈ fp, H' b = none) /\ W i zs H')
   ?_ (n + 1) ⟨0, [], _, rfl, Nat.zero_le _, tot tk, T.keep _ _ _ st2 fun b hb o q => old3 b o (old2 b o q), fp3, w0⟩
  rintro k s' ⟨i, zs, H', rfl, hin, Ib, st, fr, w⟩
  rcases turn i zs H' w with ⟨stop, qq⟩ | ⟨hlt, go, step⟩
  ·refine wpAny_mono (T.done (dE X scope cl C (xs ++ ys) { s2 with heap := g3 } (upd H2 s2.heap.objs.size (.lst [])) fp (X.pn ++ pins)) rfl rfl rfl hc i [] s' _ H' (fun _ _ => False) Ib (fpB fr) st stop) (fun r s4 ⟨hr, I4⟩ => ?_) fun _ _ z => z.elim
   subst hr
   exact fin s4 ⟨i, zs, _, H', I4, w, stop, qq⟩
  ·refine wpAny_mono (T.item (dE X scope cl C (xs ++ ys) { s2 with heap := g3 } (upd H2 s2.heap.objs.size (.lst [])) fp (X.pn ++ pins)) rfl rfl rfl hc i [] s' _ H' (fun _ _ => False) Ib (fpB fr) st go) (fun r s4 ⟨u, hr, h4⟩ => ?_) fun _ _ z => z.elim
   subst hr
   refine wpAny_mono h4 (fun _ s5 ⟨v5, H5, I5, r5, y5, st5, fr5⟩ => ?_) fun _ _ z => z.elim
   have I5' := I5.pinned (fpB fr5) (T.obj _ _ st5)
   have hw5 := step v5 H5 y5
   refine wpAny_mono (hg C _ _ fp (X.pn ++ pins) _ s5 _ H5 v5 u _ I5' r5 hw5) (fun _ s6 ⟨σ6, H6, I6, ⟨hl6, hd6⟩, e6⟩ => ?_) fun _ _ z => z.elim
   have back : ∀ {H' : Hp} {s' : Shared} {pins' : List (Addr × Obj)}, Inv (dE X scope cl C (xs ++ ys) { s2 with heap := g3 } (upd H2 s2.heap.objs.size (.lst [])) fp (X.pn ++ pins)) pins' σ6 H' s' -> Inv (dE X scope cl C (xs ++ ys) { s2 with heap := g3 } (upd H2 s2.heap.objs.size (.lst [])) fp (X.pn ++ pins)) pins' (List.replicate xs.length none ++ uW js σ) H' s' := fun I' => by
    refine I'.weak ?_ fun j v' e => ?_
    ·rw [hl6]; unfold uW; simp
    ·by_cases hj : j < xs.length
     ·rw [List.getElem?_append_left (by rw [List.length_replicate]; exact hj), List.getElem?_replicate] at e
      split at e <;> cases e
     ·rw [List.getElem?_append_right (by rw [List.length_replicate]; omega), List.length_replicate, <- hd6, List.getElem?_drop] at e
      rw [<- e]
      congr 1
      omega
   refine wpAny_mono (ht C _ _ fp (X.pn ++ pins) _ s6 _ _ _ I6 e6) (fun ok s6b ⟨H6b, I6b, e6b⟩ => ?_) fun _ _ z => z.elim
   cases ok with
   | false =>
    rw [if_neg Bool.false_ne_true]
    have e6c : W (i + 1) zs H6b := by simpa using e6b
    have I8 := back I6b
    refine ⟨n + 1 - (i + 1), by omega, i + 1, zs, _, rfl, hlt, I8.unpinned (pins := []), ?_, fun b hb => ?_, e6c⟩
    ·exact T.keep _ _ _ st5 fun b hb o q => (I8.pin (b, o) (List.mem_append_right _ (List.mem_append_right _ (gF hb q)))).1
    ·obtain ⟨o, q, d⟩ := T.obj _ _ st5 b hb
     exact (I8.pin (b, o) (List.mem_append_right _ (List.mem_append_right _ (gF hb q)))).2.1
   | true =>
    rw [if_pos rfl]
    have e6c := e6b
    rw [if_pos rfl] at e6c
    refine wpAny_mono (hb C _ _ fp (X.pn ++ pins) _ s6b _ _ _ I6b e6c) (fun y s7 ⟨yv, H7, I7, r7, hD, hz, w7⟩ => ?_) fun _ _ z => z.elim
    obtain ⟨z7, its, n7, rv7, hl7, e7⟩ := I7.lstM hD
    refine append_at (n := n7) (its := its.toArray) e7 (fun h₈ sb8 eD8 => ?_) (by rw [List.size_toArray, <- hl7]; exact Nat.le_of_lt hz)
    have I8 : Inv _ _ _ (upd H7 s2.heap.objs.size (.lst (zs ++ [yv]))) { s7 with heap := h₈, toks := s7.toks } := I7.write (x := s2.heap.objs.size) (e := s2.heap.objs.size) (by rw [hD]; exact trivial) (.inl rfl) (fun b u hb q => (sb8.2 b hb).trans q) ⟨_, eD8⟩
     ⟨by rw [List.length_append]; exact hz, its ++ [y], n7 + 1, rv7.append (.cons r7 .nil), by rw [eD8, List.push_toArray]⟩
    have I9 := back I8
    refine ⟨n + 1 - (i + 1), by omega, i + 1, zs ++ [yv], _, rfl, hlt, I9.unpinned (pins := []), ?_, fun b hb => ?_, w7⟩
    ·exact T.keep _ _ _ st5 fun b hb o q => (I8.pin (b, o) (List.mem_append_right _ (List.mem_append_right _ (gF hb q)))).1
    ·obtain ⟨o, q, d⟩ := T.obj _ _ st5 b hb
     exact (I8.pin (b, o) (List.mem_append_right _ (List.mem_append_right _ (gF hb q)))).2.1
 exact codeAny_compStart_list (loop _ ⟨_, rfl⟩) (T.self _ 0 _ _ _ (T.keep _ _ _ st2 fun b hb o q => old3 b o (old2 b o q)) (loop _ ⟨_, rfl⟩))
theorem aBe {elt iter tg : Expr} {pos : Pos} {scope : Scope} {ifs : List Expr} {wi : TI} {g : TG} {tt : TT} {te : TE} {xs ys : List Str} {js : List Nat} {cl : List (Str × Addr)} (hc : X.calm = true) (hi : PI X tg iter wi)
  (hcl : aFs X scope cl) (hcap : p8 X scope cl ys js) (hcell : ∀ y ∈ scope.names, y.2 ≠ .cell) (hkind : scope.kind = .function) (hnames : ∀ y ∈ scope.names, y.2 = .local -> scope.names.lookup y.1 = some .local)
  (hg : ∀ C s₀ H₀ ex pn, PG (dE X scope cl C (xs ++ ys) s₀ H₀ ex pn) tg g) (ht : ∀ C s₀ H₀ ex pn, PTs (dE X scope cl C (xs ++ ys) s₀ H₀ ex pn) ifs tt) (hb : ∀ C s₀ H₀ ex pn, PE (dE X scope cl C (xs ++ ys) s₀ H₀ ex pn) elt te)
  (hs : ∀ x, foldedSetIterable iter X.env x = pure x := by intro _; rfl) :
  PE X (.ListComp elt [⟨tg, iter, ifs, 0⟩] scope pos) (x5 wi g tt te xs.length js) := by
 intro pins s σ H Q I h
 rw [eval_ListComp]
 exact wD hc hi hcl hcap hcell hkind hnames hg ht hb hs (use := none) (QQ := EP X pins σ Q) (Q := Q) I (fun C D s' H' IX f ⟨m, hn⟩ q => ⟨m, hn, fun h' hs' => ⟨.ref D, H', IX.but f hs', rfl, q⟩⟩) h
end
end L2
namespace M
open PySem PySem.Spec PyProof.Rows L2
abbrev D := PyData
inductive Res (α : Type) where
 | ok (a : α)
 | exc (C : Addr)
 | bad
def Res.bind {α β : Type} (r : Res α) (f : α -> Res β) : Res β := match r with
 | .ok a => f a
 | .exc C => .exc C
 | .bad => .bad
def wpR {α : Type} (r : Res α) (Q : α -> Prop) (E : Addr -> Prop) : Prop := match r with
 | .ok a => Q a
 | .exc C => E C
 | .bad => False
theorem cL {α β : Type} {r : Res α} {f : α -> Res β} {Q : β -> Prop} {E : Addr -> Prop} : wpR (r.bind f) Q E = wpR r (fun a => wpR (f a) Q E) E := by cases r <;> rfl
theorem bU {α : Type} {r : Res α} {Q Q' : α -> Prop} {E E' : Addr -> Prop} (h : wpR r Q E) (hQ : ∀ a, Q a -> Q' a) (hE : ∀ C, E C -> E' C) : wpR r Q' E' := by
 cases r with
 | ok a => exact hQ a h
 | exc C => exact hE C h
 | bad => exact h
inductive L where
 | p (d : D)
 | o (d : D)
 | x (C : Addr)
 | h (a : Addr)
inductive Ev where
 | p (d : D)
 | f (d : D)
 | b (d : D)
 | x (C : Addr)
def Ev.c : Ev -> Ev
 | .f d => .p d
 | r => r
abbrev En := List (Option L)
def kD : Key -> D
 | .inl i => .int i
 | .inr x => .str x
def tkD (ks : List Key) : D := .tuple (ks.map kD)
mutual
inductive Rep (K : PySem.W.Frag) (G : Hp) : V -> D -> Prop
 | non : Rep K G .non .none
 | bl (b : Bool) : Rep K G (.bl b) (.bool b)
 | int (i : Int) : Rep K G (.int i) (.int i)
 | str (x : Str) : Rep K G (.str x) (.str x)
 | tup {a : Addr} {xs : List V} {ds : List D} : G a = some (.tup xs) -> Reps K G xs ds -> Rep K G (.ref a) (.tuple ds)
 | lst {a : Addr} {xs : List V} {ds : List D} : Rd G a (.lst xs) -> Reps K G xs ds -> Rep K G (.ref a) (.list ds)
 | dT {a : Addr} {kv : List (List Key × V)} {kvs : List (D × D)} : G a = some (.dT kv) -> RepT K G kv kvs -> Rep K G (.ref a) (.dict kvs)
 | dK {a : Addr} {kv : List (Key × V)} {kvs : List (D × D)} : G a = some (.dK kv) -> RepK K G kv kvs -> Rep K G (.ref a) (.dict ((.none, .none) :: kvs))
inductive Reps (K : PySem.W.Frag) (G : Hp) : List V -> List D -> Prop
 | nil : Reps K G [] []
 | cons {x : V} {xs : List V} {d : D} {ds : List D} : Rep K G x d -> Reps K G xs ds -> Reps K G (x :: xs) (d :: ds)
inductive RepT (K : PySem.W.Frag) (G : Hp) : List (List Key × V) -> List (D × D) -> Prop
 | nil : RepT K G [] []
 | cons {k : List Key} {x : V} {d : D} {kv : List (List Key × V)} {kvs : List (D × D)} : Rep K G x d -> RepT K G kv kvs -> RepT K G ((k, x) :: kv) ((tkD k, d) :: kvs)
inductive RepK (K : PySem.W.Frag) (G : Hp) : List (Key × V) -> List (D × D) -> Prop
 | nil : RepK K G [] []
 | cons {k : Key} {x : V} {d : D} {kv : List (Key × V)} {kvs : List (D × D)} : Rep K G x d -> RepK K G kv kvs -> RepK K G ((k, x) :: kv) ((kD k, d) :: kvs)
end
inductive Cont (K : PySem.W.Frag) (G : Hp) : HO -> D -> Prop
 | lst {xs : List V} {ds : List D} : Reps K G xs ds -> Cont K G (.lst xs) (.list ds)
 | dT {kv : List (List Key × V)} {kvs : List (D × D)} : RepT K G kv kvs -> Cont K G (.dT kv) (.dict kvs)
 | dK {kv : List (Key × V)} {kvs : List (D × D)} : RepK K G kv kvs -> Cont K G (.dK kv) (.dict ((.none, .none) :: kvs))
section
variable {K : PySem.W.Frag} {G G' H H' : Hp}
theorem iL {a : Addr} {u : HO} (s : Same G G') (h : Rd G a u) : Rd G' a u := by
 rcases h with h | ⟨o, h⟩
 ·exact .inl (s _ _ h)
 ·exact .inr ⟨o, s _ _ h⟩
mutual
theorem Rep.mono (s : Same G G') : ∀ {v : V} {d : D}, Rep K G v d -> Rep K G' v d
 | _, _, .non => .non
 | _, _, .bl b => .bl b
 | _, _, .int i => .int i
 | _, _, .str x => .str x
 | _, _, .tup h r => .tup (s _ _ h) (Reps.mono s r)
 | _, _, .lst h r => .lst (iL s h) (Reps.mono s r)
 | _, _, .dT h r => .dT (s _ _ h) (RepT.mono s r)
 | _, _, .dK h r => .dK (s _ _ h) (RepK.mono s r)
theorem Reps.mono (s : Same G G') : ∀ {v : List V} {d : List D}, Reps K G v d -> Reps K G' v d
 | _, _, .nil => .nil
 | _, _, .cons h r => .cons (Rep.mono s h) (Reps.mono s r)
theorem RepT.mono (s : Same G G') : ∀ {v : List (List Key × V)} {d : List (D × D)}, RepT K G v d -> RepT K G' v d
 | _, _, .nil => .nil
 | _, _, .cons h r => .cons (Rep.mono s h) (RepT.mono s r)
theorem RepK.mono (s : Same G G') : ∀ {v : List (Key × V)} {d : List (D × D)}, RepK K G v d -> RepK K G' v d
 | _, _, .nil => .nil
 | _, _, .cons h r => .cons (Rep.mono s h) (RepK.mono s r)
end
theorem Cont.mono (s : Same G G') {o : HO} {d : D} (h : Cont K G o d) : Cont K G' o d := by
 cases h with
 | lst r => exact .lst (r.mono s)
 | dT r => exact .dT (r.mono s)
 | dK r => exact .dK (r.mono s)
theorem Cont.rep {a : Addr} {o : HO} {d : D} (h : Cont K G o d) (e : G a = some o) : Rep K G (.ref a) d := by
 cases h with
 | lst r => exact .lst (.inl e) r
 | dT r => exact .dT e r
 | dK r => exact .dK e r
theorem Reps.length : ∀ {xs : List V} {ds : List D}, Reps K G xs ds -> xs.length = ds.length
 | _, _, .nil => rfl
 | _, _, .cons _ r => by rw [List.length_cons, List.length_cons, Reps.length r]
theorem Reps.get' : ∀ {xs : List V} {ds : List D} {i : Nat} {d : D}, Reps K G xs ds -> ds[i]? = some d -> ∃ x, xs[i]? = some x /\ Rep K G x d
 | _, _, _, _, .nil, e => by simp at e
 | _, _, 0, _, .cons h _, e => by simp at e; subst e; exact ⟨_, rfl, h⟩
 | _, _, i + 1, _, .cons _ r, e => by
  have := Reps.get' (i := i) r (by simpa using e)
  simpa using this
theorem Reps.append : ∀ {xs ys : List V} {ds es : List D}, Reps K G xs ds -> Reps K G ys es -> Reps K G (xs ++ ys) (ds ++ es)
 | _, _, _, _, .nil, r => r
 | _, _, _, _, .cons h t, r => .cons h (Reps.append t r)
theorem Reps.set {x : V} {d : D} (h : Rep K G x d) : ∀ {xs : List V} {ds : List D} (i : Nat), Reps K G xs ds -> Reps K G (xs.set i x) (ds.set i d)
 | _, _, _, .nil => .nil
 | _, _, 0, .cons _ t => .cons h t
 | _, _, i + 1, .cons q t => .cons q (Reps.set h i t)
end
structure Step (G H G' H' : Hp) : Prop where
 g : Same G G'
 h : Same H H'
 gh : Same G' H'
 new : ∀ b, H b ≠ none -> G b = none -> G' b = none \/ ∃ xs, H b = some (.tup xs)
theorem Step.off {G H G' H' : Hp} (s : Step G H G' H') {b : Addr} {o : HO} (h : H b = some o) (n : ∀ xs, o ≠ .tup xs) (g : G b = none) : G' b = none := by
 rcases s.new b (by rw [h]; exact fun z => nomatch z) g with z | ⟨xs, z⟩
 ·exact z
 ·rw [h] at z; exact absurd (Option.some.inj z) (n xs)
theorem zN {H H' : Hp} (s : Same H H') {b : Addr} (h : H b ≠ none) : H' b ≠ none := by
 cases e : H b with
 | none => exact absurd e h
 | some o => rw [s b o e]; exact fun z => nomatch z
theorem Step.refl {G H : Hp} (s : Same G H) : Step G H G H := ⟨Same.refl _, Same.refl _, s, fun _ _ h => .inl h⟩
theorem Step.trans {G H G1 H1 G2 H2 : Hp} (a : Step G H G1 H1) (b : Step G1 H1 G2 H2) : Step G H G2 H2 :=
 ⟨a.g.trans b.g, a.h.trans b.h, b.gh, fun c hc hg => by
  rcases a.new c hc hg with z | z
  ·rcases b.new c (zN a.h hc) z with y | ⟨xs, y⟩
   ·exact .inl y
   ·cases e : H c with
    | none => exact absurd e hc
    | some o =>
     rw [a.h _ _ e] at y
     exact .inr ⟨xs, y⟩
  ·exact .inr z⟩
theorem Step.put {G H : Hp} {a : Addr} {o : HO} (s : Same G H) (e : H a = none) : Step G H (upd G a o) (upd H a o) :=
 ⟨Same.upd (Same.refl _) (s.free e) o, Same.upd (Same.refl _) e o, fun b u q => by
  by_cases z : b = a
  ·subst z; rw [cJ] at q ⊢; exact q
  ·rw [bP z] at q ⊢; exact s b u q, fun b hb hg => by
  have z : b ≠ a := fun z => hb (z ▸ e)
  rw [bP z]; exact .inl hg⟩
theorem Step.lay {G H : Hp} {a : Addr} {o : HO} (s : Same G H) (e : H a = none) : Step G H G (upd H a o) :=
 ⟨Same.refl _, Same.upd (Same.refl _) e o, Same.upd s e o, fun _ _ h => .inl h⟩
def EOk (K : PySem.W.Frag) (W : Addr -> Option Nat) (Hs G H : Hp) (v : V) : Ev -> Prop
 | .p d => Rep K G v d
 | .f d => ∃ a o, v = .ref a /\ Hs a = none /\ G a = none /\ H a = some o /\ Cont K G o d
 | .b d => ∃ a i o, v = .ref a /\ W a = some i /\ H a = some o /\ Cont K G o d
 | .x C => ∃ e, v = .ref e /\ G e = some (xP e (.ref C))
theorem EOk.step {K : PySem.W.Frag} {W : Addr -> Option Nat} {Hs Hs' G H G' H' : Hp} {v : V} {r : Ev} (h : EOk K W Hs G H v r.c) (s : Step G H G' H') : EOk K W Hs' G' H' v r.c := by
 cases r with
 | p d => exact Rep.mono s.g h
 | f d => exact Rep.mono s.g h
 | b d =>
  obtain ⟨a, i, o, h1, h2, h3, h4⟩ := h
  exact ⟨a, i, o, h1, h2, s.h _ _ h3, h4.mono s.g⟩
 | x C =>
  obtain ⟨e, h1, h2⟩ := h
  exact ⟨e, h1, s.g _ _ h2⟩
theorem EOk.c {K : PySem.W.Frag} {W : Addr -> Option Nat} {G H G1 H1 : Hp} {v : V} {r : Ev} (s : Step G H G1 H1) (h : EOk K W H G1 H1 v r) : ∃ G2, Step G H G2 H1 /\ EOk K W H G2 H1 v r.c := by
 cases r with
 | p d => exact ⟨G1, s, h⟩
 | b d => exact ⟨G1, s, h⟩
 | x d => exact ⟨G1, s, h⟩
 | f d =>
  obtain ⟨a, o, rfl, h1, h2, h3, h4⟩ := h
  refine ⟨upd G1 a o, ⟨s.g.trans (Same.upd (Same.refl _) h2 o), s.h, fun b u q => ?_, fun b hb hg => ?_⟩, (h4.mono (Same.upd (Same.refl _) h2 o)).rep cJ⟩
  ·by_cases z : b = a
   ·subst z; rw [cJ] at q; rw [h3]; exact q
   ·rw [bP z] at q; exact s.gh b u q
  ·have z : b ≠ a := fun z => hb (z ▸ h1)
   rw [bP z]; exact s.new b hb hg
structure SimH (B G0 G : Hp) (W : Addr -> Option Nat) (H : Hp) : Prop where
 gh : Same G H
 bh : Same B H
 g0 : Same G0 G
 gb : ∀ b, G b ≠ none -> G0 b ≠ none \/ B b = none \/ ∃ xs, B b = some (.tup xs)
 wf : ∀ a i, W a = some i -> G a = none /\ B a = none /\ ∃ o, H a = some o /\ ∀ xs, o ≠ .tup xs
theorem SimH.step {B G0 G H G' H' : Hp} {W : Addr -> Option Nat} (s : SimH B G0 G W H) (t : Step G H G' H') : SimH B G0 G' W H' := by
 refine ⟨t.gh, s.bh.trans t.h, s.g0.trans t.g, fun b hb => ?_, fun a i e => ?_⟩
 ·by_cases z : G b = none
  ·refine .inr ?_
   by_cases y : H b = none
   ·exact .inl (s.bh.free y)
   ·rcases t.new b y z with q | ⟨xs, q⟩
    ·exact absurd q hb
    ·cases e : B b with
     | none => exact .inl rfl
     | some o => rw [s.bh _ _ e] at q; exact .inr ⟨xs, q⟩
  ·exact s.gb b z
 ·obtain ⟨h1, h2, o, h3, h4⟩ := s.wf a i e
  exact ⟨t.off h3 h4 h1, h2, o, t.h _ _ h3, h4⟩
theorem Cont.mut {K : PySem.W.Frag} {G : Hp} {o : HO} {d : D} (h : Cont K G o d) : ∀ xs, o ≠ .tup xs := by
 intro xs z
 subst z
 cases h
def Slot (K : PySem.W.Frag) (W : Addr -> Option Nat) (G H : Hp) (i : Nat) (v : V) : L -> Prop
 | .p d => Rep K G v d
 | .o d => ∃ a o, v = .ref a /\ W a = some i /\ H a = some o /\ Cont K G o d
 | .x C => ∃ e, v = .ref e /\ G e = some (xP e (.ref C))
 | .h a => v = .ref a
def SimS (K : PySem.W.Frag) (W : Addr -> Option Nat) (G H : Hp) (σ : L2.St) (en : En) : Prop := σ.length = en.length /\ ∀ i l, en[i]? = some (some l) -> ∃ v, σ[i]? = some (some v) /\ Slot K W G H i v l
theorem Slot.step {K : PySem.W.Frag} {W : Addr -> Option Nat} {G H G' H' : Hp} {i : Nat} {v : V} {l : L} (h : Slot K W G H i v l) (s : Step G H G' H') : Slot K W G' H' i v l := by
 cases l with
 | p d => exact Rep.mono s.g h
 | o d =>
  obtain ⟨a, o, h1, h2, h3, h4⟩ := h
  exact ⟨a, o, h1, h2, s.h _ _ h3, h4.mono s.g⟩
 | x C =>
  obtain ⟨e, h1, h2⟩ := h
  exact ⟨e, h1, s.g _ _ h2⟩
 | h a => exact h
theorem SimS.step {K : PySem.W.Frag} {W : Addr -> Option Nat} {G H G' H' : Hp} {σ : L2.St} {en : En} (h : SimS K W G H σ en) (s : Step G H G' H') : SimS K W G' H' σ en :=
 ⟨h.1, fun i l e => let ⟨v, e1, e2⟩ := h.2 i l e; ⟨v, e1, e2.step s⟩⟩
def PostE (K : PySem.W.Frag) (W : Addr -> Option Nat) (G H : Hp) (Q : VK) (r : Ev) : Prop := ∀ G' H' v, Step G H G' H' -> EOk K W H G' H' v r -> Q v H'
def PostB (G H : Hp) (Q : Bool -> Hp -> Prop) (b : Bool) : Prop := ∀ G' H', Step G H G' H' -> Q b H'
def EOks (K : PySem.W.Frag) (W : Addr -> Option Nat) (Hs G H : Hp) : List V -> List Ev -> Prop
 | [], [] => True
 | v :: vs, r :: rs => EOk K W Hs G H v r /\ EOks K W Hs G H vs rs
 | _, _ => False
def aAk (K : PySem.W.Frag) (W : Addr -> Option Nat) (G H : Hp) (Q : List V -> Hp -> Prop) (rs : List Ev) : Prop := ∀ G' H' vs, Step G H G' H' -> EOks K W H G' H' vs rs -> Q vs H'
def PostX (E : XK) (G H : Hp) (C : Addr) : Prop := ∀ G' H', Step G H G' H' -> E (.ref C) none H'
theorem PostE.step {K : PySem.W.Frag} {W : Addr -> Option Nat} {G H G' H' : Hp} {Q : VK} {r : Ev} (h : PostE K W G H Q r) (s : Step G H G' H') : PostE K W G' H' Q r := fun G2 H2 v s2 e => h G2 H2 v (s.trans s2) (by
 cases r with
 | p d => exact e
 | b d => exact e
 | x d => exact e
 | f d =>
  obtain ⟨a, o, h1, h2, h3, h4, h5⟩ := e
  exact ⟨a, o, h1, s.h.free h2, h3, h4, h5⟩)
theorem PostX.step {E : XK} {G H G' H' : Hp} {C : Addr} (h : PostX E G H C) (s : Step G H G' H') : PostX E G' H' C := fun G2 H2 s2 => h G2 H2 (s.trans s2)
theorem PostB.step {G H G' H' : Hp} {Q : Bool -> Hp -> Prop} {b : Bool} (h : PostB G H Q b) (s : Step G H G' H') : PostB G' H' Q b := fun G2 H2 s2 => h G2 H2 (s.trans s2)
def tE (K : PySem.W.Frag) (E : L2.St -> XK) (f : En -> Res Ev) : TE := fun σ H Q => ∃ B G0 G W en, SimH B G0 G W H /\ SimS K W G H σ en /\ wpR (f en) (PostE K W G H Q) (PostX (E σ) G H)
def DE (X : Cx) (E : L2.St -> XK) (e : Expr) (f : En -> Res Ev) : Prop := PE X e (tE X.K E f)
theorem DE.out {X : Cx} {E : L2.St -> XK} {e : Expr} {f : En -> Res Ev} (h : DE X E e f) : ∃ t, PE X e t /\ ∀ B G0 G W H σ en Q, SimH B G0 G W H -> SimS X.K W G H σ en -> wpR (f en) (PostE X.K W G H Q) (PostX (E σ) G H) -> t σ H Q :=
 ⟨_, h, fun B G0 G W H σ en Q h1 h2 h3 => ⟨B, G0, G, W, en, h1, h2, h3⟩⟩
theorem DE.in {X : Cx} {E : L2.St -> XK} {e : Expr} {f : En -> Res Ev} (h : ∃ t, PE X e t /\ ∀ B G0 G W H σ en Q, SimH B G0 G W H -> SimS X.K W G H σ en -> wpR (f en) (PostE X.K W G H Q) (PostX (E σ) G H) -> t σ H Q) : DE X E e f :=
 fun pins s σ H Q I ⟨B, G0, G, W, en, h1, h2, h3⟩ => let ⟨_, p, m⟩ := h; p pins s σ H Q I (m B G0 G W H σ en Q h1 h2 h3)
def tT (K : PySem.W.Frag) (E : L2.St -> XK) (f : En -> Res Bool) : TT := fun σ H Q => ∃ B G0 G W en, SimH B G0 G W H /\ SimS K W G H σ en /\ wpR (f en) (PostB G H Q) (PostX (E σ) G H)
def tA (K : PySem.W.Frag) (E : L2.St -> XK) (f : En -> Res (List Ev)) : TA := fun σ H Q => ∃ B G0 G W en, SimH B G0 G W H /\ SimS K W G H σ en /\ wpR (f en) (aAk K W G H Q) (PostX (E σ) G H)
def DT (X : Cx) (E : L2.St -> XK) (e : Expr) (f : En -> Res Bool) : Prop := PT X e (tT X.K E f)
def DW (X : Cx) (E : L2.St -> XK) (e : Expr) (f : En -> Res Bool) : Prop := PW X e (tT X.K E f)
def DA (X : Cx) (E : L2.St -> XK) (es : List Expr) (f : En -> Res (List Ev)) : Prop := PA X es (tA X.K E f)
section
variable {X : Cx} {E : L2.St -> XK} {e : Expr} {es : List Expr} {f : En -> Res Bool} {fr : En -> Res (List Ev)}
theorem DT.out (h : DT X E e f) : ∃ t, PT X e t /\ ∀ B G0 G W H σ en Q, SimH B G0 G W H -> SimS X.K W G H σ en -> wpR (f en) (PostB G H Q) (PostX (E σ) G H) -> t σ H Q :=
 ⟨_, h, fun B G0 G W H σ en Q h1 h2 h3 => ⟨B, G0, G, W, en, h1, h2, h3⟩⟩
theorem DT.in (h : ∃ t, PT X e t /\ ∀ B G0 G W H σ en Q, SimH B G0 G W H -> SimS X.K W G H σ en -> wpR (f en) (PostB G H Q) (PostX (E σ) G H) -> t σ H Q) : DT X E e f :=
 fun pins s σ H Q I ⟨B, G0, G, W, en, h1, h2, h3⟩ => let ⟨_, p, m⟩ := h; p pins s σ H Q I (m B G0 G W H σ en Q h1 h2 h3)
theorem DW.out (h : DW X E e f) : ∃ t, PW X e t /\ ∀ B G0 G W H σ en Q, SimH B G0 G W H -> SimS X.K W G H σ en -> wpR (f en) (PostB G H Q) (PostX (E σ) G H) -> t σ H Q :=
 ⟨_, h, fun B G0 G W H σ en Q h1 h2 h3 => ⟨B, G0, G, W, en, h1, h2, h3⟩⟩
theorem DW.in (h : ∃ t, PW X e t /\ ∀ B G0 G W H σ en Q, SimH B G0 G W H -> SimS X.K W G H σ en -> wpR (f en) (PostB G H Q) (PostX (E σ) G H) -> t σ H Q) : DW X E e f :=
 fun wh pins s σ H Q I ⟨B, G0, G, W, en, h1, h2, h3⟩ => let ⟨_, p, m⟩ := h; p wh pins s σ H Q I (m B G0 G W H σ en Q h1 h2 h3)
theorem DA.out (h : DA X E es fr) : ∃ t, PA X es t /\ ∀ B G0 G W H σ en Q, SimH B G0 G W H -> SimS X.K W G H σ en -> wpR (fr en) (aAk X.K W G H Q) (PostX (E σ) G H) -> t σ H Q :=
 ⟨_, h, fun B G0 G W H σ en Q h1 h2 h3 => ⟨B, G0, G, W, en, h1, h2, h3⟩⟩
theorem DA.in (h : ∃ t, PA X es t /\ ∀ B G0 G W H σ en Q, SimH B G0 G W H -> SimS X.K W G H σ en -> wpR (fr en) (aAk X.K W G H Q) (PostX (E σ) G H) -> t σ H Q) : DA X E es fr :=
 fun pos pins s σ H Q I ⟨B, G0, G, W, en, h1, h2, h3⟩ => let ⟨_, p, m⟩ := h; p pos pins s σ H Q I (m B G0 G W H σ en Q h1 h2 h3)
end
theorem DW.t {X : Cx} {E : L2.St -> XK} {e : Expr} {f : En -> Res Bool} (h : DW X E e f) : DT X E e f := h _
section
variable {X : Cx} {E : L2.St -> XK} {a b c e : Expr} {es : List Expr} {fa fb : En -> Res Ev} {fr : En -> Res (List Ev)} {pos : Pos}
theorem DE.go {K : PySem.W.Frag} {W : Addr -> Option Nat} {G H : Hp} {EE : XK} {Q : VK} {r : Res Ev} {k : Ev -> Res Ev} {Q' : VK} (hw : wpR (r.bind k) (PostE K W G H Q) (PostX EE G H))
  (h : ∀ (x : Ev) G1 H1 v, Step G H G1 H1 -> EOk K W H G1 H1 v x.c -> wpR (k x) (PostE K W G1 H1 Q) (PostX EE G1 H1) -> Q' v H1) : wpR r (PostE K W G H Q') (PostX EE G H) := by
 rw [cL] at hw
 refine bU hw (fun x hx G1 H1 v s e => ?_) fun C h => h
 obtain ⟨G2, s2, e2⟩ := e.c s
 exact h x G2 H1 v s2 e2 (bU hx (fun r h => h.step s2) fun C h => h.step s2)
theorem DE.goB {K : PySem.W.Frag} {W : Addr -> Option Nat} {G H : Hp} {EE : XK} {Q : Bool -> Hp -> Prop} {r : Res Ev} {k : Ev -> Res Bool} {Q' : VK} (hw : wpR (r.bind k) (PostB G H Q) (PostX EE G H))
  (h : ∀ (x : Ev) G1 H1 v, Step G H G1 H1 -> EOk K W H G1 H1 v x.c -> wpR (k x) (PostB G1 H1 Q) (PostX EE G1 H1) -> Q' v H1) : wpR r (PostE K W G H Q') (PostX EE G H) := by
 rw [cL] at hw
 refine bU hw (fun x hx G1 H1 v s e => ?_) fun C h => h
 obtain ⟨G2, s2, e2⟩ := e.c s
 exact h x G2 H1 v s2 e2 (bU hx (fun r h => h.step s2) fun C h => h.step s2)
def OpM (K : PySem.W.Frag) (r : R2) (op : Ev -> Ev -> Res Ev) : Prop := ∀ (W : Addr -> Option Nat) (G H : Hp) (v u : V) (x y : Ev) (Q : VK), Same G H -> EOk K W H G H v x.c -> EOk K W H G H u y.c -> wpR (op x.c y.c) (PostE K W G H Q) (fun _ => False) -> r v u H Q
def aF (op : Ev -> Ev -> Res Ev) (fa fb : En -> Res Ev) : En -> Res Ev := fun en => (fa en).bind fun x => (fb en).bind fun y => op x.c y.c
def NoX (op : Ev -> Ev -> Res Ev) : Prop := ∀ x y C, op x y ≠ .exc C
theorem noX {α : Type} {r : Res α} {Q : α -> Prop} {E E' : Addr -> Prop} (h : wpR r Q E) (n : ∀ C, r ≠ .exc C) : wpR r Q E' := by
 cases r with
 | ok a => exact h
 | exc C => exact absurd rfl (n C)
 | bad => exact h
theorem oS {ta tb : TE} {r : R2} {op : Ev -> Ev -> Res Ev} (ma : ∀ B G0 G W H σ en Q, SimH B G0 G W H -> SimS X.K W G H σ en -> wpR (fa en) (PostE X.K W G H Q) (PostX (E σ) G H) -> ta σ H Q)
  (mb : ∀ B G0 G W H σ en Q, SimH B G0 G W H -> SimS X.K W G H σ en -> wpR (fb en) (PostE X.K W G H Q) (PostX (E σ) G H) -> tb σ H Q) (hm : OpM X.K r op) (hn : NoX op) :
  ∀ B G0 G W H σ en Q, SimH B G0 G W H -> SimS X.K W G H σ en -> wpR (aF op fa fb en) (PostE X.K W G H Q) (PostX (E σ) G H) -> tOp r ta tb σ H Q := by
 intro B G0 G W H σ en Q hh hs hw
 refine ma B G0 G W H σ en _ hh hs (DE.go hw fun x G1 H1 v s1 e1 h1 => ?_)
 refine mb B G0 G1 W H1 σ en _ (hh.step s1) (hs.step s1) (DE.go h1 fun y G2 H2 u s2 e2 h2 => ?_)
 exact hm W G2 H2 v u x y Q s2.gh (e1.step s2) (by cases y <;> exact e2) (noX h2 (hn _ _))
theorem aY {op : Operator} {r : R2} {f : Ev -> Ev -> Res Ev} (ho : OpR X (binaryOp op) r) (hm : OpM X.K r f) (hn : NoX f) (ha : DE X E a fa) (hb : DE X E b fb) : DE X E (.BinOp a op b pos) (aF f fa fb) := by
 obtain ⟨ta, pa, ma⟩ := ha.out
 obtain ⟨tb, pb, mb⟩ := hb.out
 refine DE.in ?_
 exact ⟨_, aH5 ho pa pb, oS ma mb hm hn⟩
theorem kI {op : CmpOp} {r : R2} {f : Ev -> Ev -> Res Ev} (ho : OpR X (compareOp op) r) (hm : OpM X.K r f) (hn : NoX f) (ha : DE X E a fa) (hb : DE X E b fb) (hk : behindInMarks op b = false) : DE X E (.Compare a [op] [b] pos) (aF f fa fb) := by
 obtain ⟨ta, pa, ma⟩ := ha.out
 obtain ⟨tb, pb, mb⟩ := hb.out
 refine DE.in ?_
 exact ⟨_, aDr ho pa pb hk, oS ma mb hm hn⟩
def aO (r : Ev) : Res Bool := match r with
 | .p (.bool b) => .ok b
 | _ => .bad
def a6 (f : En -> Res Ev) : En -> Res Bool := fun en => (f en).bind aO
theorem j5 {t : TE} (m : ∀ B G0 G W H σ en Q, SimH B G0 G W H -> SimS X.K W G H σ en -> wpR (fa en) (PostE X.K W G H Q) (PostX (E σ) G H) -> t σ H Q) :
  ∀ B G0 G W H σ en Q, SimH B G0 G W H -> SimS X.K W G H σ en -> wpR (a6 fa en) (PostB G H Q) (PostX (E σ) G H) -> t σ H fun x H1 => ∃ k, x = .bl k /\ Q k H1 := by
 intro B G0 G W H σ en Q hh hs hw
 refine m B G0 G W H σ en _ hh hs (DE.goB hw fun x G1 H1 v s1 e1 h1 => ?_)
 cases x with
 | p d =>
  cases d with
  | bool k => cases e1; exact ⟨k, rfl, h1 G1 H1 (Step.refl s1.gh)⟩
  | _ => exact False.elim h1
 | _ => exact False.elim h1
theorem dH {op : CmpOp} {r : R2} {f : Ev -> Ev -> Res Ev} (ho : OpR X (compareOp op) r) (hm : OpM X.K r f) (hn : NoX f) (ha : DE X E a fa) (hb : DE X E b fb) (hk : behindInMarks op b = false) : DT X E (.Compare a [op] [b] pos) (a6 (aF f fa fb)) := by
 obtain ⟨ta, pa, ma⟩ := ha.out
 obtain ⟨tb, pb, mb⟩ := hb.out
 refine DT.in ?_
 exact ⟨_, aCn ho pa pb hk, j5 (oS ma mb hm hn)⟩
theorem fV (h : DE X E e fa) (he : ∀ whole, isTrue e X.env whole = (do let v <- whole; standAt e.pos; holding [v] (truthy v)) := by intro _; rfl) : DT X E e (a6 fa) := by
 obtain ⟨t, p, m⟩ := h.out
 refine DT.in ?_
 exact ⟨_, aEx p he, j5 m⟩
def aD (i : Nat) : En -> Res Ev := fun en => match en[i]? with
 | some (some (.p d)) => .ok (.p d)
 | some (some (.o d)) => .ok (.b d)
 | some (some (.x C)) => .ok (.x C)
 | _ => .bad
theorem aFo {i : Nat} {x : Str} (hN : X.N[i]? = some x) (hv : Vis X.env.scope x) (hd : (x == ("__debug__" : Str)) = false := by decide) (hcd : (x == ("__classdict__" : Str)) = false := by decide) : DE X E (.Name x pos) (aD i) := by
 refine DE.in ?_
 refine ⟨_, aB6 hN hv hd hcd, fun B G0 G W H σ en Q hh hs hw => ?_⟩
 unfold aD at hw
 split at hw
 ·rename_i d e
  obtain ⟨v, e1, e2⟩ := hs.2 i _ e
  exact ⟨v, e1, hw G H v (Step.refl hh.gh) e2⟩
 ·rename_i d e
  obtain ⟨v, e1, a, o, e2, e3, e4, e5⟩ := hs.2 i _ e
  exact ⟨v, e1, hw G H v (Step.refl hh.gh) ⟨a, i, o, e2, e3, e4, e5⟩⟩
 ·rename_i C e
  obtain ⟨v, e1, e2⟩ := hs.2 i _ e
  exact ⟨v, e1, hw G H v (Step.refl hh.gh) e2⟩
 ·exact hw.elim
def mC (d : D) : En -> Res Ev := fun _ => .ok (.p d)
theorem iF {v : V} {d : D} (h : ∀ G, Rep X.K G v d) : ∀ B G0 G W H σ en Q, SimH B G0 G W H -> SimS X.K W G H σ en -> wpR (mC d en) (PostE X.K W G H Q) (PostX (E σ) G H) -> tC v σ H Q :=
 fun B G0 G W H σ en Q hh hs hw => hw G H v (Step.refl hh.gh) (h G)
theorem aE {i j} : DE X E (.Constant (.int i) j pos) (mC (.int i)) := DE.in ⟨_, aE8, iF fun _ => .int i⟩
theorem pU {b j} : DE X E (.Constant (.bool b) j pos) (mC (.bool b)) := DE.in ⟨_, aGw, iF fun _ => .bl b⟩
theorem x2 {j} : DE X E (.Constant .none j pos) (mC .none) := DE.in ⟨_, aEv, iF fun _ => .non⟩
theorem uY {x j} : DE X E (.Constant (.str x) j pos) (mC (.str x)) := DE.in ⟨_, aF1, iF fun _ => .str x⟩
theorem uS {x : Str} {i : Int} {t : Tok} (hg : Gl X x) (hm : X.mg x = some (.int i t)) (hd : (x == ("__debug__" : Str)) = false := by decide) : DE X E (.Name x pos) (mC (.int i)) := DE.in ⟨_, gL (v := .int i) hg hm ⟨t, rfl⟩ hd, iF fun _ => .int i⟩
variable {ga gb : En -> Res Bool} {rest : List Expr}
def eZ (f g : En -> Res Bool) : En -> Res Bool := fun en => (f en).bind fun c => if c = true then g en else .ok false
def mOr (f g : En -> Res Bool) : En -> Res Bool := fun en => (f en).bind fun c => if c = true then .ok true else g en
def dP (f : En -> Res Bool) : En -> Res Bool := fun en => (f en).bind fun c => .ok (!c)
theorem wB (ha : DT X E a ga) : DW X E (.BoolOp .And [a] pos) ga := let ⟨t, p, m⟩ := ha.out; DW.in ⟨t, aDi p, m⟩
theorem iQ (ha : DT X E a ga) : DW X E (.BoolOp .Or [a] pos) ga := let ⟨t, p, m⟩ := ha.out; DW.in ⟨t, aEm p, m⟩
theorem aBz (ha : DT X E a ga) (hb : DW X E (.BoolOp .And (b :: rest) pos) gb) : DW X E (.BoolOp .And (a :: b :: rest) pos) (eZ ga gb) := by
 obtain ⟨ta, pa, ma⟩ := ha.out
 obtain ⟨tb, pb, mb⟩ := hb.out
 refine DW.in ?_
 refine ⟨_, aE9 pa pb, fun B G0 G W H σ en Q hh hs hw => ma B G0 G W H σ en _ hh hs ?_⟩
 have hw : wpR ((ga en).bind _) _ _ := hw
 rw [cL] at hw
 refine bU hw (fun c hc G1 H1 s => ?_) fun C h => h
 cases c with
 | true => exact mb B G0 G1 W H1 σ en Q (hh.step s) (hs.step s) (bU hc (fun _ h => h.step s) fun _ h => h.step s)
 | false => exact hc G1 H1 s
theorem iZ (ha : DT X E a ga) (hb : DW X E (.BoolOp .Or (b :: rest) pos) gb) : DW X E (.BoolOp .Or (a :: b :: rest) pos) (mOr ga gb) := by
 obtain ⟨ta, pa, ma⟩ := ha.out
 obtain ⟨tb, pb, mb⟩ := hb.out
 refine DW.in ?_
 refine ⟨_, aG1 pa pb, fun B G0 G W H σ en Q hh hs hw => ma B G0 G W H σ en _ hh hs ?_⟩
 have hw : wpR ((ga en).bind _) _ _ := hw
 rw [cL] at hw
 refine bU hw (fun c hc G1 H1 s => ?_) fun C h => h
 cases c with
 | false => exact mb B G0 G1 W H1 σ en Q (hh.step s) (hs.step s) (bU hc (fun _ h => h.step s) fun _ h => h.step s)
 | true => exact hc G1 H1 s
theorem iP (ha : DT X E a ga) : DT X E (.UnaryOp .Not a pos) (dP ga) := by
 obtain ⟨ta, pa, ma⟩ := ha.out
 refine DT.in ?_
 refine ⟨_, aGg pa, fun B G0 G W H σ en Q hh hs hw => ma B G0 G W H σ en _ hh hs ?_⟩
 have hw : wpR ((ga en).bind _) _ _ := hw
 rw [cL] at hw
 exact bU hw (fun c hc => hc) fun C h => h
def bW (f g : En -> Res Ev) : En -> Res Ev := fun en => (f en).bind fun c => match c with
 | .p (.bool true) => g en
 | .p (.bool false) => .ok (.p (.bool false))
 | _ => .bad
def fL (f g : En -> Res Ev) : En -> Res Ev := fun en => (f en).bind fun c => match c with
 | .p (.bool false) => g en
 | .p (.bool true) => .ok (.p (.bool true))
 | _ => .bad
def cF (f : En -> Res Ev) : En -> Res Ev := fun en => (f en).bind fun c => match c with
 | .p (.bool k) => .ok (.p (.bool (!k)))
 | _ => .bad
theorem yT {op} (h : DE X E a fa) : DE X E (.BoolOp op [a] pos) fa := let ⟨t, p, m⟩ := h.out; DE.in ⟨t, aF2 p, m⟩
theorem aB8 (ha : DE X E a fa) (hb : DE X E (.BoolOp .And (b :: rest) pos) fb) : DE X E (.BoolOp .And (a :: b :: rest) pos) (bW fa fb) := by
 obtain ⟨ta, pa, ma⟩ := ha.out
 obtain ⟨tb, pb, mb⟩ := hb.out
 refine DE.in ?_
 refine ⟨_, aE6 pa pb, fun B G0 G W H σ en Q hh hs hw => ma B G0 G W H σ en _ hh hs (DE.go hw fun x G1 H1 v s1 e1 h1 => ?_)⟩
 cases x with
 | p d =>
  cases d with
  | bool k =>
   cases e1
   cases k with
   | true => exact ⟨true, rfl, mb B G0 G1 W H1 σ en Q (hh.step s1) (hs.step s1) h1⟩
   | false => exact ⟨false, rfl, h1 G1 H1 _ (Step.refl s1.gh) (.bl false)⟩
  | _ => exact False.elim h1
 | _ => exact False.elim h1
theorem aHd (ha : DE X E a fa) (hb : DE X E (.BoolOp .Or (b :: rest) pos) fb) : DE X E (.BoolOp .Or (a :: b :: rest) pos) (fL fa fb) := by
 obtain ⟨ta, pa, ma⟩ := ha.out
 obtain ⟨tb, pb, mb⟩ := hb.out
 refine DE.in ?_
 refine ⟨_, aHk pa pb, fun B G0 G W H σ en Q hh hs hw => ma B G0 G W H σ en _ hh hs (DE.go hw fun x G1 H1 v s1 e1 h1 => ?_)⟩
 cases x with
 | p d =>
  cases d with
  | bool k =>
   cases e1
   cases k with
   | false => exact ⟨false, rfl, mb B G0 G1 W H1 σ en Q (hh.step s1) (hs.step s1) h1⟩
   | true => exact ⟨true, rfl, h1 G1 H1 _ (Step.refl s1.gh) (.bl true)⟩
  | _ => exact False.elim h1
 | _ => exact False.elim h1
theorem aFz (ha : DE X E a fa) : DE X E (.UnaryOp .Not a pos) (cF fa) := by
 obtain ⟨ta, pa, ma⟩ := ha.out
 refine DE.in ?_
 refine ⟨_, aF5 pa, fun B G0 G W H σ en Q hh hs hw => ma B G0 G W H σ en _ hh hs (DE.go hw fun x G1 H1 v s1 e1 h1 => ?_)⟩
 cases x with
 | p d =>
  cases d with
  | bool k =>
   cases e1
   exact ⟨k, rfl, h1 G1 H1 _ (Step.refl s1.gh) (.bl _)⟩
  | _ => exact False.elim h1
 | _ => exact False.elim h1
def aL : En -> Res (List Ev) := fun _ => .ok []
def aA (f : En -> Res Ev) (g : En -> Res (List Ev)) : En -> Res (List Ev) := fun en => (f en).bind fun x => (g en).bind fun xs => .ok (x.c :: xs)
theorem aI : DA X E [] aL := DA.in ⟨_, vG, fun B G0 G W H σ en Q hh hs hw => hw G H [] (Step.refl hh.gh) trivial⟩
theorem EOk.cc {K : PySem.W.Frag} {W : Addr -> Option Nat} {Hs Hs' G H : Hp} {v : V} {r : Ev} (h : EOk K W Hs G H v r.c) : EOk K W Hs' G H v r.c := by
 cases r <;> exact h
theorem aB (ha : DE X E e fa) (hr : DA X E es fr) (hst : starEach (e :: es) X.env = (false, eval e X.env) :: starEach es X.env := by rfl) : DA X E (e :: es) (aA fa fr) := by
 obtain ⟨ta, pa, ma⟩ := ha.out
 obtain ⟨tr, pr, mr⟩ := hr.out
 refine DA.in ?_
 refine ⟨_, mT pa pr hst, fun B G0 G W H σ en Q hh hs hw => ma B G0 G W H σ en _ hh hs ?_⟩
 have hw : wpR ((fa en).bind _) _ _ := hw
 rw [cL] at hw
 refine bU hw (fun x hx G1 H1 v s e1 => ?_) fun C h => h
 obtain ⟨G2, s2, e2⟩ := e1.c s
 refine mr B G0 G2 W H1 σ en _ (hh.step s2) (hs.step s2) ?_
 rw [cL] at hx
 refine bU hx (fun xs hxs G3 H3 vs s3 e3 => ?_) fun C h => h.step s2
 refine hxs G3 H3 (v :: vs) (s2.trans s3) ⟨e2.step s3, ?_⟩
 clear hxs hx hw
 induction xs generalizing vs with
 | nil => cases vs <;> exact e3
 | cons y ys ih =>
  cases vs with
  | nil => exact e3
  | cons u us =>
   refine ⟨?_, ih us e3.2⟩
   have z := e3.1
   cases y with
   | p d => exact z
   | b d => exact z
   | x d => exact z
   | f d =>
    obtain ⟨a, o, h1, h2, h3⟩ := z
    exact ⟨a, o, h1, s2.h.free h2, h3⟩
end
inductive Out where
 | nx (en : En)
 | rt (l : L)
 | bk (en : En)
 | ct (en : En)
 | ex (C : Addr) (en : En)
abbrev MS := En -> Option Out
def aC0 (K : PySem.W.Frag) (B G H : Hp) (v : V) : L -> Prop
 | .p d => Rep K G v d
 | .o d => ∃ a o, v = .ref a /\ G a = none /\ B a = none /\ H a = some o /\ Cont K G o d
 | .x C => ∃ e, v = .ref e /\ G e = some (xP e (.ref C))
 | .h _ => False
def PostS (K : PySem.W.Frag) (B G0 : Hp) (E : L2.St -> XK) (Dn : Ends) : Out -> Prop
 | .nx en => ∀ G W H σ, SimH B G0 G W H -> SimS K W G H σ en -> Dn.nx σ H
 | .bk en => ∀ G W H σ, SimH B G0 G W H -> SimS K W G H σ en -> Dn.bk σ H
 | .ct en => ∀ G W H σ, SimH B G0 G W H -> SimS K W G H σ en -> Dn.ct σ H
 | .rt l => ∀ G W H v, SimH B G0 G W H -> aC0 K B G H v l -> Dn.rt v H
 | .ex C en => ∀ G W H σ, SimH B G0 G W H -> SimS K W G H σ en -> E σ (.ref C) none H
def wpO (o : Option Out) (P : Out -> Prop) : Prop := match o with
 | some r => P r
 | none => False
def tS (K : PySem.W.Frag) (E : L2.St -> XK) (f : MS) : TS := fun Dn σ H => ∃ B G0 G W en, SimH B G0 G W H /\ SimS K W G H σ en /\ wpO (f en) (PostS K B G0 E Dn)
def DS (X : Cx) (E : L2.St -> XK) (st : Stmt) (f : MS) : Prop := PS X st (tS X.K E f)
def DSs (X : Cx) (E : L2.St -> XK) (st : List Stmt) (f : MS) : Prop := PSs X st (tS X.K E f)
section
variable {X : Cx} {E : L2.St -> XK} {st : Stmt} {sts : List Stmt} {f g : MS} {fe : En -> Res Ev} {fc : En -> Res Bool} {e c : Expr} {pos : Pos}
theorem DS.in (h : ∃ t, PS X st t /\ ∀ B G0 G W H σ en Dn, SimH B G0 G W H -> SimS X.K W G H σ en -> wpO (f en) (PostS X.K B G0 E Dn) -> t Dn σ H) : DS X E st f :=
 fun pins s σ H Dn I ⟨B, G0, G, W, en, h1, h2, h3⟩ => let ⟨_, p, m⟩ := h; p pins s σ H Dn I (m B G0 G W H σ en Dn h1 h2 h3)
theorem DSs.in (h : ∃ t, PSs X sts t /\ ∀ B G0 G W H σ en Dn, SimH B G0 G W H -> SimS X.K W G H σ en -> wpO (f en) (PostS X.K B G0 E Dn) -> t Dn σ H) : DSs X E sts f :=
 fun pins s σ H Dn I ⟨B, G0, G, W, en, h1, h2, h3⟩ => let ⟨_, p, m⟩ := h; p pins s σ H Dn I (m B G0 G W H σ en Dn h1 h2 h3)
theorem DS.out (h : DS X E st f) : ∃ t, PS X st t /\ ∀ B G0 G W H σ en Dn, SimH B G0 G W H -> SimS X.K W G H σ en -> wpO (f en) (PostS X.K B G0 E Dn) -> t Dn σ H :=
 ⟨_, h, fun B G0 G W H σ en Dn h1 h2 h3 => ⟨B, G0, G, W, en, h1, h2, h3⟩⟩
theorem DSs.out (h : DSs X E sts f) : ∃ t, PSs X sts t /\ ∀ B G0 G W H σ en Dn, SimH B G0 G W H -> SimS X.K W G H σ en -> wpO (f en) (PostS X.K B G0 E Dn) -> t Dn σ H :=
 ⟨_, h, fun B G0 G W H σ en Dn h1 h2 h3 => ⟨B, G0, G, W, en, h1, h2, h3⟩⟩
def aV : MS := fun en => some (.nx en)
def a8 (f g : MS) : MS := fun en => match f en with
 | some (.nx e) => g e
 | r => r
theorem cA : DSs X E [] aV := DSs.in ⟨_, aCt, fun B G0 G W H σ en Dn hh hs hw => hw G W H σ hh hs⟩
theorem aM (h : DS X E st f) : DSs X E [st] f := let ⟨t, p, m⟩ := h.out; DSs.in ⟨t, aDf p, m⟩
theorem aH (h1 : DS X E st f) (h2 : DSs X E sts g) : DSs X E (st :: sts) (a8 f g) := by
 obtain ⟨t, p, m⟩ := h1.out
 obtain ⟨u, q, n⟩ := h2.out
 refine DSs.in ⟨_, aAd p q, fun B G0 G W H σ en Dn hh hs hw => m B G0 G W H σ en _ hh hs ?_⟩
 unfold a8 at hw
 cases ef : f en with
 | none => rw [ef] at hw; exact hw
 | some r =>
  rw [ef] at hw
  cases r with
  | nx e => exact fun G1 W1 H1 σ1 hh1 hs1 => n B G0 G1 W1 H1 σ1 e Dn hh1 hs1 hw
  | rt l => exact hw
  | bk e => exact hw
  | ct e => exact hw
  | ex C e => exact hw
theorem SimS.set {K : PySem.W.Frag} {W : Addr -> Option Nat} {G H : Hp} {σ : L2.St} {en : En} {i : Nat} {v : V} {l : L} (h : SimS K W G H σ en) (hl : Slot K W G H i v l) : SimS K W G H (σ.set i (some v)) (en.set i (some l)) := by
 refine ⟨by rw [List.length_set, List.length_set]; exact h.1, fun j m e => ?_⟩
 rw [List.getElem?_set] at e
 rw [List.getElem?_set]
 by_cases hj : i = j
 ·subst hj
  rw [if_pos rfl] at e
  split at e
  ·rename_i hlt
   cases e
   rw [if_pos rfl, if_pos (by rw [h.1]; exact hlt)]
   exact ⟨v, rfl, hl⟩
  ·cases e
 ·rw [if_neg hj] at e ⊢
  exact h.2 j m e
def owner (W : Addr -> Option Nat) (a : Addr) (i : Nat) : Addr -> Option Nat := fun b => if b = a then some i else W b
theorem aBf {K : PySem.W.Frag} {B G0 G H : Hp} {W : Addr -> Option Nat} {σ : L2.St} {en : En} {i : Nat} {a : Addr} {o : HO} {d : D} (hh : SimH B G0 G W H) (hs : SimS K W G H σ en) (hW : W a = none) (hG : G a = none) (hB : B a = none) (hH : H a = some o) (hc : Cont K G o d) :
  SimH B G0 G (owner W a i) H /\ SimS K (owner W a i) G H (σ.set i (some (.ref a))) (en.set i (some (.o d))) := by
 refine ⟨⟨hh.gh, hh.bh, hh.g0, hh.gb, fun b j e => ?_⟩, SimS.set ⟨hs.1, fun j l e => ?_⟩ ⟨a, o, rfl, if_pos rfl, hH, hc⟩⟩
 ·unfold owner at e
  split at e
  ·rename_i z
   subst z
   exact ⟨hG, hB, o, hH, hc.mut⟩
  ·exact hh.wf b j e
 ·obtain ⟨v, e1, e2⟩ := hs.2 j l e
  refine ⟨v, e1, ?_⟩
  cases l with
  | p d => exact e2
  | x C => exact e2
  | h a => exact e2
  | o d =>
   obtain ⟨b, ob, h1, h2, h3, h4⟩ := e2
   refine ⟨b, ob, h1, ?_, h3, h4⟩
   unfold owner
   rw [if_neg (fun z => by rw [z, hW] at h2; cases h2)]
   exact h2
def bD (i : Nat) (fe : En -> Res Ev) : MS := fun en => match fe en with
 | .ok (.p d) => some (.nx (en.set i (some (.p d))))
 | .ok (.f d) => some (.nx (en.set i (some (.o d))))
 | .ok (.x C) => some (.nx (en.set i (some (.x C))))
 | .ok (.b _) => none
 | .exc C => some (.ex C en)
 | .bad => none
theorem SimH.lone {B G0 G H : Hp} {W : Addr -> Option Nat} (hh : SimH B G0 G W H) {a : Addr} (h : H a = none) : W a = none := by
 cases e : W a with
 | none => rfl
 | some i =>
  obtain ⟨_, _, o, q, _⟩ := hh.wf a i e
  rw [h] at q; cases q
theorem aAv {te : TE} {i : Nat} (m : ∀ B G0 G W H σ en Q, SimH B G0 G W H -> SimS X.K W G H σ en -> wpR (fe en) (PostE X.K W G H Q) (PostX (E σ) G H) -> te σ H Q) :
  ∀ B G0 G W H σ en Dn, SimH B G0 G W H -> SimS X.K W G H σ en -> wpO (bD i fe en) (PostS X.K B G0 E Dn) -> te σ H fun x H1 => Dn.nx (σ.set i (some x)) H1 := by
 intro B G0 G W H σ en Dn hh hs hw
 refine m B G0 G W H σ en _ hh hs ?_
 unfold bD at hw
 cases ef : fe en with
 | bad => rw [ef] at hw; exact hw
 | exc C => rw [ef] at hw; exact fun G1 H1 s => hw G1 W H1 σ (hh.step s) (hs.step s)
 | ok r =>
  rw [ef] at hw
  cases r with
  | b d => exact hw.elim
  | p d => exact fun G1 H1 v s e => hw G1 W H1 _ (hh.step s) ((hs.step s).set e)
  | x C => exact fun G1 H1 v s e => hw G1 W H1 _ (hh.step s) ((hs.step s).set e)
  | f d =>
   rintro G1 H1 v s ⟨a, o, rfl, h1, h2, h3, h4⟩
   obtain ⟨q1, q2⟩ := aBf (i := i) (hh.step s) (hs.step s) (hh.lone h1) h2 (hh.bh.free h1) h3 h4
   exact hw G1 _ H1 _ q1 q2
theorem bE {i : Nat} {x : Str} {pos' : Pos} (hN : X.N.Nodup) (hi : X.N[i]? = some x) (hx : Loc X.env.scope x) (he : DE X E e fe) (hs : swapsWith e (some (.Name x pos')) pos.line X.env = pure false := by rfl) (hf : X.fn x = true \/ X.env.scope.names.lookup x = some .local := by first | exact .inl rfl | exact .inr rfl | assumption) :
  DS X E (.Assign [.Name x pos'] e pos) (bD i fe) := by
 obtain ⟨t, p, m⟩ := he.out
 exact DS.in ⟨_, aEf hN hi hx p hs hf, aAv m⟩
def eD : Ev -> L
 | .p d => .p d
 | .f d => .o d
 | .b d => .o d
 | .x C => .x C
def b9 (fe : En -> Res Ev) : MS := fun en => match fe en with
 | .ok r => some (.rt (eD r))
 | .exc C => some (.ex C en)
 | .bad => none
theorem bI (he : DE X E e fe) : DS X E (.Return (some e) pos) (b9 fe) := by
 obtain ⟨t, p, m⟩ := he.out
 refine DS.in ⟨_, aEc p, fun B G0 G W H σ en Dn hh hs hw => m B G0 G W H σ en _ hh hs ?_⟩
 unfold b9 at hw
 cases ef : fe en with
 | bad => rw [ef] at hw; exact hw
 | exc C => rw [ef] at hw; exact fun G1 H1 s => hw G1 W H1 σ (hh.step s) (hs.step s)
 | ok r =>
  rw [ef] at hw
  intro G1 H1 v s e
  refine hw G1 W H1 v (hh.step s) ?_
  cases r with
  | p d => exact e
  | x C => exact e
  | f d =>
   obtain ⟨a, o, h0, h1, h2, h3, h4⟩ := e
   exact ⟨a, o, h0, h2, hh.bh.free h1, h3, h4⟩
  | b d =>
   obtain ⟨a, i, o, h0, h1, h3, h4⟩ := e
   have z := (hh.step s).wf a i h1
   exact ⟨a, o, h0, z.1, z.2.1, h3, h4⟩
def cC (c : En -> Res Bool) (f g : MS) : MS := fun en => match c en with
 | .ok k => if k = true then f en else g en
 | .exc C => some (.ex C en)
 | .bad => none
theorem fJ {A B : List Stmt} (hc : DT X E c fc) (ha : DSs X E A f) (hb : DSs X E B g) : DS X E (.If c A B pos) (cC fc f g) := by
 obtain ⟨tc, pc, mc⟩ := hc.out
 obtain ⟨t, p, m⟩ := ha.out
 obtain ⟨u, q, n⟩ := hb.out
 refine DS.in ⟨_, aHj pc p q, fun B G0 G W H σ en Dn hh hs hw => mc B G0 G W H σ en _ hh hs ?_⟩
 unfold cC at hw
 cases ef : fc en with
 | bad => rw [ef] at hw; exact hw
 | exc C => rw [ef] at hw; exact fun G1 H1 s => hw G1 W H1 σ (hh.step s) (hs.step s)
 | ok k =>
  rw [ef] at hw
  intro G1 H1 s
  cases k with
  | true => exact m B G0 G1 W H1 σ en Dn (hh.step s) (hs.step s) hw
  | false => exact n B G0 G1 W H1 σ en Dn (hh.step s) (hs.step s) hw
def frz (i : Nat) (en : En) : En := match en[i]? with
 | some (some (.o d)) => en.set i (some (.p d))
 | _ => en
theorem aEy {K : PySem.W.Frag} {B G0 G H : Hp} {W : Addr -> Option Nat} {σ : L2.St} {en : En} (i : Nat) (hh : SimH B G0 G W H) (hs : SimS K W G H σ en) : ∃ G' W', SimH B G0 G' W' H /\ SimS K W' G' H σ (frz i en) := by
 unfold frz
 split
 ·rename_i d e
  obtain ⟨v, e1, a, o, rfl, e2, e3, e4⟩ := hs.2 i _ e
  obtain ⟨w1, w2, w3⟩ := hh.wf a i e2
  have sg : Same G (upd G a o) := Same.upd (Same.refl _) w1 o
  refine ⟨upd G a o, fun b => if b = a then none else W b, ⟨fun b u q => ?_, hh.bh, hh.g0.trans sg, fun b hb => ?_, fun b j e => ?_⟩, by rw [List.length_set]; exact hs.1, fun j l e5 => ?_⟩
  ·by_cases z : b = a
   ·subst z; rw [cJ] at q; rw [e3]; exact q
   ·rw [bP z] at q; exact hh.gh b u q
  ·by_cases z : b = a
   ·subst z; exact .inr (.inl w2)
   ·rw [bP z] at hb; exact hh.gb b hb
  ·split at e
   ·cases e
   ·rename_i z
    rw [bP z]; exact hh.wf b j e
  ·rw [List.getElem?_set] at e5
   by_cases hj : i = j
   ·subst hj
    rw [if_pos rfl] at e5
    split at e5
    ·cases e5
     exact ⟨_, e1, (e4.mono sg).rep cJ⟩
    ·cases e5
   ·rw [if_neg hj] at e5
    obtain ⟨v, f1, f2⟩ := hs.2 j l e5
    refine ⟨v, f1, ?_⟩
    cases l with
    | p d => exact f2.mono sg
    | x C => obtain ⟨ea, g1, g2⟩ := f2; exact ⟨ea, g1, sg _ _ g2⟩
    | h a => exact f2
    | o d =>
     obtain ⟨b, ob, g1, g2, g3, g4⟩ := f2
     refine ⟨b, ob, g1, ?_, g3, g4.mono sg⟩
     show (if b = a then none else W b) = some j
     rw [if_neg (fun z => by rw [z, e2] at g2; exact hj (Option.some.inj g2))]
     exact g2
 ·exact ⟨G, W, hh, hs⟩
theorem sG (i : Nat) (h : DSs X E sts f) : DSs X E sts (fun en => f (frz i en)) := by
 obtain ⟨t, p, m⟩ := h.out
 refine DSs.in ⟨t, p, fun B G0 G W H σ en Dn hh hs hw => ?_⟩
 obtain ⟨G', W', h1, h2⟩ := aEy i hh hs
 exact m B G0 G' W' H σ _ Dn h1 h2 hw
end
def mWh (c : En -> Res Bool) (f : MS) : Nat -> MS
 | 0, _ => none
 | n + 1, en => match c en with
  | .bad => none
  | .exc C => some (.ex C en)
  | .ok false => some (.nx en)
  | .ok true => match f en with
   | some (.nx e) => mWh c f n e
   | some (.ct e) => mWh c f n e
   | some (.bk e) => some (.nx e)
   | r => r
theorem oG {c : En -> Res Bool} {f : MS} : ∀ {n : Nat} {en : En} {r : Out}, mWh c f n en = some r -> mWh c f (n + 1) en = some r
 | 0, _, _, h => by cases h
 | n + 1, en, r, h => by
  unfold mWh at h ⊢
  cases ec : c en with
  | bad => rw [ec] at h; exact h
  | exc C => rw [ec] at h; exact h
  | ok k =>
   rw [ec] at h
   cases k with
   | false => exact h
   | true =>
    dsimp only at h ⊢
    cases ef : f en with
    | none => rw [ef] at h; exact h
    | some o =>
     rw [ef] at h
     cases o with
     | nx e => exact oG (n := n) h
     | ct e => exact oG (n := n) h
     | bk e => exact h
     | rt l => exact h
     | ex C e => exact h
theorem aBl {c : En -> Res Bool} {f : MS} {n m : Nat} {en : En} {r : Out} (h : mWh c f n en = some r) (l : n <= m) : mWh c f m en = some r := by
 induction l with
 | refl => exact h
 | step _ ih => exact oG ih
open Classical in
noncomputable def nC (c : En -> Res Bool) (f : MS) : MS := fun en => if h : ∃ n r, mWh c f n en = some r then mWh c f h.choose en else none
theorem rV {c : En -> Res Bool} {f : MS} {n : Nat} {en : En} {r : Out} (h : mWh c f n en = some r) : nC c f en = some r := by
 unfold nC
 have hx : ∃ n r, mWh c f n en = some r := ⟨n, r, h⟩
 rw [dif_pos hx]
 obtain ⟨r', h'⟩ := hx.choose_spec
 rcases Nat.le_total n hx.choose with l | l
 ·exact aBl h l
 ·have := aBl h' l
  rw [h] at this
  rw [h']; exact this.symm
theorem sO {c : En -> Res Bool} {f : MS} {en : En} {P : Out -> Prop} (h : wpO (nC c f en) P) : ∃ n, wpO (mWh c f n en) P := by
 unfold nC at h
 split at h
 ·exact ⟨_, h⟩
 ·exact h.elim
section
variable {X : Cx} {E : L2.St -> XK} {st : Stmt} {sts : List Stmt} {f g : MS} {fe : En -> Res Ev} {fc : En -> Res Bool} {e c : Expr} {pos : Pos}
theorem uA (hp : PassesOwn (model X.prog X.w) X.A X.env X.xe) (hc : DT X E c fc) (hb : DSs X E sts f) : DS X E (.While c sts [] pos) (nC fc f) := by
 obtain ⟨tc, pc, mc⟩ := hc.out
 obtain ⟨t, p, m⟩ := hb.out
 refine DS.in ⟨_, aAe hp pc p, fun B G0 G W H σ en Dn hh hs hw => ?_⟩
 obtain ⟨n0, hw⟩ := sO hw
 refine ⟨fun n σ H => ∃ G W en, SimH B G0 G W H /\ SimS X.K W G H σ en /\ wpO (mWh fc f n en) (PostS X.K B G0 E Dn), ⟨n0, G, W, en, hh, hs, hw⟩, ?_⟩
 rintro n σ H ⟨G, W, en, hh, hs, hw⟩
 cases n with
 | zero => exact hw.elim
 | succ n =>
  refine mc B G0 G W H σ en _ hh hs ?_
  unfold mWh at hw
  cases ec : fc en with
  | bad => rw [ec] at hw; exact hw
  | exc C => rw [ec] at hw; exact fun G1 H1 s => hw G1 W H1 σ (hh.step s) (hs.step s)
  | ok k =>
   rw [ec] at hw
   intro G1 H1 s
   cases k with
   | false => exact hw G1 W H1 σ (hh.step s) (hs.step s)
   | true =>
    refine ⟨fun σ' H' => ∃ G W en, SimH B G0 G W H' /\ SimS X.K W G H' σ' en /\ wpO (mWh fc f n en) (PostS X.K B G0 E Dn), fun σ' H' q => ⟨n, Nat.lt_succ_self n, q⟩, ?_⟩
    refine m B G0 G1 W H1 σ en _ (hh.step s) (hs.step s) ?_
    dsimp only at hw
    cases ef : f en with
    | none => rw [ef] at hw; exact hw
    | some o =>
     rw [ef] at hw
     cases o with
     | nx e => exact fun G2 W2 H2 σ2 h2 s2 => ⟨G2, W2, e, h2, s2, hw⟩
     | ct e => exact fun G2 W2 H2 σ2 h2 s2 => ⟨G2, W2, e, h2, s2, hw⟩
     | bk e => exact hw
     | rt l => exact hw
     | ex C e => exact hw
end
def x3 (K : PySem.W.Frag) (ds : List D) (G1 : Hp) (J : It) : Prop := ∀ G H, Same G1 G -> Same G H ->
 (∀ i d, ds[i]? = some d -> J.go i H /\ ∀ v H', J.yld i H v H' -> ∃ G', Step G H G' H' /\ Rep K G' v d) /\ J.stop ds.length H
def tI (K : PySem.W.Frag) (E : L2.St -> XK) (f : En -> Res (List D)) : TI := fun σ H R => ∃ B G0 G W en, SimH B G0 G W H /\ SimS K W G H σ en /\ wpR (f en) (fun ds => ∀ G' H' J, Step G H G' H' -> x3 K ds G' J -> R J H') (PostX (E σ) G H)
def DI (X : Cx) (E : L2.St -> XK) (tg e : Expr) (f : En -> Res (List D)) : Prop := PI X tg e (tI X.K E f)
def Kept (ks : List Nat) (σ σ' : L2.St) : Prop := σ'.length = σ.length /\ ∀ j, j ∉ ks -> σ'[j]? = σ[j]?
def tG (K : PySem.W.Frag) (ks : List Nat) (f : D -> En -> Option En) : TG := fun v σ H Q => ∃ G W en d en', Same G H /\ SimS K W G H σ en /\ Rep K G v d /\ f d en = some en' /\ ∀ σ', SimS K W G H σ' en' -> Kept ks σ σ' -> Q σ' H
def tGs (K : PySem.W.Frag) (ks : List Nat) (f : List D -> En -> Option En) : TGs := fun vs σ H Q => ∃ G W en ds en', Same G H /\ SimS K W G H σ en /\ Reps K G vs ds /\ f ds en = some en' /\ ∀ σ', SimS K W G H σ' en' -> Kept ks σ σ' -> Q σ' H
def DG (X : Cx) (tg : Expr) (ks : List Nat) (f : D -> En -> Option En) : Prop := PG X tg (tG X.K ks f)
def DGs (X : Cx) (tg : List Expr) (ks : List Nat) (f : List D -> En -> Option En) : Prop := PGs X tg (tGs X.K ks f)
theorem Kept.trans {ks ls : List Nat} {σ σ1 σ2 : L2.St} (a : Kept ks σ σ1) (b : Kept ls σ1 σ2) : Kept (ks ++ ls) σ σ2 :=
 ⟨b.1.trans a.1, fun j hj => (b.2 j fun z => hj (List.mem_append_right _ z)).trans (a.2 j fun z => hj (List.mem_append_left _ z))⟩
def aP (i : Nat) : D -> En -> Option En := fun d en => some (en.set i (some (.p d)))
def gJ : List D -> En -> Option En := fun ds en => match ds with
 | [] => some en
 | _ => none
def bB (f : D -> En -> Option En) (g : List D -> En -> Option En) : List D -> En -> Option En := fun ds en => match ds with
 | [] => none
 | d :: r => match f d en with
  | none => none
  | some e => g r e
def gK (n : Nat) (f : List D -> En -> Option En) : D -> En -> Option En := fun d en => match d with
 | .tuple ds => if ds.length = n then f ds en else none
 | _ => none
section
variable {X : Cx} {E : L2.St -> XK} {pos : Pos}
theorem DI.in {tg e : Expr} {f : En -> Res (List D)} (h : ∃ t, PI X tg e t /\ ∀ B G0 G W H σ en R, SimH B G0 G W H -> SimS X.K W G H σ en -> wpR (f en) (fun ds => ∀ G' H' J, Step G H G' H' -> x3 X.K ds G' J -> R J H') (PostX (E σ) G H) -> t σ H R) : DI X E tg e f :=
 fun pins s σ H R I ⟨B, G0, G, W, en, h1, h2, h3⟩ => let ⟨_, p, m⟩ := h; p pins s σ H R I (m B G0 G W H σ en R h1 h2 h3)
theorem dF {i : Nat} {x : Str} (hN : X.N.Nodup) (hi : X.N[i]? = some x) (hx : Loc X.env.scope x) (hf : X.fn x = true \/ X.env.scope.names.lookup x = some .local := by first | exact .inl rfl | exact .inr rfl | assumption) : DG X (.Name x pos) [i] (aP i) := by
 intro pins s σ H v u Q I r ⟨G, W, en, d, en', h1, h2, h3, h4, h5⟩
 refine aDk hN hi hx hf pins s σ H v u Q I r ?_
 cases h4
 exact h5 _ (h2.set h3) ⟨List.length_set .., fun j hj => List.getElem?_set_ne (fun z => hj (by rw [z]; exact .head _))⟩
theorem nI : DGs X [] [] gJ := by
 intro pins s σ H vs us Q I r ⟨G, W, en, ds, en', h1, h2, h3, h4, h5⟩
 refine aCv pins s σ H vs us Q I r ?_
 unfold gJ at h4
 split at h4
 ·cases h4; cases h3; exact ⟨rfl, h5 _ h2 ⟨rfl, fun _ _ => rfl⟩⟩
 ·cases h4
theorem eW {e : Expr} {es : List Expr} {ks ls : List Nat} {f : D -> En -> Option En} {g : List D -> En -> Option En} (h1 : DG X e ks f) (h2 : DGs X es ls g)
  (hs : (assignEach (e :: es) X.env).map (·.2) = assign e X.env :: (assignEach es X.env).map (·.2) := by rfl) : DGs X (e :: es) (ks ++ ls) (bB f g) := by
 intro pins s σ H vs us Q I r ⟨G, W, en, ds, en', k1, k2, k3, k4, k5⟩
 refine aA7 h1 h2 hs pins s σ H vs us Q I r ?_
 unfold bB at k4
 cases k3 with
 | nil => cases k4
 | @cons x xs d ds hx hr =>
  dsimp only at k4
  split at k4
  ·cases k4
  ·rename_i e1 q1
   exact ⟨x, xs, rfl, G, W, en, d, e1, k1, k2, hx, q1, fun σ' hσ hk => ⟨G, W, e1, ds, en', k1, hσ, hr, k4, fun σ2 q1 q2 => k5 σ2 q1 (hk.trans q2)⟩⟩
theorem rN {es : List Expr} {k : Nat} {ks : List Nat} {f : List D -> En -> Option En} {n : Nat} (hc : X.calm = true) (h : DGs X es ks f) (hn : (assignEach es X.env).length = n := by rfl) (hst : (assignEach es X.env).findIdx? (·.1) = none := by rfl) : DG X (.Tuple es k pos) ks (gK n f) := by
 intro pins s σ H v u Q I r ⟨G, W, en, d, en', k1, k2, k3, k4, k5⟩
 refine aF6 hc h hn hst pins s σ H v u Q I r ?_
 unfold gK at k4
 split at k4
 ·rename_i ds
  split at k4
  ·rename_i hl
   cases k3 with
   | @tup a xs _ ha hr => exact ⟨a, xs, rfl, SqT.of (k1 _ _ ha), by rw [hr.length]; exact hl, G, W, en, ds, en', k1, k2, hr, k4, k5⟩
  ·cases k4
 ·cases k4
def gM (tg : D -> En -> Option En) (f : MS) : List D -> MS
 | [], en => some (.nx en)
 | d :: ds, en => match tg d en with
  | none => none
  | some e1 => match f e1 with
   | some (.nx e2) => gM tg f ds e2
   | some (.ct e2) => gM tg f ds e2
   | some (.bk e2) => some (.nx e2)
   | r => r
def pO (fi : En -> Res (List D)) (tg : D -> En -> Option En) (f : MS) : MS := fun en => match fi en with
 | .ok ds => gM tg f ds en
 | .exc C => some (.ex C en)
 | .bad => none
theorem SimH.lower {B G0 G1 G H H1 : Hp} {W W1 : Addr -> Option Nat} (h : SimH B G1 G W H) (h1 : SimH B G0 G1 W1 H1) : SimH B G0 G W H :=
 ⟨h.gh, h.bh, h1.g0.trans h.g0, fun b hb => (h.gb b hb).elim (fun z => h1.gb b z) .inr, h.wf⟩
theorem SimH.raise {B G0 G H : Hp} {W : Addr -> Option Nat} (h : SimH B G0 G W H) : SimH B G G W H := ⟨h.gh, h.bh, Same.refl _, fun _ hb => .inl hb, h.wf⟩
theorem PostS.lower {K : PySem.W.Frag} {B G0 G1 H1 : Hp} {W1 : Addr -> Option Nat} {Dn : Ends} {r : Out} (h : PostS K B G0 E Dn r) (h1 : SimH B G0 G1 W1 H1) : PostS K B G1 E Dn r := by
 cases r with
 | nx en => exact fun G W H σ a b => h G W H σ (a.lower h1) b
 | bk en => exact fun G W H σ a b => h G W H σ (a.lower h1) b
 | ct en => exact fun G W H σ a b => h G W H σ (a.lower h1) b
 | rt l => exact fun G W H σ a b => h G W H σ (a.lower h1) b
 | ex C en => exact fun G W H σ a b => h G W H σ (a.lower h1) b
theorem mG {tg iter : Expr} {body : List Stmt} {fi : En -> Res (List D)} {ks : List Nat} {g : D -> En -> Option En} {f : MS} (hp : PassesOwn (model X.prog X.w) X.A X.env X.xe) (hc : X.calm = true) (hi : DI X E tg iter fi) (hg : DG X tg ks g) (hb : DSs X E body f)
  (hs : ∀ x, foldedSetIterable iter X.env x = pure x := by intro _; rfl) : DS X E (.For tg iter body [] pos) (pO fi g f) := by
 obtain ⟨t, p, m⟩ := hb.out
 refine DS.in ⟨_, aD6 hp hc hi hg p hs, fun B G0 G W H σ en Dn hh hs hw => ⟨B, G0, G, W, en, hh, hs, ?_⟩⟩
 unfold pO at hw
 cases ef : fi en with
 | bad => rw [ef] at hw; exact hw
 | exc C => rw [ef] at hw; exact fun G1 H1 s => hw G1 W H1 σ (hh.step s) (hs.step s)
 | ok ds =>
  rw [ef] at hw
  intro G1 H1 J s1 hJ
  have hh1 := hh.step s1
  refine ⟨fun i n σ H => n = ds.length - i /\ i <= ds.length /\ ∃ G W en, SimH B G1 G W H /\ SimS X.K W G H σ en /\ wpO (gM g f (ds.drop i) en) (PostS X.K B G0 E Dn),
   ⟨ds.length, rfl, Nat.zero_le _, G1, W, en, hh1.raise, hs.step s1, hw⟩, ?_⟩
  rintro i n σ H ⟨rfl, hi, G, W, en, hh, hs, hw⟩
  obtain ⟨j1, j2⟩ := hJ G H hh.g0 hh.gh
  by_cases hlt : i < ds.length
  ·refine .inr ?_
   obtain ⟨jg, jy⟩ := j1 i ds[i] (List.getElem?_eq_getElem hlt)
   rw [List.drop_eq_getElem_cons hlt] at hw
   unfold gM at hw
   refine ⟨jg, fun σ' H' => ∃ G W en, SimH B G1 G W H' /\ SimS X.K W G H' σ' en /\ wpO (gM g f (ds.drop (i + 1)) en) (PostS X.K B G0 E Dn), fun σ' H' q => ⟨ds.length - (i + 1), by omega, rfl, hlt, q⟩, fun v H' hy => ?_⟩
   obtain ⟨G2, s2, rv⟩ := jy v H' hy
   cases eg : g ds[i] en with
   | none => rw [eg] at hw; exact hw.elim
   | some e1 =>
    rw [eg] at hw
    dsimp only at hw
    refine ⟨G2, W, en, ds[i], e1, s2.gh, hs.step s2, rv, eg, fun σ' hσ _ => ?_⟩
    refine m B G1 G2 W H' σ' e1 _ (hh.step s2) hσ ?_
    cases ef2 : f e1 with
    | none => rw [ef2] at hw; exact hw
    | some o =>
     rw [ef2] at hw
     cases o with
     | nx e => exact fun G2 W2 H2 σ2 h2 s2 => ⟨G2, W2, e, h2, s2, hw⟩
     | ct e => exact fun G2 W2 H2 σ2 h2 s2 => ⟨G2, W2, e, h2, s2, hw⟩
     | bk e => exact PostS.lower (E := E) (Dn := Dn) (r := .nx e) hw hh1
     | rt l => exact PostS.lower (E := E) (Dn := Dn) (r := .rt l) hw hh1
     | ex C e => exact PostS.lower (E := E) (Dn := Dn) (r := .ex C e) hw hh1
  ·have e : i = ds.length := by omega
   subst e
   rw [List.drop_length] at hw
   exact .inl ⟨j2, hw G W H σ (hh.lower hh1) hs⟩
def qZ (r : Ev) : Res (List D) := match r with
 | .p (.list ds) => .ok ds
 | _ => .bad
def lG (fe : En -> Res Ev) : En -> Res (List D) := fun en => (fe en).bind fun r => qZ r.c
theorem hZ {tg e : Expr} {fe : En -> Res Ev} (he : DE X E e fe) : DI X E tg e (lG fe) := by
 obtain ⟨t, p, m⟩ := he.out
 refine DI.in ⟨_, aDt p, fun B G0 G W H σ en R hh hs hw => m B G0 G W H σ en _ hh hs ?_⟩
 have hw : wpR ((fe en).bind _) _ _ := hw
 rw [cL] at hw
 refine bU hw (fun r hr G1 H1 v s e => ?_) fun C h => h
 obtain ⟨G2, s2, e2⟩ := e.c s
 cases er : r.c with
 | p d =>
  rw [er] at hr e2
  cases d with
  | list ds =>
   cases e2 with
   | @lst a xs _ ha hrs =>
    refine ⟨a, rfl, ⟨xs, s2.gh.seq (.inl ha)⟩, hr G2 H1 _ s2 fun G3 H3 k1 k2 => ⟨fun i d ed => ?_, xs, (k1.trans k2).seq (.inl ha), Nat.le_of_eq hrs.length⟩⟩
    obtain ⟨x, ex, rx⟩ := hrs.get' ed
    refine ⟨⟨xs, x, (k1.trans k2).seq (.inl ha), ex⟩, fun v H' hy => ?_⟩
    obtain ⟨rfl, hy⟩ := hy
    have := hy xs ((k1.trans k2).seq (.inl ha))
    rw [ex] at this
    cases this
    exact ⟨G3, Step.refl k2, rx.mono k1⟩
  | _ => exact False.elim hr
 | f d => rw [er] at hr; exact False.elim hr
 | b d => rw [er] at hr; exact False.elim hr
 | x C => rw [er] at hr; exact False.elim hr
def vM (lo : Int) (n : Nat) : List D := (List.range n).map fun (k : Nat) => PyData.int (lo + (k : Int))
def pN (rs : List Ev) : Res (List D) := match rs with
 | [.p (.int j)] => if -(2 ^ 62) <= j /\ j < 2 ^ 62 then .ok (vM 0 j.toNat) else .bad
 | _ => .bad
def yI (rs : List Ev) : Res (List D) := match rs with
 | [.p (.int i), .p (.int j)] => if -(2 ^ 62) <= i /\ i < 2 ^ 62 /\ -(2 ^ 62) <= j /\ j < 2 ^ 62 then .ok (vM i (j - i).toNat) else .bad
 | _ => .bad
theorem oB (K : PySem.W.Frag) (lo : Int) (n : Nat) (G1 : Hp) : x3 K (vM lo n) G1 (Itr lo n) := fun G H _ k2 => by
 refine ⟨fun i d ed => ?_, by show n <= _; unfold vM; rw [List.length_map, List.length_range]; exact Nat.le_refl _⟩
 unfold vM at ed
 rw [List.getElem?_map] at ed
 by_cases hi : i < n
 ·rw [List.getElem?_range hi] at ed
  cases ed
  refine ⟨hi, fun v H' hy => ?_⟩
  obtain ⟨rfl, rfl⟩ := hy
  exact ⟨G, Step.refl k2, .int _⟩
 ·rw [List.getElem?_eq_none (by rw [List.length_range]; omega)] at ed
  cases ed
def rY (r : List Ev -> Res (List D)) (fr : En -> Res (List Ev)) : En -> Res (List D) := fun en => (fr en).bind r
theorem qJ {tg a : Expr} {fr : En -> Res (List Ev)} {p : Pos} (hg : Gl X "range") (hm : X.mg "range" = none) (ha : DA X E [a] fr) (hs : starEach [a] X.env = [(false, eval a X.env)] := by rfl) : DI X E tg (.Call (.Name "range" p) [a] [] pos) (rY pN fr) := by
 obtain ⟨t, q, m⟩ := ha.out
 refine DI.in ⟨_, wN hg hm q hs, fun B G0 G W H σ en R hh hs hw => m B G0 G W H σ en _ hh hs ?_⟩
 have hw : wpR ((fr en).bind _) _ _ := hw
 rw [cL] at hw
 refine bU hw (fun rs hr G1 H1 vs s e => ?_) fun C h => h
 unfold pN at hr
 split at hr
 ·rename_i j
  split at hr
  ·rename_i hj
   match vs, e with
   | [v], ⟨e1, _⟩ =>
    cases e1
    exact ⟨j, rfl, hj.1, hj.2, hr G1 H1 _ s (oB _ _ _ _)⟩
  ·exact False.elim hr
 ·exact False.elim hr
theorem xM {tg a b : Expr} {fr : En -> Res (List Ev)} {p : Pos} (hg : Gl X "range") (hm : X.mg "range" = none) (ha : DA X E [a, b] fr) (hs : starEach [a, b] X.env = [(false, eval a X.env), (false, eval b X.env)] := by rfl) (hs2 : starEach [b] X.env = [(false, eval b X.env)] := by rfl) :
  DI X E tg (.Call (.Name "range" p) [a, b] [] pos) (rY yI fr) := by
 obtain ⟨t, q, m⟩ := ha.out
 refine DI.in ⟨_, wZ hg hm q hs hs2, fun B G0 G W H σ en R hh hs hw => m B G0 G W H σ en _ hh hs ?_⟩
 have hw : wpR ((fr en).bind _) _ _ := hw
 rw [cL] at hw
 refine bU hw (fun rs hr G1 H1 vs s e => ?_) fun C h => h
 unfold yI at hr
 split at hr
 ·rename_i i j
  split at hr
  ·rename_i hj
   match vs, e with
   | [v, u], ⟨e1, e2, _⟩ =>
    cases e1
    cases e2
    exact ⟨i, j, rfl, hj, hr G1 H1 _ s (oB _ _ _ _)⟩
  ·exact False.elim hr
 ·exact False.elim hr
end
def dQ : Ev -> Option L
 | .p d => some (.p d)
 | .x C => some (.x C)
 | .b _ => none
 | .f _ => none
def fB : Ev -> Option L
 | .p d => some (.p d)
 | .b d => some (.p d)
 | .x _ => none
 | .f _ => none
def a5 (g : Ev -> Option L) : List Ev -> Option (List L)
 | [] => some []
 | r :: rs => match g r with
  | none => none
  | some l => match a5 g rs with
   | none => none
   | some ls => some (l :: ls)
def d6 : L -> Ev
 | .p d => .p d
 | .o d => .f d
 | .x C => .x C
 | .h a => .x a
mutual
def lfD : D -> Bool
 | .list _ => false
 | .dict _ => false
 | .tuple ds => lfA ds
 | _ => true
def lfA : List D -> Bool
 | [] => true
 | d :: ds => lfD d && lfA ds
end
def lfP : List (D × D) -> Bool
 | [] => true
 | p :: r => lfD p.2 && lfP r
def vR : L -> Bool
 | .p d => lfD d
 | .o (.list ds) => lfA ds
 | .o (.dict kvs) => lfP kvs
 | _ => false
def a7 (n : Nat) (m : List L -> Res L) (rs : List Ev) : Res Ev := match a5 dQ rs with
 | some ls => if ls.length = n then (m ls).bind fun l => .ok (d6 l) else .bad
 | none => match a5 fB rs with
  | some ls => if ls.length = n then (m ls).bind fun l => if vR l = true then .ok (d6 l) else .bad else .bad
  | none => .bad
def aK (n : Nat) (m : List L -> Res L) (fr : En -> Res (List Ev)) : En -> Res Ev := fun en => (fr en).bind (a7 n m)
def aGs (K : PySem.W.Frag) (G : Hp) (v : V) : L -> Prop
 | .p d => Rep K G v d
 | .o _ => False
 | .x C => ∃ e, v = .ref e /\ G e = some (xP e (.ref C))
 | .h _ => False
def ArgsOk (K : PySem.W.Frag) (G : Hp) : List V -> List L -> Prop
 | [], [] => True
 | v :: vs, l :: ls => aGs K G v l /\ ArgsOk K G vs ls
 | _, _ => False
theorem ArgsOk.length {K : PySem.W.Frag} {G : Hp} : ∀ {vs : List V} {ls : List L}, ArgsOk K G vs ls -> vs.length = ls.length
 | [], [], _ => rfl
 | _ :: _, _ :: _, h => by rw [List.length_cons, List.length_cons, ArgsOk.length h.2]
def spM (K : PySem.W.Frag) (n : Nat) (m : List L -> Res L) : Sp := fun vs H Q E => vs.length = n /\ ∃ G ls, Same G H /\ ArgsOk K G vs ls /\
 wpR (m ls) (fun l => ∀ G' H' v, Step G H G' H' -> aC0 K H G' H' v l -> Q v H') (fun C => ∀ G' H', Step G H G' H' -> E (.ref C) none H')
theorem wW {K : PySem.W.Frag} {W : Addr -> Option Nat} {Hs G H : Hp} : ∀ {rs : List Ev} {ls : List L} {vs : List V}, a5 dQ rs = some ls -> EOks K W Hs G H vs rs -> ArgsOk K G vs ls
 | [], _, [], h, _ => by cases h; exact trivial
 | [], _, _ :: _, _, e => e.elim
 | _ :: _, _, [], _, e => e.elim
 | r :: rs, ls, v :: vs, h, e => by
  unfold a5 at h
  cases r with
  | p d =>
   cases er : a5 dQ rs with
   | none => rw [er] at h; cases h
   | some ls' => rw [er] at h; cases h; exact ⟨e.1, wW er e.2⟩
  | x C =>
   cases er : a5 dQ rs with
   | none => rw [er] at h; cases h
   | some ls' => rw [er] at h; cases h; exact ⟨e.1, wW er e.2⟩
  | b d => cases h
  | f d => cases h
def both (W : Addr -> Option Nat) (G H : Hp) : Hp := fun b => match W b with
 | some _ => H b
 | none => G b
theorem mE {W : Addr -> Option Nat} {B G0 G H : Hp} (hh : SimH B G0 G W H) : Same G (both W G H) /\ Same (both W G H) H := by
 refine ⟨fun b o e => ?_, fun b o e => ?_⟩
 ·unfold both
  cases ew : W b with
  | none => exact e
  | some i => rw [(hh.wf b i ew).1] at e; cases e
 ·unfold both at e
  cases ew : W b with
  | none => rw [ew] at e; exact hh.gh b o e
  | some i => rw [ew] at e; exact e
theorem yL {K : PySem.W.Frag} {W : Addr -> Option Nat} {Hs B G0 G H : Hp} (hh : SimH B G0 G W H) : ∀ {rs : List Ev} {ls : List L} {vs : List V}, a5 fB rs = some ls -> EOks K W Hs G H vs rs -> ArgsOk K (both W G H) vs ls
 | [], _, [], h, _ => by cases h; exact trivial
 | [], _, _ :: _, _, e => e.elim
 | _ :: _, _, [], _, e => e.elim
 | r :: rs, ls, v :: vs, h, e => by
  unfold a5 at h
  cases r with
  | p d =>
   cases er : a5 fB rs with
   | none => rw [er] at h; cases h
   | some ls' => rw [er] at h; cases h; exact ⟨Rep.mono (mE hh).1 e.1, yL hh er e.2⟩
  | b d =>
   cases er : a5 fB rs with
   | none => rw [er] at h; cases h
   | some ls' =>
    rw [er] at h; cases h
    refine ⟨?_, yL hh er e.2⟩
    obtain ⟨a, i, o, rfl, h1, h2, h3⟩ := e.1
    exact (h3.mono (mE hh).1).rep (by unfold both; rw [h1]; exact h2)
  | x d => cases h
  | f d => cases h
mutual
theorem uT {K : PySem.W.Frag} {G G' : Hp} (k : ∀ b xs, G b = some (.tup xs) -> G' b = some (.tup xs)) : ∀ {v : V} {d : D}, lfD d = true -> Rep K G v d -> Rep K G' v d
 | _, _, _, .non => .non
 | _, _, _, .bl b => .bl b
 | _, _, _, .int i => .int i
 | _, _, _, .str x => .str x
 | _, _, hf, .tup h r => .tup (k _ _ h) (sP k (by unfold lfD at hf; exact hf) r)
 | _, _, hf, .lst _ _ => by unfold lfD at hf; cases hf
 | _, _, hf, .dT _ _ => by unfold lfD at hf; cases hf
 | _, _, hf, .dK _ _ => by unfold lfD at hf; cases hf
theorem sP {K : PySem.W.Frag} {G G' : Hp} (k : ∀ b xs, G b = some (.tup xs) -> G' b = some (.tup xs)) : ∀ {vs : List V} {ds : List D}, lfA ds = true -> Reps K G vs ds -> Reps K G' vs ds
 | _, _, _, .nil => .nil
 | _, _, hf, .cons h r => by
  unfold lfA at hf
  have hf := Bool.and_eq_true_iff.mp hf
  exact .cons (uT k hf.1 h) (sP k hf.2 r)
end
theorem zI {K : PySem.W.Frag} {G G' : Hp} (k : ∀ b xs, G b = some (.tup xs) -> G' b = some (.tup xs)) : ∀ {kv : List (List Key × V)} {kvs : List (D × D)}, lfP kvs = true -> RepT K G kv kvs -> RepT K G' kv kvs
 | _, _, _, .nil => .nil
 | _, _, hf, .cons h r => by
  unfold lfP at hf
  have hf := Bool.and_eq_true_iff.mp hf
  exact .cons (uT k hf.1 h) (zI k hf.2 r)
theorem xZ {K : PySem.W.Frag} {G G' : Hp} (k : ∀ b xs, G b = some (.tup xs) -> G' b = some (.tup xs)) : ∀ {kv : List (Key × V)} {kvs : List (D × D)}, lfP kvs = true -> RepK K G kv kvs -> RepK K G' kv kvs
 | _, _, _, .nil => .nil
 | _, _, hf, .cons h r => by
  unfold lfP at hf
  have hf := Bool.and_eq_true_iff.mp hf
  exact .cons (uT k hf.1 h) (xZ k hf.2 r)
def nT (W : Addr -> Option Nat) (G : Hp) : Hp := fun b => match W b with
 | some _ => none
 | none => G b
theorem aBj {K : PySem.W.Frag} {W : Addr -> Option Nat} {H1 G H Hs : Hp} {v : V} {l : L} (hf : vR l = true) (hH : Hs = Hs) (hs : ∀ b, H1 b = none -> Hs b = none) (k : ∀ b xs, G b = some (.tup xs) -> nT W G b = some (.tup xs)) (h : aC0 K H1 G H v l) : EOk K W Hs (nT W G) H v (d6 l) := by
 have n0 : ∀ b, G b = none -> nT W G b = none := fun b e => by
  unfold nT
  cases W b with
  | none => exact e
  | some _ => rfl
 cases l with
 | x C => cases hf
 | h a => cases hf
 | p d => exact uT k hf h
 | o d =>
  obtain ⟨a, o, rfl, h1, h2, h3, h4⟩ := h
  refine ⟨a, o, rfl, hs _ h2, n0 _ h1, h3, ?_⟩
  cases h4 with
  | lst r => exact .lst (sP k hf r)
  | dT r => exact .dT (zI k hf r)
  | dK r => exact .dK (xZ k (by unfold vR at hf; unfold lfP at hf; exact (Bool.and_eq_true_iff.mp hf).2) r)
theorem qK {K : PySem.W.Frag} {W : Addr -> Option Nat} {B G0 G H G1 H1 : Hp} {n : Nat} {m : List L -> Res L} {rs : List Ev} {vs : List V} {Q : VK} {EE : XK} (hh : SimH B G0 G W H) (s : Step G H G1 H1) (e : EOks K W H G1 H1 vs rs)
  (hr : wpR (a7 n m rs) (PostE K W G H Q) (PostX EE G H)) : spM K n m vs H1 Q EE := by
 unfold a7 at hr
 split at hr
 ·rename_i ls el
  split at hr
  ·rename_i hn
   have ha := wW el e
   refine ⟨by rw [ha.length]; exact hn, G1, ls, s.gh, ha, ?_⟩
   rw [cL] at hr
   refine bU hr (fun l hl G2 H2 v s2 rv => hl G2 H2 v (s.trans s2) ?_) fun C h G2 H2 s2 => h G2 H2 (s.trans s2)
   cases l with
   | p d => exact rv
   | x C => exact rv
   | h a => exact rv.elim
   | o d =>
    obtain ⟨a, o, h1, h2, h3, h4, h5⟩ := rv
    exact ⟨a, o, h1, s.h.free h3, h2, h4, h5⟩
  ·exact hr.elim
 ·split at hr
  ·rename_i ls el
   split at hr
   ·rename_i hn
    have hh1 := hh.step s
    have ha := yL hh1 el e
    obtain ⟨k1, k2⟩ := mE hh1
    refine ⟨by rw [ha.length]; exact hn, both W G1 H1, ls, k2, ha, ?_⟩
    rw [cL] at hr
    refine bU hr (fun l hl G2 H2 v s2 rv => ?_) fun C h G2 H2 s2 => h G1 H2 (s.trans ⟨Same.refl _, s2.h, s.gh.trans s2.h, fun _ _ q => .inl q⟩)
    split at hl
    ·rename_i hf
     have kt : ∀ b xs, G2 b = some (.tup xs) -> nT W G2 b = some (.tup xs) := fun b xs eb => by
      unfold nT
      cases ew : W b with
      | none => exact eb
      | some i =>
       obtain ⟨_, _, o, e1, e2⟩ := hh1.wf b i ew
       have e3 := s2.gh _ _ eb
       rw [s2.h _ _ e1] at e3
       exact absurd (Option.some.inj e3) (e2 xs)
     refine hl (nT W G2) H2 v ⟨fun b o eb => ?_, s.h.trans s2.h, fun b o eb => ?_, fun b hb hg => ?_⟩ (aBj hf rfl (fun b e => s.h.free e) kt rv)
     ·have e1 := s.g _ _ eb
      unfold nT
      cases ew : W b with
      | none => exact s2.g _ _ (k1 _ _ e1)
      | some i => rw [(hh1.wf b i ew).1] at e1; cases e1
     ·unfold nT at eb
      cases ew : W b with
      | none => rw [ew] at eb; exact s2.gh _ _ eb
      | some i => rw [ew] at eb; cases eb
     ·unfold nT
      cases ew : W b with
      | some i => exact .inl rfl
      | none =>
       rcases s.new b hb hg with z | z
       ·have z2 : both W G1 H1 b = none := by unfold both; rw [ew]; exact z
        rcases s2.new b (zN s.h hb) z2 with y | ⟨xs, y⟩
        ·exact .inl y
        ·cases e : H b with
         | none => exact absurd e hb
         | some o => rw [s.h _ _ e] at y; exact .inr ⟨xs, y⟩
       ·exact .inr z
    ·exact hl.elim
   ·exact hr.elim
  ·exact hr.elim
section
variable {X : Cx} {E : L2.St -> XK} {k : Nat} {f : Addr} {fd : FuncData} {ps : List Str} {x : Str} {p pos : Pos} {e : Expr} {es : List Expr} {fr : En -> Res (List Ev)} {n : Nat} {m : List L -> Res L}
theorem aCl (F : FnOk X.prog X.w X.K X.mg X.base (CXr X.prog X.w) k f fd ps (spM X.K n m)) (hr : Room k X.A) (hg : Gl X x) (hm : X.mg x = some (.ref f)) (hk : PySem.W.keepIn X.K (.ref f) = true) (hb : Binds X.K fd ps []) (hx : jY (CXr X.prog X.w) X E)
  (ha : DA X E (e :: es) fr) (hdb : (x == ("__debug__" : Str)) = false := by decide) (he : starEach (e :: es) X.env = (false, eval e X.env) :: starEach es X.env := by rfl) (hpl : (backTo pos (starEach es X.env)).any (·.1) = false := by rfl) :
  DE X E (.Call (.Name x p) (e :: es) [] pos) (aK n m fr) := by
 obtain ⟨t, q, mm⟩ := ha.out
 refine DE.in ⟨_, aAm F hr hg hm hk hb hx q hdb he hpl, fun B G0 G W H σ en Q hh hs hw => mm B G0 G W H σ en _ hh hs ?_⟩
 have hw : wpR ((fr en).bind _) _ _ := hw
 rw [cL] at hw
 exact bU hw (fun rs hr G1 H1 vs s e => qK hh s e hr) fun C h => h
theorem aA8 (F : y0 X.prog X.w X.K X.mg X.base k f fd ps (spM X.K n m)) (hr : RoomQ k X.A) (hg : Gl X x) (hm : X.mg x = some (.ref f)) (hk : PySem.W.keepIn X.K (.ref f) = true) (hb : Binds X.K fd ps [])
  (ha : DA X (fun _ => E0) (e :: es) fr) (hdb : (x == ("__debug__" : Str)) = false := by decide) (he : starEach (e :: es) X.env = (false, eval e X.env) :: starEach es X.env := by rfl) (hpl : (backTo pos (starEach es X.env)).any (·.1) = false := by rfl) :
  DE X (fun _ => E0) (.Call (.Name x p) (e :: es) [] pos) (aK n m fr) := by
 obtain ⟨t, q, mm⟩ := ha.out
 refine DE.in ⟨_, zU F hr hg hm hk hb q hdb he hpl, fun B G0 G W H σ en Q hh hs hw => mm B G0 G W H σ en _ hh hs ?_⟩
 have hw : wpR ((fr en).bind _) _ _ := hw
 rw [cL] at hw
 exact bU hw (fun rs hr G1 H1 vs s e => qK hh s e hr) fun C h => h
def nK (K : PySem.W.Frag) (r : List V -> Hp -> VK -> Prop) (f : List Ev -> Res Ev) : Prop := ∀ (W : Addr -> Option Nat) (Hs G H : Hp) (vs : List V) (rs : List Ev) (Q : VK), Same G H -> EOks K W Hs G H vs rs -> wpR (f rs) (PostE K W G H Q) (fun _ => False) -> r vs H Q
def xU (f : List Ev -> Res Ev) : Prop := ∀ rs C, f rs ≠ .exc C
def aC (f : List Ev -> Res Ev) (fr : En -> Res (List Ev)) : En -> Res Ev := fun en => (fr en).bind f
theorem nW {r : List V -> Hp -> VK -> Prop} {f : List Ev -> Res Ev} {t : TA} (hm : nK X.K r f) (hn : xU f) (mm : ∀ B G0 G W H σ en Q, SimH B G0 G W H -> SimS X.K W G H σ en -> wpR (fr en) (aAk X.K W G H Q) (PostX (E σ) G H) -> t σ H Q) :
  ∀ B G0 G W H σ en Q, SimH B G0 G W H -> SimS X.K W G H σ en -> wpR (aC f fr en) (PostE X.K W G H Q) (PostX (E σ) G H) -> tCB r t σ H Q := by
 intro B G0 G W H σ en Q hh hs hw
 refine mm B G0 G W H σ en _ hh hs ?_
 have hw : wpR ((fr en).bind _) _ _ := hw
 rw [cL] at hw
 exact bU hw (fun rs hr G1 H1 vs s e => hm W H G1 H1 vs rs Q s.gh e (noX (bU hr (fun _ h => h.step s) fun _ h => h) (hn rs))) fun C h => h
theorem cB {id : String} {r : List V -> Hp -> VK -> Prop} {f : List Ev -> Res Ev} (hc : kO X (.builtin id) r) (hM : nK X.K r f) (hn : xU f) (hg : Gl X x) (hm : X.mg x = none) (hv : bootBuiltins x = some (.builtin id)) (ha : DA X E (e :: es) fr) (hnn : x ≠ "__name__" := by decide) (hdb : (x == ("__debug__" : Str)) = false := by decide)
  (he : starEach (e :: es) X.env = (false, eval e X.env) :: starEach es X.env := by rfl) (hpl : (backTo pos (starEach es X.env)).any (·.1) = false := by rfl) : DE X E (.Call (.Name x p) (e :: es) [] pos) (aC f fr) := by
 obtain ⟨t, q, mm⟩ := ha.out
 exact DE.in ⟨_, uX hc hg hm hv q hnn hdb he hpl, nW hM hn mm⟩
theorem qA {T : String} {r : List V -> Hp -> VK -> Prop} {f : List Ev -> Res Ev} (hc : kO X (.type T) r) (hM : nK X.K r f) (hn : xU f) (hg : Gl X x) (hm : X.mg x = none) (hv : bootBuiltins x = some (.type T)) (ha : DA X E (e :: es) fr) (hnn : x ≠ "__name__" := by decide) (hdb : (x == ("__debug__" : Str)) = false := by decide)
  (he : starEach (e :: es) X.env = (false, eval e X.env) :: starEach es X.env := by rfl) (hpl : (backTo pos (starEach es X.env)).any (·.1) = false := by rfl) : DE X E (.Call (.Name x p) (e :: es) [] pos) (aC f fr) := by
 obtain ⟨t, q, mm⟩ := ha.out
 exact DE.in ⟨_, y2 hc hg hm hv q hnn hdb he hpl, nW hM hn mm⟩
end
def bX (n : Nat) (ls : List L) : En := ls.map some ++ List.replicate (n - ls.length) none
def d4 (n : Nat) (f : MS) (ls : List L) : Res L := match f (bX n ls) with
 | some (.nx _) => .ok (.p .none)
 | some (.rt l) => .ok l
 | some (.ex C _) => .exc C
 | _ => .bad
theorem nU {K : PySem.W.Frag} {W : Addr -> Option Nat} {G H : Hp} : ∀ {vs : List V} {ls : List L} (i : Nat) (l : L), ArgsOk K G vs ls -> ls[i]? = some l -> ∃ v, vs[i]? = some v /\ ∀ j, Slot K W G H j v l
 | [], [], _, _, _, e => by simp at e
 | v :: vs, l :: ls, 0, m, h, e => by
  simp at e; subst e
  refine ⟨v, rfl, fun j => ?_⟩
  have z := h.1
  cases l with
  | p d => exact z
  | x C => exact z
  | h a => exact z.elim
  | o d => exact z.elim
 | v :: vs, l :: ls, i + 1, m, h, e => by
  have := nU (W := W) (H := H) i m h.2 (by simpa using e)
  simpa using this
theorem wG {K : PySem.W.Frag} {W : Addr -> Option Nat} {G H : Hp} {N : List Str} {vs : List V} {ls : List L} (h : ArgsOk K G vs ls) : SimS K W G H (L2.start N vs) (bX N.length ls) := by
 have hl := h.length
 refine ⟨by unfold L2.start bX; simp [hl], fun i l e => ?_⟩
 unfold bX at e
 by_cases hi : i < ls.length
 ·rw [List.getElem?_append_left (by rw [List.length_map]; exact hi), List.getElem?_map] at e
  cases e2 : ls[i]? with
  | none => rw [e2] at e; cases e
  | some l' =>
   rw [e2] at e
   cases e
   obtain ⟨v, e3, e4⟩ := nU (W := W) (H := H) i l h e2
   refine ⟨v, ?_, e4 i⟩
   unfold L2.start
   rw [List.getElem?_append_left (by rw [List.length_map, hl]; exact hi), List.getElem?_map, e3]
   rfl
 ·rw [List.getElem?_append_right (by rw [List.length_map]; omega), List.getElem?_replicate] at e
  split at e <;> cases e
theorem sY {G H G' H' : Hp} {W : Addr -> Option Nat} (h : SimH H G G' W H') : Step G H G' H' := ⟨h.g0, h.bh, h.gh, fun b hb hg => by
 cases e : G' b with
 | none => exact .inl rfl
 | some o =>
  rcases h.gb b (by rw [e]; exact fun z => nomatch z) with z | z | z
  ·exact absurd hg z
  ·exact absurd z hb
  ·exact .inr z⟩
theorem rM {K : PySem.W.Frag} {N : List Str} {n : Nat} {m : List L -> Res L} {fm : MS} {vs : List V} {H : Hp} {Q : VK} {E : XK} (h : spM K n m vs H Q E) (hm : ∀ ls, m ls = .bad \/ d4 N.length fm ls = m ls) :
  tS K (fun _ => E) fm { nx := fun _ H' => Q .non H', rt := Q } (L2.start N vs) H := by
 obtain ⟨hl, G, ls, gh, ha, hw⟩ := h
 refine ⟨H, G, G, fun _ => none, bX N.length ls, ⟨gh, Same.refl _, Same.refl _, fun _ hb => .inl hb, fun a i e => nomatch e⟩, wG ha, ?_⟩
 rcases hm ls with e | e
 ·rw [e] at hw; exact hw.elim
 ·rw [<- e] at hw
  unfold d4 at hw
  cases ef : fm (bX N.length ls) with
  | none => rw [ef] at hw; exact hw
  | some o =>
   rw [ef] at hw
   cases o with
   | nx en => exact fun G' W' H' σ' h1 _ => hw G' H' .non (sY h1) .non
   | rt l => exact fun G' W' H' v h1 h2 => hw G' H' v (sY h1) h2
   | bk en => exact hw.elim
   | ct en => exact hw.elim
   | ex C en => exact fun G' W' H' σ' h1 _ => hw G' H' (sY h1)
section
variable {P : Program} {w : World} {K : PySem.W.Frag} {mg : Str -> Option Value} {base : Heap}
theorem dG {N : List Str} {qual : Str} {scope : Scope} {f : Addr} {cd : Value} {A : Around} {outer : List Env} {s : Shared} {H : Hp} {E : XK} : jY (CXr P w) (lL (CXr P w) P w K mg base N qual scope f cd A outer s H E) (fun _ => E) :=
 fun pins σ H s e s' I h => aH4 pins σ H s e s' I h
theorem wL {X : Cx} : jY (CXr P w) X (fun _ => E0) := fun _ _ _ _ _ _ _ ⟨_, _, _, _, _, _, _, z⟩ => z.elim
theorem fnM {x qual : Str} {st : Stmt} {f : Addr} {fd : FuncData} {N ps : List Str} {k n : Nat} {m : List L -> Res L} (F : Fun K x qual st f fd) (S : a9 N ps (aJ st)) (hn : n = ps.length)
  (hbody : ∀ (cdv : Value) (A : Around) (outer : List Env) (s : Shared) (H : Hp) (E : XK), Room k (A.deeper (envOfC qual (aJ st) s.heap.objs.size f cdv)) ->
   ∃ fm, DSs (lL (CXr P w) P w K mg base N qual (aJ st) f cdv A outer s H E) (fun _ => E) (d8 st) fm /\ ∀ ls, m ls = .bad \/ d4 N.length fm ls = m ls) : FnOk P w K mg base (CXr P w) (k + 1) f fd ps (spM K n m) := by
 refine F.okX S (fun vs H Q E h => ?_) (fun cdv A outer s H vs Q E hr h => ?_)
 ·rw [<- hn]; exact h.1
 ·obtain ⟨fm, hd, hm⟩ := hbody cdv A outer s H E hr
  exact ⟨_, hd, rM h hm⟩
theorem aI0 {x qual : Str} {st : Stmt} {f : Addr} {fd : FuncData} {N ps : List Str} {k n : Nat} {m : List L -> Res L} (F : Fun K x qual st f fd) (S : a9 N ps (aJ st)) (hn : n = ps.length)
  (hbody : ∀ (cdv : Value) (A : Around) (outer : List Env) (s : Shared) (H : Hp), RoomQ k (A.deeper (envOfC qual (aJ st) s.heap.objs.size f cdv)) ->
   ∃ fm, DSs (lL CX0 P w K mg base N qual (aJ st) f cdv A outer s H E0).quiet (fun _ => E0) (d8 st) fm /\ ∀ ls, m ls = .bad \/ d4 N.length fm ls = m ls) : y0 P w K mg base (k + 1) f fd ps (spM K n m) := by
 refine F.okQ S (fun vs H Q E h => ?_) (fun cdv A outer s H vs Q hr h => ?_)
 ·rw [<- hn]; exact h.1
 ·obtain ⟨fm, hd, hm⟩ := hbody cdv A outer s H hr
  exact ⟨_, hd, rM h hm⟩
end
def aX (C : Addr) (fr : En -> Res (List Ev)) : MS := fun en => match fr en with
 | .ok rs => if rs.length <= 1000 then some (.ex C en) else none
 | .exc C => some (.ex C en)
 | .bad => none
theorem EOks.length {K : PySem.W.Frag} {W : Addr -> Option Nat} {Hs G H : Hp} : ∀ {vs : List V} {rs : List Ev}, EOks K W Hs G H vs rs -> vs.length = rs.length
 | [], [], _ => rfl
 | [], _ :: _, h => h.elim
 | _ :: _, [], h => h.elim
 | _ :: _, _ :: _, h => by rw [List.length_cons, List.length_cons, EOks.length h.2]
section
variable {X : Cx}
theorem lM {E : XK} {x : Str} {e₀ : Expr} {rest : List Expr} {fr : En -> Res (List Ev)} {C : Addr} {bm : List Value} {B newId initId : String} {np cpos pos : Pos} (hx : xT X E) (hc : X.calm = true) (hg : Gl X x) (O : OwnCls x C bm newId X.mg X.base)
  (FB : ExcBaseFacts B newId initId bm) (ha : DA X (fun _ => E) (e₀ :: rest) fr) (hdb : (x == ("__debug__" : Str)) = false := by decide)
  (he : starEach (e₀ :: rest) X.env = (false, eval e₀ X.env) :: starEach rest X.env := by rfl) (hpl : (backTo cpos (starEach rest X.env)).any (·.1) = false := by rfl) :
  DS X (fun _ => E) (.Raise (some (.Call (.Name x np) (e₀ :: rest) [] cpos)) none pos) (aX C fr) := by
 obtain ⟨t, q, m⟩ := ha.out
 refine DS.in ⟨_, zZ hx hc hg O FB q hdb he hpl, fun B G0 G W H σ en Dn hh hs hw => m B G0 G W H σ en _ hh hs ?_⟩
 unfold aX at hw
 cases ef : fr en with
 | bad => rw [ef] at hw; exact hw
 | exc C => rw [ef] at hw; exact fun G1 H1 s => hw G1 W H1 σ (hh.step s) (hs.step s)
 | ok rs =>
  rw [ef] at hw
  intro G1 H1 vs s e
  dsimp only at hw
  split at hw
  ·rename_i hl
   exact ⟨by rw [e.length]; exact Nat.le_trans hl (by decide), hw G1 W H1 σ (hh.step s) (hs.step s)⟩
  ·exact hw.elim
def aDu (K : PySem.W.Frag) (R : Addr) (i : Nat) (f fh : MS) : MS := fun en => match f en with
 | some (.ex C e) => if PySem.W.exmOne K (.ref C) (.ref R) = some true then match fh (e.set i (some (.x C))) with
   | some (.nx e') => some (.nx (e'.set i none))
   | some (.bk e') => some (.bk (e'.set i none))
   | some (.ct e') => some (.ct (e'.set i none))
   | some (.rt l) => some (.rt l)
   | _ => none
  else none
 | r => r
theorem SimS.unset {K : PySem.W.Frag} {W : Addr -> Option Nat} {G H : Hp} {σ : L2.St} {en : En} (i : Nat) (h : SimS K W G H σ en) : SimS K W G H (σ.set i none) (en.set i none) := by
 refine ⟨by rw [List.length_set, List.length_set]; exact h.1, fun j m e => ?_⟩
 rw [List.getElem?_set] at e
 rw [List.getElem?_set]
 by_cases hj : i = j
 ·subst hj
  rw [if_pos rfl] at e
  split at e <;> cases e
 ·rw [if_neg hj] at e ⊢
  exact h.2 j m e
theorem aEt {E : L2.St -> XK} {body : List Stmt} {b₀ : Stmt} {suite : List Stmt} {x n : Str} {np hpos pos : Pos} {i : Nat} {R : Addr} {f fh : MS} (hst : X.stack = X.env :: X.outer) (hfr : X.env.frame = some X.env.locals) (hN : X.N.Nodup) (hi : X.N[i]? = some n)
  (hk : X.env.kindOf n = some .local) (hg : Gl X x) (hm : X.mg x = some (.ref R))
  (hb : ∀ (W : Value -> Shared -> Prop) (pn : List (Addr × Obj)) (E : L2.St -> XK), jY (CXr X.prog X.w) (X.wp W pn) E -> DSs (X.wp W pn) E body f) (hh : ∀ e : Addr, DSs (X.hot e) (fun _ => E0) (b₀ :: suite) fh)
  (hdb : (x == ("__debug__" : Str)) = false := by decide) :
  DS X E (.Try body [.ExceptHandler (some (.Name x np)) (some n) (b₀ :: suite) hpos] [] [] pos) (aDu X.K R i f fh) := by
 refine DS.in ⟨_, aF7 (tb := fun E => tS X.K E f) (th := tS X.K (fun _ => E0) fh) hst hfr hN hi hk hg hm hb hh hdb, fun B G0 G W H σ en Dn hh hs hw => ⟨B, G0, G, W, en, hh, hs, ?_⟩⟩
 unfold aDu at hw
 cases ef : f en with
 | none => rw [ef] at hw; exact hw
 | some o =>
  rw [ef] at hw
  cases o with
  | nx e => exact hw
  | bk e => exact hw
  | ct e => exact hw
  | rt l => exact hw
  | ex C e =>
   intro G1 W1 H1 σ1 h1 s1
   dsimp only at hw
   split at hw
   ·rename_i hx
    refine ⟨hx, fun ea he => ?_⟩
    have st := Step.put (o := xP ea (.ref C)) h1.gh he
    refine ⟨B, G0, upd G1 ea (xP ea (.ref C)), W1, e.set i (some (.x C)), h1.step st, (s1.step st).set ⟨ea, rfl, cJ⟩, ?_⟩
    cases eh : fh (e.set i (some (.x C))) with
    | none => rw [eh] at hw; exact hw
    | some o =>
     rw [eh] at hw
     cases o with
     | nx e' => exact fun G2 W2 H2 σ2 h2 s2 => hw G2 W2 H2 _ h2 (s2.unset i)
     | bk e' => exact fun G2 W2 H2 σ2 h2 s2 => hw G2 W2 H2 _ h2 (s2.unset i)
     | ct e' => exact fun G2 W2 H2 σ2 h2 s2 => hw G2 W2 H2 _ h2 (s2.unset i)
     | rt l => exact hw
     | ex C e' => exact hw.elim
   ·exact hw.elim
end
def bQ : List Ev -> Option (List D)
 | [] => some []
 | r :: rs => match r with
  | .p d => match bQ rs with
   | some ds => some (d :: ds)
   | none => none
  | _ => none
theorem mO {K : PySem.W.Frag} {W : Addr -> Option Nat} {Hs G H : Hp} : ∀ {rs : List Ev} {ds : List D} {vs : List V}, bQ rs = some ds -> EOks K W Hs G H vs rs -> Reps K G vs ds
 | [], _, [], h, _ => by cases h; exact .nil
 | [], _, _ :: _, _, e => e.elim
 | _ :: _, _, [], _, e => e.elim
 | r :: rs, ds, v :: vs, h, e => by
  unfold bQ at h
  cases r with
  | p d =>
   dsimp only at h
   cases er : bQ rs with
   | none => rw [er] at h; cases h
   | some ds' => rw [er] at h; cases h; exact .cons e.1 (mO er e.2)
  | x C => cases h
  | b d => cases h
  | f d => cases h
def aS (rs : List Ev) : Res Ev := match bQ rs with
 | some ds => if ds.length <= 1000 then .ok (.p (.tuple ds)) else .bad
 | none => .bad
def bF (rs : List Ev) : Res Ev := match bQ rs with
 | some ds => if ds.length <= 1000 then .ok (.f (.list ds)) else .bad
 | none => .bad
section
variable {X : Cx} {E : L2.St -> XK} {es : List Expr} {fr : En -> Res (List Ev)} {pos : Pos}
theorem eP {x1} (h : DA X E es fr) : DE X E (.Tuple es x1 pos) (aC aS fr) := by
 obtain ⟨t, q, m⟩ := h.out
 refine DE.in ⟨_, aF3 q, fun B G0 G W H σ en Q hh hs hw => m B G0 G W H σ en _ hh hs ?_⟩
 have hw : wpR ((fr en).bind _) _ _ := hw
 rw [cL] at hw
 refine bU hw (fun rs hr G1 H1 vs s e => ?_) fun C h => h
 unfold aS at hr
 split at hr
 ·rename_i ds el
  have rp := mO el e
  split at hr
  ·rename_i hl
   refine ⟨by rw [rp.length]; exact Nat.le_trans hl (by decide), fun p hp => ?_⟩
   have st := Step.put (o := .tup vs) s.gh hp
   exact hr _ _ _ (s.trans st) (.tup cJ (rp.mono st.g))
  ·exact False.elim hr
 ·exact False.elim hr
theorem nJ (h : DA X E es fr) : DE X E (.List es pos) (aC bF fr) := by
 obtain ⟨t, q, m⟩ := h.out
 refine DE.in ⟨_, aEb q, fun B G0 G W H σ en Q hh hs hw => m B G0 G W H σ en _ hh hs ?_⟩
 have hw : wpR ((fr en).bind _) _ _ := hw
 rw [cL] at hw
 refine bU hw (fun rs hr G1 H1 vs s e => ?_) fun C h => h
 unfold bF at hr
 split at hr
 ·rename_i ds el
  have rp := mO el e
  split at hr
  ·rename_i hl
   refine ⟨by rw [rp.length]; exact Nat.le_trans hl (by decide), fun p hp => ?_⟩
   have st := Step.lay (o := .lst vs) s.gh hp
   exact hr _ _ _ (s.trans st) ⟨p, _, rfl, s.h.free hp, s.gh.free hp, cJ, .lst rp⟩
  ·exact False.elim hr
 ·exact False.elim hr
end
def tU (g : D -> Option (Option D)) : List D -> Option (List D)
 | [] => some []
 | d :: ds => match g d with
  | none => none
  | some o => match tU g ds with
   | none => none
   | some r => some (match o with
    | some y => y :: r
    | none => r)
def aBq (o : Option (Option L)) : Option L := match o with
 | some (some (.p d)) => some (.p d)
 | some (some (.x C)) => some (.x C)
 | _ => none
def yC (js : List Nat) (en : En) : En := js.map fun j => aBq en[j]?
def lQ : En -> Res Bool := fun _ => .ok true
def dU (n : Nat) (js : List Nat) (tg : D -> En -> Option En) (ft : En -> Res Bool) (fe : En -> Res Ev) (en : En) (d : D) : Option (Option D) := match tg d (List.replicate n none ++ yC js en) with
 | none => none
 | some e => match ft e with
  | .ok true => match fe e with
   | .ok r => match r.c with
    | .p y => some (some y)
    | _ => none
   | _ => none
  | .ok false => some none
  | _ => none
def oH (g : D -> Option (Option D)) (ds : List D) : Res Ev := if ds.length <= 100000 then match tU g ds with
  | some r => .ok (.f (.list r))
  | none => .bad
 else .bad
def iB (n : Nat) (js : List Nat) (fi : En -> Res (List D)) (tg : D -> En -> Option En) (ft : En -> Res Bool) (fe : En -> Res Ev) : En -> Res Ev := fun en => (fi en).bind fun ds => oH (dU n js tg ft fe en) ds
def DTs (X : Cx) (ifs : List Expr) (f : En -> Res Bool) : Prop := PTs X ifs (tT X.K (fun _ => E0) f)
theorem aIh {G H : Hp} (h : Same G H) : SimH H G G (fun _ => none) H := ⟨h, Same.refl _, Same.refl _, fun _ hb => .inl hb, fun a i e => nomatch e⟩
theorem aA9 {K : PySem.W.Frag} {W : Addr -> Option Nat} {G H : Hp} {σ : L2.St} {en : En} (n : Nat) (js : List Nat) (h : SimS K W G H σ en) : SimS K (fun _ => none) G H (List.replicate n none ++ uW js σ) (List.replicate n none ++ yC js en) := by
 refine ⟨by unfold uW yC; simp, fun i l e => ?_⟩
 by_cases hi : i < n
 ·rw [List.getElem?_append_left (by rw [List.length_replicate]; exact hi), List.getElem?_replicate] at e
  split at e <;> cases e
 ·rw [List.getElem?_append_right (by rw [List.length_replicate]; omega), List.length_replicate] at e ⊢
  unfold yC at e
  unfold uW
  rw [List.getElem?_map] at e ⊢
  cases ej : js[i - n]? with
  | none => rw [ej] at e; cases e
  | some j =>
   rw [ej] at e
   have e' : aBq en[j]? = some l := Option.some.inj e
   unfold aBq at e'
   split at e'
   ·rename_i d q
    cases e'
    obtain ⟨v, h1, h2⟩ := h.2 j _ q
    exact ⟨v, by show some ((σ[j]?).getD none) = _; rw [h1]; rfl, h2⟩
   ·rename_i d q
    cases e'
    obtain ⟨v, h1, h2⟩ := h.2 j _ q
    exact ⟨v, by show some ((σ[j]?).getD none) = _; rw [h1]; rfl, h2⟩
   ·cases e'
section
variable {X : Cx} {E : L2.St -> XK} {pos : Pos}
theorem j3 : DTs X [] lQ := fun pins s σ H Q I ⟨B, G0, G, W, en, h1, h2, h3⟩ => aCe pins s σ H Q I (h3 G H (Step.refl h1.gh))
theorem aAa {elt iter tg : Expr} {scope : Scope} {ifs : List Expr} {n : Nat} {js ks : List Nat} {fi : En -> Res (List D)} {g : D -> En -> Option En} {ft : En -> Res Bool} {fe : En -> Res Ev} {xs ys : List Str} {cl : List (Str × Addr)} (hc : X.calm = true) (hi : DI X E tg iter fi)
  (hcl : aFs X scope cl) (hcap : p8 X scope cl ys js) (hcell : ∀ y ∈ scope.names, y.2 ≠ .cell) (hkind : scope.kind = .function) (hnames : ∀ y ∈ scope.names, y.2 = .local -> scope.names.lookup y.1 = some .local) (hn : xs.length = n) (hks : ∀ j ∈ ks, j < n)
  (hg : ∀ C s₀ H₀ ex pn, DG (dE X scope cl C (xs ++ ys) s₀ H₀ ex pn) tg ks g) (ht : ∀ C s₀ H₀ ex pn, DTs (dE X scope cl C (xs ++ ys) s₀ H₀ ex pn) ifs ft) (hb : ∀ C s₀ H₀ ex pn, DE (dE X scope cl C (xs ++ ys) s₀ H₀ ex pn) (fun _ => E0) elt fe)
  : ∀ B G0 G W H σ en Q, SimH B G0 G W H -> SimS X.K W G H σ en -> wpR (iB n js fi g ft fe en) (PostE X.K W G H Q) (PostX (E σ) G H) -> x5 (tI X.K E fi) (tG X.K ks g) (tT X.K (fun _ => E0) ft) (tE X.K (fun _ => E0) fe) xs.length js σ H Q := by
 subst hn
 refine fun B G0 G W H σ en Q hh hs hw => ⟨B, G0, G, W, en, hh, hs, ?_⟩
 have hw : wpR ((fi en).bind _) _ _ := hw
 rw [cL] at hw
 refine bU hw (fun ds hds G1 H1 J s1 hJ D hD => ?_) fun C h => h
 unfold oH at hds
 split at hds
 case isFalse => exact hds.elim
 rename_i hlen
 split at hds
 case h_2 => exact hds.elim
 rename_i r em
 have gD : G1 D = none := s1.gh.free hD
 have aHr : ∀ {G2 H2 : Hp} {y : List V}, Step G1 H1 G2 H2 -> G2 D = none -> Step G1 H1 G2 (upd H2 D (.lst y)) := fun st hg2 => by
  refine ⟨st.g, fun b o e => ?_, fun b o e => ?_, st.new⟩
  ·rw [bP (dM e hD)]; exact st.h b o e
  ·rw [bP (dM e hg2)]; exact st.gh b o e
 refine ⟨ds.length, fun i ys H2 => i <= ds.length /\ ys.length <= i /\ ∃ G2 rs rest, Step G1 H1 G2 H2 /\ G2 D = none /\ H2 D = some (.lst ys) /\ Reps X.K G2 ys rs /\ tU (dU xs.length js g ft fe en) (ds.drop i) = some rest /\ rs ++ rest = r,
  ⟨Nat.zero_le _, Nat.zero_le _, G1, [], r, Step.lay s1.gh hD, gD, cJ, .nil, em, rfl⟩, ?_⟩
 rintro i zs H2 ⟨hi, hzl, G2, rs, rest, st, g2, h2, rp, em2, er⟩
 obtain ⟨j1, j2⟩ := hJ G2 H2 st.g st.gh
 by_cases hlt : i < ds.length
 ·refine .inr ⟨hlt, ?_⟩
  obtain ⟨jg, jy⟩ := j1 i ds[i] (List.getElem?_eq_getElem hlt)
  refine ⟨jg, fun v H3 hy => ?_⟩
  obtain ⟨G3, s3, rv⟩ := jy v H3 hy
  rw [List.drop_eq_getElem_cons hlt] at em2
  unfold tU at em2
  cases ec : dU xs.length js g ft fe en ds[i] with
  | none => rw [ec] at em2; cases em2
  | some o =>
   rw [ec] at em2
   dsimp only at em2
   cases em3 : tU (dU xs.length js g ft fe en) (ds.drop (i + 1)) with
   | none => rw [em3] at em2; cases em2
   | some rest' =>
    rw [em3] at em2
    have em2 := Option.some.inj em2
    unfold dU at ec
    split at ec
    ·cases ec
    ·rename_i e eg
     have in3 := aA9 xs.length js (hs.step ((s1.trans st).trans s3))
     refine ⟨G3, fun _ => none, _, ds[i], e, s3.gh, in3, rv, eg, fun σ' hσ hk => ⟨⟨?_, ?_⟩, ?_⟩⟩
     ·rw [hk.1]; unfold uW; simp
     ·refine List.ext_getElem? fun j => ?_
      rw [List.getElem?_drop, hk.2 (xs.length + j) fun z => absurd (hks _ z) (by omega), List.getElem?_append_right (by rw [List.length_replicate]; omega), List.length_replicate]
      congr 1
      omega
     ·refine ⟨_, _, G3, fun _ => none, e, aIh s3.gh, hσ, ?_⟩
      cases et : ft e with
      | bad => rw [et] at ec; cases ec
      | exc C => rw [et] at ec; cases ec
      | ok k =>
       rw [et] at ec
       intro G5 H5 s5
       cases k with
       | false =>
        cases ec
        rw [if_neg Bool.false_ne_true]
        have s25 := s3.trans s5
        exact ⟨hlt, Nat.le_succ_of_le hzl, G5, rs, rest', st.trans s25, s25.off h2 (fun xs z => nomatch z) g2, s25.h _ _ h2, rp.mono s25.g, em3, by rw [<- er, <- em2]⟩
       | true =>
        rw [if_pos rfl]
        refine ⟨_, _, G5, fun _ => none, e, aIh s5.gh, hσ.step s5, ?_⟩
        dsimp only at ec
        cases ee : fe e with
        | bad => rw [ee] at ec; cases ec
        | exc C => rw [ee] at ec; cases ec
        | ok q =>
         rw [ee] at ec
         intro G6 H6 y s6 ey
         obtain ⟨G7, s7, e7⟩ := EOk.c s6 ey
         dsimp only at ec
         split at ec
         ·rename_i y' eq
          cases ec
          rw [eq] at e7
          have s27 := (s3.trans s5).trans s7
          have g7 := s27.off h2 (fun xs z => nomatch z) g2
          refine ⟨s27.h _ _ h2, Nat.lt_of_le_of_lt (Nat.le_trans hzl (Nat.le_trans hi hlen)) (by decide), hlt, by rw [List.length_append]; exact Nat.succ_le_succ hzl, G7, rs ++ [y'], rest', aHr (st.trans s27) g7, g7, cJ, (rp.mono s27.g).append (.cons e7 .nil), em3, ?_⟩
          rw [<- er, <- em2, List.append_assoc]
          rfl
         ·cases ec
 ·have e : i = ds.length := by omega
  subst e
  rw [List.drop_length] at em2
  cases em2
  rw [List.append_nil] at er
  subst er
  exact .inl ⟨j2, hds G2 H2 _ (s1.trans st) ⟨D, _, rfl, s1.h.free hD, g2, h2, .lst rp⟩⟩
theorem jN {elt iter tg : Expr} {scope : Scope} {ifs : List Expr} {n : Nat} {js ks : List Nat} {fi : En -> Res (List D)} {g : D -> En -> Option En} {ft : En -> Res Bool} {fe : En -> Res Ev} {xs ys : List Str} {cl : List (Str × Addr)} (hc : X.calm = true) (hi : DI X E tg iter fi)
  (hcl : aFs X scope cl) (hcap : p8 X scope cl ys js) (hcell : ∀ y ∈ scope.names, y.2 ≠ .cell) (hkind : scope.kind = .function) (hnames : ∀ y ∈ scope.names, y.2 = .local -> scope.names.lookup y.1 = some .local) (hn : xs.length = n) (hks : ∀ j ∈ ks, j < n)
  (hg : ∀ C s₀ H₀ ex pn, DG (dE X scope cl C (xs ++ ys) s₀ H₀ ex pn) tg ks g) (ht : ∀ C s₀ H₀ ex pn, DTs (dE X scope cl C (xs ++ ys) s₀ H₀ ex pn) ifs ft) (hb : ∀ C s₀ H₀ ex pn, DE (dE X scope cl C (xs ++ ys) s₀ H₀ ex pn) (fun _ => E0) elt fe)
  (hs : ∀ x, foldedSetIterable iter X.env x = pure x := by intro _; rfl) : DE X E (.ListComp elt [⟨tg, iter, ifs, 0⟩] scope pos) (iB n js fi g ft fe) :=
 DE.in ⟨_, aBe (xs := xs) (g := tG X.K ks g) (tt := tT X.K (fun _ => E0) ft) (te := tE X.K (fun _ => E0) fe) hc hi hcl hcap hcell hkind hnames hg ht hb hs, aAa hc hi hcl hcap hcell hkind hnames hn hks hg ht hb⟩
end
section
variable {X : Cx} {K : PySem.W.Frag}
def rOr (r r' : R2) : R2 := fun x y H Q => r x y H Q \/ r' x y H Q
theorem OpR.or' {f : Value -> Value -> Sem Value} {r r' : R2} (h : OpR X f r) (h' : OpR X f r') : OpR X f (rOr r r') := OpR.or h h'
def aGd : R2 := fun x y H Q => ∃ l b xs zs, x = .ref l /\ y = .ref b /\ Rd H l (.lst xs) /\ Rd H b (.lst zs) /\ xs.length + zs.length <= sizeLine /\ ∀ p, H p = none -> Q (.ref p) (upd H p (.lst (xs ++ zs)))
theorem aCh : OpR X (binaryOp .Add) aGd := by
 intro pins s σ H x y v u Q I rx ry h
 obtain ⟨l, b, xs, zs, rfl, rfl, hH, hB, hz, q⟩ := h
 cases rx
 cases ry
 obtain ⟨z, its, n, r, e⟩ := hH.ok I.hok
 obtain ⟨z2, its2, n2, r2, e2⟩ := hB.ok I.hok
 have hl := r.length
 have hl2 := r2.length
 refine PySem.P.add_list e e2 ?_ (by rw [List.size_toArray, List.size_toArray]; omega)
 have ea : its.toArray ++ its2.toArray = (its ++ its2).toArray := by simp
 rw [ea]
 exact ⟨.ref _, _, I.lnew (t' := s.toks) (r.append r2) (by rw [List.length_append]; omega), rfl, q _ I.fresh⟩
def aCr : R2 := fun x y H Q => ∃ i j, x = .str i /\ y = .str j /\ i.length + j.length <= sizeLine /\ Q (.str (i ++ j)) H
def bZ : Ev -> Option (List D)
 | .p (.list ds) => some ds
 | .b (.list ds) => some ds
 | _ => none
theorem yX {W : Addr -> Option Nat} {Hs G H : Hp} {v : V} {r : Ev} {ds : List D} (gh : Same G H) (h : EOk K W Hs G H v r) (e : bZ r = some ds) : ∃ a xs, v = .ref a /\ Rd H a (.lst xs) /\ Reps K G xs ds := by
 cases r with
 | p d =>
  cases d with
  | list es =>
   cases e
   cases h with
   | @lst a xs _ h1 h2 => exact ⟨a, xs, rfl, iL gh h1, h2⟩
  | _ => cases e
 | b d =>
  cases d with
  | list es =>
   cases e
   obtain ⟨a, i, o, rfl, h1, h2, h3⟩ := h
   cases h3 with
   | @lst xs _ h4 => exact ⟨a, xs, rfl, .inl h2, h4⟩
  | _ => cases e
 | f d => cases e
 | x C => cases e
def dat : Ev -> Option D
 | .p d => some d
 | .b d => some d
 | _ => none
theorem EOk.read {W : Addr -> Option Nat} {Hs G H : Hp} {v : V} {r : Ev} {d : D} (gh : Same G H) (h : EOk K W Hs G H v r) (e : dat r = some d) : Rep K H v d := by
 cases r with
 | p d => cases e; exact Rep.mono gh h
 | b d =>
  cases e
  obtain ⟨a, i, o, rfl, h1, h2, h3⟩ := h
  exact (h3.mono gh).rep h2
 | f d => cases e
 | x C => cases e
open Classical in
noncomputable def d9 (C : Int -> Int -> Prop) (g : Int -> Int -> D) (x y : Ev) : Res Ev := match x, y with
 | .p (.int i), .p (.int j) => if C i j then .ok (.p (g i j)) else .bad
 | _, _ => .bad
def bC (g : Int -> Int -> D) (x y : Ev) : Res Ev := match x, y with
 | .p (.int i), .p (.int j) => .ok (.p (g i j))
 | _, _ => .bad
theorem aG {C : Int -> Int -> Prop} {g : Int -> Int -> D} : NoX (d9 C g) := by
 intro x y A h
 unfold d9 at h
 split at h
 ·split at h <;> cases h
 ·cases h
theorem bG {g : Int -> Int -> D} : NoX (bC g) := by
 intro x y A h
 unfold bC at h
 split at h <;> cases h
theorem uZ {C : Int -> Int -> Prop} {g : Int -> Int -> D} {gv : Int -> Int -> V} (hg : ∀ G i j, Rep K G (gv i j) (g i j)) : OpM K (rI C gv) (d9 C g) := by
 intro W G H v u x y Q gh hx hy hw
 unfold d9 at hw
 split at hw
 ·rename_i i j e1 e2
  rw [e1] at hx; rw [e2] at hy
  cases hx; cases hy
  split at hw
  ·rename_i hc
   exact ⟨i, j, rfl, rfl, hc, hw G H _ (Step.refl gh) (hg G i j)⟩
  ·exact hw.elim
 ·exact hw.elim
theorem xR {g : Int -> Int -> D} {gv : Int -> Int -> V} (hg : ∀ G i j, Rep K G (gv i j) (g i j)) : OpM K (rI0 gv) (bC g) := by
 intro W G H v u x y Q gh hx hy hw
 unfold bC at hw
 split at hw
 ·rename_i i j e1 e2
  rw [e1] at hx; rw [e2] at hy
  cases hx; cases hy
  exact ⟨i, j, rfl, rfl, hw G H _ (Step.refl gh) (hg G i j)⟩
 ·exact hw.elim
noncomputable abbrev jK : Ev -> Ev -> Res Ev := d9 CMulW fun i j => .int (i * j)
noncomputable abbrev dY : Ev -> Ev -> Res Ev := d9 mR fun i j => .int (i.fdiv j)
noncomputable abbrev eQ : Ev -> Ev -> Res Ev := d9 (fun _ j => j ≠ 0) fun i j => .int (i.fmod j)
noncomputable abbrev sW : Ev -> Ev -> Res Ev := d9 aD3 fun i j => .int (i ^ j.toNat)
abbrev xX : Ev -> Ev -> Res Ev := bC fun i j => .int (i - j)
abbrev ltE : Ev -> Ev -> Res Ev := bC fun i j => .bool (decide (i < j))
abbrev gtE : Ev -> Ev -> Res Ev := bC fun i j => .bool (decide (j < i))
theorem eO : OpM K (rI CMulW fun i j => .int (i * j)) jK := uZ fun _ _ _ => .int _
theorem eI : OpM K (rI mR fun i j => .int (i.fdiv j)) dY := uZ fun _ _ _ => .int _
theorem cZ : OpM K (rI (fun _ j => j ≠ 0) fun i j => .int (i.fmod j)) eQ := uZ fun _ _ _ => .int _
theorem mF : OpM K (rI aD3 fun i j => .int (i ^ j.toNat)) sW := uZ fun _ _ _ => .int _
theorem rJ : OpM K (rI0 fun i j => .int (i - j)) xX := xR fun _ _ _ => .int _
def dI (x y : Ev) : Res Ev := match x, y with
 | .p (.int i), .p (.int j) => .ok (.p (.int (i + j)))
 | .p (.str i), .p (.str j) => if i.length + j.length <= 100000 then .ok (.p (.str (i ++ j))) else .bad
 | x, y => match bZ x, bZ y with
  | some ds, some es => if ds.length + es.length <= 100000 then .ok (.f (.list (ds ++ es))) else .bad
  | _, _ => .bad
theorem fF : NoX dI := by
 intro x y A h
 unfold dI at h
 split at h
 ·cases h
 ·split at h <;> cases h
 ·split at h
  ·split at h <;> cases h
  ·cases h
abbrev aFi : R2 := rOr (rI0 fun i j => .int (i + j)) (rOr aCr aGd)
theorem fG : OpR X (binaryOp .Add) aFi := OpR.or' aFv (OpR.or' vV aCh)
theorem gW : OpM K aFi dI := by
 intro W G H v u x y Q gh hx hy hw
 unfold dI at hw
 split at hw
 ·rename_i i j e1 e2
  rw [e1] at hx; rw [e2] at hy
  cases hx; cases hy
  exact .inl ⟨i, j, rfl, rfl, hw G H _ (Step.refl gh) (.int _)⟩
 ·rename_i i j e1 e2
  rw [e1] at hx; rw [e2] at hy
  cases hx; cases hy
  split at hw
  ·rename_i hl
   exact .inr (.inl ⟨i, j, rfl, rfl, Nat.le_trans hl (by decide), hw G H _ (Step.refl gh) (.str _)⟩)
  ·exact hw.elim
 ·split at hw
  ·rename_i ds es e1 e2
   obtain ⟨a, xs, rfl, h1, h2⟩ := yX gh hx e1
   obtain ⟨b, ys, rfl, h3, h4⟩ := yX gh hy e2
   split at hw
   ·rename_i hl
    refine .inr (.inr ⟨a, b, xs, ys, rfl, rfl, h1, h3, by rw [h2.length, h4.length]; exact Nat.le_trans hl (by decide), fun p hp => ?_⟩)
    exact hw _ _ _ (Step.lay gh hp) ⟨p, _, rfl, hp, gh.free hp, cJ, .lst (h2.append h4)⟩
   ·exact hw.elim
  ·exact hw.elim
theorem fT {p : Int -> Int -> Bool} : OpM K (rI0 fun i j => .bl (p i j)) (bC fun i j => .bool (p i j)) := xR fun _ _ _ => .bl _
mutual
theorem Rep.reads {P : Program} {w : World} {H : Hp} {h : Heap} (ok : HOk P w H h) : ∀ {v : V} {d : D}, Rep K H v d -> d.canLay0 = true -> ∀ {u : Value}, RelV v u -> ∃ as, Reads h u d as
 | _, _, .non, _, _, e => by cases e; exact ⟨_, Reads.none⟩
 | _, _, .bl b, _, _, e => by cases e; exact ⟨_, Reads.bool b⟩
 | _, _, .int i, _, _, ⟨t, e⟩ => by subst e; exact ⟨_, Reads.int i t⟩
 | _, _, .str i, _, _, ⟨t, e⟩ => by subst e; exact ⟨_, Reads.str i t⟩
 | _, _, .tup hh r, hc, _, e => by
  have e : _ = Value.ref _ := e
  subst e
  obtain ⟨_, its, rv, o, ho, hcl, n, hd⟩ := (show ObjOk P w H h _ _ from ok _ _ hh)
  obtain ⟨as, q⟩ := Reps.reads ok r (by simpa [PyData.canLay0] using hc) rv
  exact ⟨as, reads_tuple_at ho hcl hd (by simpa using q)⟩
 | _, _, .lst hh r, hc, _, e => by
  have e : _ = Value.ref _ := e
  subst e
  obtain ⟨_, its, n, rv, ho⟩ := hh.ok ok
  obtain ⟨as, q⟩ := Reps.reads ok r (by simpa [PyData.canLay0] using hc) rv
  exact ⟨_, reads_list_at ho rfl rfl (by simpa using q)⟩
 | _, _, .dT _ _, hc, _, _ => by simp [PyData.canLay0] at hc
 | _, _, .dK _ _, hc, _, _ => by simp [PyData.canLay0] at hc
theorem Reps.reads {P : Program} {w : World} {H : Hp} {h : Heap} (ok : HOk P w H h) : ∀ {vs : List V} {ds : List D}, Reps K H vs ds -> PyData.canLayAll0 ds = true -> ∀ {us : List Value}, Vals vs us -> ∃ as, ReadsAll h us ds as
 | _, _, .nil, _, _, .nil => ⟨_, ReadsAll.nil⟩
 | _, _, .cons hd r, hc, _, .cons rv rt => by
  simp only [PyData.canLayAll0, Bool.and_eq_true] at hc
  obtain ⟨as, q⟩ := Rep.reads ok hd hc.1 rv
  obtain ⟨bs, p⟩ := Reps.reads ok r hc.2 rt
  exact ⟨_, ReadsAll.cons q p⟩
end
def aHl (K : PySem.W.Frag) (ng : Bool) : R2 := fun x y H Q => ∃ d e, Rep K H x d /\ Rep K H y e /\ SeqAt.shaped d = true /\ SeqAt.shaped e = true /\ Q (.bl (if ng then !PyData.eqv d e else PyData.eqv d e)) H
theorem gU {K : PySem.W.Frag} (hu : X.A.units + 64 < cLine) : OpR X (compareOp .Eq) (aHl K false) := by
 intro pins s σ H x y v u Q I rx ry h
 obtain ⟨d, e, h1, h2, o1, o2, q⟩ := h
 obtain ⟨as, r1⟩ := h1.reads I.hok (Bool.and_eq_true_iff.mp o1).1 rx
 obtain ⟨bs, r2⟩ := h2.reads I.hok (Bool.and_eq_true_iff.mp o2).1 ry
 exact eq_dataH r1 r2 o1 o2 hu ⟨.bl _, H, I, rfl, q⟩
theorem rR {K : PySem.W.Frag} (hu : X.A.units + 64 < cLine) : OpR X (compareOp .NotEq) (aHl K true) := by
 intro pins s σ H x y v u Q I rx ry h
 obtain ⟨d, e, h1, h2, o1, o2, q⟩ := h
 obtain ⟨as, r1⟩ := h1.reads I.hok (Bool.and_eq_true_iff.mp o1).1 rx
 obtain ⟨bs, r2⟩ := h2.reads I.hok (Bool.and_eq_true_iff.mp o2).1 ry
 exact ne_dataH r1 r2 o1 o2 hu ⟨.bl _, H, I, rfl, q⟩
def eqE (ng : Bool) (x y : Ev) : Res Ev := match dat x, dat y with
 | some d, some e => if SeqAt.shaped d = true /\ SeqAt.shaped e = true then .ok (.p (.bool (if ng then !PyData.eqv d e else PyData.eqv d e))) else .bad
 | _, _ => .bad
theorem fC {ng : Bool} : NoX (eqE ng) := by
 intro x y A h
 unfold eqE at h
 split at h
 ·split at h <;> cases h
 ·cases h
theorem iG {ng : Bool} : OpM K (aHl K ng) (eqE ng) := by
 intro W G H v u x y Q gh hx hy hw
 unfold eqE at hw
 split at hw
 ·rename_i d e e1 e2
  split at hw
  ·rename_i hs
   exact ⟨d, e, hx.read gh e1, hy.read gh e2, hs.1, hs.2, hw G H _ (Step.refl gh) (.bl _)⟩
  ·exact hw.elim
 ·exact hw.elim
def vU (ng : Bool) (x : Ev) : Res Ev := match x with
 | .p .none => .ok (.p (.bool (!ng)))
 | .p _ => .ok (.p (.bool ng))
 | .b _ => .ok (.p (.bool ng))
 | _ => .bad
def mUn (op : Ev -> Res Ev) (fa : En -> Res Ev) : En -> Res Ev := fun en => (fa en).bind fun x => op x.c
variable {E : L2.St -> XK} {a b : Expr} {fa fb : En -> Res Ev} {pos : Pos}
theorem oU {ng : Bool} {W : Addr -> Option Nat} {G H : Hp} {v : V} {x : Ev} {Q : VK} (gh : Same G H) (hx : EOk K W H G H v x.c) {EE : XK} (hw : wpR (vU ng x.c) (PostE K W G H Q) (PostX EE G H)) : Q (.bl (if ng then !decide (v = .non) else decide (v = .non))) H := by
 unfold vU at hw
 split at hw
 ·rename_i e
  rw [e] at hx
  cases hx
  have z := hw G H _ (Step.refl gh) (.bl _)
  cases ng <;> exact z
 ·rename_i d e e2
  rw [e2] at hx
  have nv : v ≠ .non := by
   intro z
   subst z
   have hx : Rep K G V.non d := hx
   cases hx
   exact e rfl
  have z := hw G H _ (Step.refl gh) (.bl _)
  rw [decide_eq_false nv]
  cases ng <;> exact z
 ·rename_i d e
  rw [e] at hx
  obtain ⟨a, i, o, rfl, h1⟩ := hx
  have z := hw G H _ (Step.refl gh) (.bl _)
  cases ng <;> exact z
 ·exact hw.elim
theorem aD5 {j pos'} (ha : DE X E a fa) : DE X E (.Compare a [.Is] [.Constant .none j pos'] pos) (mUn (vU false) fa) := by
 obtain ⟨t, p, m⟩ := ha.out
 refine DE.in ⟨_, aEp (aBy p), fun B G0 G W H σ en Q hh hs hw => m B G0 G W H σ en _ hh hs (DE.go hw fun x G1 H1 v s1 e1 h1 => ?_)⟩
 exact oU (ng := false) s1.gh e1.cc h1
theorem aFh {j pos'} (ha : DE X E a fa) : DT X E (.Compare a [.Is] [.Constant .none j pos'] pos) (a6 (mUn (vU false) fa)) := by
 obtain ⟨t, p, m⟩ := ha.out
 refine DT.in ⟨_, yH (aBy p), fun B G0 G W H σ en Q hh hs hw => ?_⟩
 have k := (aD5 (pos := pos) (j := j) (pos' := pos') ha)
 refine j5 (t := aH8 t) (fa := mUn (vU false) fa) (E := E) (X := X) (fun B G0 G W H σ en Q hh hs hw => m B G0 G W H σ en _ hh hs (DE.go hw fun x G1 H1 v s1 e1 h1 => oU (ng := false) s1.gh e1.cc h1)) B G0 G W H σ en Q hh hs hw
theorem aCw {j pos'} (ha : DE X E a fa) : DT X E (.Compare a [.IsNot] [.Constant .none j pos'] pos) (a6 (mUn (vU true) fa)) := by
 obtain ⟨t, p, m⟩ := ha.out
 refine DT.in ⟨_, yH (aC8 p), fun B G0 G W H σ en Q hh hs hw => ?_⟩
 refine j5 (t := aE4 t) (fa := mUn (vU true) fa) (E := E) (X := X) (fun B G0 G W H σ en Q hh hs hw => m B G0 G W H σ en _ hh hs (DE.go hw fun x G1 H1 v s1 e1 h1 => oU (ng := true) s1.gh e1.cc h1)) B G0 G W H σ en Q hh hs hw
def eR (x : Ev) : Res Ev := match x with
 | .p (.int i) => .ok (.p (.int (-i)))
 | _ => .bad
theorem y1 (ha : DE X E a fa) : DE X E (.UnaryOp .USub a pos) (mUn eR fa) := by
 obtain ⟨t, p, m⟩ := ha.out
 refine DE.in ⟨_, aHm aGj p, fun B G0 G W H σ en Q hh hs hw => m B G0 G W H σ en _ hh hs (DE.go hw fun x G1 H1 v s1 e1 h1 => ?_)⟩
 unfold eR at h1
 split at h1
 ·rename_i i e
  rw [e] at e1
  cases e1
  exact ⟨i, rfl, h1 G1 H1 _ (Step.refl s1.gh) (.int _)⟩
 ·exact h1.elim
def dS : Ev -> Option (List D)
 | .p (.list ds) => some ds
 | .b (.list ds) => some ds
 | .p (.tuple ds) => some ds
 | _ => none
def ixE (x y : Ev) : Res Ev := match y with
 | .p (.int i) => match dS x with
  | some ds => match atI ds i with
   | some d => .ok (.p d)
   | none => .bad
  | none => .bad
 | _ => .bad
theorem aFb : NoX ixE := by
 intro x y A h
 unfold ixE at h
 split at h
 ·split at h
  ·split at h <;> cases h
  ·cases h
 ·cases h
theorem tO {G : Hp} {xs : List V} {ds : List D} {i : Int} {d : D} (r : Reps K G xs ds) (h : atI ds i = some d) : ∃ x, atI xs i = some x /\ Rep K G x d := by
 unfold atI at h ⊢
 rw [r.length]
 cases e : ixN ds.length i with
 | none => rw [e] at h; cases h
 | some j =>
  rw [e] at h
  exact r.get' h
def aIi (K : PySem.W.Frag) : R2 := fun x y H Q => aIa K x y H Q \/ aIf K x y H Q
theorem aIp : IxR X (aIi X.K) := ix_list.or aEs
theorem aG4 : OpM K (aIi K) ixE := by
 intro W G H v u x y Q gh hx hy hw
 unfold ixE at hw
 split at hw
 ·rename_i i ey
  rw [ey] at hy
  cases hy
  split at hw
  ·rename_i ds ed
   split at hw
   ·rename_i d ea
    cases ex : x.c with
    | p dd =>
     rw [ex] at ed hx
     cases dd with
     | list es =>
      cases ed
      cases hx with
      | @lst a xs _ h1 h2 =>
       obtain ⟨z, h3, h4⟩ := tO h2 ea
       exact .inl ⟨a, xs, i, z, rfl, rfl, .inl (iL gh h1), h3, hw G H _ (Step.refl gh) h4⟩
     | tuple es =>
      cases ed
      cases hx with
      | @tup a xs _ h1 h2 =>
       obtain ⟨z, h3, h4⟩ := tO h2 ea
       exact .inr ⟨a, xs, i, z, rfl, rfl, SqT.of (gh _ _ h1), h3, hw G H _ (Step.refl gh) h4⟩
     | _ => cases ed
    | b dd =>
     rw [ex] at ed hx
     cases dd with
     | list es =>
      cases ed
      obtain ⟨a, k, o, rfl, h1, h2, h3⟩ := hx
      cases h3 with
      | @lst xs _ h4 =>
       obtain ⟨z, h5, h6⟩ := tO h4 ea
       exact .inl ⟨a, xs, i, z, rfl, rfl, .inl (.inl h2), h5, hw G H _ (Step.refl gh) h6⟩
     | _ => cases ed
    | f dd => rw [ex] at ed; cases ed
    | x C => rw [ex] at ed; cases ed
   ·exact hw.elim
  ·exact hw.elim
 ·exact hw.elim
theorem cI (ha : DE X E a fa) (hb : DE X E b fb) (hs : y4 b) : DE X E (.Subscript a b pos) (aF ixE fa fb) := by
 obtain ⟨ta, pa, ma⟩ := ha.out
 obtain ⟨tb, pb, mb⟩ := hb.out
 exact DE.in ⟨_, aG0 aIp pa pb hs, oS ma mb aG4 aFb⟩
def cV (rs : List Ev) : Res Ev := match rs with
 | [x] => match dS x with
  | some ds => .ok (.p (.int ds.length))
  | none => .bad
 | _ => .bad
theorem gY : xU cV := by
 intro rs C h
 unfold cV at h
 split at h
 ·split at h <;> cases h
 ·cases h
theorem jJ : nK K (fun xs H Q => ∃ p ys, xs = [.ref p] /\ (SqL K H p ys \/ SqT K H p ys) /\ Q (.int ys.length) H) cV := by
 intro W Hs G H vs rs Q gh he hw
 unfold cV at hw
 split at hw
 ·rename_i x
  match vs, he with
  | [v], ⟨h1, _⟩ =>
   split at hw
   ·rename_i ds ed
    cases x with
    | p dd =>
     cases dd with
     | list es =>
      cases ed
      cases h1 with
      | @lst a xs _ k1 k2 => exact ⟨a, xs, rfl, .inl (.inl (iL gh k1)), by rw [k2.length]; exact hw G H _ (Step.refl gh) (.int _)⟩
     | tuple es =>
      cases ed
      cases h1 with
      | @tup a xs _ k1 k2 => exact ⟨a, xs, rfl, .inr (SqT.of (gh _ _ k1)), by rw [k2.length]; exact hw G H _ (Step.refl gh) (.int _)⟩
     | _ => cases ed
    | b dd =>
     cases dd with
     | list es =>
      cases ed
      obtain ⟨a, k, o, rfl, k1, k2, k3⟩ := h1
      cases k3 with
      | @lst xs _ k4 => exact ⟨a, xs, rfl, .inl (.inl (.inl k2)), by rw [k4.length]; exact hw G H _ (Step.refl gh) (.int _)⟩
     | _ => cases ed
    | f dd => cases ed
    | x C => cases ed
   ·exact hw.elim
 ·exact hw.elim
def zT (rs : List Ev) : Res Ev := match rs with
 | [.p (.int i)] => .ok (.p (.int (if i < 0 then -i else i)))
 | _ => .bad
theorem pM : xU zT := by
 intro rs C h
 unfold zT at h
 split at h <;> cases h
theorem uQ : nK K (fun xs H Q => ∃ i, xs = [.int i] /\ Q (.int (if i < 0 then -i else i)) H) zT := by
 intro W Hs G H vs rs Q gh he hw
 unfold zT at hw
 split at hw
 ·rename_i i
  match vs, he with
  | [v], ⟨h1, _⟩ => cases h1; exact ⟨i, rfl, hw G H _ (Step.refl gh) (.int _)⟩
 ·exact hw.elim
def aCd (f : Int -> Int -> Int) (rs : List Ev) : Res Ev := match rs with
 | [.p (.int i), .p (.int j)] => .ok (.p (.int (f i j)))
 | _ => .bad
theorem aDy {f : Int -> Int -> Int} : xU (aCd f) := by
 intro rs C h
 unfold aCd at h
 split at h <;> cases h
theorem aEn {f : Int -> Int -> Int} : nK K (fun xs H Q => ∃ i j, xs = [.int i, .int j] /\ Q (.int (f i j)) H) (aCd f) := by
 intro W Hs G H vs rs Q gh he hw
 unfold aCd at hw
 split at hw
 ·rename_i i j
  match vs, he with
  | [v, u], ⟨h1, h2, _⟩ => cases h1; cases h2; exact ⟨i, j, rfl, hw G H _ (Step.refl gh) (.int _)⟩
 ·exact hw.elim
def zY (f : Int -> Int -> Int) (rs : List Ev) : Res Ev := match rs with
 | [.p (.tuple [.int i, .int j])] => .ok (.p (.int (f i j)))
 | _ => .bad
theorem w8 {f : Int -> Int -> Int} : xU (zY f) := by
 intro rs C h
 unfold zY at h
 split at h <;> cases h
theorem aB2 {f : Int -> Int -> Int} : nK K (tM K f) (zY f) := by
 intro W Hs G H vs rs Q gh he hw
 unfold zY at hw
 split at hw
 ·rename_i i j
  match vs, he with
  | [v], ⟨h1, _⟩ =>
   cases h1 with
   | @tup a xs _ k1 k2 =>
    cases k2 with
    | cons r1 k2 =>
     cases k2 with
     | cons r2 k2 =>
      cases k2
      cases r1
      cases r2
      exact ⟨a, i, j, rfl, SqT.of (gh _ _ k1), hw G H _ (Step.refl gh) (.int _)⟩
 ·exact hw.elim
def pG : List D -> Option (List Bool)
 | [] => some []
 | .bool b :: ds => match pG ds with
  | some bs => some (b :: bs)
  | none => none
 | _ => none
theorem tY {G : Hp} : ∀ {ds : List D} {bs : List Bool} {xs : List V}, pG ds = some bs -> Reps K G xs ds -> xs = bs.map V.bl
 | [], _, _, h, .nil => by cases h; rfl
 | d :: ds, bs, _, h, .cons r t => by
  cases d with
  | bool b =>
   unfold pG at h
   cases e : pG ds with
   | none => rw [e] at h; cases h
   | some bs' =>
    rw [e] at h
    cases h
    cases r
    rw [tY e t]
    rfl
  | _ => cases h
def aDg (rs : List Ev) : Res Ev := match rs with
 | [x] => match bZ x with
  | some ds => match pG ds with
   | some bs => .ok (.p (.bool (bs.any id)))
   | none => .bad
  | none => .bad
 | _ => .bad
theorem aDv : xU aDg := by
 intro rs C h
 unfold aDg at h
 split at h
 ·split at h
  ·split at h <;> cases h
  ·cases h
 ·cases h
theorem aEi : nK K (aIj K) aDg := by
 intro W Hs G H vs rs Q gh he hw
 unfold aDg at hw
 split at hw
 ·rename_i x
  match vs, he with
  | [v], ⟨h1, _⟩ =>
   split at hw
   ·rename_i ds ed
    obtain ⟨a, xs, rfl, k1, k2⟩ := yX gh h1 ed
    split at hw
    ·rename_i bs eb
     have := tY eb k2
     subst this
     exact ⟨a, bs, rfl, .inl k1, hw G H _ (Step.refl gh) (.bl _)⟩
    ·exact hw.elim
   ·exact hw.elim
 ·exact hw.elim
def listE (rs : List Ev) : Res Ev := match rs with
 | [x] => match dS x with
  | some ds => .ok (.f (.list ds))
  | none => .bad
 | _ => .bad
theorem uB : xU listE := by
 intro rs C h
 unfold listE at h
 split at h
 ·split at h <;> cases h
 ·cases h
theorem wF : nK K (fun xs H Q => ∃ p ys, xs = [.ref p] /\ (SqL K H p ys \/ SqT K H p ys) /\ ∀ l, H l = none -> Q (.ref l) (upd H l (.lst ys))) listE := by
 intro W Hs G H vs rs Q gh he hw
 unfold listE at hw
 split at hw
 ·rename_i x
  match vs, he with
  | [v], ⟨h1, _⟩ =>
   split at hw
   ·rename_i ds ed
    have fin : ∀ {xs : List V}, Reps K G xs ds -> ∀ l, H l = none -> Q (.ref l) (upd H l (.lst xs)) := fun r l hl =>
     hw _ _ _ (Step.lay gh hl) ⟨l, _, rfl, hl, gh.free hl, cJ, .lst r⟩
    cases x with
    | p dd =>
     cases dd with
     | list es =>
      cases ed
      cases h1 with
      | @lst a xs _ k1 k2 => exact ⟨a, xs, rfl, .inl (.inl (iL gh k1)), fin k2⟩
     | tuple es =>
      cases ed
      cases h1 with
      | @tup a xs _ k1 k2 => exact ⟨a, xs, rfl, .inr (SqT.of (gh _ _ k1)), fin k2⟩
     | _ => cases ed
    | b dd =>
     cases dd with
     | list es =>
      cases ed
      obtain ⟨a, k, o, rfl, k1, k2, k3⟩ := h1
      cases k3 with
      | @lst xs _ k4 => exact ⟨a, xs, rfl, .inl (.inl (.inl k2)), fin k4⟩
     | _ => cases ed
    | f dd => cases ed
    | x C => cases ed
   ·exact hw.elim
 ·exact hw.elim
def tyD : D -> String
 | .none => "NoneType"
 | .bool _ => "bool"
 | .int _ => "int"
 | .str _ => "str"
 | .list _ => "list"
 | .tuple _ => "tuple"
 | .dict _ => "dict"
def lD (K : PySem.W.Frag) (c : Value) (x : Ev) : Res Ev := match dat x with
 | some d => match PySem.W.kitOne K (.type (tyD d)) c with
  | some b => .ok (.p (.bool b))
  | none => .bad
 | none => .bad
open Classical in
noncomputable def kF (K : PySem.W.Frag) (c : Value) (x : Ev) : Res Ev := match x with
 | .x C => if PySem.W.ExcK K C then match PySem.W.kitOne K (.ref C) c with
   | some b => .ok (.p (.bool b))
   | none => .bad
  else .bad
 | _ => .bad
theorem aFk {H : Hp} {v : V} {d : D} (h : Rep K H v d) : tZ K H v (.type (tyD d)) := by
 cases h with
 | non => exact .non
 | bl b => exact .bl b
 | int i => exact .int i
 | str i => exact .str i
 | tup h _ => exact .tup h
 | lst h _ =>
  rcases h with h | ⟨o, h⟩
  ·exact .lst h
  ·exact .frz h
 | dT h _ => exact .dT h
 | dK h _ => exact .dK h
theorem nH {e c : Expr} {v : V} {cv : Value} {p : Pos} (hg : Gl X "isinstance") (hm : X.mg "isinstance" = none) (hv : (∃ n, v = .ty n) \/ ∃ a, v = .ref a) (hr : RelV v cv) (he : DE X E e fa) (hc : PE X c (tC v))
  (h1 : starEach [e, c] X.env = (false, eval e X.env) :: starEach [c] X.env := by rfl) (h2 : (backTo pos (starEach [c] X.env)).any (·.1) = false := by rfl) (h3 : starEach [c] X.env = (false, eval c X.env) :: starEach [] X.env := by rfl) :
  DE X E (.Call (.Name "isinstance" p) [e, c] [] pos) (mUn (lD X.K cv) fa) := by
 obtain ⟨t, q, m⟩ := he.out
 refine DE.in ⟨_, aBm hg hm q hc h1 h2 h3, fun B G0 G W H σ en Q hh hs hw => m B G0 G W H σ en _ hh hs (DE.go hw fun x G1 H1 u s1 e1 k1 => ?_)⟩
 unfold lD at k1
 split at k1
 ·rename_i d ed
  split at k1
  ·rename_i b eb
   exact ⟨u, v, .type (tyD d), cv, b, rfl, hv, .plain (aFk (EOk.read s1.gh e1 ed)), hr, eb, k1 G1 H1 _ (Step.refl s1.gh) (.bl _)⟩
  ·exact k1.elim
 ·exact k1.elim
theorem gH {e c : Expr} {v : V} {cv : Value} {p : Pos} (hg : Gl X "isinstance") (hm : X.mg "isinstance" = none) (hv : (∃ n, v = .ty n) \/ ∃ a, v = .ref a) (hr : RelV v cv) (he : DE X E e fa) (hc : PE X c (tC v))
  (h1 : starEach [e, c] X.env = (false, eval e X.env) :: starEach [c] X.env := by rfl) (h2 : (backTo pos (starEach [c] X.env)).any (·.1) = false := by rfl) (h3 : starEach [c] X.env = (false, eval c X.env) :: starEach [] X.env := by rfl) :
  DE X E (.Call (.Name "isinstance" p) [e, c] [] pos) (mUn (kF X.K cv) fa) := by
 obtain ⟨t, q, m⟩ := he.out
 refine DE.in ⟨_, aBm hg hm q hc h1 h2 h3, fun B G0 G W H σ en Q hh hs hw => m B G0 G W H σ en _ hh hs (DE.go hw fun x G1 H1 u s1 e1 k1 => ?_)⟩
 unfold kF at k1
 split at k1
 ·rename_i C ed
  split at k1
  ·rename_i hex
   split at k1
   ·rename_i b eb
    rw [ed] at e1
    obtain ⟨ea, rfl, z⟩ := e1
    exact ⟨_, v, .ref C, cv, b, rfl, hv, .exc (s1.gh _ _ z) hex, hr, eb, k1 G1 H1 _ (Step.refl s1.gh) (.bl _)⟩
   ·exact k1.elim
  ·exact k1.elim
 ·exact k1.elim
end
section
variable {P : Program} {w : World} {K : PySem.W.Frag} {mg : Str -> Option Value} {base : Heap}
structure Def (K : PySem.W.Frag) (mg : Str -> Option Value) (x : Str) (ps : List Str) (st : Stmt) : Prop where
 ex : ∃ f fd, Fun K x x st f fd /\ Binds K fd ps [] /\ PySem.W.keepIn K (.ref f) = true /\ mg x = some (.ref f)
structure Cal (P : Program) (w : World) (K : PySem.W.Frag) (mg : Str -> Option Value) (base : Heap) (k : Nat) (x : Str) (n : Nat) (m : List L -> Res L) : Prop where
 ex : ∃ f fd ps, FnOk P w K mg base (CXr P w) k f fd ps (spM K n m) /\ Binds K fd ps [] /\ PySem.W.keepIn K (.ref f) = true /\ mg x = some (.ref f)
structure aGa (P : Program) (w : World) (K : PySem.W.Frag) (mg : Str -> Option Value) (base : Heap) (k : Nat) (x : Str) (n : Nat) (m : List L -> Res L) : Prop where
 ex : ∃ f fd ps, y0 P w K mg base k f fd ps (spM K n m) /\ Binds K fd ps [] /\ PySem.W.keepIn K (.ref f) = true /\ mg x = some (.ref f)
theorem kP {x : Str} {st : Stmt} {N ps : List Str} {k n : Nat} {m : List L -> Res L} (Df : Def K mg x ps st) (S : a9 N ps (aJ st)) (hn : n = ps.length)
  (hbody : ∀ (f : Addr) (cdv : Value) (A : Around) (outer : List Env) (s : Shared) (H : Hp) (E : XK), Room k (A.deeper (envOfC x (aJ st) s.heap.objs.size f cdv)) ->
   ∃ fm, DSs (lL (CXr P w) P w K mg base N x (aJ st) f cdv A outer s H E) (fun _ => E) (d8 st) fm /\ ∀ ls, m ls = .bad \/ d4 N.length fm ls = m ls) : Cal P w K mg base (k + 1) x n m := by
 obtain ⟨f, fd, F, b, kp, h⟩ := Df.ex
 exact ⟨f, fd, ps, fnM F S hn fun cdv A outer s H E hr => hbody f cdv A outer s H E hr, b, kp, h⟩
theorem aH0 {x : Str} {st : Stmt} {N ps : List Str} {k n : Nat} {m : List L -> Res L} (Df : Def K mg x ps st) (S : a9 N ps (aJ st)) (hn : n = ps.length)
  (hbody : ∀ (f : Addr) (cdv : Value) (A : Around) (outer : List Env) (s : Shared) (H : Hp), RoomQ k (A.deeper (envOfC x (aJ st) s.heap.objs.size f cdv)) ->
   ∃ fm, DSs (lL CX0 P w K mg base N x (aJ st) f cdv A outer s H E0).quiet (fun _ => E0) (d8 st) fm /\ ∀ ls, m ls = .bad \/ d4 N.length fm ls = m ls) : aGa P w K mg base (k + 1) x n m := by
 obtain ⟨f, fd, F, b, kp, h⟩ := Df.ex
 exact ⟨f, fd, ps, aI0 F S hn fun cdv A outer s H hr => hbody f cdv A outer s H hr, b, kp, h⟩
end
section
variable {X : Cx} {E : L2.St -> XK} {k j : Nat} {x : Str} {p pos : Pos} {e : Expr} {es : List Expr} {fr : En -> Res (List Ev)} {n : Nat} {m : List L -> Res L}
theorem aN (c : Cal X.prog X.w X.K X.mg X.base j x n m) (hr : Room k X.A) (hx : jY (CXr X.prog X.w) X E) (ha : DA X E (e :: es) fr) (hg : Gl X x := by rfl) (hjk : j <= k := by decide) (hdb : (x == ("__debug__" : Str)) = false := by decide)
  (he : starEach (e :: es) X.env = (false, eval e X.env) :: starEach es X.env := by rfl) (hpl : (backTo pos (starEach es X.env)).any (·.1) = false := by rfl) :
  DE X E (.Call (.Name x p) (e :: es) [] pos) (aK n m fr) := by
 obtain ⟨f, fd, ps, F, b, kp, h⟩ := c.ex
 exact aCl (F.mono hjk) hr hg h kp b hx ha hdb he hpl
theorem yP (c : aGa X.prog X.w X.K X.mg X.base k x n m) (hr : RoomQ k X.A) (ha : DA X (fun _ => E0) (e :: es) fr) (hg : Gl X x := by rfl) (hdb : (x == ("__debug__" : Str)) = false := by decide)
  (he : starEach (e :: es) X.env = (false, eval e X.env) :: starEach es X.env := by rfl) (hpl : (backTo pos (starEach es X.env)).any (·.1) = false := by rfl) :
  DE X (fun _ => E0) (.Call (.Name x p) (e :: es) [] pos) (aK n m fr) := by
 obtain ⟨f, fd, ps, F, b, kp, h⟩ := c.ex
 exact aA8 F hr hg h kp b ha hdb he hpl
theorem dv (i : Nat) (hN : X.N[i]? = some x := by rfl) (hv : Vis X.env.scope x := by first | exact Or.inl rfl | exact Or.inr (Or.inl rfl) | exact Or.inr (Or.inr rfl)) (hd : (x == ("__debug__" : Str)) = false := by decide) (hcd : (x == ("__classdict__" : Str)) = false := by decide) :
  DE X E (.Name x pos) (aD i) := aFo hN hv hd hcd
theorem u64 {A : Around} (hr : Room k A) : A.units + 64 < cLine := by have := hr.un; omega
theorem u1 {A : Around} (hr : Room k A) : A.units + 1 < cLine := by have := hr.un; omega
theorem fD {scope : Scope} {cl : List (Str × Addr)} : p8 X scope cl [] [] := ⟨rfl, fun i y j h _ => by simp at h⟩
theorem fP {scope : Scope} {cl : List (Str × Addr)} {y : Str} {ys : List Str} {j : Nat} {js : List Nat} (h : X.N[j]? = some y /\ (X.env.kindOf y = some .cell \/ X.env.kindOf y = some .free) /\ ((relabel scope X.env).names.lookup y = some .cell \/ (relabel scope X.env).names.lookup y = some .free) /\ (X.env.cells.lookup y).isSome = true /\ cl.lookup y = X.env.cells.lookup y)
  (t : p8 X scope cl ys js) : p8 X scope cl (y :: ys) (j :: js) :=
 ⟨by rw [List.length_cons, List.length_cons, t.len], fun i z q e1 e2 => by
  cases i with
  | zero => simp at e1 e2; subst e1 e2; exact h
  | succ i => exact t.at_ i z q (by simpa using e1) (by simpa using e2)⟩
theorem tH {scope : Scope} {cl : List (Str × Addr)} {ys : List Str} {js : List Nat} (clos : closureFor scope X.env = pure cl) (sub : ∀ q ∈ cl, X.env.cells.lookup q.1 = some q.2) (cap : p8 X scope cl ys js) (hcell : ∀ y ∈ scope.names, y.2 ≠ .cell) (hfree : ∀ q ∈ scope.names, q.2 = .free -> q.1 ∈ ys) : aFs X scope cl := by
 refine ⟨clos, fun y c h => sub _ (PySem.mem_of_lookup h), fun y hy => ?_⟩
 have hm : y ∈ ys := by
  rcases hy with hy | hy
  ·have m := PySem.mem_of_lookup hy
   obtain ⟨⟨n0, k0⟩, m0, e0⟩ := List.mem_map.mp m
   dsimp only at e0
   split at e0
   ·rename_i z
    injection e0 with e1 e2
    subst e1
    have : k0 = .free := by
     cases k0 <;> simp at z ⊢
    exact hfree _ m0 this
   ·injection e0 with e1 e2
    exact absurd e2 (hcell _ m0)
  ·have m := PySem.mem_of_lookup hy
   obtain ⟨⟨n0, k0⟩, m0, e0⟩ := List.mem_map.mp m
   dsimp only at e0
   split at e0
   ·injection e0 with e1 e2
    cases e2
   ·injection e0 with e1 e2
    subst e1
    exact hfree _ m0 e2
 obtain ⟨i, hi, e⟩ := List.mem_iff_getElem.mp hm
 have hj : i < js.length := by rw [<- cap.len]; exact hi
 obtain ⟨_, _, _, h4, h5⟩ := cap.at_ i y js[i] (by rw [List.getElem?_eq_getElem hi, e]) (List.getElem?_eq_getElem hj)
 rw [h5]
 exact Option.isSome_iff_exists.mp h4
theorem lN {K : PySem.W.Frag} {B G0 G H : Hp} {W : Addr -> Option Nat} {σ : L2.St} {en : En} {i : Nat} {a : Addr} {o' : HO} {d' : D} (hh : SimH B G0 G W H) (hs : SimS K W G H σ en) (hW : W a = some i) (hv : σ[i]? = some (some (.ref a))) (hc : Cont K G o' d') :
  SimH B G0 G W (upd H a o') /\ SimS K W G (upd H a o') σ (en.set i (some (.o d'))) := by
 obtain ⟨g1, g2, g3⟩ := hh.wf a i hW
 refine ⟨⟨fun b o e => ?_, fun b o e => ?_, hh.g0, hh.gb, fun b j e => ?_⟩, by rw [List.length_set]; exact hs.1, fun j l e => ?_⟩
 ·rw [bP (dM e g1)]; exact hh.gh b o e
 ·rw [bP (dM e g2)]; exact hh.bh b o e
 ·obtain ⟨k1, k2, o, k3, k4⟩ := hh.wf b j e
  refine ⟨k1, k2, ?_⟩
  by_cases z : b = a
  ·rw [z, cJ]; exact ⟨_, rfl, hc.mut⟩
  ·rw [bP z]; exact ⟨o, k3, k4⟩
 ·rw [List.getElem?_set] at e
  by_cases hj : i = j
  ·subst hj
   rw [if_pos rfl] at e
   split at e
   ·cases e
    exact ⟨_, hv, a, o', rfl, hW, cJ, hc⟩
   ·cases e
  ·rw [if_neg hj] at e
   obtain ⟨v, e1, e2⟩ := hs.2 j l e
   refine ⟨v, e1, ?_⟩
   cases l with
   | p d => exact e2
   | x C => exact e2
   | h a => exact e2
   | o d =>
    obtain ⟨b, ob, h1, h2, h3, h4⟩ := e2
    refine ⟨b, ob, h1, h2, ?_, h4⟩
    rw [bP (fun z => by rw [z, hW] at h2; exact hj (Option.some.inj h2))]
    exact h3
def jP (i : Nat) (fe : En -> Res Ev) : MS := fun en => match en[i]? with
 | some (some (.o (.list ds))) => match fe en with
  | .ok r => match r.c with
   | .p d => if ds.length <= 100000 then some (.nx (en.set i (some (.o (.list (ds ++ [d])))))) else none
   | _ => none
  | .exc C => some (.ex C en)
  | .bad => none
 | _ => none
theorem qP {i : Nat} {fe : En -> Res Ev} {st : Stmt} (he : DE X E e fe) (hp : ∀ t, PE X e t -> PS X st (aEj (tBM X.K "list" yO (aEw i) (aGf t aIg)))) : DS X E st (jP i fe) := by
 obtain ⟨t, q, mm⟩ := he.out
 refine DS.in ⟨_, hp t q, fun B G0 G W H σ en Dn hh hs hw => ?_⟩
 unfold jP at hw
 split at hw
 ·rename_i ds ei
  obtain ⟨v, e1, a, o, rfl, e2, e3, e4⟩ := hs.2 i _ ei
  cases e4 with
  | @lst xs _ rp =>
  refine ⟨_, e1, .inl ⟨rfl, _, SqL.of e3⟩, mm B G0 G W H σ en _ hh hs ?_⟩
  cases ef : fe en with
  | bad => rw [ef] at hw; exact hw
  | exc C => rw [ef] at hw; exact fun G1 H1 s => hw G1 W H1 σ (hh.step s) (hs.step s)
  | ok r =>
   rw [ef] at hw
   intro G1 H1 y s ey
   obtain ⟨G2, s2, ey2⟩ := ey.c s
   dsimp only at hw
   cases er : r.c with
   | p d =>
    rw [er] at hw ey2
    dsimp only at hw
    split at hw
    ·rename_i hl
     have hx := s2.h _ _ e3
     refine ⟨a, xs, y, rfl, rfl, hx, Nat.lt_of_le_of_lt (by rw [rp.length]; exact hl) (by decide), ?_⟩
     obtain ⟨w1, w2⟩ := lN (o' := .lst (xs ++ [y])) (d' := .list (ds ++ [d])) (hh.step s2) (hs.step s2) e2 e1 (.lst ((rp.mono s2.g).append (.cons ey2 .nil)))
     exact hw _ _ _ _ w1 w2
    ·exact hw.elim
   | f d => rw [er] at hw; exact hw.elim
   | b d => rw [er] at hw; exact hw.elim
   | x C => rw [er] at hw; exact hw.elim
 ·exact hw.elim
end
section
variable {X : Cx} {K : PySem.W.Frag} {E : L2.St -> XK} {a b : Expr} {fa fb : En -> Res Ev} {pos : Pos}
def aBv : D -> Option Key
 | .int i => some (.inl i)
 | .str x => some (.inr x)
 | _ => none
def sF : List D -> Option (List Key)
 | [] => some []
 | d :: ds => match aBv d with
  | none => none
  | some k => match sF ds with
   | none => none
   | some ks => some (k :: ks)
def aDz : D -> Option (List Key)
 | .tuple ds => sF ds
 | _ => none
theorem pB {d : D} {k : Key} (h : aBv d = some k) : d = kD k := by
 cases d <;> first | (cases h; rfl) | cases h
theorem sV (k : Key) : aBv (kD k) = some k := by cases k <;> rfl
theorem vC : ∀ {ds : List D} {ks : List Key}, sF ds = some ks -> ds = ks.map kD
 | [], _, h => by cases h; rfl
 | d :: ds, ks, h => by
  unfold sF at h
  cases e : aBv d with
  | none => rw [e] at h; cases h
  | some k =>
   rw [e] at h
   cases e2 : sF ds with
   | none => rw [e2] at h; cases h
   | some ks' =>
    rw [e2] at h
    cases h
    rw [pB e, vC e2]
    rfl
theorem uG : ∀ ks : List Key, sF (ks.map kD) = some ks
 | [] => rfl
 | k :: ks => by
  show (match aBv (kD k) with | none => none | some k => match sF (ks.map kD) with | none => none | some ks => some (k :: ks)) = _
  rw [sV, uG ks]
theorem s9 {d : D} {ks : List Key} (h : aDz d = some ks) : d = tkD ks := by
 cases d with
 | tuple ds => unfold tkD; rw [<- vC h]
 | _ => cases h
theorem vF (ks : List Key) : aDz (tkD ks) = some ks := uG ks
theorem zP {k k' : List Key} (h : tkD k = tkD k') : k = k' := by
 have := vF k
 rw [h, vF] at this
 exact (Option.some.inj this).symm
theorem aBs {k k' : Key} (h : kD k = kD k') : k = k' := by
 have := sV k
 rw [h, sV] at this
 exact (Option.some.inj this).symm
theorem y8 {G : Hp} : ∀ {ks : List Key} {xs : List V}, Reps K G xs (ks.map kD) -> xs = ks.map kV
 | [], _, .nil => rfl
 | k :: ks, _, .cons r t => by
  rw [y8 t]
  cases k with
  | inl i => cases r; rfl
  | inr x => cases r; rfl
theorem aB0 {G : Hp} {v : V} {d : D} {ks : List Key} (h : Rep K G v d) (e : aDz d = some ks) : ∃ b, v = .ref b /\ G b = some (.tup (ks.map kV)) := by
 have := s9 e
 subst this
 cases h with
 | @tup b xs _ h1 h2 =>
  rw [y8 h2] at h1
  exact ⟨b, rfl, h1⟩
theorem wK {G : Hp} {v : V} {d : D} {k : Key} (h : Rep K G v d) (e : aBv d = some k) : v = kV k := by
 have := pB e
 subst this
 cases k with
 | inl i => cases h; rfl
 | inr x => cases h; rfl
open Classical in
noncomputable def rW : List (D × D) -> D -> Option D
 | [], _ => none
 | p :: r, k => if p.1 = k then some p.2 else rW r k
open Classical in
noncomputable def zS (k v : D) : List (D × D) -> List (D × D)
 | [] => []
 | p :: r => (if p.1 = k then (p.1, v) else p) :: zS k v r
open Classical in
noncomputable def v7 (kvs : List (D × D)) (k v : D) : List (D × D) := if (rW kvs k).isSome = true then zS k v kvs else kvs ++ [(k, v)]
theorem aH2 {G : Hp} (ks : List Key) : ∀ {kv : List (List Key × V)} {kvs : List (D × D)}, RepT K G kv kvs -> (rW kvs (tkD ks) = none /\ pX kv ks = none) \/ ∃ d v, rW kvs (tkD ks) = some d /\ pX kv ks = some v /\ Rep K G v d
 | _, _, .nil => .inl ⟨rfl, rfl⟩
 | _, _, .cons (k := k) (x := x) (d := d) r t => by
  by_cases e : k = ks
  ·subst e
   refine .inr ⟨d, x, ?_, j6 (p := (k, x)) rfl, r⟩
   unfold rW
   rw [if_pos rfl]
  ·have e2 : tkD k ≠ tkD ks := fun z => e (zP z)
   unfold rW
   rw [if_neg e2, kH (p := (k, x)) e]
   exact aH2 ks t
theorem aG7 {G : Hp} (ks : Key) : ∀ {kv : List (Key × V)} {kvs : List (D × D)}, RepK K G kv kvs -> (rW kvs (kD ks) = none /\ pX kv ks = none) \/ ∃ d v, rW kvs (kD ks) = some d /\ pX kv ks = some v /\ Rep K G v d
 | _, _, .nil => .inl ⟨rfl, rfl⟩
 | _, _, .cons (k := k) (x := x) (d := d) r t => by
  by_cases e : k = ks
  ·subst e
   refine .inr ⟨d, x, ?_, j6 (p := (k, x)) rfl, r⟩
   unfold rW
   rw [if_pos rfl]
  ·have e2 : kD k ≠ kD ks := fun z => e (aBs z)
   unfold rW
   rw [if_neg e2, kH (p := (k, x)) e]
   exact aG7 ks t
theorem aGp {G : Hp} {ks : List Key} {v : V} {d : D} (h : Rep K G v d) : ∀ {kv : List (List Key × V)} {kvs : List (D × D)}, RepT K G kv kvs -> RepT K G (kv.map fun p => if p.1 = ks then (p.1, v) else p) (zS (tkD ks) d kvs)
 | _, _, .nil => .nil
 | _, _, .cons (k := k) (x := x) (d := d0) r t => by
  unfold zS
  rw [List.map_cons]
  by_cases e : k = ks
  ·subst e
   rw [if_pos rfl, if_pos rfl]
   exact .cons h (aGp h t)
  ·have e2 : tkD k ≠ tkD ks := fun z => e (zP z)
   rw [if_neg e, if_neg e2]
   exact .cons r (aGp h t)
theorem aGz {G : Hp} {ks : Key} {v : V} {d : D} (h : Rep K G v d) : ∀ {kv : List (Key × V)} {kvs : List (D × D)}, RepK K G kv kvs -> RepK K G (kv.map fun p => if p.1 = ks then (p.1, v) else p) (zS (kD ks) d kvs)
 | _, _, .nil => .nil
 | _, _, .cons (k := k) (x := x) (d := d0) r t => by
  unfold zS
  rw [List.map_cons]
  by_cases e : k = ks
  ·subst e
   rw [if_pos rfl, if_pos rfl]
   exact .cons h (aGz h t)
  ·have e2 : kD k ≠ kD ks := fun z => e (aBs z)
   rw [if_neg e, if_neg e2]
   exact .cons r (aGz h t)
theorem RepT.app {G : Hp} : ∀ {kv kv' : List (List Key × V)} {kvs kvs' : List (D × D)}, RepT K G kv kvs -> RepT K G kv' kvs' -> RepT K G (kv ++ kv') (kvs ++ kvs')
 | _, _, _, _, .nil, r => r
 | _, _, _, _, .cons h t, r => .cons h (RepT.app t r)
theorem RepK.app {G : Hp} : ∀ {kv kv' : List (Key × V)} {kvs kvs' : List (D × D)}, RepK K G kv kvs -> RepK K G kv' kvs' -> RepK K G (kv ++ kv') (kvs ++ kvs')
 | _, _, _, _, .nil, r => r
 | _, _, _, _, .cons h t, r => .cons h (RepK.app t r)
theorem RepT.len {G : Hp} : ∀ {kv : List (List Key × V)} {kvs : List (D × D)}, RepT K G kv kvs -> kv.length = kvs.length
 | _, _, .nil => rfl
 | _, _, .cons _ r => by rw [List.length_cons, List.length_cons, RepT.len r]
theorem RepK.len {G : Hp} : ∀ {kv : List (Key × V)} {kvs : List (D × D)}, RepK K G kv kvs -> kv.length = kvs.length
 | _, _, .nil => rfl
 | _, _, .cons _ r => by rw [List.length_cons, List.length_cons, RepK.len r]
theorem aIv {G : Hp} {ks : List Key} {v : V} {d : D} (h : Rep K G v d) {kv : List (List Key × V)} {kvs : List (D × D)} (r : RepT K G kv kvs) : RepT K G (putK kv ks v) (v7 kvs (tkD ks) d) := by
 unfold putK v7
 rw [lI]
 rcases aH2 ks r with ⟨e1, e2⟩ | ⟨d0, v0, e1, e2, _⟩
 ·rw [e1, e2, if_neg (by simp), if_neg (by simp)]
  exact r.app (.cons h .nil)
 ·rw [e1, e2, if_pos (show (some v0).isSome = true from rfl), if_pos (show (some d0).isSome = true from rfl)]
  exact aGp h r
theorem aG5 {G : Hp} {ks : Key} {v : V} {d : D} (h : Rep K G v d) {kv : List (Key × V)} {kvs : List (D × D)} (r : RepK K G kv kvs) : RepK K G (putK kv ks v) (v7 kvs (kD ks) d) := by
 unfold putK v7
 rw [lI]
 rcases aG7 ks r with ⟨e1, e2⟩ | ⟨d0, v0, e1, e2, _⟩
 ·rw [e1, e2, if_neg (by simp), if_neg (by simp)]
  exact r.app (.cons h .nil)
 ·rw [e1, e2, if_pos (show (some v0).isSome = true from rfl), if_pos (show (some d0).isSome = true from rfl)]
  exact aGz h r
def dsp (kvs : List (D × D)) : Bool × List (D × D) := match kvs with
 | (.none, .none) :: r => (true, r)
 | r => (false, r)
theorem aCc {G : Hp} {kv : List (List Key × V)} {kvs : List (D × D)} (r : RepT K G kv kvs) : dsp kvs = (false, kvs) := by
 cases r with
 | nil => rfl
 | cons _ _ => rfl
def i7 : Ev -> Option (List (D × D))
 | .p (.dict kvs) => some kvs
 | .b (.dict kvs) => some kvs
 | _ => none
noncomputable def oJ (kvs : List (D × D)) (k : D) : Option (Option D) := match dsp kvs with
 | (true, r) => if (aBv k).isSome = true then some (rW r k) else none
 | (false, r) => if (aDz k).isSome = true then some (rW r k) else none
theorem zJ {W : Addr -> Option Nat} {Hs G H : Hp} {v : V} {r : Ev} {kvs : List (D × D)} (gh : Same G H) (h : EOk K W Hs G H v r) (e : i7 r = some kvs) :
  ∃ a, v = .ref a /\ ((∃ kv, H a = some (.dT kv) /\ RepT K G kv kvs) \/ ∃ kv r, kvs = (.none, .none) :: r /\ H a = some (.dK kv) /\ RepK K G kv r) := by
 cases r with
 | p d =>
  cases d with
  | dict es =>
   cases e
   cases h with
   | @dT a kv _ h1 h2 => exact ⟨a, rfl, .inl ⟨kv, gh _ _ h1, h2⟩⟩
   | @dK a kv r h1 h2 => exact ⟨a, rfl, .inr ⟨kv, r, rfl, gh _ _ h1, h2⟩⟩
  | _ => cases e
 | b d =>
  cases d with
  | dict es =>
   cases e
   obtain ⟨a, i, o, rfl, h1, h2, h3⟩ := h
   cases h3 with
   | @dT kv _ h4 => exact ⟨a, rfl, .inl ⟨kv, h2, h4⟩⟩
   | @dK kv r h4 => exact ⟨a, rfl, .inr ⟨kv, r, rfl, h2, h4⟩⟩
  | _ => cases e
 | f d => cases e
 | x C => cases e
def aG3 (K : PySem.W.Frag) (G : Hp) : Option D -> Option V -> Prop
 | none, w => w = none
 | some d, w => ∃ x, w = some x /\ Rep K G x d
theorem zB {W : Addr -> Option Nat} {Hs Hs' G H : Hp} {v u : V} {r : Ev} {k : D} {kvs : List (D × D)} {o : Option D} (gh : Same G H) (h : EOk K W Hs G H v r) (e : i7 r = some kvs) (hk : Rep K G u k) (el : oJ kvs k = some o) :
  ∃ a w, v = .ref a /\ DGet H a u w /\ aG3 K G o w := by
 obtain ⟨a, rfl, hh⟩ := zJ gh h e
 rcases hh with ⟨kv, h1, h2⟩ | ⟨kv, r, rfl, h1, h2⟩
 ·unfold oJ at el
  rw [aCc h2] at el
  dsimp only at el
  split at el
  ·rename_i z
   obtain ⟨ks, ek⟩ := Option.isSome_iff_exists.mp z
   obtain ⟨b, rfl, hb⟩ := aB0 hk ek
   have := s9 ek
   subst this
   cases el
   refine ⟨a, pX kv ks, rfl, .t h1 (gh _ _ hb), ?_⟩
   rcases aH2 ks h2 with ⟨e1, e2⟩ | ⟨d0, v0, e1, e2, e3⟩
   ·rw [e1, e2]; exact rfl
   ·rw [e1, e2]; exact ⟨v0, rfl, e3⟩
  ·cases el
 ·unfold oJ at el
  dsimp only [dsp] at el
  split at el
  ·rename_i z
   obtain ⟨ks, ek⟩ := Option.isSome_iff_exists.mp z
   have hb := wK hk ek
   subst hb
   have := pB ek
   subst this
   cases el
   refine ⟨a, pX kv ks, rfl, .k h1, ?_⟩
   rcases aG7 ks h2 with ⟨e1, e2⟩ | ⟨d0, v0, e1, e2, e3⟩
   ·rw [e1, e2]; exact rfl
   ·rw [e1, e2]; exact ⟨v0, rfl, e3⟩
  ·cases el
noncomputable def kU (x y : Ev) : Res Ev := match y with
 | .p k => match i7 x with
  | some kvs => match oJ kvs k with
   | some (some d) => .ok (.p d)
   | _ => .bad
  | none => .bad
 | _ => .bad
noncomputable def v9 (ng : Bool) (y x : Ev) : Res Ev := match y with
 | .p k => match i7 x with
  | some kvs => match oJ kvs k with
   | some o => .ok (.p (.bool (if ng then !o.isSome else o.isSome)))
   | none => .bad
  | none => .bad
 | _ => .bad
theorem oW (hu : X.A.units + 1 < cLine) (ha : DE X E a fa) (hb : DE X E b fb) (hs : aGq b) : DE X E (.Subscript a b pos) (aF kU fa fb) := by
 obtain ⟨ta, pa, ma⟩ := ha.out
 obtain ⟨tb, pb, mb⟩ := hb.out
 refine DE.in ⟨_, aCo hu pa pb hs, fun B G0 G W H σ en Q hh hs hw => ma B G0 G W H σ en _ hh hs (DE.go hw fun x G1 H1 v s1 e1 h1 => ?_)⟩
 refine mb B G0 G1 W H1 σ en _ (hh.step s1) (hs.step s1) (DE.go h1 fun y G2 H2 u s2 e2 h2 => ?_)
 unfold kU at h2
 split at h2
 ·rename_i k ey
  rw [ey] at e2
  split at h2
  ·rename_i kvs ed
   split at h2
   ·rename_i d el
    obtain ⟨a, w, rfl, hg, x, rfl, hx⟩ := zB (Hs' := H1) s2.gh (e1.step (Hs' := H1) s2) ed e2 el
    exact ⟨a, x, rfl, hg, h2 G2 H2 _ (Step.refl s2.gh) hx⟩
   ·exact h2.elim
  ·exact h2.elim
 ·exact h2.elim
theorem aAn {ta tb : TE} {ng : Bool} (ma : ∀ B G0 G W H σ en Q, SimH B G0 G W H -> SimS X.K W G H σ en -> wpR (fa en) (PostE X.K W G H Q) (PostX (E σ) G H) -> ta σ H Q)
  (mb : ∀ B G0 G W H σ en Q, SimH B G0 G W H -> SimS X.K W G H σ en -> wpR (fb en) (PostE X.K W G H Q) (PostX (E σ) G H) -> tb σ H Q) :
  ∀ B G0 G W H σ en Q, SimH B G0 G W H -> SimS X.K W G H σ en -> wpR (aF (v9 ng) fa fb en) (PostE X.K W G H Q) (PostX (E σ) G H) ->
   ta σ H fun y H1 => tb σ H1 fun x H2 => ∃ a o, x = .ref a /\ DGet H2 a y o /\ Q (.bl (if ng then !o.isSome else o.isSome)) H2 := by
 intro B G0 G W H σ en Q hh hs hw
 refine ma B G0 G W H σ en _ hh hs (DE.go hw fun y G1 H1 u s1 e1 h1 => ?_)
 refine mb B G0 G1 W H1 σ en _ (hh.step s1) (hs.step s1) (DE.go h1 fun x G2 H2 v s2 e2 h2 => ?_)
 have e1' := e1.step (Hs' := H1) s2
 unfold v9 at h2
 split at h2
 ·rename_i k ey
  rw [ey] at e1'
  split at h2
  ·rename_i kvs ed
   split at h2
   ·rename_i o el
    obtain ⟨a, w, rfl, hg, hx⟩ := zB (Hs' := H1) s2.gh e2 ed e1' el
    refine ⟨a, w, rfl, hg, ?_⟩
    have z := h2 G2 H2 _ (Step.refl s2.gh) (.bl _)
    cases o with
    | none => rw [show w = none from hx]; exact z
    | some d => obtain ⟨x', rfl, _⟩ := hx; exact z
   ·exact h2.elim
  ·exact h2.elim
 ·exact h2.elim
theorem rG (hu : X.A.units + 1 < cLine) (ha : DE X E a fa) (hb : DE X E b fb) (hk : behindInMarks .NotIn b = false := by with_unfolding_all rfl) : DT X E (.Compare a [.NotIn] [b] pos) (a6 (aF (v9 true) fa fb)) := by
 obtain ⟨ta, pa, ma⟩ := ha.out
 obtain ⟨tb, pb, mb⟩ := hb.out
 exact DT.in ⟨_, yH (w6 hu pa pb) hk, j5 (t := wH ta tb) (aAn (ng := true) ma mb)⟩
def mDT : En -> Res Ev := fun _ => .ok (.f (.dict []))
theorem uE : DE X E (.Dict [] [] pos) mDT :=
 DE.in ⟨_, aA0, fun B G0 G W H σ en Q hh hs hw p hp => hw _ _ _ (Step.lay hh.gh hp) ⟨p, _, rfl, hp, hh.gh.free hp, cJ, .dT .nil⟩⟩
noncomputable def vT (kvs : List (D × D)) (k v : D) : Option (List (D × D)) := match dsp kvs with
 | (true, r) => if (aBv k).isSome = true /\ r.length <= 100000 then some ((.none, .none) :: v7 r k v) else none
 | (false, r) => if (aDz k).isSome = true /\ r.length <= 100000 then some (v7 r k v) else none
noncomputable def oT (i : Nat) (fk fv : En -> Res Ev) : MS := fun en => match en[i]? with
 | some (some (.o (.dict kvs))) => match fv en with
  | .exc C => some (.ex C en)
  | .bad => none
  | .ok rv => match fk en with
   | .exc C => some (.ex C en)
   | .bad => none
   | .ok rk => match rv.c with
    | .p v => match rk.c with
     | .p k => match vT kvs k v with
      | some kvs' => some (.nx (en.set i (some (.o (.dict kvs')))))
      | none => none
     | _ => none
    | _ => none
 | _ => none
theorem yG {i : Nat} {x : Str} {pos' np : Pos} {ek ev : Expr} {fk fv : En -> Res Ev} (hu : X.A.units + 1 < cLine) (hd : PE X (.Name x np) (aEw i)) (hk : DE X E ek fk) (hv : DE X E ev fv) (hs : swapsWith ev (some (.Subscript (.Name x np) ek pos')) pos.line X.env = pure false) :
  DS X E (.Assign [.Subscript (.Name x np) ek pos'] ev pos) (oT i fk fv) := by
 obtain ⟨tk, pk, mk⟩ := hk.out
 obtain ⟨tv, pv', mv⟩ := hv.out
 refine DS.in ⟨_, aCu hu hd pk pv' hs, fun B G0 G W H σ en Dn hh hs hw => mv B G0 G W H σ en _ hh hs ?_⟩
 unfold oT at hw
 split at hw
 ·rename_i kvs ei
  obtain ⟨v0, f1, a, o, rfl, f2, f3, f4⟩ := hs.2 i _ ei
  cases ev' : fv en with
  | bad => rw [ev'] at hw; exact hw
  | exc C => rw [ev'] at hw; exact fun G1 H1 s => hw G1 W H1 σ (hh.step s) (hs.step s)
  | ok rv =>
   rw [ev'] at hw
   intro G1 H1 v s1 e1
   obtain ⟨G2, s2, e2⟩ := e1.c s1
   dsimp only at hw
   refine ⟨_, f1, mk B G0 G2 W H1 σ en _ (hh.step s2) (hs.step s2) ?_⟩
   cases ek' : fk en with
   | bad => rw [ek'] at hw; exact hw
   | exc C => rw [ek'] at hw; exact fun G3 H3 s => hw G3 W H3 σ ((hh.step s2).step s) ((hs.step s2).step s)
   | ok rk =>
    rw [ek'] at hw
    intro G3 H3 u s3 e3
    obtain ⟨G4, s4, e4⟩ := e3.c s3
    have e2' := e2.step (Hs' := H1) s4
    have s24 := s2.trans s4
    dsimp only at hw
    split at hw
    ·rename_i vd erv
     rw [erv] at e2'
     split at hw
     ·rename_i kd erk
      rw [erk] at e4
      split at hw
      ·rename_i kvs' ep
       have hx := s24.h _ _ f3
       refine ⟨a, ?_⟩
       unfold vT at ep
       have f5 := f4.mono s24.g
       cases f5 with
       | @dT kv _ rT =>
        rw [aCc rT] at ep
        dsimp only at ep
        split at ep
        ·rename_i hz
         cases ep
         obtain ⟨ks, ek⟩ := Option.isSome_iff_exists.mp hz.1
         obtain ⟨b, rfl, hb⟩ := aB0 e4 ek
         have := s9 ek
         subst this
         obtain ⟨w1, w2⟩ := lN (o' := .dT (putK kv ks v)) (d' := .dict (v7 kvs (tkD ks) vd)) (hh.step s24) (hs.step s24) f2 f1 (.dT (aIv e2' rT))
         exact ⟨_, rfl, .t hx (s4.gh _ _ hb) (Nat.lt_of_le_of_lt (by rw [rT.len]; exact hz.2) (by decide)), hw _ _ _ _ w1 w2⟩
        ·cases ep
       | @dK kv r rK =>
        dsimp only [dsp] at ep
        split at ep
        ·rename_i hz
         cases ep
         obtain ⟨ks, ek⟩ := Option.isSome_iff_exists.mp hz.1
         have hb := wK e4 ek
         subst hb
         have := pB ek
         subst this
         obtain ⟨w1, w2⟩ := lN (o' := .dK (putK kv ks v)) (d' := .dict ((.none, .none) :: v7 r (kD ks) vd)) (hh.step s24) (hs.step s24) f2 f1 (.dK (aG5 e2' rK))
         exact ⟨_, rfl, .k hx (Nat.lt_of_le_of_lt (by rw [rK.len]; exact hz.2) (by decide)), hw _ _ _ _ w1 w2⟩
        ·cases ep
      ·exact hw.elim
     ·exact hw.elim
    ·exact hw.elim
 ·exact hw.elim
def nE (rs : List Ev) : Res Ev := match rs with
 | [x] => match i7 x with
  | some kvs => .ok (.p (.int ((dsp kvs).2.length : Nat)))
  | none => .bad
 | _ => .bad
theorem uD : xU nE := by
 intro rs C h
 unfold nE at h
 split at h
 ·split at h <;> cases h
 ·cases h
def qM : D -> Bool
 | .none => true
 | .bool _ => true
 | .int _ => true
 | .str _ => true
 | _ => false
theorem vH {G : Hp} {v : V} {d : D} (h : Rep K G v d) (f : qM d = true) : l7 v = true := by
 cases h <;> first | rfl | exact absurd f Bool.false_ne_true
theorem aCi {G : Hp} {v u : V} {d e : D} (h : Rep K G v d) (h2 : Rep K G u e) (f : qM d = true) (f2 : qM e = true) : eqV v u = PyData.eqv d e := by
 cases h <;> cases h2 <;> first | rfl | exact absurd f Bool.false_ne_true | exact absurd f2 Bool.false_ne_true | simp only [eqV, PyData.eqv]
def inE (ng : Bool) (x y : Ev) : Res Ev := match x with
 | .p d => match dS y with
  | some ds => if qM d = true /\ ds.all qM = true then .ok (.p (.bool (if ng then !ds.any (fun e => PyData.eqv e d) else ds.any fun e => PyData.eqv e d))) else .bad
  | none => .bad
 | _ => .bad
theorem aD8 {ng : Bool} : NoX (inE ng) := by
 intro x y A h
 unfold inE at h
 split at h
 ·split at h
  ·split at h <;> cases h
  ·cases h
 ·cases h
theorem yW {G : Hp} {v : V} {d : D} (h : Rep K G v d) (f : qM d = true) : ∀ {xs : List V} {ds : List D}, Reps K G xs ds -> ds.all qM = true -> xs.all l7 = true /\ inV v xs = ds.any (fun e => PyData.eqv e d)
 | _, _, .nil, _ => ⟨rfl, rfl⟩
 | _, _, .cons r t, hf => by
  rw [List.all_cons, Bool.and_eq_true] at hf
  obtain ⟨i1, i2⟩ := yW h f t hf.2
  unfold inV at i2 ⊢
  rw [List.all_cons, List.any_cons, List.any_cons, vH r hf.1, i1, i2, aCi r h hf.1 f]
  exact ⟨rfl, rfl⟩
theorem aF8 {K : PySem.W.Frag} (h : X.K = K) : OpR X (compareOp .In) (rIn K false) := h ▸ zM
theorem aHh {ng : Bool} : OpM K (rIn K ng) (inE ng) := by
 intro W G H v u x y Q gh hx hy hw
 unfold inE at hw
 split at hw
 ·rename_i d ex
  rw [ex] at hx
  split at hw
  ·rename_i ds ed
   split at hw
   ·rename_i hf
    have hx : Rep K G v d := hx
    have fin : ∀ {xs : List V}, Reps K G xs ds -> xs.all l7 = true /\ Q (.bl (if ng then !inV v xs else inV v xs)) H := fun r => by
     obtain ⟨i1, i2⟩ := yW hx hf.1 r hf.2
     rw [i2]
     exact ⟨i1, hw G H _ (Step.refl gh) (.bl _)⟩
    cases ey : y.c with
    | p dd =>
     rw [ey] at ed hy
     cases dd with
     | list es =>
      cases ed
      cases hy with
      | @lst a xs _ h1 h2 => exact ⟨a, xs, rfl, .inl (.inl (iL gh h1)), vH hx hf.1, fin h2⟩
     | tuple es =>
      cases ed
      cases hy with
      | @tup a xs _ h1 h2 => exact ⟨a, xs, rfl, .inr (SqT.of (gh _ _ h1)), vH hx hf.1, fin h2⟩
     | _ => cases ed
    | b dd =>
     rw [ey] at ed hy
     cases dd with
     | list es =>
      cases ed
      obtain ⟨a, k, o, rfl, h1, h2, h3⟩ := hy
      cases h3 with
      | @lst xs _ h4 => exact ⟨a, xs, rfl, .inl (.inl (.inl h2)), vH hx hf.1, fin h4⟩
     | _ => cases ed
    | f dd => rw [ey] at ed; cases ed
    | x C => rw [ey] at ed; cases ed
   ·exact hw.elim
  ·exact hw.elim
 ·exact hw.elim
def wI (i : Nat) (fk fv : En -> Res Ev) : MS := fun en => match en[i]? with
 | some (some (.o (.list ds))) => match fv en with
  | .exc C => some (.ex C en)
  | .bad => none
  | .ok rv => match fk en with
   | .exc C => some (.ex C en)
   | .bad => none
   | .ok rk => match rv.c with
    | .p v => match rk.c with
     | .p (.int k) => match ixN ds.length k with
      | some j => some (.nx (en.set i (some (.o (.list (ds.set j v))))))
      | none => none
     | _ => none
    | _ => none
 | _ => none
theorem aCb {i : Nat} {ek ev : Expr} {fk fv : En -> Res Ev} {st : Stmt} (hk : DE X E ek fk) (hv : DE X E ev fv) (hp : ∀ tk tv, PE X ek tk -> PE X ev tv -> PS X st (aHf tv (aH9 (aEw i) tk aD7))) : DS X E st (wI i fk fv) := by
 obtain ⟨tk, pk, mk⟩ := hk.out
 obtain ⟨tv, pv', mv⟩ := hv.out
 refine DS.in ⟨_, hp tk tv pk pv', fun B G0 G W H σ en Dn hh hs hw => mv B G0 G W H σ en _ hh hs ?_⟩
 unfold wI at hw
 split at hw
 ·rename_i ds ei
  obtain ⟨v0, f1, a, o, rfl, f2, f3, f4⟩ := hs.2 i _ ei
  cases f4 with
  | @lst xs _ rp =>
  cases ev' : fv en with
  | bad => rw [ev'] at hw; exact hw
  | exc C => rw [ev'] at hw; exact fun G1 H1 s => hw G1 W H1 σ (hh.step s) (hs.step s)
  | ok rv =>
   rw [ev'] at hw
   intro G1 H1 v s1 e1
   obtain ⟨G2, s2, e2⟩ := e1.c s1
   dsimp only at hw
   refine ⟨_, f1, mk B G0 G2 W H1 σ en _ (hh.step s2) (hs.step s2) ?_⟩
   cases ek' : fk en with
   | bad => rw [ek'] at hw; exact hw
   | exc C => rw [ek'] at hw; exact fun G3 H3 s => hw G3 W H3 σ ((hh.step s2).step s) ((hs.step s2).step s)
   | ok rk =>
    rw [ek'] at hw
    intro G3 H3 u s3 e3
    obtain ⟨G4, s4, e4⟩ := e3.c s3
    have e2' := e2.step (Hs' := H1) s4
    have s24 := s2.trans s4
    dsimp only at hw
    split at hw
    ·rename_i vd erv
     rw [erv] at e2'
     split at hw
     ·rename_i k erk
      rw [erk] at e4
      cases e4
      split at hw
      ·rename_i j ej
       obtain ⟨w1, w2⟩ := lN (o' := .lst (xs.set j v)) (d' := .list (ds.set j vd)) (hh.step s24) (hs.step s24) f2 f1 (.lst ((rp.mono s24.g).set e2' j))
       exact ⟨a, xs, k, j, rfl, rfl, s24.h _ _ f3, by rw [rp.length]; exact ej, hw _ _ _ _ w1 w2⟩
      ·exact hw.elim
     ·exact hw.elim
    ·exact hw.elim
 ·exact hw.elim
end
end M
namespace SRT
open PySem PySem.W PyProof.Rows
structure Ord (lt : Nat -> Nat -> Bool) : Prop where
 as : ∀ i j, lt i j = true -> lt j i = false
 tr : ∀ i j k, lt j i = false -> lt k j = false -> lt k i = false
section
variable {lt : Nat -> Nat -> Bool} {n : Nat} {cmp : Nat -> Nat -> (Bool -> Shared -> Prop) -> Shared -> Prop} {s : Shared}
def le (lt : Nat -> Nat -> Bool) (a b : Nat) : Prop := lt b a = false
theorem Ord.rf (o : Ord lt) (i : Nat) : le lt i i := by
 cases e : lt i i with
 | false => exact e
 | true => have := o.as i i e; rw [e] at this; cases this
theorem Ord.tot (o : Ord lt) {i j : Nat} (h : lt i j = true) : le lt i j := o.as i j h
def Pt (p : Array Nat) (i : Nat) : Nat := p.getD i 0
def Sd (lt : Nat -> Nat -> Bool) (p : Array Nat) (m : Nat) : Prop := ∀ i j, i <= j -> j < m -> le lt (Pt p i) (Pt p j)
def NI (lt : Nat -> Nat -> Bool) (p : Array Nat) (m : Nat) : Prop := ∀ i j, i <= j -> j < m -> le lt (Pt p j) (Pt p i)
def Pm (n : Nat) (p : Array Nat) : Prop := p.Perm (List.range n).toArray
theorem Pm.size {p : Array Nat} (h : Pm n p) : p.size = n := by
 have := h.size_eq
 simpa using this
theorem Pm.bd {p : Array Nat} (h : Pm n p) (hn : 0 < n) (i : Nat) : Pt p i < n := by
 unfold Pt
 by_cases hi : i < p.size
 ·have e : p.getD i 0 = p[i] := by simp [Array.getD, hi]
  rw [e]
  have : p[i] ∈ (List.range n).toArray := h.mem_iff.mp (Array.getElem_mem hi)
  simpa using this
 ·have e : p.getD i 0 = 0 := by simp [Array.getD, hi]
  rw [e]; exact hn
theorem zQ {p q : Array Nat} {i j : Nat} (h : p[i]? = q[j]?) : Pt p i = Pt q j := by
 unfold Pt
 rw [Array.getD_eq_getD_getElem?, Array.getD_eq_getD_getElem?, h]
theorem qX {p : Array Nat} (h : Pm n p) (i j : Nat) : Pm n (kas_rev p i j) := (mirror_perm _ _ _ _).trans h
theorem rQ {p : Array Nat} {i j : Nat} (hj : j <= p.size) (k : Nat) : Pt (kas_rev p i j) k = if i <= k /\ k < j then Pt p (i + j - 1 - k) else Pt p k := by
 have e := getElem?_mirror_all (xs := p) (i := i) hj k
 split
 ·rename_i h
  rw [if_pos h] at e
  exact zQ e
 ·rename_i h
  rw [if_neg h] at e
  exact zQ e
variable (hc : ∀ i j C, i < n -> j < n -> C (lt i j) s -> cmp i j C s) (hn : 0 < n) (o : Ord lt)
include hc hn
theorem yJ {Q : Nat -> Shared -> Prop} {p : Array Nat} (hp : Pm n p) : ∀ (f a : Nat), (∀ m, a <= m -> m <= a + f -> (∀ k, a <= k -> k < m -> le lt (Pt p (k - 1)) (Pt p k)) -> (m < a + f -> lt (Pt p m) (Pt p (m - 1)) = true) -> Q m s) ->
  (kas_asc p f a).kasWp cmp Q s
 | 0, a, h => h a (Nat.le_refl _) (Nat.le_refl _) (fun k h1 h2 => absurd h2 (by omega)) (fun h => absurd h (by omega))
 | f + 1, a, h => by
  refine hc _ _ _ (hp.bd hn _) (hp.bd hn _) ?_
  show KasT.kasWp cmp (if lt (Pt p a) (Pt p (a - 1)) = true then .ret a else kas_asc p f (a + 1)) Q s
  cases e : lt (Pt p a) (Pt p (a - 1)) with
  | true =>
   rw [if_pos rfl]
   exact h a (Nat.le_refl _) (by omega) (fun k h1 h2 => absurd h2 (by omega)) fun _ => e
  | false =>
   rw [if_neg Bool.false_ne_true]
   refine yJ hp f (a + 1) fun m h1 h2 h3 h4 => h m (by omega) (by omega) (fun k k1 k2 => ?_) fun z => h4 (by omega)
   by_cases ek : k = a
   ·subst ek; exact e
   ·exact h3 k (by omega) k2
include o
omit hc hn in
theorem aFx {p : Array Nat} {a m : Nat} (h1 : 1 <= a) (hs : Sd lt p a) (hk : ∀ k, a <= k -> k < m -> le lt (Pt p (k - 1)) (Pt p k)) : Sd lt p m := by
 intro i j hij hj
 induction j with
 | zero =>
  have : i = 0 := by omega
  subst this
  exact o.rf _
 | succ j ih =>
  by_cases e : i = j + 1
  ·subst e; exact o.rf _
  ·have ih := ih (by omega) (by omega)
   by_cases hja : j + 1 < a
   ·exact hs i (j + 1) hij hja
   ·have := hk (j + 1) (by omega) hj
    exact o.tr _ _ _ ih this
omit hc hn in
theorem aGb {p : Array Nat} {m : Nat} (hm : m <= p.size) (h : NI lt p m) : Sd lt (kas_rev p 0 m) m := by
 intro i j hij hj
 rw [rQ hm, rQ hm, if_pos ⟨Nat.zero_le _, by omega⟩, if_pos ⟨Nat.zero_le _, hj⟩]
 exact h _ _ (by omega) (by omega)
theorem xQ {Q : Nat × Array Nat -> Shared -> Prop} {p : Array Nat} {a r : Nat} (hp : Pm n p) (h1 : 1 <= a) (ha : a <= r) (hr : r <= n) (hni : NI lt p a) (h : ∀ m q, 1 <= m -> m <= r -> Pm n q -> Sd lt q m -> Q (m, q) s) : (kas_tail3 a r p).kasWp cmp Q s := by
 unfold kas_tail3
 rw [KasT.kasWp_bind]
 have hz : a <= p.size := by rw [hp.size]; omega
 refine yJ hc hn (qX hp 0 a) _ _ fun m h2 h3 h4 _ => ?_
 exact h m _ (by omega) (by omega) (qX hp 0 a) (aFx o h1 (aGb o hz hni) h4)
omit hc hn in
theorem rev_eq {p : Array Nat} {i j : Nat} (hj : j <= p.size) (he : ∀ a b, i <= a -> a < j -> i <= b -> b < j -> le lt (Pt p a) (Pt p b)) (k : Nat) : le lt (Pt (kas_rev p i j) k) (Pt p k) /\ le lt (Pt p k) (Pt (kas_rev p i j) k) := by
 rw [rQ hj]
 split
 ·rename_i h
  exact ⟨he _ _ (by omega) (by omega) h.1 h.2, he _ _ h.1 h.2 (by omega) (by omega)⟩
 ·exact ⟨o.rf _, o.rf _⟩
omit hc hn in
theorem lT {p : Array Nat} {i j m : Nat} (hj : j <= p.size) (he : ∀ a b, i <= a -> a < j -> i <= b -> b < j -> le lt (Pt p a) (Pt p b)) (h : NI lt p m) : NI lt (kas_rev p i j) m := fun a b hab hb =>
 o.tr _ _ _ (rev_eq o hj he b).1 (o.tr _ _ _ (h a b hab hb) (rev_eq o hj he a).2)
theorem pQ {Q : Array Nat × Nat × Nat -> Shared -> Prop} {r : Nat} (hr : r <= n) : ∀ (f : Nat) (p : Array Nat) (a q : Nat), Pm n p -> a + f <= r -> q + 1 <= a -> NI lt p a -> (∀ x y, a - (q + 1) <= x -> x < a -> a - (q + 1) <= y -> y < a -> le lt (Pt p x) (Pt p y)) ->
  (∀ p' a' q', Pm n p' -> a <= a' -> a' <= r -> q' + 1 <= a' -> NI lt p' a' -> (∀ x y, a' - (q' + 1) <= x -> x < a' -> a' - (q' + 1) <= y -> y < a' -> le lt (Pt p' x) (Pt p' y)) -> Q (p', a', q') s) -> (kas_desc f p a q).kasWp cmp Q s
 | 0, p, a, q, hp, hf, hq, hni, he, h => h p a q hp (Nat.le_refl _) (by omega) hq hni he
 | f + 1, p, a, q, hp, hf, hq, hni, he, h => by
  have hz : a <= p.size := by rw [hp.size]; omega
  refine hc _ _ _ (hp.bd hn _) (hp.bd hn _) ?_
  show KasT.kasWp cmp (if lt (Pt p a) (Pt p (a - 1)) = true then (if q > 0 then kas_desc f (kas_rev p (a - (q + 1)) a) (a + 1) 0 else kas_desc f p (a + 1) 0)
   else .ask (Pt p (a - 1)) (Pt p a) fun d => if d = true then .ret (p, a, q) else kas_desc f p (a + 1) (q + 1)) Q s
  have grow : ∀ {p' : Array Nat}, NI lt p' a -> le lt (Pt p' a) (Pt p' (a - 1)) -> NI lt p' (a + 1) := fun {p'} h1 h2 i j hij hj => by
   by_cases e : j = a
   ·subst e
    by_cases e2 : i = j
    ·subst e2; exact o.rf _
    ·exact o.tr _ _ _ h2 (h1 i (j - 1) (by omega) (by omega))
   ·exact h1 i j hij (by omega)
  cases e : lt (Pt p a) (Pt p (a - 1)) with
  | true =>
   rw [if_pos rfl]
   by_cases hq0 : q > 0
   ·rw [if_pos hq0]
    have n1 := lT o hz he hni
    have e1 : Pt (kas_rev p (a - (q + 1)) a) a = Pt p a := by rw [rQ hz, if_neg (by omega)]
    have le1 : le lt (Pt (kas_rev p (a - (q + 1)) a) a) (Pt (kas_rev p (a - (q + 1)) a) (a - 1)) := by
     rw [e1]
     exact o.tr _ _ _ (o.tot e) (rev_eq o hz he (a - 1)).2
    refine pQ hr f _ (a + 1) 0 (qX hp _ _) (by omega) (by omega) (grow n1 le1) (fun x y h1 h2 h3 h4 => ?_) fun p' a' q' k1 k2 k3 k4 k5 k6 => h p' a' q' k1 (by omega) k3 k4 k5 k6
    have : x = y := by omega
    subst this; exact o.rf _
   ·rw [if_neg hq0]
    refine pQ hr f _ (a + 1) 0 hp (by omega) (by omega) (grow hni (o.tot e)) (fun x y h1 h2 h3 h4 => ?_) fun p' a' q' k1 k2 k3 k4 k5 k6 => h p' a' q' k1 (by omega) k3 k4 k5 k6
    have : x = y := by omega
    subst this; exact o.rf _
  | false =>
   rw [if_neg Bool.false_ne_true]
   refine hc _ _ _ (hp.bd hn _) (hp.bd hn _) ?_
   show KasT.kasWp cmp (if lt (Pt p (a - 1)) (Pt p a) = true then .ret (p, a, q) else kas_desc f p (a + 1) (q + 1)) Q s
   cases e2 : lt (Pt p (a - 1)) (Pt p a) with
   | true =>
    rw [if_pos rfl]
    exact h p a q hp (Nat.le_refl _) (by omega) hq hni he
   | false =>
    rw [if_neg Bool.false_ne_true]
    have eq1 : le lt (Pt p (a - 1)) (Pt p a) := e
    have eq2 : le lt (Pt p a) (Pt p (a - 1)) := e2
    refine pQ hr f p (a + 1) (q + 1) hp (by omega) (by omega) (grow hni eq2) (fun x y h1 h2 h3 h4 => ?_) fun p' a' q' k1 k2 k3 k4 k5 k6 => h p' a' q' k1 (by omega) k3 k4 k5 k6
    by_cases hx : x = a
    ·subst hx
     by_cases hy : y = x
     ·subst hy; exact o.rf _
     ·exact o.tr _ _ _ eq2 (he _ _ (by omega) (by omega) (by omega) (by omega))
    ·by_cases hy : y = a
     ·subst hy
      exact o.tr _ _ _ (he _ (y - 1) (by omega) (by omega) (by omega) (by omega)) eq1
     ·exact he _ _ (by omega) (by omega) (by omega) (by omega)
theorem l8 {Q : Nat × Array Nat -> Shared -> Prop} {p : Array Nat} {a r : Nat} (hp : Pm n p) (h1 : 1 <= a) (ha : a + 1 <= r) (hr : r <= n) (hni : NI lt p (a + 1)) (h : ∀ m q, 1 <= m -> m <= r -> Pm n q -> Sd lt q m -> Q (m, q) s) : (kas_descPart a r p).kasWp cmp Q s := by
 unfold kas_descPart
 rw [KasT.kasWp_bind]
 refine pQ hc hn o hr _ p (a + 1) 0 hp (by omega) (by omega) hni (fun x y h1 h2 h3 h4 => ?_) fun p' a' q' k1 k2 k3 k4 k5 k6 => ?_
 ·have : x = y := by omega
  subst this; exact o.rf _
 ·have hz : a' <= p'.size := by rw [k1.size]; omega
  show KasT.kasWp cmp (if q' > 0 then kas_tail3 a' r (kas_rev p' (a' - (q' + 1)) a') else kas_tail3 a' r p') Q s
  by_cases hq : q' > 0
  ·rw [if_pos hq]
   exact xQ hc hn o (qX k1 _ _) (by omega) k3 hr (lT o hz k6 k5) h
  ·rw [if_neg hq]
   exact xQ hc hn o k1 (by omega) k3 hr k5 h
theorem aAw {Q : Nat × Array Nat -> Shared -> Prop} {p : Array Nat} {r : Nat} (hp : Pm n p) (h1 : 1 <= r) (hr : r <= n) (h : ∀ m q, 1 <= m -> m <= r -> Pm n q -> Sd lt q m -> Q (m, q) s) : (kas_count r p).kasWp cmp Q s := by
 unfold kas_count
 rw [KasT.kasWp_bind]
 have s1 : Sd lt p 1 := fun i j hij hj => by
  have : i = j := by omega
  subst this; exact o.rf _
 refine yJ hc hn hp _ _ fun m h2 h3 h4 h5 => ?_
 have sm := aFx o (Nat.le_refl 1) s1 h4
 show KasT.kasWp cmp (if (m == r) = true then .ret (m, p) else if m > 1 then .ask (Pt p 0) (Pt p (m - 1)) fun c => if c = true then .ret (m, p) else kas_descPart m r (kas_rev p 0 m) else kas_descPart m r p) Q s
 by_cases em : m = r
 ·rw [if_pos (by simp [em])]
  exact h m p h2 (by omega) hp sm
 ·rw [if_neg (by simp [em])]
  have hlt := h5 (by omega)
  have hz : m <= p.size := by rw [hp.size]; omega
  by_cases hm : m > 1
  ·rw [if_pos hm]
   refine hc _ _ _ (hp.bd hn _) (hp.bd hn _) ?_
   show KasT.kasWp cmp (if lt (Pt p 0) (Pt p (m - 1)) = true then .ret (m, p) else kas_descPart m r (kas_rev p 0 m)) Q s
   cases e : lt (Pt p 0) (Pt p (m - 1)) with
   | true => rw [if_pos rfl]; exact h m p h2 (by omega) hp sm
   | false =>
    rw [if_neg Bool.false_ne_true]
    have e : le lt (Pt p (m - 1)) (Pt p 0) := e
    have he : ∀ a b, 0 <= a -> a < m -> 0 <= b -> b < m -> le lt (Pt p a) (Pt p b) := fun a b _ ha _ hb =>
     o.tr _ _ _ (sm a (m - 1) (by omega) (by omega)) (o.tr _ _ _ e (sm 0 b (by omega) hb))
    have nm : NI lt p m := fun i j hij hj => he j i (by omega) hj (by omega) (by omega)
    have n2 := lT o hz he nm
    have em1 : Pt (kas_rev p 0 m) m = Pt p m := by rw [rQ hz, if_neg (by omega)]
    refine l8 hc hn o (qX hp 0 m) (by omega) (by omega) hr (fun i j hij hj => ?_) h
    by_cases ej : j = m
    ·subst ej
     by_cases ei : i = j
     ·subst ei; exact o.rf _
     ·rw [em1]
      refine o.tr _ _ _ (o.tot hlt) (o.tr _ _ _ (rev_eq o hz he (j - 1)).2 ?_)
      exact n2 i (j - 1) (by omega) (by omega)
    ·exact n2 i j hij (by omega)
  ·rw [if_neg hm]
   have e1 : m = 1 := by omega
   subst e1
   refine l8 hc hn o hp (Nat.le_refl 1) (by omega) hr (fun i j hij hj => ?_) h
   by_cases ei : i = j
   ·subst ei; exact o.rf _
   ·have : i = 0 /\ j = 1 := by omega
    obtain ⟨rfl, rfl⟩ := this
    exact o.tot hlt
theorem pI {Q : Nat -> Shared -> Prop} {p : Array Nat} {k : Nat} (hp : Pm n p) (hs : Sd lt p k) : ∀ (f l r : Nat), l <= r -> r <= k -> r - l <= f -> (∀ i, i < l -> le lt (Pt p i) (Pt p k)) -> (∀ i, r <= i -> i < k -> lt (Pt p k) (Pt p i) = true) ->
  (∀ m, m <= k -> (∀ i, i < m -> le lt (Pt p i) (Pt p k)) -> (∀ i, m <= i -> i < k -> lt (Pt p k) (Pt p i) = true) -> Q m s) -> (kas_place p k f l r).kasWp cmp Q s
 | 0, l, r, h1, h2, h3, h4, h5, h => by
  have : l = r := by omega
  subst this
  exact h l h2 h4 h5
 | f + 1, l, r, h1, h2, h3, h4, h5, h => by
  unfold kas_place
  by_cases e : l ≥ r
  ·rw [if_pos e]
   have : l = r := by omega
   subst this
   exact h l h2 h4 h5
  ·rw [if_neg e]
   refine hc _ _ _ (hp.bd hn _) (hp.bd hn _) ?_
   show KasT.kasWp cmp (if lt (Pt p k) (Pt p ((l + r) / 2)) = true then kas_place p k f l ((l + r) / 2) else kas_place p k f ((l + r) / 2 + 1) r) Q s
   cases ec : lt (Pt p k) (Pt p ((l + r) / 2)) with
   | true =>
    rw [if_pos rfl]
    refine pI hp hs f l ((l + r) / 2) (by omega) (by omega) (by omega) h4 (fun i i1 i2 => ?_) h
    cases ei : lt (Pt p k) (Pt p i) with
    | true => rfl
    | false =>
     have := o.tr _ _ _ (hs ((l + r) / 2) i i1 i2) ei
     rw [ec] at this; cases this
   | false =>
    rw [if_neg Bool.false_ne_true]
    refine pI hp hs f ((l + r) / 2 + 1) r (by omega) h2 (by omega) (fun i i1 => ?_) h5 h
    exact o.tr _ _ _ (hs i ((l + r) / 2) (by omega) (by omega)) ec
omit hc hn in
theorem aB4 {p : Array Nat} {k l : Nat} (hk : k < p.size) (hl : l <= k) (i : Nat) : Pt (bubble p k (k - l)) i = if i = l then Pt p k else if l < i /\ i <= k then Pt p (i - 1) else Pt p i := by
 have e := getElem?_bubble hk (k - l) (by omega) i
 have e1 : k - (k - l) = l := by omega
 rw [e1] at e
 repeat' split
 ·rename_i h; rw [if_pos h] at e; exact zQ e
 ·rename_i h h2; rw [if_neg h, if_pos h2] at e; exact zQ e
 ·rename_i h h2; rw [if_neg h, if_neg h2] at e; exact zQ e
theorem aBx {Q : Array Nat -> Shared -> Prop} : ∀ (f : Nat) (p : Array Nat) (k : Nat), Pm n p -> k + f <= n -> Sd lt p k -> (∀ q, Pm n q -> Sd lt q (k + f) -> Q q s) -> (kas_bin f p k).kasWp cmp Q s
 | 0, p, k, hp, _, hs, h => h p hp hs
 | f + 1, p, k, hp, hk, hs, h => by
  unfold kas_bin
  rw [KasT.kasWp_bind]
  have hz : k < p.size := by rw [hp.size]; omega
  refine pI hc hn o hp hs k 0 k (Nat.zero_le _) (Nat.le_refl _) (by omega) (fun i h => absurd h (by omega)) (fun i h1 h2 => absurd h2 (by omega)) fun l hl h1 h2 => ?_
  refine aBx f _ (k + 1) ((bubble_perm _ _ _).trans hp) (by omega) (fun i j hij hj => ?_) fun q q1 q2 => h q q1 (by rw [show k + (f + 1) = k + 1 + f by omega]; exact q2)
  rw [aB4 o hz hl, aB4 o hz hl]
  by_cases ei : i = l
  ·rw [if_pos ei]
   by_cases ej : j = l
   ·rw [if_pos ej]; exact o.rf _
   ·rw [if_neg ej, if_pos ⟨by omega, by omega⟩]
    exact o.tot (h2 (j - 1) (by omega) (by omega))
  ·rw [if_neg ei]
   by_cases ej : j = l
   ·rw [if_pos ej, if_neg (by omega)]
    exact h1 i (by omega)
   ·rw [if_neg ej]
    by_cases hi : l < i /\ i <= k
    ·rw [if_pos hi, if_pos ⟨by omega, by omega⟩]
     exact hs _ _ (by omega) (by omega)
    ·rw [if_neg hi]
     by_cases hj2 : l < j /\ j <= k
     ·rw [if_pos hj2]
      exact hs _ _ (by omega) (by omega)
     ·rw [if_neg hj2]
      exact hs _ _ (by omega) (by omega)
theorem aDe {Q : Array Nat -> Shared -> Prop} (h : ∀ q, Pm n q -> Sd lt q n -> Q q s) : (kas_sort n).kasWp cmp Q s := by
 unfold kas_sort
 rw [KasT.kasWp_bind]
 refine aAw hc hn o (Array.Perm.refl _) hn (Nat.le_refl n) fun m q h1 h2 h3 h4 => ?_
 show KasT.kasWp cmp (if m < n then kas_bin (n - max m 1) q (max m 1) else .ret q) Q s
 have em : max m 1 = m := by omega
 by_cases e : m < n
 ·rw [if_pos e, em]
  refine aBx hc hn o _ _ _ h3 (by omega) h4 fun q' k1 k2 => h q' k1 (by rw [show m + (n - m) = n by omega] at k2; exact k2)
 ·rw [if_neg e]
  have : m = n := by omega
  subst this
  exact h q h3 h4
end
end SRT
namespace SRT
open PySem PySem.W PyProof.Rows L2
def TupI (h : Heap) (v : Value) (ns : List Int) : Prop := ∃ t o xs c, v = .ref t /\ h.get? t = some o /\ o.cls = .type "tuple" /\ o.data = .seq xs c /\ IntsAre xs.toList ns
theorem TupI.at {h h' : Heap} {v : Value} {ns : List Int} (x : TupI h v ns) (k : ∀ t o, v = .ref t -> h.get? t = some o -> h'.get? t = some o) : TupI h' v ns :=
 let ⟨t, o, xs, c, e, ho, r⟩ := x; ⟨t, o, xs, c, e, k t o e ho, r⟩
theorem pS : ∀ {vs : List Value} {ns : List Int}, IntsAre vs ns -> vs.length = ns.length
 | _, _, .nil => rfl
 | _, _, .cons _ _ r => by rw [List.length_cons, List.length_cons, pS r]
theorem xH : ∀ a b : List Int, HT.lexLt a b = true -> HT.lexLt b a = false
 | [], [], h => by cases h
 | [], _ :: _, _ => rfl
 | _ :: _, [], h => by cases h
 | x :: a, y :: b, h => by
  rw [HT.jG] at h ⊢
  by_cases e : x = y
  ·rw [if_pos e] at h; rw [if_pos e.symm]; exact xH a b h
  ·rw [if_neg e] at h; rw [if_neg (Ne.symm e)]
   have := of_decide_eq_true h
   exact decide_eq_false (by omega)
theorem wQ : ∀ a b c : List Int, HT.lexLt b a = false -> HT.lexLt c b = false -> HT.lexLt c a = false
 | [], _, [], _, _ => rfl
 | [], b, _ :: _, _, _ => rfl
 | _ :: _, [], _, h, _ => by cases h
 | x :: a, y :: b, [], _, h => by cases h
 | x :: a, y :: b, z :: c, h1, h2 => by
  rw [HT.jG] at h1 h2 ⊢
  by_cases e1 : y = x
  ·subst e1
   rw [if_pos rfl] at h1
   by_cases e2 : z = y
   ·subst e2
    rw [if_pos rfl] at h2 ⊢
    exact wQ a b c h1 h2
   ·rw [if_neg e2] at h2 ⊢
    exact h2
  ·rw [if_neg e1] at h1
   have q1 := of_decide_eq_false h1
   by_cases e2 : z = y
   ·subst e2
    rw [if_neg e1]
    exact h1
   ·rw [if_neg e2] at h2
    have q2 := of_decide_eq_false h2
    have e3 : z ≠ x := by omega
    rw [if_neg e3]
    exact decide_eq_false (by omega)
theorem aBt : ∀ a b : List Int, HT.lexLt a b = false -> HT.lexLt b a = false -> a = b
 | [], [], _, _ => rfl
 | [], _ :: _, h, _ => by cases h
 | _ :: _, [], _, h => by cases h
 | x :: a, y :: b, h1, h2 => by
  rw [HT.jG] at h1 h2
  by_cases e : x = y
  ·subst e
   rw [if_pos rfl] at h1 h2
   rw [aBt a b h1 h2]
  ·rw [if_neg e] at h1; rw [if_neg (Ne.symm e)] at h2
   have q1 := of_decide_eq_false h1
   have q2 := of_decide_eq_false h2
   omega
theorem xV (ks : List (List Int)) : Ord fun i j => HT.lexLt (ks.getD i []) (ks.getD j []) := ⟨fun _ _ => xH _ _, fun _ _ _ => wQ _ _ _⟩
section
variable {prog : Program} {w : World} {A : Around} {E : Value -> Shared -> Prop} {s : Shared}
theorem aBr {b fin : Bool} {Q : Bool -> Shared -> Prop} : ∀ {us ws : List Value} {ns ms : List Int} (i : Nat), IntsAre us ns -> IntsAre ws ms -> (fin = decide (ns.length < ms.length)) -> Q (HT.lexLt ns ms) s -> KatLex prog w A b fin Q (us.zip ws) i s
 | _, _, [], [], i, .nil, .nil, hf, q => by
  rw [hf]; exact q
 | _, _, [], m :: ms, i, .nil, .cons _ _ _, hf, q => by
  rw [hf]
  show Q (decide (0 < ms.length + 1)) s
  rw [decide_eq_true (Nat.succ_pos _)]
  exact q
 | _, _, n :: ns, [], i, .cons _ _ _, .nil, hf, q => by
  rw [hf]
  show Q (decide (ns.length + 1 < 0)) s
  rw [decide_eq_false (Nat.not_lt_zero _)]
  exact q
 | _, _, n :: ns, m :: ms, i, .cons _ t hi, .cons _ u hj, hf, q => by
  rw [HT.jG] at q
  refine kat_cons (wpAny_eqBool_int ?_)
  by_cases e : n = m
  ·rw [if_pos e] at q
   rw [show (n == m) = true by simp [e]]
   exact kat_yes (aBr (i + 1) hi hj (by rw [hf]; simp) q)
  ·rw [if_neg e] at q
   rw [show (n == m) = false by simp [e]]
   refine kat_no ?_
   cases eb : (b && i == 0) with
   | true => exact oneLt_int q
   | false => exact kat_one _ _ (lt_int q)
theorem aAr {x y : Value} {ns ms : List Int} {Q : Bool -> Shared -> Prop} (b : Bool) (hx : TupI s.heap x ns) (hy : TupI s.heap y ms) (q : Q (HT.lexLt ns ms) s) : wpAny (model prog w) A (keyLt' (tuples' b) x y) Q E s := by
 obtain ⟨t, o, xs, c, rfl, ho, hc, hd, hi⟩ := hx
 obtain ⟨t2, o2, xs2, c2, rfl, ho2, hc2, hd2, hi2⟩ := hy
 refine kat_lt ho hd ho2 hd2 (aBr 0 hi hi2 ?_ q)
 have e1 := pS hi
 have e2 := pS hi2
 rw [Array.length_toList] at e1 e2
 rw [e1, e2]
def TupsI (h : Heap) (vs : List Value) (ks : List (List Int)) : Prop := vs.length = ks.length /\ ∀ (i : Nat) (v : Value) (k : List Int), vs[i]? = some v -> ks[i]? = some k -> TupI h v k /\ k ≠ []
theorem TupsI.cons {h : Heap} {v : Value} {vs : List Value} {ks : List (List Int)} (x : TupsI h (v :: vs) ks) : ∃ k r, ks = k :: r /\ TupI h v k /\ k ≠ [] /\ TupsI h vs r := by
 obtain ⟨hl, ha⟩ := x
 cases ks with
 | nil => simp at hl
 | cons k r =>
  obtain ⟨h1, h2⟩ := ha 0 v k rfl rfl
  exact ⟨k, r, rfl, h1, h2, by simpa using hl, fun i v k e1 e2 => ha (i + 1) v k (by simpa using e1) (by simpa using e2)⟩
theorem aIb {h : Heap} : ∀ {vs : List Value} {ks : List (List Int)}, TupsI h vs ks -> ∃ fs, KatTups h vs fs /\ fs.length = vs.length /\ ∀ f ∈ fs, ∃ i t, f = Value.int i t
 | [], _, _ => ⟨[], KatTups.nil, rfl, fun _ z => nomatch z⟩
 | v :: vs, ks, x => by
  obtain ⟨k, r, rfl, ⟨t, o, xs, c, rfl, ho, hc, hd, hi⟩, hk, hr⟩ := x.cons
  obtain ⟨fs, h1, h2, h3⟩ := aIb hr
  cases k with
  | nil => exact absurd rfl hk
  | cons n k =>
   cases hx : xs.toList with
   | nil => rw [hx] at hi; cases hi
   | cons y ys =>
    rw [hx] at hi
    cases hi with
    | cons _ tt _ =>
     refine ⟨.int n tt :: fs, KatTups.cons ho hc hd ?_ h1, by simp [h2], fun f hf => ?_⟩
     ·have : xs.toList[0]? = some (Value.int n tt) := by rw [hx]; rfl
      simpa using this
     ·rcases List.mem_cons.mp hf with rfl | hf
      ·exact ⟨n, tt, rfl⟩
      ·exact h3 f hf
theorem range_getD (vs : List Value) : ((List.range vs.length).map fun i => vs.getD i Value.none) = vs := by
 refine List.ext_getElem? fun i => ?_
 rw [List.getElem?_map]
 by_cases hi : i < vs.length
 ·rw [List.getElem?_range hi]
  simp [hi]
 ·rw [List.getElem?_eq_none (by rw [List.length_range]; omega), List.getElem?_eq_none (by omega)]
  rfl
theorem oN {a : Addr} {vs : List Value} {n : Nat} {ks : List (List Int)} {P : PySem.Fin -> Shared -> Prop} (ho : s.heap.get? a = some (seqObj "list" vs.toArray n)) (ht : TupsI s.heap vs ks) (hna : ∀ v ∈ vs, v ≠ .ref a) (h64 : vs.length < 64)
  (h : ∀ q : Array Nat, Pm vs.length q -> Sd (fun i j => HT.lexLt (ks.getD i []) (ks.getD j [])) q vs.length -> P (.done (.ret .none)) { s with heap := sortedHeap s.heap a vs (q.toList.map fun i => vs.getD i Value.none).toArray }) :
  wpAny (model prog w) A (Builtin.«list.sort» ⟨[.ref a], []⟩) P E s := by
 rw [list_sort_plain]
 have ha : a < s.heap.objs.size := Heap.lt_size ho
 refine wpAny_bind (listItems_at ho rfl ?_)
 refine wpAny_bind (listUpdate_at ho rfl ?_ (by rw [List.size_toArray, sizeLine_eq]; omega) (Nat.zero_le _))
 obtain ⟨e1, ho1⟩ : ∃ e1, (s.heap.update a (Obj.mapSeq fun _ => (#[] : Array Value))).get? a = some (seqObj "list" #[] e1) := ⟨_, get?_update_seq ho (fun _ => #[])⟩
 refine wpAny_bind (seqEpoch_at ho1 rfl ?_)
 refine wpAny_bind (wpAny_newTuple ?_ (by show vs.length <= _; rw [sizeLine_eq]; omega))
 refine wpAny_bind (wpAny_newList ?_ (Nat.zero_le _))
 refine wpAny_holding ?_
 have keep : ∀ b o, b ≠ a -> s.heap.get? b = some o -> (((s.heap.update a (Obj.mapSeq fun _ => (#[] : Array Value))).push (seqObj "tuple" vs.toArray 0)).push (seqObj "list" #[] 0)).get? b = some o := fun b o hb e => by
  refine Heap.get?_push_of_some _ (Heap.get?_push_of_some _ ?_)
  rw [Heap.get?_update_ne _ _ _ _ hb]
  exact e
 have ho6 : (((s.heap.update a (Obj.mapSeq fun _ => (#[] : Array Value))).push (seqObj "tuple" vs.toArray 0)).push (seqObj "list" #[] 0)).get? a = some (seqObj "list" #[] e1) := Heap.get?_push_of_some _ (Heap.get?_push_of_some _ ho1)
 show wpAny (model prog w) A _ P E { s with heap := ((s.heap.update a (Obj.mapSeq fun _ => (#[] : Array Value))).push (seqObj "tuple" vs.toArray 0)).push (seqObj "list" #[] 0) }
 dsimp only
 by_cases h2 : vs.toArray.size < 2
 ·rw [if_pos h2, if_pos h2]
  refine wpAny_bind (wpAny_pure ?_)
  rw [StateT.run_pure]
  refine wpAny_bind (wpAny_pure ?_)
  dsimp only
  have e0 : (arrOf (SortSt.mk' general' (vs.toArray.zip vs.toArray) #[] 7 none)).map (·.2) = ((List.range vs.length).toArray.toList.map fun i => vs.getD i Value.none).toArray := by
   show (vs.toArray.zip vs.toArray).map (·.2) = _
   rw [List.toList_toArray, range_getD]
   apply Array.toList_inj.mp
   simp [List.map_snd_zip]
  rw [e0]
  refine wpAny_bind (seqEpoch_at ho6 rfl ?_)
  refine wpAny_bind (listUpdate_at ho6 rfl ?_ (Nat.zero_le _) (by rw [List.toList_toArray, range_getD, List.size_toArray, sizeLine_eq]; omega))
  simp only [bne_self_eq_false, Bool.false_eq_true, if_false]
  refine wpAny_pure (h (List.range vs.length).toArray (Array.Perm.refl _) fun i j hij hj => ?_)
  have : i = j := by rw [List.size_toArray] at h2; omega
  subst this
  exact (xV ks).rf _
 ·rw [if_neg h2, if_neg h2]
  have h2' : 2 <= vs.length := by rw [List.size_toArray] at h2; omega
  have ht6 : TupsI (((s.heap.update a (Obj.mapSeq fun _ => (#[] : Array Value))).push (seqObj "tuple" vs.toArray 0)).push (seqObj "list" #[] 0)) vs ks := ⟨ht.1, fun i v k q1 q2 => by
   obtain ⟨z1, z2⟩ := ht.2 i v k q1 q2
   exact ⟨z1.at fun t o ev et => keep t o (fun z => hna v (List.mem_of_getElem? q1) (by rw [ev, z])) et, z2⟩⟩
  obtain ⟨fs, f1, f2, f3⟩ := aIb ht6
  refine wpAny_bind (kat_kind (T := .type "int") f1 (by rw [f2]; omega) (fun v hv => ?_) rfl ?_)
  ·obtain ⟨i, t, rfl⟩ := f3 v hv
   exact .now
  refine wpAny_bind (wpAny_mono (kat_run (κ := tuples' (Value.type "int" != Value.type "tuple")) (ks := vs) (Q := fun st' s' => ∃ p : Array Nat, s' = { s with heap := ((s.heap.update a (Obj.mapSeq fun _ => (#[] : Array Value))).push (seqObj "tuple" vs.toArray 0)).push (seqObj "list" #[] 0) } /\ p.size = vs.length /\ arrOf st' = p.map (kas_item (vs.toArray.zip vs.toArray)) /\ failedOf st' = none /\ Pm vs.length p /\ Sd (fun i j => HT.lexLt (ks.getD i []) (ks.getD j [])) p vs.length)
   (G := fun p s' => s' = { s with heap := ((s.heap.update a (Obj.mapSeq fun _ => (#[] : Array Value))).push (seqObj "tuple" vs.toArray 0)).push (seqObj "list" #[] 0) } /\ Pm vs.length p /\ Sd (fun i j => HT.lexLt (ks.getD i []) (ks.getD j [])) p vs.length)
   rfl h2' h64 (fun p st' s' a1 a2 a3 a4 => ⟨p, a4.1, a1, a2, a3, a4.2⟩) (aDe (n := vs.length) (lt := fun i j => HT.lexLt (ks.getD i []) (ks.getD j [])) (fun i j C hi hj hC => ?_) (by omega) (xV ks) fun q q1 q2 => ⟨rfl, q1, q2⟩)) ?_ fun _ _ e => e)
  ·unfold kas_ask
   have hi' : vs[i]? = some vs[i] := List.getElem?_eq_getElem hi
   have hj' : vs[j]? = some vs[j] := List.getElem?_eq_getElem hj
   have ki : i < ks.length := by rw [<- ht.1]; exact hi
   have kj : j < ks.length := by rw [<- ht.1]; exact hj
   have di : vs.getD i Value.none = vs[i] := by simp [hi]
   have dj : vs.getD j Value.none = vs[j] := by simp [hj]
   have ei : ks.getD i [] = ks[i] := by simp [ki]
   have ej : ks.getD j [] = ks[j] := by simp [kj]
   rw [di, dj]
   rw [ei, ej] at hC
   exact aAr _ (ht6.2 i _ _ hi' (List.getElem?_eq_getElem ki)).1 (ht6.2 j _ _ hj' (List.getElem?_eq_getElem kj)).1 hC
  ·rintro ⟨⟨⟩, st'⟩ s' ⟨p, rfl, hp, har, hf, hpm, hsd⟩
   dsimp only
   have hout := kat_snds (ks := vs) (vs := vs) rfl har
   have hsz : (List.toArray (p.toList.map fun i => vs.getD i Value.none)).size = vs.length := by rw [List.size_toArray, List.length_map, Array.length_toList, hp]
   rw [hout]
   refine wpAny_bind (seqEpoch_at ho6 rfl ?_)
   refine wpAny_bind (listUpdate_at ho6 rfl ?_ (Nat.zero_le _) (Nat.le_trans (Nat.le_of_eq hsz) (by rw [sizeLine_eq]; omega)))
   rw [hf]
   simp only [bne_self_eq_false, Bool.false_eq_true, if_false]
   exact wpAny_pure (h p hpm hsd)
theorem sJ {h : Heap} {a : Addr} {vs : List Value} {out : Array Value} {b : Addr} {o : Obj} (hb : b ≠ a) (e : h.get? b = some o) : (sortedHeap h a vs out).get? b = some o := by
 unfold sortedHeap
 rw [Heap.get?_update_ne _ _ _ _ hb]
 refine Heap.get?_push_of_some _ (Heap.get?_push_of_some _ ?_)
 rw [Heap.get?_update_ne _ _ _ _ hb]
 exact e
theorem sU {h : Heap} {a : Addr} {vs : List Value} {n : Nat} {out : Array Value} (e : h.get? a = some (seqObj "list" vs.toArray n)) : ∃ c, (sortedHeap h a vs out).get? a = some (seqObj "list" out c) := by
 obtain ⟨e1, ho1⟩ : ∃ e1, (h.update a (Obj.mapSeq fun _ => (#[] : Array Value))).get? a = some (seqObj "list" #[] e1) := ⟨_, get?_update_seq e (fun _ => #[])⟩
 exact ⟨_, get?_update_seq (Heap.get?_push_of_some _ (Heap.get?_push_of_some _ ho1)) fun _ => out⟩
theorem vN {r : Addr} {Q : Value -> Shared -> Prop} {Ok : List Value -> Prop} (hcol : ∀ R : List Value -> Shared -> Prop, (∀ h' tk vs, (∀ b o, s.heap.get? b = some o -> h'.get? b = some o) -> Ok vs -> R vs { s with heap := h', toks := tk }) -> wpAny (model prog w) A.in1 (collect (.ref r)) R E s)
  (ks : List (List Int)) (hok : ∀ vs, Ok vs -> TupsI s.heap vs ks /\ vs.length < 64)
  (h : ∀ (h' hf : Heap) (tk c : Nat) (vs : List Value) (q : Array Nat), (∀ b o, s.heap.get? b = some o -> h'.get? b = some o) -> (∀ b o, h'.get? b = some o -> hf.get? b = some o) -> Ok vs -> Pm vs.length q -> Sd (fun i j => HT.lexLt (ks.getD i []) (ks.getD j [])) q vs.length ->
   hf.get? h'.objs.size = some (seqObj "list" (q.toList.map fun i => vs.getD i Value.none).toArray c) -> Q (.ref h'.objs.size) { s with heap := hf, toks := tk }) :
  wpAny (model prog w) A (call (.builtin "sorted") [.ref r]) Q E s := by
 refine Calls.call_function_entry kind_sorted plain_sorted entry_sorted (args_sorted1 _) ?_
 unfold Builtin.«sorted»
 refine wpAny_bind (m := checkCount "sorted" 1 1 _) (wpAny_pure ?_)
 refine wpAny_bind (hcol _ fun h' tk vs keep ov => ?_)
 obtain ⟨ht, h64⟩ := hok vs ov
 refine wpAny_bind (wpAny_newList ?_ (by rw [sizeLine_eq]; omega))
 have hoL : (h'.push (seqObj "list" vs.toArray 0)).get? h'.objs.size = some (seqObj "list" vs.toArray 0) := Heap.get?_push_size _ rfl
 have keep2 : ∀ b o, s.heap.get? b = some o -> (h'.push (seqObj "list" vs.toArray 0)).get? b = some o := fun b o e => Heap.get?_push_of_some _ (keep b o e)
 have lt : ∀ b o, s.heap.get? b = some o -> b ≠ h'.objs.size := fun b o e => Nat.ne_of_lt (Heap.lt_size (keep b o e))
 have tat : ∀ v ∈ vs, ∃ t o, v = .ref t /\ s.heap.get? t = some o := fun v hv => by
  obtain ⟨i, hi, e⟩ := List.mem_iff_getElem.mp hv
  have ki : i < ks.length := by rw [<- ht.1]; exact hi
  obtain ⟨⟨t, o, _, _, e1, e2, _⟩, _⟩ := ht.2 i v ks[i] (by rw [List.getElem?_eq_getElem hi, e]) (List.getElem?_eq_getElem ki)
  exact ⟨t, o, e1, e2⟩
 have ht2 : TupsI (h'.push (seqObj "list" vs.toArray 0)) vs ks := ⟨ht.1, fun i v k q1 q2 => let ⟨z1, z2⟩ := ht.2 i v k q1 q2; ⟨z1.at fun t o _ et => keep2 t o et, z2⟩⟩
 refine wpAny_bind (wpAny_holding (wpAny_call_entry slot_list_sort ⟨_, hoL, rfl⟩ entry_list_sort (oN (s := { s with heap := h'.push (seqObj "list" vs.toArray 0), toks := tk }) hoL ht2 (fun v hv z => ?_) h64 fun q a1 a2 => ⟨_, rfl, ?_⟩) (args_list_sort _)))
 ·obtain ⟨t, o, e1, e2⟩ := tat v hv
  rw [e1] at z
  injection z with z
  exact lt t o e2 z
 ·obtain ⟨c, hc⟩ := sU (out := (q.toList.map fun i => vs.getD i Value.none).toArray) hoL
  exact wpAny_pure ⟨_, rfl, h h' _ tk c vs q keep (fun b o e => sJ (Nat.ne_of_lt (Heap.lt_size e)) (Heap.get?_push_of_some _ e)) ov a1 a2 hc⟩
def aHi (H : Hp) (ts : List V) (ks : List (List Int)) : Prop := ts.length = ks.length /\ ∀ (i : Nat) (t : V) (k : List Int), ts[i]? = some t -> ks[i]? = some k -> (∃ b, t = .ref b /\ H b = some (.tup (k.map V.int))) /\ k ≠ []
end
theorem wR {P : Program} {w : World} {H : Hp} {h : Heap} {ts : List V} {ks : List (List Int)} {vs : List Value} (ok : HOk P w H h) (r : aHi H ts ks) (v : Vals ts vs) : TupsI h vs ks := by
 have hl := v.length
 refine ⟨by rw [<- hl]; exact r.1, fun i u k e1 e2 => ?_⟩
 have hi : i < ts.length := by
  have := (List.getElem?_eq_some_iff.mp e1).1
  omega
 obtain ⟨⟨b, eb, hb⟩, hk⟩ := r.2 i ts[i] k (List.getElem?_eq_getElem hi) e2
 obtain ⟨u', e3, ru⟩ := v.get (i := i) (x := ts[i]) (List.getElem?_eq_getElem hi)
 rw [e1] at e3
 cases e3
 rw [eb] at ru
 cases (show u = Value.ref b from ru)
 obtain ⟨_, its, rv, o, ho, hc, n, hd⟩ := (show ObjOk P w H h b (.tup (k.map V.int)) from ok b _ hb)
 exact ⟨⟨b, o, _, n, rfl, ho, hc, hd, by rw [List.toList_toArray]; exact intsAre_of rv⟩, hk⟩
def aDw (ks : List (List Int)) : Nat -> Nat -> Bool := fun i j => HT.lexLt (ks.getD i []) (ks.getD j [])
theorem qN {ts : List V} {vs : List Value} (v : Vals ts vs) : ∀ (l : List Nat), (∀ i ∈ l, i < ts.length) -> Vals (l.map fun i => ts.getD i .non) (l.map fun i => vs.getD i Value.none)
 | [], _ => .nil
 | i :: l, h => by
  have hi := h i (.head _)
  obtain ⟨u, e, r⟩ := v.get (i := i) (x := ts[i]) (List.getElem?_eq_getElem hi)
  have e1 : ts.getD i .non = ts[i] := by simp [hi]
  have e2 : vs.getD i Value.none = u := by simp [e]
  refine .cons ?_ (qN v l fun j hj => h j (.tail _ hj))
  show RelV (ts.getD i .non) (vs.getD i Value.none)
  rw [e1, e2]; exact r
theorem Paired.get {α β : Type} {F : α -> β -> Prop} : ∀ {l₁ : List α} {l₂ : List β} {i : Nat} {a : α}, Paired F l₁ l₂ -> l₁[i]? = some a -> ∃ b, l₂[i]? = some b /\ F a b
 | _, _, _, _, .nil, e => by simp at e
 | _, _, 0, _, .cons h _, e => by simp at e; subst e; exact ⟨_, rfl, h⟩
 | _, _, i + 1, _, .cons _ r, e => by
  have := Paired.get (i := i) r (by simpa using e)
  simpa using this
theorem rP {κ : Type} : ∀ l : List (κ × Addr × Value), Vals (l.map fun x => V.ref x.2.1) (l.map fun x => Value.ref x.2.1)
 | [] => .nil
 | _ :: l => .cons rfl (rP l)
section
variable {X : Cx}
theorem aAy {pins : List (Addr × Obj)} {σ : L2.St} {H : Hp} {s : Shared} {Q : VK} {ts : List V} {vs : List Value} {h' hf : Heap} {tk c : Nat} {q : Array Nat} (I : Inv X pins σ H s) (v : Vals ts vs) (h64 : vs.length < 64) (k1 : ∀ b o, s.heap.get? b = some o -> h'.get? b = some o) (k2 : ∀ b o, h'.get? b = some o -> hf.get? b = some o) (hp : Pm vs.length q)
  (hc : hf.get? h'.objs.size = some (seqObj "list" (q.toList.map fun i => vs.getD i Value.none).toArray c)) (hq : ∀ D, H D = none -> Q (.ref D) (upd H D (.lst (q.toList.map fun i => ts.getD i .non)))) : EP X pins σ Q (.ref h'.objs.size) { s with heap := hf, toks := tk } := by
 have I1 : Inv X pins σ H { s with heap := h', toks := tk } := I.kept (t' := tk) k1
 have hb : ∀ i ∈ q.toList, i < ts.length := fun i hi => by
  have : i ∈ (List.range vs.length).toArray := hp.mem_iff.mp (Array.mem_toList_iff.mp hi)
  rw [v.length]
  simpa using this
 have hl : q.toList.length = vs.length := by rw [Array.length_toList]; exact hp.size
 refine ⟨.ref h'.objs.size, _, I1.laid (a := h'.objs.size) (o := .lst (q.toList.map fun i => ts.getD i .non)) (t' := tk) k2 (Nat.le_refl _) ⟨?_, _, c, qN v _ hb, hc⟩, rfl, hq _ (I1.hok.fresh (Nat.le_refl _))⟩
 rw [List.length_map, hl, sizeLine_eq]
 omega
def aBn : List V -> Hp -> VK -> Prop := fun xs H Q => ∃ a kv ks, xs = [.ref a] /\ H a = some (.dT kv) /\ kv.map (·.1) = ks.map (List.map Sum.inl) /\ (∀ k ∈ ks, k ≠ []) /\ kv.length < 64 /\
 ∀ ts D q, aHi H ts ks -> H D = none -> Pm ts.length q -> Sd (aDw ks) q ts.length -> Q (.ref D) (upd H D (.lst (q.toList.map fun i => ts.getD i .non)))
theorem n5 (hcm : X.calm = true) : kO X (.builtin "sorted") aBn := by
 intro pins s σ H xs us Q I r h
 obtain ⟨a, kv, ks, rfl, ha, hk, hne, h64, q⟩ := h
 obtain ⟨u, rfl, ru⟩ := vals1 r
 cases (show u = Value.ref a from ru)
 obtain ⟨hz, hsys, es0, rel, o, es, ep, h1, h2, h3, h4, h5⟩ := (show ObjOk X.prog X.w H s.heap a (.dT kv) from I.hok a _ ha)
 have hraw : RawD s.heap a es ep := ⟨o, h1, h2, h3⟩
 have len1 : kv.length = es0.length := rel.length
 have len2 : es.size = es0.length := by rw [<- Array.length_toList, h4, List.length_map]
 have len3 : ks.length = kv.length := by
  have := congrArg List.length hk
  simpa using this.symm
 have hts : aHi H (es0.map fun x => V.ref x.2.1) ks := by
  refine ⟨by rw [List.length_map]; omega, fun i t k e1 e2 => ?_⟩
  rw [List.getElem?_map] at e1
  cases ex : es0[i]? with
  | none => rw [ex] at e1; cases e1
  | some x =>
   rw [ex] at e1
   cases e1
   have hi : i < kv.length := by rw [len1]; exact (List.getElem?_eq_some_iff.mp ex).1
   obtain ⟨y, ey, hy1, hy2, _⟩ := Paired.get rel (List.getElem?_eq_getElem hi)
   rw [ex] at ey
   cases ey
   refine ⟨⟨x.2.1, rfl, ?_⟩, hne k (List.mem_of_getElem? e2)⟩
   have hkk : (kv.map (·.1))[i]? = (ks.map (List.map Sum.inl))[i]? := by rw [hk]
   rw [List.getElem?_map, List.getElem?_map, List.getElem?_eq_getElem hi, e2] at hkk
   have hkk : kv[i].1 = k.map Sum.inl := Option.some.inj hkk
   rw [hkk, List.map_map] at hy2
   exact hy2
 have hvs : ∀ vs : List Value, vs.length = es.size -> (∀ (j : Nat) v, vs[j]? = some v -> ∃ e, es[j]? = some e /\ v = e.key) -> Vals (es0.map fun x => V.ref x.2.1) vs := fun vs hl hv => by
  have ev : vs = es0.map fun x => Value.ref x.2.1 := by
   refine List.ext_getElem? fun i => ?_
   rw [List.getElem?_map]
   by_cases hi : i < vs.length
   ·have hi2 : i < es0.length := by omega
    obtain ⟨e, e1, e2⟩ := hv i vs[i] (List.getElem?_eq_getElem hi)
    have e3 : es.toList[i]? = some e := by simpa using e1
    rw [h4, List.getElem?_map, List.getElem?_eq_getElem hi2] at e3
    have e3 := Option.some.inj e3
    rw [List.getElem?_eq_getElem hi, List.getElem?_eq_getElem hi2, e2, <- e3]
    rfl
   ·rw [List.getElem?_eq_none (by omega), List.getElem?_eq_none (by omega)]
    rfl
  rw [ev]
  exact rP _
 refine vN (Ok := fun vs => vs.length = es.size /\ ∀ (j : Nat) v, vs[j]? = some v -> ∃ e, es[j]? = some e /\ v = e.key) (fun R hR => ?_) ks (fun vs e => ⟨wR I.hok hts (hvs vs e.1 e.2), by omega⟩) fun h' hf tk c vs q' k1 k2 e p1 p2 hc => ?_
 ·refine kdu_collect (A := X.A.in1) (aDp (prog := X.prog) (w := X.w) (ep := ep) (es := es) hsys) (I.ok.hd hcm) hraw (by omega) fun h' tk acc hk hacc => hR h' tk _ hk ⟨by rw [Array.length_toList]; exact hacc.1, fun j v e => hacc.2 j v (by simpa using e)⟩
 ·have rv := hvs vs e.1 e.2
  have hlen := rv.length
  exact aAy I rv (by omega) k1 k2 p1 hc fun D hD => q _ D q' hts hD (hlen ▸ p1) (hlen ▸ p2)
end
end SRT
namespace M
open PySem PySem.Spec PyProof.Rows L2 SRT
def nV (k : List Int) : D := .tuple (k.map .int)
def sR : List D -> Option (List Int)
 | [] => some []
 | .int i :: ds => match sR ds with
  | some r => some (i :: r)
  | none => none
 | _ => none
def y3 : D -> Option (List Int)
 | .tuple ds => sR ds
 | _ => none
def sQ : List D -> Option (List (List Int))
 | [] => some []
 | d :: ds => match y3 d with
  | none => none
  | some k => match sQ ds with
   | none => none
   | some ks => some (k :: ks)
theorem u7 : ∀ {ds : List D} {k : List Int}, sR ds = some k -> ds = k.map .int
 | [], _, h => by cases h; rfl
 | d :: ds, k, h => by
  cases d with
  | int i =>
   unfold sR at h
   cases e : sR ds with
   | none => rw [e] at h; cases h
   | some r => rw [e] at h; cases h; rw [u7 e]; rfl
  | _ => cases h
theorem qL : ∀ k : List Int, sR (k.map .int) = some k
 | [] => rfl
 | i :: k => by
  show (match sR (k.map .int) with | some r => some (i :: r) | none => none) = _
  rw [qL k]
theorem xB (k : List Int) : y3 (nV k) = some k := qL k
theorem aAt {d : D} {k : List Int} (h : y3 d = some k) : d = nV k := by
 cases d with
 | tuple ds => unfold nV; rw [<- u7 h]
 | _ => cases h
theorem vA : ∀ {ds : List D} {ks : List (List Int)}, sQ ds = some ks -> ds = ks.map nV
 | [], _, h => by cases h; rfl
 | d :: ds, ks, h => by
  unfold sQ at h
  cases e : y3 d with
  | none => rw [e] at h; cases h
  | some k =>
   rw [e] at h
   cases e2 : sQ ds with
   | none => rw [e2] at h; cases h
   | some ks' => rw [e2] at h; cases h; rw [aAt e, vA e2]; rfl
theorem mV : ∀ ks : List (List Int), sQ (ks.map nV) = some ks
 | [] => rfl
 | k :: ks => by
  show (match y3 (nV k) with | none => none | some k => match sQ (ks.map nV) with | none => none | some ks => some (k :: ks)) = _
  rw [xB, mV ks]
def aDb (k : List Int) : List (List Int) -> List (List Int)
 | [] => [k]
 | x :: r => if HT.lexLt k x = true then k :: x :: r else x :: aDb k r
def lA : List (List Int) -> List (List Int)
 | [] => []
 | k :: ks => aDb k (lA ks)
def leK (a b : List Int) : Prop := HT.lexLt b a = false
theorem nD (k : List Int) : ∀ l, (aDb k l).Perm (k :: l)
 | [] => .refl _
 | x :: r => by
  unfold aDb
  split
  ·exact .refl _
  ·exact ((nD k r).cons x).trans (List.Perm.swap k x r)
theorem e9 : ∀ l, (lA l).Perm l
 | [] => .refl _
 | k :: ks => (nD k _).trans ((e9 ks).cons k)
theorem aAz {k y : List Int} {l : List (List Int)} (h : y ∈ aDb k l) : y = k \/ y ∈ l := by
 have := (nD k l).mem_iff.mp h
 exact List.mem_cons.mp this
theorem mS (k : List Int) : ∀ l, l.Pairwise leK -> (aDb k l).Pairwise leK
 | [], _ => List.pairwise_singleton _ _
 | x :: r, h => by
  unfold aDb
  obtain ⟨h1, h2⟩ := List.pairwise_cons.mp h
  split
  ·rename_i e
   have e1 := xH _ _ e
   exact List.pairwise_cons.mpr ⟨fun y hy => by
    rcases List.mem_cons.mp hy with rfl | hy
    ·exact e1
    ·exact wQ _ _ _ e1 (h1 y hy), h⟩
  ·rename_i e
   refine List.pairwise_cons.mpr ⟨fun y hy => ?_, mS k r h2⟩
   rcases aAz hy with rfl | hy
   ·exact Bool.eq_false_iff.mpr e
   ·exact h1 y hy
theorem lC : ∀ l, (lA l).Pairwise leK
 | [] => .nil
 | k :: ks => mS k _ (lC ks)
theorem nA : ∀ {a b : List (List Int)}, a.Perm b -> a.Pairwise leK -> b.Pairwise leK -> a = b
 | [], b, p, _, _ => (List.Perm.nil_eq p)
 | x :: a, [], p, _, _ => absurd p.length_eq (by simp)
 | x :: a, y :: b, p, ha, hb => by
  obtain ⟨a1, a2⟩ := List.pairwise_cons.mp ha
  obtain ⟨b1, b2⟩ := List.pairwise_cons.mp hb
  have hx : x ∈ y :: b := p.mem_iff.mp (.head _)
  have hy : y ∈ x :: a := p.mem_iff.mpr (.head _)
  have e : x = y := by
   rcases List.mem_cons.mp hx with e | hx
   ·exact e
   ·rcases List.mem_cons.mp hy with e | hy
    ·exact e.symm
    ·exact aBt _ _ (b1 x hx) (a1 y hy)
  subst e
  rw [nA (List.Perm.cons_inv p) a2 b2]
theorem picked {ks : List (List Int)} {q : Array Nat} {n : Nat} (hn : n = ks.length) (hp : Pm n q) (hs : Sd (aDw ks) q n) : (q.toList.map fun i => ks.getD i []) = lA ks := by
 subst hn
 have e0 : ((List.range ks.length).map fun i => ks.getD i []) = ks := by
  refine List.ext_getElem? fun i => ?_
  rw [List.getElem?_map]
  by_cases hi : i < ks.length
  ·rw [List.getElem?_range hi]; simp [hi]
  ·rw [List.getElem?_eq_none (by rw [List.length_range]; omega), List.getElem?_eq_none (by omega)]; rfl
 have p1 : q.toList.Perm (List.range ks.length) := by
  have := hp.toList
  simpa using this
 have p2 : (q.toList.map fun i => ks.getD i []).Perm ks := by
  have := p1.map (fun i => ks.getD i [])
  rwa [e0] at this
 refine nA (p2.trans (e9 ks).symm) ?_ (lC ks)
 rw [List.pairwise_iff_getElem]
 intro i j hi hj hij
 rw [List.length_map] at hi hj
 rw [List.getElem_map, List.getElem_map]
 have sz : q.toList.length = ks.length := by rw [Array.length_toList]; exact hp.size
 have := hs i j (Nat.le_of_lt hij) (by omega)
 unfold SRT.le aDw Pt at this
 have e1 : q.getD i 0 = q.toList[i] := by
  have : i < q.size := by rw [<- Array.length_toList]; exact hi
  simp [Array.getD, this]
 have e2 : q.getD j 0 = q.toList[j] := by
  have : j < q.size := by rw [<- Array.length_toList]; exact hj
  simp [Array.getD, this]
 rw [e1, e2] at this
 exact this
section
variable {X : Cx} {K : PySem.W.Frag}
theorem aAu {G : Hp} {b : Addr} {k : List Int} (h : G b = some (.tup (k.map V.int))) : Rep K G (.ref b) (nV k) := by
 refine .tup h ?_
 clear h
 induction k with
 | nil => exact .nil
 | cons i k ih => exact .cons (.int i) ih
theorem rL {G : Hp} {ts : List V} {ks : List (List Int)} (h : ∀ (i : Nat), i < ks.length -> Rep K G (ts.getD i .non) (nV (ks.getD i []))) : ∀ l : List Nat, (∀ i ∈ l, i < ks.length) -> Reps K G (l.map fun i => ts.getD i .non) ((l.map fun i => ks.getD i []).map nV)
 | [], _ => .nil
 | i :: l, hl => .cons (h i (hl i (.head _))) (rL h l fun j hj => hl j (.tail _ hj))
theorem aG9 {n : Nat} {q : Array Nat} (hp : Pm n q) : ∀ i ∈ q.toList, i < n := fun i hi => by
 have : i ∈ (List.range n).toArray := hp.mem_iff.mp (Array.mem_toList_iff.mp hi)
 simpa using this
theorem zK {ks : List (List Int)} (h : (ks.all fun k => !k.isEmpty) = true) : ∀ k ∈ ks, k ≠ [] := fun k hk z => by
 have := List.all_eq_true.mp h k hk
 rw [z] at this
 cases this
def wt (G H : Hp) : Hp := fun b => match G b with
 | some o => some o
 | none => match H b with
  | some (.tup xs) => some (.tup xs)
  | _ => none
theorem aC4 {G H : Hp} : Same G (wt G H) := fun b o e => by unfold wt; rw [e]
theorem aDl {G H : Hp} (gh : Same G H) : Same (wt G H) H := fun b o e => by
 unfold wt at e
 cases eg : G b with
 | some u => rw [eg] at e; cases e; exact gh _ _ eg
 | none =>
  rw [eg] at e
  dsimp only at e
  split at e
  ·rename_i xs eh
   cases e; exact eh
  ·cases e
theorem aFw {G H : Hp} (gh : Same G H) {b : Addr} {xs : List V} (e : H b = some (.tup xs)) : wt G H b = some (.tup xs) := by
 unfold wt
 cases eg : G b with
 | some u =>
  have := gh _ _ eg
  rw [e] at this
  exact this.symm
 | none => dsimp only; rw [e]
theorem aC5 {G H : Hp} (gh : Same G H) : Step G H (wt G H) H := ⟨aC4, Same.refl _, aDl gh, fun b hb hg => by
 unfold wt
 rw [hg]
 dsimp only
 split
 ·rename_i xs eh; exact .inr ⟨xs, eh⟩
 ·exact .inl rfl⟩
def eX (rs : List Ev) : Res Ev := match rs with
 | [x] => match i7 x with
  | some kvs => if (dsp kvs).1 = false then match sQ (kvs.map (·.1)) with
    | some ks => if (ks.all fun k => !k.isEmpty) = true /\ ks.length < 64 then .ok (.f (.list ((lA ks).map nV))) else .bad
    | none => .bad
   else .bad
  | none => .bad
 | _ => .bad
theorem mD : xU eX := by
 intro rs C h
 unfold eX at h
 split at h
 ·split at h
  ·split at h
   ·split at h
    ·split at h <;> cases h
    ·cases h
   ·cases h
  ·cases h
 ·cases h
theorem aBc {k : List Key} {n : List Int} (h : tkD k = nV n) : k = n.map Sum.inl := by
 unfold tkD nV at h
 injection h with h
 induction k generalizing n with
 | nil => cases n with
  | nil => rfl
  | cons _ _ => cases h
 | cons x k ih =>
  cases n with
  | nil => cases h
  | cons y n =>
   rw [List.map_cons, List.map_cons] at h
   injection h with h1 h2
   cases x with
   | inl i => cases h1; rw [ih h2]; rfl
   | inr i => cases h1
theorem qO {G : Hp} : ∀ {kv : List (List Key × V)} {kvs : List (D × D)} {ks : List (List Int)}, RepT K G kv kvs -> kvs.map (·.1) = ks.map nV -> kv.map (·.1) = ks.map (List.map Sum.inl)
 | _, _, [], .nil, _ => rfl
 | _, _, _ :: _, .nil, h => by cases h
 | _, _, [], .cons _ _, h => by cases h
 | _, _, k :: ks, .cons _ t, h => by
  rw [List.map_cons, List.map_cons] at h
  injection h with h1 h2
  rw [List.map_cons, List.map_cons, qO t h2, aBc h1]
theorem nX : nK K aBn eX := by
 intro W Hs G H vs rs Q gh he hw
 unfold eX at hw
 split at hw
 ·rename_i x
  match vs, he with
  | [v], ⟨h1, _⟩ =>
   split at hw
   ·rename_i kvs ed
    obtain ⟨a, rfl, hd⟩ := zJ gh h1 ed
    split at hw
    ·rename_i hk
     rcases hd with ⟨kv, k1, k2⟩ | ⟨kv, r, rfl, k1, k2⟩
     ·split at hw
      ·rename_i ks ek
       split at hw
       ·rename_i hz
        have ek := vA ek
        have hne := zK hz.1
        have hl : kv.length = ks.length := by rw [k2.len, <- List.length_map (f := (·.1)), ek, List.length_map]
        refine ⟨a, kv, ks, rfl, k1, qO k2 ek, hne, by omega, fun ts D q rI hD hp hs => ?_⟩
        have hl2 : ts.length = ks.length := rI.1
        have ep := picked hl2 hp hs
        have st := (aC5 gh).trans (Step.lay (o := .lst (q.toList.map fun i => ts.getD i .non)) (aDl gh) hD)
        refine hw _ _ _ st ⟨D, _, rfl, hD, (aDl gh).free hD, cJ, .lst ?_⟩
        rw [<- ep]
        refine rL (fun i hi => ?_) _ fun i hi => by rw [<- hl2]; exact aG9 hp i hi
        have hi' : i < ts.length := by omega
        obtain ⟨⟨b, eb, hb⟩, _⟩ := rI.2 i ts[i] ks[i] (List.getElem?_eq_getElem hi') (List.getElem?_eq_getElem hi)
        have e1 : ts.getD i .non = ts[i] := by simp [hi']
        have e2 : ks.getD i [] = ks[i] := by simp [hi]
        rw [e1, e2, eb]
        exact aAu (aFw gh hb)
       ·exact hw.elim
      ·exact hw.elim
     ·cases hk
    ·exact hw.elim
   ·exact hw.elim
 ·exact hw.elim
theorem aDh {prog : Program} {w : World} {A : Around} {E : Value -> Shared -> Prop} {s : Shared} {d : Addr} {es : Array DictEntry} {ep : Nat} {Q : Value -> Shared -> Prop} (hd : (d == sysModules) = false) (hm : RawD s.heap d es ep) (hfit : (es.size : Int) < 2 ^ 63)
  (h : Q (.int es.size (s.toks + 1)) { s with toks := s.toks + 1 + 1 }) : wpAny (model prog w) A (call (.builtin "len") [.ref d]) Q E s := by
 refine Calls.call_function_entry kind_len plain_len entry_len (args_len1 _) ?_
 unfold Builtin.«len»
 refine wpAny_bind (m := oneArg "len" _) (wpAny_pure ?_)
 have meets : MeetsIn prog w (Builtin.«dict.__len__» ⟨[.ref d], []⟩) (fun _ R s => RawD s.heap d es ep /\ R (.ok (.ret (.int es.size s.toks))) { s with toks := s.toks + 1 }) :=
  .of_wp fun A R s ⟨hm, h⟩ => by
   obtain ⟨o, ho, hc, hdat⟩ := hm
   show wpAny _ _ (dictSize d >>= _) _ _ s
   unfold dictSize
   refine wpAny_bind (wpAny_bind (wpAny_dictEntries ho hdat (wpAny_pure ?_)))
   show wpAny _ _ (Builtin.Dict.pendingCount d >>= _) _ _ s
   refine wpAny_bind (wpAny_pendingCount_other hd ?_)
   refine wpAny_ret_mkInt ?_
   rw [Nat.add_zero]; exact h
 refine wpAny_bind (m := callSpecial? (.ref d) (Str.ofString "__len__")) (wpAny_callSpecial?_slot (name := Str.ofString "__len__") hm.ty F.slot_dict_len
  (call_meetsIn F.slot_dict_len hm.ty F.entry_dict_len (F.args_dict_len_1 _) meets ⟨hm, ?_⟩))
 show wpAny _ _ _ _ _ { s with toks := s.toks + 1 }
 refine wpAny_bind (wpAny_holding (wpAny_pure ?_))
 refine wpAny_bind (wpAny_letGo ?_)
 show wpAny _ _ (if ((es.size : Nat) : Int) < 0 then _ else _) _ _ _
 rw [if_neg (by omega)]
 show wpAny _ _ (if ((es.size : Nat) : Int) ≥ 2 ^ 63 then _ else _) _ _ _
 rw [if_neg (by omega)]
 exact wpAny_bind (wpAny_mkInt (wpAny_pure ⟨_, rfl, h⟩))
def aFa : List V -> Hp -> VK -> Prop := fun xs H Q => ∃ a, xs = [.ref a] /\ ((∃ kv, H a = some (.dT kv) /\ Q (.int kv.length) H) \/ ∃ kv, H a = some (.dK kv) /\ Q (.int kv.length) H)
theorem n9 : kO X (.builtin "len") aFa := by
 intro pins s σ H xs us Q I r h
 obtain ⟨a, rfl, h⟩ := h
 obtain ⟨u, rfl, ru⟩ := vals1 r
 cases (show u = Value.ref a from ru)
 rcases h with ⟨kv, ha, q⟩ | ⟨kv, ha, q⟩
 ·obtain ⟨hz, hsys, es0, rel, o, es, ep, h1, h2, h3, h4, h5⟩ := (show ObjOk X.prog X.w H s.heap a (.dT kv) from I.hok a _ ha)
  have len1 : kv.length = es0.length := rel.length
  have len2 : es.size = es0.length := by rw [<- Array.length_toList, h4, List.length_map]
  rw [sizeLine_eq] at hz
  refine aDh hsys ⟨o, h1, h2, h3⟩ (by omega) ⟨.int kv.length, H, I.tok _, ⟨s.toks + 1, by rw [len2, len1]⟩, q⟩
 ·exact aHs I (.inl ha) fun t s' I' => ⟨.int kv.length, H, I', ⟨t, rfl⟩, q⟩
theorem xI : nK K aFa nE := by
 intro W Hs G H vs rs Q gh he hw
 unfold nE at hw
 split at hw
 ·rename_i x
  match vs, he with
  | [v], ⟨h1, _⟩ =>
   split at hw
   ·rename_i kvs ed
    obtain ⟨a, rfl, hd⟩ := zJ gh h1 ed
    refine ⟨a, rfl, ?_⟩
    rcases hd with ⟨kv, k1, k2⟩ | ⟨kv, r, rfl, k1, k2⟩
    ·refine .inl ⟨kv, k1, ?_⟩
     rw [aCc k2] at hw
     rw [k2.len]
     exact hw G H _ (Step.refl gh) (.int _)
    ·refine .inr ⟨kv, k1, ?_⟩
     rw [k2.len]
     exact hw G H _ (Step.refl gh) (.int _)
   ·exact hw.elim
 ·exact hw.elim
end
end M
namespace L2
open PySem PySem.Spec PyProof.Rows
def Ite (K : PySem.W.Frag) (a : Addr) : It :=
 ⟨fun i H => ∃ xs x, SqL K H a xs /\ xs[i]? = some x, fun i H v H' => ∃ p x, H p = none /\ v = .ref p /\ (∀ xs, SqL K H a xs -> xs[i]? = some x) /\ H' = upd H p (.tup [.int i, x]), fun i H => ∃ xs, SqL K H a xs /\ xs.length <= i⟩
theorem w9 {P : Program} {w : World} {K : PySem.W.Frag} {elts : List Expr} {x1} {tp : Pos} (a e it : Addr) (hne : e ≠ it) : Turn P w K (.Tuple elts x1 tp) (Ite K a) [e, it] e (fun i h => (∃ old, IsEnum h e it ((i : Nat) : Int) old) /\ h.IsListIter it a i) where
 mem := by simp
 obj := fun i h st b hb => by
  rcases List.mem_cons.mp hb with rfl | hb
  ·obtain ⟨⟨old, q⟩, _⟩ := st
   exact ⟨_, q, fun v z => nomatch z⟩
  ·have : b = it := by simpa using hb
   subst this
   obtain ⟨_, o, q, c, d⟩ := st
   exact ⟨o, q, fun v z => by rw [d] at z; cases z⟩
 keep := fun i h h' st k => ⟨let ⟨old, q⟩ := st.1; ⟨old, k e (by simp) _ q⟩, st.2.at fun o q => k it (by simp) o q⟩
 item := by
  intro X hP hw hK hc i pins s σ H E I hf st hg
  subst hP hw hK
  obtain ⟨⟨old, he⟩, hit⟩ := st
  obtain ⟨xs, x, hq, hx⟩ := hg
  obtain ⟨its, rv, p, hz⟩ := I.list hq
  obtain ⟨u, hu, ru⟩ := rv.get hx
  obtain ⟨f0, f1, f2, f3, f4, f5⟩ := hf e (by simp)
  obtain ⟨g0, g1, g2, g3, g4, g5⟩ := hf it (by simp)
  refine wpAny_pyNext_enum_item he hit p.isList (x := u) (by simpa using hu) hne fun h₁ heo hit₁ ht₁ hz₁ hk₁ => ?_
  refine ⟨_, rfl, wpAny_letOwnedTupleGo_enum heo fun h₂ he₂ hs₂ => ?_⟩
  have hs₂ : Heap.SameBut e h₁ h₂ := hs₂
  have hn : H s.heap.objs.size = none := I.fresh
  have nn : ∀ b o, H b = some o -> b ≠ s.heap.objs.size := fun b o q => dM q hn
  have eE : e < s.heap.objs.size := Heap.lt_size he
  have keep : ∀ b o, b ∉ [e, it] -> s.heap.get? b = some o -> h₂.get? b = some o := fun b o hb q => by
   have b1 : b ≠ e := fun z => hb (by simp [z])
   have b2 : b ≠ it := fun z => hb (by simp [z])
   exact (hs₂.2 b b1).trans (hk₁ b o b1 b2 q)
  have trk : ∀ b o, H b = some o -> b ∉ [e, it] := fun b o q hb => by
   rcases List.mem_cons.mp hb with z | hb
   ·rw [z, f0] at q; cases q
   ·rw [List.mem_singleton.mp hb, g0] at q; cases q
  refine ⟨.ref s.heap.objs.size, upd H s.heap.objs.size (.tup [.int i, x]), ?_, rfl, ⟨_, x, hn, rfl, fun ys hy => by rw [I.list_inj hy hq]; exact hx, rfl⟩, ⟨⟨u, ?_⟩, ?_⟩, fun b hb => ?_⟩
  ·refine Inv.step (X := X) (pins := pins) (σ := σ) (H := H) (s := s) (H' := upd H s.heap.objs.size (.tup [.int i, x])) (h' := h₂) (g' := s.gens) (d' := s.drawn) (t' := s.toks + 1) (ch := [e, it]) I (fun b hb => ?_) (fun b o _ _ hb q _ => keep b o hb q) (fun b o _ _ hb q _ => ⟨o.slots, keep b o hb q⟩) (fun b o _ q n => ?_) (fun b o hb q => ⟨o, keep b o hb q⟩)
    (fun b ys q => ?_) (fun b o v q => ?_) (fun b ps q => ⟨#[], ?_⟩) (fun m hm => ?_) (fun b v q => ?_) I.bare
   ·rcases List.mem_cons.mp hb with z | hb
    ·subst z; exact ⟨f3, f1, f4, f5⟩
    ·have z := List.mem_singleton.mp hb
     subst z; exact ⟨g3, g1, g4, g5⟩
   ·rw [bP (Nat.ne_of_lt (Heap.lt_size q))]; exact n
   ·rw [bP (nn b _ q)]; exact q
   ·rw [bP (nn b _ q)]; exact q
   ·rw [bP (nn b _ q), q]; simp
   ·obtain ⟨o, es, ep, ho, r⟩ := hm
    exact ⟨o, es, ep, keep _ o (fun z => by
     rcases List.mem_cons.mp z with y | y
     ·exact f1 y.symm
     ·exact g1 (List.mem_singleton.mp y).symm) ho, r⟩
   ·by_cases hb : b = s.heap.objs.size
    ·subst hb
     rw [cJ] at q
     cases q
     refine ⟨by show 2 <= sizeLine; decide, [.int i s.toks, u], .cons ⟨_, rfl⟩ (.cons ru .nil), _, (hs₂.2 _ (Nat.ne_of_gt eE)).trans ht₁, rfl, _, rfl⟩
    ·rw [bP hb] at q
     refine (I.hok b v q).stay (fun c w' hc q' => keep c w' ?_ q') (fun c q' => ?_) fun c ys q' => ?_
     ·rcases hc with z | z
      ·rw [z]; exact trk b v q
      ·exact trk c _ z
     ·rw [bP (nn c _ q')]; exact q'
     ·rw [bP (nn c _ q')]; exact q'
  ·have : (((i + 1 : Nat)) : Int) = (i : Int) + 1 := by push_cast; rfl
   rw [this]; exact he₂
  ·exact hit₁.at fun o q => (hs₂.2 it (Ne.symm hne)).trans q
  ·have hb' := (hf b hb).1
   have : b ≠ s.heap.objs.size := by
    rcases List.mem_cons.mp hb with z | z
    ·rw [z]; exact Nat.ne_of_lt eE
    ·rw [List.mem_singleton.mp z]
     obtain ⟨o, q, _⟩ := id hit
     exact Nat.ne_of_lt (Heap.lt_size q)
   rw [bP this]; exact hb'
 done := by
  intro X hP hw hK hc i pins s σ H E I hf st hg
  subst hP hw hK
  obtain ⟨⟨old, he⟩, hit⟩ := st
  obtain ⟨xs, hq, hx⟩ := hg
  obtain ⟨its, rv, p, hz⟩ := I.list hq
  obtain ⟨g0, g1, g2, g3, g4, g5⟩ := hf it (by simp)
  have hl := rv.length
  exact wpAny_pyNext_enum_end (I.ok.hd hc) he hit p.isList (by simp; omega) fun h' eb => ⟨rfl, I.turned (t' := s.toks) (fun b o hb q => eb b o hb q) g0 g1 g3 g4 g5⟩
 self := fun _ _ _ _ _ st h => let ⟨_, q⟩ := st.1; wpAny_pyIter_enum q h
section
variable {X : Cx}
def aHo (K : PySem.W.Frag) (ta : TA) : TI := fun σ H R => ta σ H fun vs H1 => ∃ a xs, vs = [.ref a] /\ Rd H1 a (.lst xs) /\ R (Ite K a) H1
theorem y6 : bootBuiltins "enumerate" = some (.type "enumerate") := by decide +kernel
theorem aC3 {a : Expr} {ta : TA} {p pos tp : Pos} {elts : List Expr} {x1} (hg : Gl X "enumerate") (hm : X.mg "enumerate" = none) (ha : PA X [a] ta) (hs : starEach [a] X.env = [(false, eval a X.env)] := by rfl) : PI X (.Tuple elts x1 tp) (.Call (.Name "enumerate" p) [a] [] pos) (aHo X.K ta) := by
 intro pins s σ H R I h
 refine Call_ (n4 I hg hm y6 (PyProof.Rows.callWith_type1 (thn (ha pos pins s σ H _ I h) fun us s1 ⟨vs, H1, I1, r1, q1⟩ => ?_) hs rfl))
 obtain ⟨a, xs, rfl, hr, q⟩ := q1
 obtain ⟨u, rfl, ru⟩ := vals1 r1
 cases (show u = Value.ref a from ru)
 obtain ⟨_, its, n, rv, ho⟩ := hr.ok I1.hok
 refine call_enumerate_1 ho fun h' he hit hz hk => ?_
 refine wpAny_pyIter_enum (s := { s1 with heap := h' }) he ?_
 refine ⟨s1.heap.objs.size + 1, [s1.heap.objs.size + 1, s1.heap.objs.size], _, _, H1, rfl, I1.kept (t' := s1.toks) hk, w9 a _ _ (Nat.ne_of_gt (Nat.lt_succ_self _)), ⟨⟨_, he⟩, hit⟩, fun b hb => ?_, q⟩
 have hle : s1.heap.objs.size <= b := by
  rcases List.mem_cons.mp hb with z | z
  ·rw [z]; exact Nat.le_succ _
  ·rw [List.mem_singleton.mp z]; exact Nat.le_refl _
 exact I1.fpOk hle (I1.hok.fresh hle)
end
end L2
namespace M
open PySem PySem.Spec PyProof.Rows L2
def lZ (k : Nat) : List D -> List D
 | [] => []
 | d :: ds => .tuple [.int (k : Int), d] :: lZ (k + 1) ds
theorem qB : ∀ (ds : List D) (k : Nat), (lZ k ds).length = ds.length
 | [], _ => rfl
 | _ :: ds, k => by unfold lZ; rw [List.length_cons, List.length_cons, qB ds]
theorem qE : ∀ (ds : List D) (k i : Nat), (lZ k ds)[i]? = (ds[i]?).map fun d => .tuple [.int ((k + i : Nat) : Int), d]
 | [], _, _ => by simp [lZ]
 | d :: ds, k, 0 => by simp [lZ]
 | d :: ds, k, i + 1 => by
  unfold lZ
  rw [List.getElem?_cons_succ, List.getElem?_cons_succ, qE ds (k + 1) i]
  have : k + 1 + i = k + (i + 1) := by omega
  rw [this]
def wU (rs : List Ev) : Res (List D) := match rs with
 | [.p (.list ds)] => .ok (lZ 0 ds)
 | _ => .bad
theorem aDo {X : Cx} {E : L2.St -> XK} {a : Expr} {fr : En -> Res (List Ev)} {p pos tp : Pos} {elts : List Expr} {x1} (hg : Gl X "enumerate") (hm : X.mg "enumerate" = none) (ha : DA X E [a] fr) (hs : starEach [a] X.env = [(false, eval a X.env)] := by rfl) :
  DI X E (.Tuple elts x1 tp) (.Call (.Name "enumerate" p) [a] [] pos) (rY wU fr) := by
 obtain ⟨t, q, m⟩ := ha.out
 refine DI.in ⟨_, aC3 hg hm q hs, fun B G0 G W H σ en R hh hs hw => m B G0 G W H σ en _ hh hs ?_⟩
 have hw : wpR ((fr en).bind _) _ _ := hw
 rw [cL] at hw
 refine bU hw (fun rs hr G1 H1 vs s e => ?_) fun C h => h
 unfold wU at hr
 split at hr
 ·rename_i ds
  match vs, e with
  | [v], ⟨e1, _⟩ =>
   cases e1 with
   | @lst a xs _ h1 h2 =>
    refine ⟨a, xs, rfl, iL s.gh h1, hr G1 H1 _ s fun G3 H3 k1 k2 => ⟨fun i d ed => ?_, ?_⟩⟩
    ·rw [qE, Option.map_eq_some_iff] at ed
     obtain ⟨d', ed, rfl⟩ := ed
     obtain ⟨x, ex, rx⟩ := h2.get' ed
     have sq : SqL X.K H3 a xs := .inl (iL (k1.trans k2) h1)
     refine ⟨⟨xs, x, sq, ex⟩, fun v H' hy => ?_⟩
     obtain ⟨p, x', hp, rfl, hy, rfl⟩ := hy
     have := hy xs sq
     rw [ex] at this
     cases this
     have st := Step.put (o := .tup [.int i, x]) k2 hp
     refine ⟨_, st, .tup cJ (.cons ?_ (.cons (rx.mono (k1.trans st.g)) .nil))⟩
     have : ((0 + i : Nat) : Int) = (i : Int) := by simp
     rw [this]
     exact .int _
    ·refine ⟨xs, .inl (iL (k1.trans k2) h1), ?_⟩
     rw [qB, h2.length]
     exact Nat.le_refl _
 ·exact hr.elim
section
variable {X : Cx} {E : L2.St -> XK}
end
section
variable {K : PySem.W.Frag}
end
end M
namespace L2
open PySem PySem.Spec PyProof.Rows
section
variable {X : Cx}
end
end L2
namespace M
open PySem PySem.Spec PyProof.Rows L2
end M
namespace L2
open PySem PySem.Spec PyProof.Rows
section
variable {X : Cx}
end
end L2
namespace M
open PySem PySem.Spec PyProof.Rows L2
variable {K : PySem.W.Frag}
end M
namespace M
open PySem PySem.Spec PyProof.Rows L2
section
variable {X : Cx} {E : L2.St -> XK} {e : Expr}
end
section
variable {X : Cx} {K : PySem.W.Frag}
end
end M
namespace L2
open PySem PySem.Spec PyProof.Rows
section
variable {X : Cx}
end
end L2
namespace M
open PySem PySem.Spec PyProof.Rows L2
end M
namespace L2
open PySem PySem.Spec PyProof.Rows
section
variable {X : Cx}
end
end L2
namespace M
open PySem PySem.Spec PyProof.Rows L2
variable {K : PySem.W.Frag}
end M
namespace L2
open PySem PySem.Spec PyProof.Rows
section
variable {X : Cx} {tg : Expr}
end
end L2
namespace M
open PySem PySem.Spec PyProof.Rows L2
section
variable {X : Cx} {E : L2.St -> XK} {pos : Pos}
end
end M
namespace L2
open PySem PySem.Spec PyProof.Rows M
section
variable {X : Cx}
end
end L2
namespace M
open PySem PySem.Spec PyProof.Rows L2
variable {K : PySem.W.Frag}
end M
namespace L2
open PySem PySem.Spec PyProof.Rows
end L2
namespace M
open PySem PySem.Spec PyProof.Rows L2
section
variable {X : Cx} {E : L2.St -> XK}
end
variable {K : PySem.W.Frag}
end M
namespace L2
open PySem PySem.Spec PyProof.Rows M
section
variable {X : Cx}
end
end L2
namespace M
open PySem PySem.Spec PyProof.Rows L2
variable {K : PySem.W.Frag}
end M
namespace L2
open PySem PySem.Spec PyProof.Rows
end L2
namespace M
open PySem PySem.Spec PyProof.Rows L2
variable {K : PySem.W.Frag}
end M
namespace L2
open PySem PySem.Spec PyProof.Rows M SRT
section
variable {prog : Program} {w : World} {A : Around} {E : Value -> Shared -> Prop} {s : Shared}
end
section
variable {X : Cx}
end
end L2
namespace M
open PySem PySem.Spec PyProof.Rows L2 SRT
variable {K : PySem.W.Frag}
end M
namespace L2
open PySem PySem.Spec PyProof.Rows
section
variable {X : Cx} {CX : CXT} {k : Nat} {f : Addr} {fd : FuncData} {ps : List Str} {sp : Sp} {E : St -> XK} {x : Str} {p pos : Pos}
end
end L2
namespace M
open PySem PySem.Spec PyProof.Rows L2
section
variable {X : Cx} {E : L2.St -> XK} {k j : Nat} {x : Str} {p pos : Pos} {n : Nat} {m : List L -> Res L}
end
end M
namespace L2
open PySem PySem.Spec PyProof.Rows
section
variable {X : Cx} {pos : Pos}
end
end L2
namespace M
open PySem PySem.Spec PyProof.Rows L2
section
variable {X : Cx} {E : L2.St -> XK} {pos : Pos}
end
end M
namespace L2
open PySem PySem.Spec PyProof.Rows
section
variable {X : Cx}
end
end L2
namespace M
open PySem PySem.Spec PyProof.Rows L2
section
variable {K : PySem.W.Frag}
end
end M
namespace L2
open PySem PySem.Spec PyProof.Rows
section
variable {X : Cx}
end
end L2
namespace M
open PySem PySem.Spec PyProof.Rows L2
end M
namespace L2
open PySem PySem.Spec PyProof.Rows
section
variable {prog : Program} {w : World} {A : Around} {E : Value -> Shared -> Prop} {s : Shared}
end
section
variable {X : Cx}
end
end L2
namespace M
open PySem PySem.Spec PyProof.Rows L2
section
variable {K : PySem.W.Frag}
end
end M
namespace L2
open PySem PySem.Spec PyProof.Rows
section
variable {X : Cx}
end
end L2
namespace M
open PySem PySem.Spec PyProof.Rows L2
variable {K : PySem.W.Frag}
end M
namespace L2
open PySem PySem.Spec PyProof.Rows
section
variable {X : Cx}
end
end L2
namespace M
open PySem PySem.Spec PyProof.Rows L2
section
variable {X : Cx} {E : L2.St -> XK} {sts rest A : List Stmt} {st : Stmt} {fA g : MS} {fe : En -> Res Ev} {fc : En -> Res Bool} {e c : Expr} {pos pos2 : Pos}
end
end M
namespace L2
open PySem
section
variable {prog : Program} {w : World} {A : Around} {E : Value -> Shared -> Prop} {s : Shared} {K : Type} [DecidableEq K] {knd : KeyKind prog w K}
end
section
variable {prog : Program} {w : World} {A : Around} {K : Type} [DecidableEq K] {knd : KeyKind prog w K} {R : Result -> Shared -> Prop} {I : Addr} {fp wr : List Addr} {G : Array GenState -> Array GenState -> Prop} {n : Nat} {P : Nat -> Value -> Prop} {St : Nat -> Shared -> Prop}
end
section
variable {prog : Program} {w : World} {A : Around} {E : Value -> Shared -> Prop} {s : Shared} {K : Type} [DecidableEq K] {knd : KeyKind prog w K}
end
section
variable {X : Cx}
end
end L2
namespace M
open PySem PySem.Spec PyProof.Rows L2
theorem kN {K : PySem.W.Frag} {G : Hp} : ∀ {zs : List V} {k : List Int}, Reps K G zs (k.map .int) -> zs = (k.map Sum.inl).map kV
 | [], [], _ => rfl
 | [], _ :: _, r => by cases r
 | _ :: _, [], r => by cases r
 | z :: zs, i :: k, .cons r t => by
  cases r
  rw [kN t]
  rfl
end M
namespace HS
open PySem
open PySem.Spec PyProof.Rows
section
variable {prog : Program} {w : World} {A : Around} {E : Value -> Shared -> Prop} {s : Shared}
abbrev hK (prog : Program) (w : World) (k : List Int) : Int := tupleKeyHash (intKind prog w) k
theorem items_int {ks : List Int} {vs : List Value} (h : ItemsAre (intKind prog w) ks vs) : ∀ v ∈ vs, ∃ i t, v = .int i t := by
 induction h with
 | nil => intro v hv; exact nomatch hv
 | @cons k v ks vs h1 _ ih =>
  intro x hx
  rcases List.mem_cons.mp hx with z | z
  ·subst z
   cases x with
   | int i t => exact ⟨i, t, rfl⟩
   | _ => simp [intKind, Value.isInt] at h1
  ·exact ih x z
end
section
variable {prog : Program} {w : World} {A : Around} {E : Value -> Shared -> Prop} {s : Shared} {S I : Addr} {hs : List Int} {o : Obj} {es : Array (Int × Value)} {ep : Nat} {t : SetTable}
end
end HS
namespace L2
open PySem PySem.Spec PyProof.Rows
section
variable {X : Cx}
end
end L2
namespace M
open PySem PySem.Spec PyProof.Rows L2
end M
namespace HS
open PySem PySem.Spec PyProof.Rows
section
open PySem.SeqAt
open PySem.AutoSeq1 (wpAny_loadPart')
open PySem.MeetsSeq PySem.MeetsSeq2 PySem.MeetsSeq3
end
section
variable {prog : Program} {w : World} {A : Around} {E : Value -> Shared -> Prop} {s : Shared}
end
section
variable {prog : Program} {w : World} {A : Around} {R : Result -> Shared -> Prop} {I S : Addr} {fp wr : List Addr} {n : Nat} {P : Nat -> Value -> Prop} {St : Nat -> Heap -> Prop} {Ok : Heap -> Prop} {bt : Nat -> Nat -> Bool}
end
section
variable {prog : Program} {w : World} {A : Around} {E : Value -> Shared -> Prop} {s : Shared}
end
section
variable {prog : Program} {w : World} {A : Around} {R : Result -> Shared -> Prop} {I S : Addr} {fp wr : List Addr} {n : Nat} {P : Nat -> Value -> Prop} {St : Nat -> Heap -> Prop} {Ok : Heap -> Prop} {bt : Nat -> Nat -> Bool}
end
section
variable {prog : Program} {w : World} {A : Around} {E : Value -> Shared -> Prop} {s : Shared}
end
end HS
namespace L2
open PySem PySem.Spec PyProof.Rows
section
variable {X : Cx}
end
end L2
namespace M
open PySem PySem.Spec PyProof.Rows L2
section
variable {K : PySem.W.Frag} {f : List (List Int) -> Nat -> Nat -> Bool}
end
end M
namespace N
open PySem PySem.Spec PyProof.Rows L2 M
def frD (x : Int × Int) : D := .tuple [.int x.1, .int x.2]
abbrev Pl := Int × Int × (Int × Int)
def plD (p : Pl) : D := .tuple [.int p.1, .int p.2.1, frD p.2.2]
def slD (p : Int × Int) : D := .tuple [.int p.1, .int p.2]
theorem at0 {α : Type} (x : α) (r : List α) : atI (x :: r) 0 = some x := iN (j := 0) rfl
theorem at1 {α : Type} (x y : α) (r : List α) : atI (x :: y :: r) 1 = some y := iN (j := 1) rfl
theorem at2 {α : Type} (x y z : α) (r : List α) : atI (x :: y :: z :: r) 2 = some z := iN (j := 2) rfl
theorem aT (i j : Int) : PyData.eqv (.int i) (.int j) = (i == j) := by simp [PyData.eqv]
theorem aU (i : Int) : SeqAt.shaped (.int i) = true := by simp [SeqAt.shaped, PyData.canLay0, PyData.depth]
theorem jT {i j : Int} (h1 : Sz 60000 i) (h2 : Sz 60000 j) : CMulW i j := ⟨h1, h2⟩
def p6 {α : Type} (f : D -> Option α) : List D -> Option (List α)
 | [] => some []
 | d :: r => match f d with
  | none => none
  | some a => match p6 f r with
   | none => none
   | some as => some (a :: as)
theorem mK {α : Type} {f : D -> Option α} {enc : α -> D} (h : ∀ d a, f d = some a -> d = enc a) : ∀ {ds : List D} {xs : List α}, p6 f ds = some xs -> ds = xs.map enc
 | [], _, e => by cases e; rfl
 | d :: r, xs, e => by
  unfold p6 at e
  cases e1 : f d with
  | none => rw [e1] at e; cases e
  | some a =>
   rw [e1] at e
   cases e2 : p6 f r with
   | none => rw [e2] at e; cases e
   | some as => rw [e2] at e; cases e; rw [h d a e1, mK h e2]; rfl
theorem gB {α : Type} {f : D -> Option α} {enc : α -> D} (h : ∀ a, f (enc a) = some a) : ∀ xs : List α, p6 f (xs.map enc) = some xs
 | [] => rfl
 | x :: xs => by
  show (match f (enc x) with | none => none | some a => match p6 f (xs.map enc) with | none => none | some as => some (a :: as)) = _
  rw [h x, gB h xs]
def xC : D -> Option (Int × Int)
 | .tuple [.int a, .int b] => some (a, b)
 | _ => none
def vZ : D -> Option Pl
 | .tuple [.int i, .int j, .tuple [.int a, .int b]] => some (i, j, (a, b))
 | _ => none
theorem yA (d : D) (x : Int × Int) (h : xC d = some x) : d = frD x := by
 unfold xC at h
 split at h
 ·cases h; rfl
 ·cases h
theorem xO (d : D) (x : Pl) (h : vZ d = some x) : d = plD x := by
 unfold vZ at h
 split at h
 ·cases h; rfl
 ·cases h
theorem uK (x : Int × Int) : xC (frD x) = some x := rfl
theorem jH (x : Pl) : vZ (plD x) = some x := rfl
theorem fZ {α : Type} {g : D -> Option (Option D)} {enc : α -> D} {out : α -> D} : ∀ xs : List α, (∀ x ∈ xs, g (enc x) = some (some (out x))) -> tU g (xs.map enc) = some (xs.map out)
 | [], _ => rfl
 | x :: xs, h => by
  show (match g (enc x) with | none => none | some o => match tU g (xs.map enc) with | none => none | some r => some (match o with | some y => y :: r | none => r)) = _
  rw [h x (.head _), fZ xs fun y hy => h y (.tail _ hy)]
  rfl
def ltF (x y : Int × Int) : Bool := decide (x.1 * y.2 < y.1 * x.2)
def best (b : Int × Int) : List (Int × Int) -> Int × Int
 | [] => b
 | x :: r => best (if ltF b x = true then x else b) r
def FSz (n : Nat) (x : Int × Int) : Prop := Sz n x.1 /\ Sz n x.2
def Good (n : Nat) (x : Int × Int) : Prop := 1 <= x.2 /\ Sz n x.1 /\ Sz n x.2
theorem Good.fsz {n : Nat} {x : Int × Int} (h : Good n x) : FSz n x := h.2
theorem Good.mono {m n : Nat} {x : Int × Int} (h : Good m x) (l : m <= n) : Good n x := ⟨h.1, h.2.1.mono l, h.2.2.mono l⟩
theorem kY {n : Nat} {t b : Int} (ht : Sz n t) (hb : Sz n b) (h0 : b ≠ 0) : Good n (FR.mk t b) := ⟨(FR.p9 h0).1.pos, Sz.le ht (natAbs_fdiv_le _ _), Sz.le hb (natAbs_fdiv_le _ _)⟩
def hT (i : Int) (x : Int × Int) : Int × Int := FR.mk (i * x.1) (1 * x.2)
def hP (x y : Int × Int) : Int × Int := FR.mk (x.1 * y.2 + y.1 * x.2) (x.2 * y.2)
def hgt (p : Pl) (pt : (Int × Int) × (Int × Int)) : Int × Int := hP (hP (hT p.1 pt.1) (hT p.2.1 pt.2)) p.2.2
theorem fU {m n : Nat} {i : Int} {x : Int × Int} (hi : Sz m i) (hx : Good n x) : Good (m + n) (hT i x) :=
 kY (Sz.mul hi hx.2.1) (by rw [Int.one_mul]; exact hx.2.2.mono (Nat.le_add_left _ _)) (by have := hx.1; omega)
theorem kL {m n : Nat} {x y : Int × Int} (hx : Good m x) (hy : Good n y) : Good (m + n + 1) (hP x y) :=
 kY (Sz.add (Sz.mul hx.2.1 hy.2.2) ((Sz.mul hy.2.1 hx.2.2).mono (by omega))) ((Sz.mul hx.2.2 hy.2.2).mono (by omega)) (fun z => by
  rcases Int.mul_eq_zero.mp z with q | q
  ·have := hx.1; omega
  ·have := hy.1; omega)
theorem Good.ne {m n : Nat} {x y : Int × Int} (hx : Good m x) (hy : Good n y) : x.2 * y.2 ≠ 0 := fun z => by
 rcases Int.mul_eq_zero.mp z with q | q
 ·have := hx.1; omega
 ·have := hy.1; omega
theorem aBw : Sz 2000 (1 : Int) := by unfold Sz; exact Nat.one_lt_two_pow (by decide)
structure GoodP (p : Pl) (pt : (Int × Int) × (Int × Int)) : Prop where
 i : Sz 100 p.1
 j : Sz 100 p.2.1
 h : Good 200 p.2.2
 x : Good 300 pt.1
 y : Good 300 pt.2
theorem GoodP.hgt {p : Pl} {pt : (Int × Int) × (Int × Int)} (g : GoodP p pt) : Good 1002 (hgt p pt) := kL (kL (fU g.i g.x) (fU g.j g.y)) g.h
open Classical in
noncomputable def mOf {α : Type} (enc : α -> List L) (P : α -> Prop) (g : α -> Res L) (ls : List L) : Res L := if h : ∃ a, enc a = ls /\ P a then g h.choose else .bad
theorem u4 {α : Type} {enc : α -> List L} {P : α -> Prop} {g : α -> Res L} (inj : ∀ a b, enc a = enc b -> a = b) {a : α} (h : P a) : mOf enc P g (enc a) = g a := by
 have hx : ∃ b, enc b = enc a /\ P b := ⟨a, rfl, h⟩
 unfold mOf
 rw [dif_pos hx, inj _ _ hx.choose_spec.1]
theorem uC {α : Type} {enc : α -> List L} {P : α -> Prop} {g : α -> Res L} {n : Nat} {f : MS} (h : ∀ a, P a -> d4 n f (enc a) = g a) : ∀ ls, mOf enc P g ls = .bad \/ d4 n f ls = mOf enc P g ls := by
 intro ls
 unfold mOf
 by_cases hx : ∃ a, enc a = ls /\ P a
 ·rw [dif_pos hx]
  exact .inr ((congrArg _ hx.choose_spec.1.symm).trans (h _ hx.choose_spec.2))
 ·exact .inl (dif_neg hx)
theorem frI {a b : Int × Int} (h : frD a = frD b) : a = b := Option.some.inj (congrArg xC h)
theorem plI {a b : Pl} (h : plD a = plD b) : a = b := Option.some.inj (congrArg vZ h)
theorem aH1 {a b : List Pl} (h : a.map plD = b.map plD) : a = b := by
 have e := congrArg (p6 vZ) h
 rw [gB jH, gB jH] at e
 exact Option.some.inj e
theorem ptI {x y : (Int × Int) × (Int × Int)} (h : PyData.tuple [frD x.1, frD x.2] = .tuple [frD y.1, frD y.2]) : x = y := by
 injection h with h
 injection h with h1 h2
 injection h2 with h2 _
 exact Prod.ext (frI h1) (frI h2)
def ePH (a : Pl × (Int × Int) × (Int × Int)) : List L := [.p (plD a.1), .p (.tuple [frD a.2.1, frD a.2.2])]
theorem wJ (a b : Pl × (Int × Int) × (Int × Int)) (h : ePH a = ePH b) : a = b := by
 unfold ePH at h
 injection h with h1 h2
 injection h2 with h2 _
 injection h1 with h1
 injection h2 with h2
 exact Prod.ext (plI h1) (ptI h2)
def eHA (a : List Pl × (Int × Int) × (Int × Int)) : List L := [.p (.list (a.1.map plD)), .p (.tuple [frD a.2.1, frD a.2.2])]
theorem yF (a b : List Pl × (Int × Int) × (Int × Int)) (h : eHA a = eHA b) : a = b := by
 unfold eHA at h
 injection h with h1 h2
 injection h2 with h2 _
 injection h1 with h1
 injection h1 with h1
 injection h2 with h2
 exact Prod.ext (aH1 h1) (ptI h2)
theorem cT (a : D) (r : List D) : ixE (.p (.tuple (a :: r))) (.p (.int 0)) = .ok (.p a) := by simp [ixE, dS, at0]
theorem cR (a b : D) (r : List D) : ixE (.p (.tuple (a :: b :: r))) (.p (.int 1)) = .ok (.p b) := by simp [ixE, dS, at1]
theorem dC (a b d : D) (r : List D) : ixE (.p (.tuple (a :: b :: d :: r))) (.p (.int 2)) = .ok (.p d) := by simp [ixE, dS, at2]
theorem bM (p : Pl) : ixE (.p (plD p)) (.p (.int 0)) = .ok (.p (.int p.1)) := cT _ _
theorem bL (p : Pl) : ixE (.p (plD p)) (.p (.int 1)) = .ok (.p (.int p.2.1)) := cR _ _ _
theorem bK (p : Pl) : ixE (.p (plD p)) (.p (.int 2)) = .ok (.p (frD p.2.2)) := dC _ _ _ _
theorem bO (p : Int × Int) : ixE (.p (frD p)) (.p (.int 0)) = .ok (.p (.int p.1)) := cT _ _
theorem bN (p : Int × Int) : ixE (.p (frD p)) (.p (.int 1)) = .ok (.p (.int p.2)) := cR _ _ _
section
variable {κ α : Type} [DecidableEq κ]
def dZ : List (κ × α) -> κ -> Option α
 | [], _ => none
 | p :: r, k => if p.1 = k then some p.2 else dZ r k
def nO (k : κ) (v : α) : List (κ × α) -> List (κ × α)
 | [] => []
 | p :: r => (if p.1 = k then (p.1, v) else p) :: nO k v r
def oX (m : List (κ × α)) (k : κ) (v : α) : List (κ × α) := if (dZ m k).isSome = true then nO k v m else m ++ [(k, v)]
def encM (ek : κ -> D) (ev : α -> D) (m : List (κ × α)) : List (D × D) := m.map fun p => (ek p.1, ev p.2)
variable {ek : κ -> D} {ev : α -> D} (inj : ∀ a b, ek a = ek b -> a = b)
include inj
theorem iI (k : κ) : ∀ m : List (κ × α), rW (encM ek ev m) (ek k) = (dZ m k).map ev
 | [] => rfl
 | p :: r => by
  unfold encM
  rw [List.map_cons]
  unfold rW dZ
  by_cases e : p.1 = k
  ·rw [if_pos (by rw [e]), if_pos e]; rfl
  ·rw [if_neg (fun z => e (inj _ _ z)), if_neg e]
   exact iI k r
theorem kK (k : κ) (v : α) : ∀ m : List (κ × α), zS (ek k) (ev v) (encM ek ev m) = encM ek ev (nO k v m)
 | [] => rfl
 | p :: r => by
  have ih := kK k v r
  unfold encM at ih ⊢
  rw [List.map_cons]
  unfold zS nO
  rw [List.map_cons, ih]
  by_cases e : p.1 = k
  ·rw [if_pos (by rw [e]), if_pos e]
  ·rw [if_neg (fun z => e (inj _ _ z)), if_neg e]
theorem oV (k : κ) (v : α) (m : List (κ × α)) : v7 (encM ek ev m) (ek k) (ev v) = encM ek ev (oX m k v) := by
 unfold v7 oX
 rw [iI inj]
 cases e : dZ m k with
 | none =>
  rw [if_neg (by simp), if_neg (by simp)]
  unfold encM
  rw [List.map_append]
  rfl
 | some x =>
  rw [if_pos (by rfl), if_pos (by rfl)]
  exact kK inj k v m
end
theorem kZ (a b : Int × Int) (h : slD a = slD b) : a = b := by
 unfold slD at h
 injection h with h
 injection h with h1 h2
 injection h2 with h2 _
 injection h1 with h1
 injection h2 with h2
 exact Prod.ext h1 h2
theorem kG {α : Type} {ev : α -> D} (m : List ((Int × Int) × α)) : dsp (encM slD ev m) = (false, encM slD ev m) := by
 cases m <;> rfl
theorem mY (s : Int × Int) : (aDz (slD s)).isSome = true := rfl
theorem j9 {α : Type} {ev : α -> D} (m : List ((Int × Int) × α)) (s : Int × Int) : oJ (encM slD ev m) (slD s) = some ((dZ m s).map ev) := by
 unfold oJ
 rw [kG]
 dsimp only
 rw [if_pos (mY s), iI kZ]
theorem tL {α : Type} {ev : α -> D} (m : List ((Int × Int) × α)) (s : Int × Int) (v : α) (h : m.length <= 100000) : vT (encM slD ev m) (slD s) (ev v) = some (encM slD ev (oX m s v)) := by
 unfold vT
 rw [kG]
 dsimp only
 rw [if_pos ⟨mY s, by unfold encM; rw [List.length_map]; exact h⟩, oV kZ]
theorem j7 {α κ : Type} [DecidableEq κ] (k : κ) (v : α) : ∀ m : List (κ × α), (nO k v m).length = m.length
 | [] => rfl
 | _ :: r => by unfold nO; rw [List.length_cons, List.length_cons, j7 k v r]
theorem u5 {α κ : Type} [DecidableEq κ] (m : List (κ × α)) (k : κ) (v : α) : (oX m k v).length <= m.length + 1 := by
 unfold oX
 split
 ·rw [j7]; exact Nat.le_succ _
 ·rw [List.length_append]; exact Nat.le_refl _
theorem i6 {α κ : Type} [DecidableEq κ] (k : κ) (v : α) (j : κ) : ∀ m : List (κ × α), dZ (nO k v m) j = if j = k then (dZ m k).map (fun _ => v) else dZ m j
 | [] => by unfold nO dZ; split <;> rfl
 | p :: r => by
  have ih := i6 k v j r
  unfold nO dZ
  by_cases e : p.1 = k
  ·rw [if_pos e]
   by_cases e2 : p.1 = j
   ·have : j = k := by rw [<- e2, e]
    rw [if_pos e2, if_pos this, if_pos e]; rfl
   ·have : j ≠ k := fun z => e2 (by rw [e, z])
    rw [if_neg e2, if_neg this, if_neg e2]
    rw [if_neg this] at ih
    exact ih
  ·rw [if_neg e]
   by_cases e2 : p.1 = j
   ·have : j ≠ k := fun z => e (by rw [e2, z])
    rw [if_pos e2, if_neg this, if_pos e2]
   ·rw [if_neg e2, ih]
    by_cases e3 : j = k
    ·rw [if_pos e3, if_pos e3, if_neg e]
    ·rw [if_neg e3, if_neg e3, if_neg e2]
theorem j8 {α κ : Type} [DecidableEq κ] (j : κ) (l : List (κ × α)) : ∀ m : List (κ × α), dZ (m ++ l) j = match dZ m j with
  | some x => some x
  | none => dZ l j
 | [] => rfl
 | p :: r => by
  have ih := j8 j l r
  rw [List.cons_append]
  show (if p.1 = j then some p.2 else dZ (r ++ l) j) = match (if p.1 = j then some p.2 else dZ r j) with
   | some x => some x
   | none => dZ l j
  by_cases e : p.1 = j
  ·rw [if_pos e, if_pos e]
  ·rw [if_neg e, if_neg e]; exact ih
theorem eT {α κ : Type} [DecidableEq κ] (m : List (κ × α)) (k : κ) (v : α) (j : κ) : dZ (oX m k v) j = if j = k then some v else dZ m j := by
 unfold oX
 cases e : dZ m k with
 | none =>
  rw [if_neg (by simp), j8]
  by_cases ej : j = k
  ·subst ej; rw [e, if_pos rfl]; unfold dZ; rw [if_pos rfl]
  ·rw [if_neg ej]
   cases e2 : dZ m j with
   | some x => rfl
   | none => unfold dZ; rw [if_neg (fun z => ej z.symm)]; rfl
 | some x =>
  rw [if_pos (by rfl), i6]
  by_cases ej : j = k
  ·rw [if_pos ej, if_pos ej, e]; rfl
  ·rw [if_neg ej, if_neg ej]
def slp (p : Pl) : Int × Int := (p.1, p.2.1)
def kys {α : Type} (m : List ((Int × Int) × α)) : List (List Int) := m.map fun e => [e.1.1, e.1.2]
def un2 (k : List Int) : Int × Int := (k.getD 0 0, k.getD 1 0)
def zL {α : Type} (m : List ((Int × Int) × α)) (d : α) (k : List Int) : α := (dZ m (un2 k)).getD d
theorem o5 {α : Type} {ev : α -> D} (m : List ((Int × Int) × α)) : (encM slD ev m).map (·.1) = (kys m).map nV := by
 unfold encM kys
 rw [List.map_map, List.map_map]
 rfl
theorem yR {α : Type} (m : List ((Int × Int) × α)) : ((kys m).all fun k => !k.isEmpty) = true := by
 unfold kys
 rw [List.all_map]
 exact List.all_eq_true.mpr fun _ _ => rfl
theorem lX {α : Type} {ev : α -> D} (m : List ((Int × Int) × α)) (h : m.length < 64) : eX [.p (.dict (encM slD ev m))] = .ok (.f (.list ((lA (kys m)).map nV))) := by
 unfold eX
 simp only [i7, kG, o5, mV]
 rw [if_pos trivial, if_pos ⟨yR m, by unfold kys; rw [List.length_map]; exact h⟩]
theorem kC {α κ : Type} [DecidableEq κ] : ∀ {m : List (κ × α)} {e : κ × α}, e ∈ m -> ∃ v, dZ m e.1 = some v
 | p :: r, e, h => by
  unfold dZ
  by_cases q : p.1 = e.1
  ·rw [if_pos q]; exact ⟨_, rfl⟩
  ·rw [if_neg q]
   rcases List.mem_cons.mp h with z | z
   ·exact absurd (by rw [z]) q
   ·exact kC z
theorem tP {α : Type} {m : List ((Int × Int) × α)} {k : List Int} (h : k ∈ lA (kys m)) (d : α) : nV k = slD (un2 k) /\ k = [(un2 k).1, (un2 k).2] /\ dZ m (un2 k) = some (zL m d k) := by
 have h1 := (e9 (kys m)).mem_iff.mp h
 obtain ⟨e, he, rfl⟩ := List.mem_map.mp h1
 obtain ⟨v, hv⟩ := kC he
 have hu : un2 [e.1.1, e.1.2] = e.1 := rfl
 refine ⟨rfl, rfl, ?_⟩
 unfold zL
 rw [hu, hv]
 rfl
theorem pH {α : Type} (f : α -> Bool) : ∀ xs : List α, pG (xs.map fun x => PyData.bool (f x)) = some (xs.map f)
 | [] => rfl
 | x :: xs => by
  show (match pG (xs.map fun x => PyData.bool (f x)) with | some bs => some (f x :: bs) | none => none) = _
  rw [pH f xs]
  rfl
theorem any_map {α : Type} (f : α -> Bool) (xs : List α) : (xs.map f).any id = xs.any f := by rw [List.any_map]; rfl
theorem q0 {x : Int} (n : Nat) (h : x.natAbs < 2 ^ n) : Sz n x := h
theorem cm {i j : Int} {m n : Nat} (h1 : Sz m i) (h2 : Sz n j) (hm : m <= 60000) (hn : n <= 60000) : CMulW i j := ⟨h1.mono hm, h2.mono hn⟩
theorem aCg {x : Int} (h0 : 0 <= x) (h1 : x < 10 ^ 60) : Sz 210 x := by
 unfold Sz
 have : (10 : Int) ^ 60 < 2 ^ 210 := by decide
 omega
theorem vY {x : Int} (h0 : -1000000000000 <= x) (h1 : x <= 1000000000000) : Sz 40 x := by
 unfold Sz
 omega
theorem cU {a b : Int} (hb : 0 < b) : 0 <= a.fmod b /\ a.fmod b < b := by
 rw [Int.fmod_eq_emod_of_nonneg a (Int.le_of_lt hb)]
 exact ⟨Int.emod_nonneg a (by omega), Int.emod_lt_of_pos a hb⟩
theorem xN {ns : List Int} {k : Int} (h0 : 0 <= k) (h : k < (ns.length : Int)) : ∃ v : Int, atI (ns.map PyData.int) k = some (.int v) := by
 have hk : k.toNat < ns.length := by omega
 have ek : k = ((k.toNat : Nat) : Int) := by omega
 have q : atI (ns.map PyData.int) ((k.toNat : Nat) : Int) = some (.int ns[k.toNat]) := iN (by rw [List.getElem?_map, List.getElem?_eq_getElem hk] <;> rfl)
 rw [<- ek] at q
 exact ⟨_, q⟩
theorem oZ {α : Type} {g : D -> Option (Option D)} {enc : α -> D} {P : Int -> Prop} : ∀ xs : List α, (∀ x ∈ xs, ∃ v, P v /\ g (enc x) = some (some (.int v))) -> ∃ vs : List Int, vs.length = xs.length /\ (∀ v ∈ vs, P v) /\ tU g (xs.map enc) = some (vs.map .int)
 | [], _ => ⟨[], rfl, (fun _ h => nomatch h), rfl⟩
 | x :: xs, h => by
  obtain ⟨v, pv, e⟩ := h x (.head _)
  obtain ⟨vs, hl, hp, ih⟩ := oZ xs fun y hy => h y (.tail _ hy)
  refine ⟨v :: vs, by simp [hl], fun y hy => ?_, ?_⟩
  ·rcases List.mem_cons.mp hy with z | z
   ·rw [z]; exact pv
   ·exact hp y z
  ·show (match g (enc x) with | none => none | some o => match tU g (xs.map enc) with | none => none | some r => some (match o with | some y => y :: r | none => r)) = _
   rw [e, ih]
   rfl
theorem cS {f g : MS} {en e1 : En} (h : f en = some (.nx e1)) : a8 f g en = g e1 := by unfold a8; rw [h]
theorem mU {f g : MS} {en : En} {l : L} (h : f en = some (.rt l)) : a8 f g en = some (.rt l) := by unfold a8; rw [h]
theorem kW {i : Nat} {fe : En -> Res Ev} {en : En} {d : D} (h : fe en = .ok (.p d)) : bD i fe en = some (.nx (en.set i (some (.p d)))) := by unfold bD; rw [h]
theorem zV {i : Nat} {fe : En -> Res Ev} {en : En} {d : D} (h : fe en = .ok (.f d)) : bD i fe en = some (.nx (en.set i (some (.o d)))) := by unfold bD; rw [h]
theorem zW {ft : En -> Res Bool} {f g : MS} {en : En} (h : ft en = .ok true) : cC ft f g en = f en := by unfold cC; rw [h]; rfl
theorem zR {ft : En -> Res Bool} {f g : MS} {en : En} (h : ft en = .ok false) : cC ft f g en = g en := by unfold cC; rw [h]; rfl
theorem mZ {n : Nat} {f : MS} {ls : List L} {l : L} (h : f (bX n ls) = some (.rt l)) : d4 n f ls = .ok l := by unfold d4; rw [h]
theorem oC {x : Int} (h0 : -100000 <= x) (h1 : x <= 100000) : Sz 100 x := by
 unfold Sz
 omega
theorem iR (C : Int) {b : Int} (h0 : 1 <= b) (h1 : b <= 100000) : mR C b := ⟨by omega, (oC (by omega) h1).mono (by decide)⟩
theorem mM {α : Type} (f : α -> D) (h : ∀ a, PyData.canLay0 (f a) = true) : ∀ xs : List α, PyData.canLayAll0 (xs.map f) = true
 | [] => rfl
 | x :: xs => by rw [List.map_cons, PyData.canLayAll0, h x, mM f h xs]; rfl
theorem mW {α : Type} (f : α -> D) (n : Nat) (h : ∀ a, PyData.depth (f a) <= n) : ∀ xs : List α, PyData.depthAll (xs.map f) <= n
 | [] => Nat.zero_le _
 | x :: xs => by
  rw [List.map_cons, PyData.depthAll]
  exact Nat.max_le.mpr ⟨h x, mW f n h xs⟩
theorem zG (p : Pl) : PyData.canLay0 (plD p) = true := by simp [plD, frD, PyData.canLay0, PyData.canLayAll0]
theorem xF (p : Pl) : PyData.depth (plD p) <= 9 := by simp [plD, frD, PyData.depth, PyData.depthAll]
theorem pC {α : Type} (f : α -> D) (h1 : ∀ a, PyData.canLay0 (f a) = true) (h2 : ∀ a, PyData.depth (f a) <= 9) (xs : List α) : SeqAt.shaped (.list (xs.map f)) = true := by
 have a : PyData.canLay0 (.list (xs.map f)) = true := by rw [PyData.canLay0]; exact mM f h1 xs
 have b : PyData.depth (.list (xs.map f)) <= 64 := by
  rw [PyData.depth]
  have := mW f 9 h2 xs
  omega
 unfold SeqAt.shaped
 rw [a, decide_eq_true b]
 rfl
theorem jB {x y : Ev} {d : D} (h1 : dat x = some d) (h2 : dat y = some d) (hs : SeqAt.shaped d = true) (ng : Bool) : eqE ng x y = .ok (.p (.bool (!ng))) := by
 have hc : PyData.canLay0 d = true := by
  unfold SeqAt.shaped at hs
  exact (Bool.and_eq_true_iff.mp hs).1
 unfold eqE
 rw [h1, h2]
 dsimp only
 rw [if_pos ⟨hs, hs⟩, SeqAt.eqv_refl d hc]
 cases ng <;> rfl
theorem xK (ps : List Pl) : SeqAt.shaped (.list (ps.map plD)) = true := pC plD zG xF ps
theorem aF9 (x : Int × Int) : SeqAt.shaped (frD x) = true := by simp [SeqAt.shaped, frD, PyData.canLay0, PyData.canLayAll0, PyData.depth, PyData.depthAll]
theorem aBk {fi : En -> Res (List D)} {tg : D -> En -> Option En} {f : MS} {en : En} {ds : List D} (h : fi en = .ok ds) : pO fi tg f en = gM tg f ds en := by unfold pO; rw [h]
abbrev Pt := (Int × Int) × (Int × Int)
end N
local macro_rules | `(tactic| walk_at "z") => `(tactic| repeat (first | assumption | apply L2.Sz.mul | apply N.Sz.addM | apply N.Sz.subM | apply L2.Sz.neg | apply N.sz_fdiv | (apply N.sz_fmod; (first | decide | omega)) | exact N.sz_lit4 (by decide) | exact N.sz_lit (by decide) | exact N.sz_lit70 (by decide) | exact N.sz_big (by decide)))
local macro_rules | `(tactic| walk_at "d") => `(tactic| first | assumption | (first | apply N.cm2 | apply N.cd2) <;> (first | decide | omega | (walk_at "z")) | decide | omega)
namespace N
open PySem PySem.Spec PyProof.Rows L2 M
def leF (x y : Int × Int) : Prop := x.1 * y.2 <= y.1 * x.2
theorem gA (x : Int × Int) : leF x x := Int.le_refl _
theorem uF {x y : Int × Int} (h : ltF y x = false) : leF x y := by
 unfold ltF at h
 have := of_decide_eq_false h
 unfold leF
 omega
theorem tW {x y : Int × Int} (h : ltF x y = true) : leF x y := by
 unfold ltF at h
 have := of_decide_eq_true h
 unfold leF
 omega
theorem eG {x y z : Int × Int} (hx : 1 <= x.2) (hy : 1 <= y.2) (hz : 1 <= z.2) (h1 : leF x y) (h2 : leF y z) : leF x z := by
 unfold leF at *
 have a := Int.mul_le_mul_of_nonneg_right h1 (show 0 <= z.2 by omega)
 have b := Int.mul_le_mul_of_nonneg_right h2 (show 0 <= x.2 by omega)
 refine Int.le_of_mul_le_mul_right (a := y.2) ?_ (by omega)
 have e1 : x.1 * z.2 * y.2 = x.1 * y.2 * z.2 := by ac_rfl
 have e2 : z.1 * x.2 * y.2 = z.1 * y.2 * x.2 := by ac_rfl
 have e3 : y.1 * x.2 * z.2 = y.1 * z.2 * x.2 := by ac_rfl
 omega
theorem nB {a b d : Int} (h : d ∣ a * b) (g : Int.gcd a d = 1) : d ∣ b := by
 have h1 : d.natAbs ∣ a.natAbs * b.natAbs := by
  rw [<- Int.natAbs_mul]
  exact Int.natAbs_dvd_natAbs.mpr h
 have c : Nat.Coprime d.natAbs a.natAbs := by
  show Nat.gcd d.natAbs a.natAbs = 1
  rw [Nat.gcd_comm]
  exact g
 exact Int.natAbs_dvd_natAbs.mp (Nat.Coprime.dvd_of_dvd_mul_left c h1)
theorem aB7 {x y : Int × Int} (hx : FR.Fr x) (hy : FR.Fr y) (h1 : leF x y) (h2 : leF y x) : x = y := by
 have e : x.1 * y.2 = y.1 * x.2 := Int.le_antisymm h1 h2
 have p1 := hx.pos
 have p2 := hy.pos
 have d1 : x.2 ∣ y.2 := by
  have : x.2 ∣ x.1 * y.2 := ⟨y.1, by rw [e]; ac_rfl⟩
  exact nB this hx.low
 have d2 : y.2 ∣ x.2 := by
  have : y.2 ∣ y.1 * x.2 := ⟨x.1, by rw [<- e]; ac_rfl⟩
  exact nB this hy.low
 have eb : x.2 = y.2 := Int.dvd_antisymm (by omega) (by omega) d1 d2
 have et : x.1 = y.1 := by
  rw [eb] at e
  exact Int.eq_of_mul_eq_mul_right (by omega) e
 exact Prod.ext et eb
theorem mk_le {t b u d : Int} (hb : 1 <= b) (hd : 1 <= d) (h : t * d <= u * b) : leF (FR.mk t b) (FR.mk u d) := by
 obtain ⟨f1, e1⟩ := FR.p9 (t := t) (b := b) (by omega)
 obtain ⟨f2, e2⟩ := FR.p9 (t := u) (b := d) (by omega)
 have a : leF (FR.mk t b) (t, b) := Int.le_of_eq e1
 have b' : leF (u, d) (FR.mk u d) := Int.le_of_eq e2.symm
 have m : leF (t, b) (u, d) := h
 exact eG f1.pos hb f2.pos a (eG hb hd f2.pos m b')
theorem aGk {a h h' : Int × Int} (ha : 1 <= a.2) (h1 : 1 <= h.2) (h2 : 1 <= h'.2) (h0 : leF h h') : leF (hP a h) (hP a h') := by
 unfold hP
 have pos : ∀ {x y : Int}, 1 <= x -> 1 <= y -> 1 <= x * y := fun {x y} hx hy => by
  have := Int.mul_pos (show 0 < x by omega) (show 0 < y by omega)
  omega
 refine mk_le (pos ha h1) (pos ha h2) ?_
 unfold leF at h0
 have k := Int.mul_le_mul_of_nonneg_left h0 (show 0 <= a.2 * a.2 by have := pos ha ha; omega)
 rw [Int.add_mul, Int.add_mul]
 have e1 : a.1 * h.2 * (a.2 * h'.2) = a.1 * h'.2 * (a.2 * h.2) := by ac_rfl
 have e2 : h.1 * a.2 * (a.2 * h'.2) = a.2 * a.2 * (h.1 * h'.2) := by ac_rfl
 have e3 : h'.1 * a.2 * (a.2 * h.2) = a.2 * a.2 * (h'.1 * h.2) := by ac_rfl
 omega
theorem kJ : ∀ (xs : List (Int × Int)) (b : Int × Int), best b xs = b \/ best b xs ∈ xs
 | [], b => .inl rfl
 | x :: xs, b => by
  show best (if ltF b x = true then x else b) xs = b \/ best (if ltF b x = true then x else b) xs ∈ x :: xs
  rcases kJ xs (if ltF b x = true then x else b) with h | h
  ·rw [h]
   split
   ·exact .inr (.head _)
   ·exact .inl rfl
  ·exact .inr (.tail _ h)
theorem lW : ∀ (xs : List (Int × Int)) (b : Int × Int), 1 <= b.2 -> (∀ x ∈ xs, 1 <= x.2) -> leF b (best b xs) /\ (∀ x ∈ xs, leF x (best b xs)) /\ 1 <= (best b xs).2
 | [], b, h, _ => ⟨gA b, (fun _ z => nomatch z), h⟩
 | x :: xs, b, h, hx => by
  have hx0 := hx x (.head _)
  have hb2 : 1 <= (if ltF b x = true then x else b).2 := by split <;> assumption
  have g : best b (x :: xs) = best (if ltF b x = true then x else b) xs := rfl
  obtain ⟨i1, i2, i3⟩ := lW xs (if ltF b x = true then x else b) hb2 fun y hy => hx y (.tail _ hy)
  rw [g]
  have l1 : leF b (if ltF b x = true then x else b) := by
   split
   ·rename_i z; exact tW z
   ·exact gA b
  have l2 : leF x (if ltF b x = true then x else b) := by
   split
   ·exact gA x
   ·rename_i z; exact uF (by simpa using z)
  refine ⟨eG h hb2 i3 l1 i1, fun y hy => ?_, i3⟩
  rcases List.mem_cons.mp hy with z | z
  ·rw [z]; exact eG hx0 hb2 i3 l2 i1
  ·exact i2 y z
abbrev R2 := Int × Int
abbrev R3 := Int × Int × Int
def hM (x y : Int × Int) : Int × Int := FR.mk (x.1 * y.2 - y.1 * x.2) (x.2 * y.2)
def hO (x y : Int × Int) : Int × Int := FR.mk (x.1 * y.2) (x.2 * y.1)
def aCy (l h : R3) : R2 := (l.2.1 * h.1 - h.2.1 * l.1, l.2.1 * h.2.2 - h.2.1 * l.2.2)
def aGo (rows : List R3) : List R2 := (rows.filter fun r => decide (r.2.1 = 0)).map fun r => (r.1, r.2.2)
def aGx (rows : List R3) : List R3 := rows.filter fun r => decide (r.2.1 < 0)
def aG6 (highs : List R3) (k : List R2) (l : R3) : List R2 := if 0 < l.2.1 then k ++ highs.map (aCy l) else k
def elim (rows : List R3) : List R2 := rows.foldl (aG6 (aGx rows)) (aGo rows)
end N
namespace N
abbrev Q2 := Int × Int
def ng (x : Int × Int) : Int × Int := hM (0, 1) x
def Pos (ps : List Pl) : Prop := ∀ p ∈ ps, 1 <= p.2.2.2
end N
namespace N
def pr (R : List Q2) (k d : Nat) : Q2 := R.getD (if k < d then R.length + k - d else k - d) (0, 0)
end N
namespace N
section
variable {R P : List Q2} {x : Q2}
end
end N
namespace N
end N
namespace N
def ab (i : Int) : Int := if i < 0 then -i else i
section
variable {R P : List Q2} {x : Q2}
end
end N
namespace My
open PySem PySem.Spec PyProof.Rows L2 M
local macro_rules | `(tactic| walk_at "z") => `(tactic| repeat (first | assumption | apply L2.Sz.mul | apply N.Sz.addM | apply N.Sz.subM | apply L2.Sz.neg | apply N.sz_fdiv | (apply N.sz_fmod; (first | decide | omega)) | exact N.sz_lit4 (by decide) | exact N.sz_lit (by decide) | exact N.sz_lit70 (by decide) | exact N.sz_big (by decide)))
local macro_rules | `(tactic| walk_at "d") => `(tactic| first | assumption | (first | apply N.cm2 | apply N.cd2) <;> (first | decide | omega | (walk_at "z")) | decide | omega)
def top (i : Nat) : Stmt := PySem.Challenge.pw_creasecurve_k03_roofs_made.main.body.getD i (.Pass ⟨0, 0, 0, 0⟩)
abbrev eA : Stmt := top 13
abbrev jF : Stmt := top 14
abbrev tQ : Stmt := top 15
abbrev o7 : Stmt := top 16
abbrev uH : Stmt := top 17
abbrev jD : Stmt := top 18
abbrev jE : Stmt := top 22
abbrev fO : Stmt := top 23
abbrev iH : Stmt := top 24
abbrev fS : Stmt := top 25
abbrev eF : Stmt := top 26
abbrev kA : Stmt := top 27
abbrev fN : Stmt := top 29
abbrev gO : Stmt := top 30
abbrev gS : Stmt := top 31
abbrev fQ : Stmt := top 32
abbrev fE : Stmt := top 33
abbrev eC : Stmt := top 34
abbrev i9 : Stmt := top 35
abbrev gN : Stmt := top 36
abbrev gQ : Stmt := top 37
abbrev gT : Stmt := top 38
abbrev iK : Stmt := top 39
abbrev eY : Stmt := top 40
abbrev gE : Stmt := top 41
abbrev jC : Stmt := top 42
abbrev iJ : Stmt := top 43
abbrev fM : Stmt := top 44
abbrev gR : Stmt := top 45
abbrev qD : Stmt := top 46
theorem pL : bootBuiltins "ValueError" = some (.type "ValueError") := by decide +kernel
theorem uO : bootBuiltins "abs" = some (.builtin "abs") := by decide +kernel
theorem aFm : bootBuiltins "any" = some (.builtin "any") := by decide +kernel
theorem aDq : bootBuiltins "bool" = some (.type "bool") := by decide +kernel
theorem aEh : bootBuiltins "int" = some (.type "int") := by decide +kernel
theorem nL : bootBuiltins "list" = some (.type "list") := by decide +kernel
theorem aFd : bootBuiltins "max" = some (.builtin "max") := by decide +kernel
theorem aB1 : bootBuiltins "min" = some (.builtin "min") := by decide +kernel
theorem rB : bootBuiltins "sorted" = some (.builtin "sorted") := by decide +kernel
theorem uN : bootBuiltins "tuple" = some (.type "tuple") := by decide +kernel
structure Blt (mg : Str -> Option Value) : Prop where
 ValueError_ : mg "ValueError" = none
 abs_ : mg "abs" = none
 any_ : mg "any" = none
 bool_ : mg "bool" = none
 enumerate_ : mg "enumerate" = none
 int_ : mg "int" = none
 isinstance_ : mg "isinstance" = none
 len_ : mg "len" = none
 list_ : mg "list" = none
 max_ : mg "max" = none
 min_ : mg "min" = none
 range_ : mg "range" = none
 sorted_ : mg "sorted" = none
 tuple_ : mg "tuple" = none
structure Cls where
 RoofError : Addr
 NoFraction : Addr
 NoRoof : Addr
 TooSteep : Addr
 TooMany : Addr
 NoNumber : Addr
 NoCorner : Addr
 NoDealing : Addr
 NoRow : Addr
 NoText : Addr
 NoName : Addr
structure jU (mg : Str -> Option Value) (c : Cls) : Prop where
 mRoofError : mg "RoofError" = some (.ref c.RoofError)
 mNoFraction : mg "NoFraction" = some (.ref c.NoFraction)
 mNoRoof : mg "NoRoof" = some (.ref c.NoRoof)
 mTooSteep : mg "TooSteep" = some (.ref c.TooSteep)
 mTooMany : mg "TooMany" = some (.ref c.TooMany)
 mNoNumber : mg "NoNumber" = some (.ref c.NoNumber)
 mNoCorner : mg "NoCorner" = some (.ref c.NoCorner)
 mNoDealing : mg "NoDealing" = some (.ref c.NoDealing)
 mNoRow : mg "NoRow" = some (.ref c.NoRow)
 mNoText : mg "NoText" = some (.ref c.NoText)
 mNoName : mg "NoName" = some (.ref c.NoName)
structure jM (mg : Str -> Option Value) (base : Heap) (c : Cls) : Prop where
 NoFraction : PyProof.Rows.OwnCls "NoFraction" c.NoFraction [.type "ValueError", .type "Exception", .type "BaseException", .type "object"] "ValueError.__new__" mg base
 NoRoof : PyProof.Rows.OwnCls "NoRoof" c.NoRoof [.type "ValueError", .type "Exception", .type "BaseException", .type "object"] "ValueError.__new__" mg base
 TooMany : PyProof.Rows.OwnCls "TooMany" c.TooMany [.type "ValueError", .type "Exception", .type "BaseException", .type "object"] "ValueError.__new__" mg base
 TooSteep : PyProof.Rows.OwnCls "TooSteep" c.TooSteep [.type "ValueError", .type "Exception", .type "BaseException", .type "object"] "ValueError.__new__" mg base
def frD (x : Int × Int) : D := .tuple [.int x.1, .int x.2]
abbrev Pl := Int × Int × (Int × Int)
def plD (p : Pl) : D := .tuple [.int p.1, .int p.2.1, frD p.2.2]
def slD (p : Int × Int) : D := .tuple [.int p.1, .int p.2]
theorem at0 {α : Type} (x : α) (r : List α) : atI (x :: r) 0 = some x := iN (j := 0) rfl
theorem at1 {α : Type} (x y : α) (r : List α) : atI (x :: y :: r) 1 = some y := iN (j := 1) rfl
theorem at2 {α : Type} (x y z : α) (r : List α) : atI (x :: y :: z :: r) 2 = some z := iN (j := 2) rfl
theorem aT (i j : Int) : PyData.eqv (.int i) (.int j) = (i == j) := by simp [PyData.eqv]
theorem aU (i : Int) : SeqAt.shaped (.int i) = true := by simp [SeqAt.shaped, PyData.canLay0, PyData.depth]
theorem jT {i j : Int} (h1 : Sz 60000 i) (h2 : Sz 60000 j) : CMulW i j := ⟨h1, h2⟩
noncomputable def bA (K : PySem.W.Frag) (c : Cls) (ls : List L) : Res L := match ls with
 | [.p (.int a), .p (.int b)] => .ok (.p (.int (Int.gcd a b : Nat)))
 | _ => .bad
noncomputable def bR (K : PySem.W.Frag) (c : Cls) : En -> Res Bool := (a6 (aF (eqE true) (aD 3) (mC (.int 0))))
noncomputable def cK (K : PySem.W.Frag) (c : Cls) : MS := (a8 (bD 4 (aF eQ (aD 2) (aD 3))) (a8 (bD 2 (aD 3)) (bD 3 (aD 4))))
noncomputable def fH (K : PySem.W.Frag) (c : Cls) : MS := (a8 (bD 2 (aC zT (aA (aD 0) aL))) (a8 (bD 3 (aC zT (aA (aD 1) aL))) (a8 (nC (bR K c) (cK K c)) (b9 (aD 2)))))
theorem j0 (K : PySem.W.Frag) (c : Cls) (A B : Option L) : ∀ (n : Nat) (l s : Int) (r : Option L), 0 <= l -> 0 <= s -> s.toNat <= n -> ∃ r', mWh (bR K c) (cK K c) (n + 1) [A, B, some (.p (.int l)), some (.p (.int s)), r] = some (.nx [A, B, some (.p (.int (Int.gcd l s : Nat))), some (.p (.int 0)), r']) := by
 intro n
 have hc : ∀ (l s : Int) (r : Option L), bR K c [A, B, some (.p (.int l)), some (.p (.int s)), r] = .ok (!(s == 0)) := fun l s r => by
  simp [bR, a6, aF, aD, mC, Res.bind, Ev.c, eqE, dat, aU, aT, aO, bC]
 have done : ∀ (n : Nat) (l : Int) (r : Option L), 0 <= l -> mWh (bR K c) (cK K c) (n + 1) [A, B, some (.p (.int l)), some (.p (.int 0)), r] = some (.nx [A, B, some (.p (.int (Int.gcd l 0 : Nat))), some (.p (.int 0)), r]) := fun n l r hl => by
  unfold mWh
  rw [hc, FR.wA hl]
  simp
 induction n with
 | zero =>
  intro l s r hl hs hn
  have : s = 0 := by omega
  subst this
  exact ⟨r, done 0 l r hl⟩
 | succ n ih =>
  intro l s r hl hs hn
  by_cases h0 : s = 0
  ·subst h0
   exact ⟨r, done _ l r hl⟩
  ·have em : l.fmod s = l % s := Int.fmod_eq_emod_of_nonneg l hs
   have m0 := Int.emod_nonneg l h0
   have m1 := Int.emod_lt_of_pos l (show 0 < s by omega)
   obtain ⟨r', ih⟩ := ih s (l.fmod s) (some (.p (.int (l.fmod s)))) hs (by omega) (by omega)
   refine ⟨r', ?_⟩
   rw [em, FR.u9 hl hs] at ih
   have hb : cK K c [A, B, some (.p (.int l)), some (.p (.int s)), r] = some (.nx [A, B, some (.p (.int s)), some (.p (.int (l % s))), some (.p (.int (l % s)))]) := by
    simp [cK, aF, aD, mC, Res.bind, Ev.c, a8, bD, d9, em, h0]
   have ht : bR K c [A, B, some (.p (.int l)), some (.p (.int s)), r] = .ok true := by
    rw [hc]
    simp [h0]
   unfold mWh
   rw [ht]
   dsimp only
   rw [hb]
   exact ih
theorem jS (K : PySem.W.Frag) (c : Cls) : ∀ ls, bA K c ls = .bad \/ d4 5 (fH K c) ls = bA K c ls := by
 intro ls
 unfold bA
 split
 ·rename_i a b
  right
  obtain ⟨r', h⟩ := j0 K c (some (.p (.int a))) (some (.p (.int b))) _ (if a < 0 then -a else a) (if b < 0 then -b else b) none (by split <;> omega) (by split <;> omega) (Nat.le_refl _)
  have h := rV h
  rw [FR.yQ] at h
  unfold d4
  rw [show bX 5 [.p (.int a), .p (.int b)] = [some (.p (.int a)), some (.p (.int b)), none, none, none] from rfl]
  simp [fH, a8, bD, aC, aA, aL, aD, Res.bind, Ev.c, zT, h, b9, eD]
 ·exact .inl rfl
open Classical in
noncomputable def dO (K : PySem.W.Frag) (c : Cls) (ls : List L) : Res L := match ls with
 | [.p (.int t), .p (.int b)] => if Sz 8000 b then (if b = 0 then .exc c.NoFraction else .ok (.p (frD (FR.mk t b)))) else .bad
 | _ => .bad
noncomputable def iE (K : PySem.W.Frag) (c : Cls) : MS := (a8 (cC (a6 (aF (eqE false) (aD 1) (mC (.int 0)))) (aX c.NoFraction (aA (mC (.str "nothing is divided by 0")) aL)) aV) (a8 (bD 2 (aK 2 (bA K c) (aA (aD 0) (aA (aD 1) aL)))) (a8 (cC (a6 (aF ltE (aD 1) (mC (.int 0)))) (bD 2 (mUn eR (aD 2))) aV) (b9 (aC aS (aA (aF dY (aD 0) (aD 2)) (aA (aF dY (aD 1) (aD 2)) aL)))))))
theorem aFp {b : Int} (t : Int) (hb : b ≠ 0) (hz : Sz 8000 b) : mR t ((Int.gcd t b : Nat) : Int) /\ mR t (-((Int.gcd t b : Nat) : Int)) := by
 have g0 := FR.sL (t := t) hb
 have gle : Int.gcd t b <= b.natAbs := Nat.le_of_dvd (by omega) (Int.gcd_dvd_natAbs_right t b)
 refine ⟨⟨by omega, Sz.le hz (by rw [Int.natAbs_natCast]; exact gle)⟩, by omega, Sz.le hz (by rw [Int.natAbs_neg, Int.natAbs_natCast]; exact gle)⟩
theorem sZ (K : PySem.W.Frag) (c : Cls) : ∀ ls, dO K c ls = .bad \/ d4 3 (iE K c) ls = dO K c ls := by
 intro ls
 unfold dO
 split
 ·rename_i t b
  split
  ·rename_i hz
   right
   unfold d4
   rw [show bX 3 [.p (.int t), .p (.int b)] = [some (.p (.int t)), some (.p (.int b)), none] from rfl]
   by_cases hb : b = 0
   ·simp [iE, a8, cC, a6, aF, aD, mC, Res.bind, Ev.c, eqE, dat, aU, aT, aO, hb, aX, aA, aL]
   ·obtain ⟨d1, d2⟩ := aFp t hb hz
    obtain ⟨e1, e2⟩ := d1
    obtain ⟨_, e3⟩ := d2
    have e1' : Int.gcd t b ≠ 0 := by omega
    have q1 : ∀ x : Int, mR x ((Int.gcd t b : Nat) : Int) := fun x => ⟨e1, e2⟩
    have q2 : ∀ x : Int, mR x (-((Int.gcd t b : Nat) : Int)) := fun x => ⟨by omega, e3⟩
    by_cases hn : b < 0
    ·simp [iE, a8, cC, a6, aF, aD, mC, Res.bind, Ev.c, eqE, dat, aU, aT, aO, hb, bD, aK, bA, a7, a5, dQ, d6, aA, aL, bC, hn, mUn, eR, aV, b9, aC, aS, bQ, d9, q2, eD, FR.mk, FR.sgn, frD]
    ·simp [iE, a8, cC, a6, aF, aD, mC, Res.bind, Ev.c, eqE, dat, aU, aT, aO, hb, bD, aK, bA, a7, a5, dQ, d6, aA, aL, bC, hn, mUn, eR, aV, b9, aC, aS, bQ, d9, q1, eD, FR.mk, FR.sgn, frD]
  ·exact .inl rfl
 ·exact .inl rfl
open Classical in
noncomputable def jI (K : PySem.W.Frag) (c : Cls) (ls : List L) : Res L := match ls with
 | [.p (.tuple [.int a, .int b]), .p (.tuple [.int d, .int e])] => if Sz 2000 a /\ Sz 2000 b /\ Sz 2000 d /\ Sz 2000 e /\ b * e ≠ 0 then .ok (.p (frD (FR.mk (a * e + d * b) (b * e)))) else .bad
 | _ => .bad
noncomputable def xS (K : PySem.W.Frag) (c : Cls) : MS := (b9 (aK 2 (dO K c) (aA (aF dI (aF jK (aF ixE (aD 0) (mC (.int 0))) (aF ixE (aD 1) (mC (.int 1)))) (aF jK (aF ixE (aD 1) (mC (.int 0))) (aF ixE (aD 0) (mC (.int 1))))) (aA (aF jK (aF ixE (aD 0) (mC (.int 1))) (aF ixE (aD 1) (mC (.int 1)))) aL))))
theorem aCm (K : PySem.W.Frag) (c : Cls) : ∀ ls, jI K c ls = .bad \/ d4 2 (xS K c) ls = jI K c ls := by
 intro ls
 unfold jI
 split
 ·rename_i a b d e
  split
  ·rename_i hz
   obtain ⟨z1, z2, z3, z4, hb⟩ := hz
   right
   have w1 : Sz 60000 a := z1.mono (by decide)
   have w2 : Sz 60000 b := z2.mono (by decide)
   have w3 : Sz 60000 d := z3.mono (by decide)
   have w4 : Sz 60000 e := z4.mono (by decide)
   have sb : Sz 8000 (b * e) := by first | exact (Sz.mul z2 z4).mono (show 2000 + 2000 <= 8000 by decide) | exact (Sz.mul z2 z3).mono (show 2000 + 2000 <= 8000 by decide)
   have p5 := jT w2 w3
   have p1 := jT w1 w4
   have p2 := jT w3 w2
   have p3 := jT w2 w4
   have p4 := jT w1 w3
   unfold d4
   rw [show bX 2 [.p (.tuple [.int a, .int b]), .p (.tuple [.int d, .int e])] = [some (.p (.tuple [.int a, .int b])), some (.p (.tuple [.int d, .int e]))] from rfl]
   simp [xS, a8, bD, b9, cC, aD, mC, aF, mUn, aA, aL, aK, a7, a5, dQ, fB, Res.bind, Ev.c, eD, d6, aC, aS, bF, bQ, a6, aO, eZ, mOr, dP, bW, fL, cF, aX, aV, dI, d9, bC, eR, ixE, dS, bZ, dat, cV, at0, at1, at2, eqE, aU, aT, p1, p2, p3, p4, p5, dO, sb, hb]
  ·exact .inl rfl
 ·exact .inl rfl
open Classical in
noncomputable def hU (K : PySem.W.Frag) (c : Cls) (ls : List L) : Res L := match ls with
 | [.p (.tuple [.int a, .int b]), .p (.tuple [.int d, .int e])] => if Sz 2000 a /\ Sz 2000 b /\ Sz 2000 d /\ Sz 2000 e /\ b * e ≠ 0 then .ok (.p (frD (FR.mk (a * d) (b * e)))) else .bad
 | _ => .bad
noncomputable def sD (K : PySem.W.Frag) (c : Cls) : MS := (b9 (aK 2 (dO K c) (aA (aF jK (aF ixE (aD 0) (mC (.int 0))) (aF ixE (aD 1) (mC (.int 0)))) (aA (aF jK (aF ixE (aD 0) (mC (.int 1))) (aF ixE (aD 1) (mC (.int 1)))) aL))))
theorem aAi (K : PySem.W.Frag) (c : Cls) : ∀ ls, hU K c ls = .bad \/ d4 2 (sD K c) ls = hU K c ls := by
 intro ls
 unfold hU
 split
 ·rename_i a b d e
  split
  ·rename_i hz
   obtain ⟨z1, z2, z3, z4, hb⟩ := hz
   right
   have w1 : Sz 60000 a := z1.mono (by decide)
   have w2 : Sz 60000 b := z2.mono (by decide)
   have w3 : Sz 60000 d := z3.mono (by decide)
   have w4 : Sz 60000 e := z4.mono (by decide)
   have sb : Sz 8000 (b * e) := by first | exact (Sz.mul z2 z4).mono (show 2000 + 2000 <= 8000 by decide) | exact (Sz.mul z2 z3).mono (show 2000 + 2000 <= 8000 by decide)
   have p5 := jT w2 w3
   have p1 := jT w1 w4
   have p2 := jT w3 w2
   have p3 := jT w2 w4
   have p4 := jT w1 w3
   unfold d4
   rw [show bX 2 [.p (.tuple [.int a, .int b]), .p (.tuple [.int d, .int e])] = [some (.p (.tuple [.int a, .int b])), some (.p (.tuple [.int d, .int e]))] from rfl]
   simp [sD, a8, bD, b9, cC, aD, mC, aF, mUn, aA, aL, aK, a7, a5, dQ, fB, Res.bind, Ev.c, eD, d6, aC, aS, bF, bQ, a6, aO, eZ, mOr, dP, bW, fL, cF, aX, aV, dI, d9, bC, eR, ixE, dS, bZ, dat, cV, at0, at1, at2, eqE, aU, aT, p1, p2, p3, p4, p5, dO, sb, hb]
  ·exact .inl rfl
 ·exact .inl rfl
open Classical in
noncomputable def iW (K : PySem.W.Frag) (c : Cls) (ls : List L) : Res L := match ls with
 | [.p (.tuple [.int a, .int b]), .p (.tuple [.int d, .int e])] => if Sz 2000 a /\ Sz 2000 b /\ Sz 2000 d /\ Sz 2000 e then .ok (.p (.bool (decide (a * e < d * b)))) else .bad
 | _ => .bad
noncomputable def xG (K : PySem.W.Frag) (c : Cls) : MS := (b9 (aF ltE (aF jK (aF ixE (aD 0) (mC (.int 0))) (aF ixE (aD 1) (mC (.int 1)))) (aF jK (aF ixE (aD 1) (mC (.int 0))) (aF ixE (aD 0) (mC (.int 1))))))
theorem aDn (K : PySem.W.Frag) (c : Cls) : ∀ ls, iW K c ls = .bad \/ d4 2 (xG K c) ls = iW K c ls := by
 intro ls
 unfold iW
 split
 ·rename_i a b d e
  split
  ·rename_i hz
   obtain ⟨z1, z2, z3, z4⟩ := hz
   right
   have p1 := jT (z1.mono (show 2000 <= 60000 by decide)) (z4.mono (show 2000 <= 60000 by decide))
   have p2 := jT (z3.mono (show 2000 <= 60000 by decide)) (z2.mono (show 2000 <= 60000 by decide))
   unfold d4
   rw [show bX 2 [.p (.tuple [.int a, .int b]), .p (.tuple [.int d, .int e])] = [some (.p (.tuple [.int a, .int b])), some (.p (.tuple [.int d, .int e]))] from rfl]
   simp [xG, a8, bD, b9, cC, aD, mC, aF, mUn, aA, aL, aK, a7, a5, dQ, fB, Res.bind, Ev.c, eD, d6, aC, aS, bF, bQ, a6, aO, eZ, mOr, dP, bW, fL, cF, aX, aV, dI, d9, bC, eR, ixE, dS, bZ, dat, cV, at0, at1, at2, eqE, aU, aT, p1, p2]
  ·exact .inl rfl
 ·exact .inl rfl
def p6 {α : Type} (f : D -> Option α) : List D -> Option (List α)
 | [] => some []
 | d :: r => match f d with
  | none => none
  | some a => match p6 f r with
   | none => none
   | some as => some (a :: as)
theorem mK {α : Type} {f : D -> Option α} {enc : α -> D} (h : ∀ d a, f d = some a -> d = enc a) : ∀ {ds : List D} {xs : List α}, p6 f ds = some xs -> ds = xs.map enc
 | [], _, e => by cases e; rfl
 | d :: r, xs, e => by
  unfold p6 at e
  cases e1 : f d with
  | none => rw [e1] at e; cases e
  | some a =>
   rw [e1] at e
   cases e2 : p6 f r with
   | none => rw [e2] at e; cases e
   | some as => rw [e2] at e; cases e; rw [h d a e1, mK h e2]; rfl
theorem gB {α : Type} {f : D -> Option α} {enc : α -> D} (h : ∀ a, f (enc a) = some a) : ∀ xs : List α, p6 f (xs.map enc) = some xs
 | [] => rfl
 | x :: xs => by
  show (match f (enc x) with | none => none | some a => match p6 f (xs.map enc) with | none => none | some as => some (a :: as)) = _
  rw [h x, gB h xs]
def xC : D -> Option (Int × Int)
 | .tuple [.int a, .int b] => some (a, b)
 | _ => none
def vZ : D -> Option Pl
 | .tuple [.int i, .int j, .tuple [.int a, .int b]] => some (i, j, (a, b))
 | _ => none
theorem yA (d : D) (x : Int × Int) (h : xC d = some x) : d = frD x := by
 unfold xC at h
 split at h
 ·cases h; rfl
 ·cases h
theorem xO (d : D) (x : Pl) (h : vZ d = some x) : d = plD x := by
 unfold vZ at h
 split at h
 ·cases h; rfl
 ·cases h
theorem uK (x : Int × Int) : xC (frD x) = some x := rfl
theorem jH (x : Pl) : vZ (plD x) = some x := rfl
theorem fZ {α : Type} {g : D -> Option (Option D)} {enc : α -> D} {out : α -> D} : ∀ xs : List α, (∀ x ∈ xs, g (enc x) = some (some (out x))) -> tU g (xs.map enc) = some (xs.map out)
 | [], _ => rfl
 | x :: xs, h => by
  show (match g (enc x) with | none => none | some o => match tU g (xs.map enc) with | none => none | some r => some (match o with | some y => y :: r | none => r)) = _
  rw [h x (.head _), fZ xs fun y hy => h y (.tail _ hy)]
  rfl
def ltF (x y : Int × Int) : Bool := decide (x.1 * y.2 < y.1 * x.2)
def best (b : Int × Int) : List (Int × Int) -> Int × Int
 | [] => b
 | x :: r => best (if ltF b x = true then x else b) r
def FSz (n : Nat) (x : Int × Int) : Prop := Sz n x.1 /\ Sz n x.2
def Good (n : Nat) (x : Int × Int) : Prop := 1 <= x.2 /\ Sz n x.1 /\ Sz n x.2
theorem Good.fsz {n : Nat} {x : Int × Int} (h : Good n x) : FSz n x := h.2
theorem Good.mono {m n : Nat} {x : Int × Int} (h : Good m x) (l : m <= n) : Good n x := ⟨h.1, h.2.1.mono l, h.2.2.mono l⟩
theorem kY {n : Nat} {t b : Int} (ht : Sz n t) (hb : Sz n b) (h0 : b ≠ 0) : Good n (FR.mk t b) := ⟨(FR.p9 h0).1.pos, Sz.le ht (natAbs_fdiv_le _ _), Sz.le hb (natAbs_fdiv_le _ _)⟩
def hT (i : Int) (x : Int × Int) : Int × Int := FR.mk (i * x.1) (1 * x.2)
def hP (x y : Int × Int) : Int × Int := FR.mk (x.1 * y.2 + y.1 * x.2) (x.2 * y.2)
def hgt (p : Pl) (pt : (Int × Int) × (Int × Int)) : Int × Int := hP (hP (hT p.1 pt.1) (hT p.2.1 pt.2)) p.2.2
theorem fU {m n : Nat} {i : Int} {x : Int × Int} (hi : Sz m i) (hx : Good n x) : Good (m + n) (hT i x) :=
 kY (Sz.mul hi hx.2.1) (by rw [Int.one_mul]; exact hx.2.2.mono (Nat.le_add_left _ _)) (by have := hx.1; omega)
theorem kL {m n : Nat} {x y : Int × Int} (hx : Good m x) (hy : Good n y) : Good (m + n + 1) (hP x y) :=
 kY (Sz.add (Sz.mul hx.2.1 hy.2.2) ((Sz.mul hy.2.1 hx.2.2).mono (by omega))) ((Sz.mul hx.2.2 hy.2.2).mono (by omega)) (fun z => by
  rcases Int.mul_eq_zero.mp z with q | q
  ·have := hx.1; omega
  ·have := hy.1; omega)
theorem Good.ne {m n : Nat} {x y : Int × Int} (hx : Good m x) (hy : Good n y) : x.2 * y.2 ≠ 0 := fun z => by
 rcases Int.mul_eq_zero.mp z with q | q
 ·have := hx.1; omega
 ·have := hy.1; omega
theorem aBw : Sz 2000 (1 : Int) := by unfold Sz; exact Nat.one_lt_two_pow (by decide)
theorem qV (K : PySem.W.Frag) (c : Cls) {m n : Nat} {x y : Int × Int} (hx : Good m x) (hy : Good n y) (hm : m <= 2000) (hn : n <= 2000) : jI K c [.p (frD x), .p (frD y)] = .ok (.p (frD (hP x y))) := by
 have h := hx.ne hy
 simp only [jI, frD]
 rw [if_pos ⟨hx.2.1.mono hm, hx.2.2.mono hm, hy.2.1.mono hn, hy.2.2.mono hn, h⟩]
 rfl
theorem n6 (K : PySem.W.Frag) (c : Cls) {n : Nat} {i : Int} {x : Int × Int} (hi : Sz 2000 i) (hx : Good n x) (hn : n <= 2000) : hU K c [.p (.tuple [.int i, .int 1]), .p (frD x)] = .ok (.p (frD (hT i x))) := by
 simp only [hU, frD]
 rw [if_pos ⟨hi, aBw, hx.2.1.mono hn, hx.2.2.mono hn, by have := hx.1; omega⟩]
 rfl
theorem qH (K : PySem.W.Frag) (c : Cls) {x y : Int × Int} (hx : FSz 2000 x) (hy : FSz 2000 y) : iW K c [.p (frD x), .p (frD y)] = .ok (.p (.bool (ltF x y))) := by
 simp only [iW, frD]
 rw [if_pos ⟨hx.1, hx.2, hy.1, hy.2⟩]
 rfl
open Classical in
noncomputable def eJ (K : PySem.W.Frag) (c : Cls) (ls : List L) : Res L := match ls with
 | [.p (.list ds)] => match p6 xC ds with
  | some (x :: r) => if ∀ y ∈ x :: r, FSz 2000 y then .ok (.p (frD (best x (x :: r)))) else .bad
  | _ => .bad
 | _ => .bad
noncomputable def fY (K : PySem.W.Frag) (c : Cls) : MS := (cC (a6 (aK 2 (iW K c) (aA (aD 1) (aA (aD 2) aL)))) (bD 1 (aD 2)) aV)
noncomputable def kR (K : PySem.W.Frag) (c : Cls) : MS := (a8 (bD 1 (aF ixE (aD 0) (mC (.int 0)))) (a8 (pO (lG (aD 0)) (aP 2) (fY K c)) (b9 (aD 1))))
theorem kM (K : PySem.W.Frag) (c : Cls) (N : Option L) : ∀ (xs : List (Int × Int)) (b : Int × Int) (r : Option L), FSz 2000 b -> (∀ y ∈ xs, FSz 2000 y) -> ∃ r', gM (aP 2) (fY K c) (xs.map frD) [N, some (.p (frD b)), r] = some (.nx [N, some (.p (frD (best b xs))), r'])
 | [], b, r, _, _ => ⟨r, rfl⟩
 | x :: xs, b, r, hb, h => by
  have hx := h x (.head _)
  have hl := qH K c hb hx
  have hb1 : fY K c [N, some (.p (frD b)), some (.p (frD x))] = some (.nx [N, some (.p (frD (if ltF b x = true then x else b))), some (.p (frD x))]) := by
   cases e : ltF b x <;> simp [fY, a8, bD, b9, cC, aD, mC, aF, mUn, aA, aL, aK, a7, a5, dQ, fB, Res.bind, Ev.c, eD, d6, aC, aS, bF, bQ, a6, aO, eZ, mOr, dP, bW, fL, cF, aX, aV, dI, d9, bC, eR, ixE, dS, bZ, dat, cV, at0, at1, at2, eqE, aU, aT, hl, e]
  obtain ⟨r', ih⟩ := kM K c N xs (if ltF b x = true then x else b) (some (.p (frD x))) (by split; exact hx; exact hb) fun y hy => h y (.tail _ hy)
  refine ⟨r', ?_⟩
  rw [List.map_cons]
  unfold gM
  simp only [aP, List.set_cons_succ, List.set_cons_zero]
  rw [hb1]
  exact ih
theorem tN (K : PySem.W.Frag) (c : Cls) : ∀ ls, eJ K c ls = .bad \/ d4 3 (kR K c) ls = eJ K c ls := by
 intro ls
 unfold eJ
 split
 ·rename_i ds
  split
  ·rename_i x r e
   split
   ·rename_i hz
    right
    have := mK yA e
    subst this
    obtain ⟨r', h⟩ := kM K c (some (.p (.list ((x :: r).map frD)))) (x :: r) x none (hz x (.head _)) hz
    unfold d4
    rw [show bX 3 [.p (.list ((x :: r).map frD))] = [some (.p (.list ((x :: r).map frD))), none, none] from rfl]
    simp [kR, a8, bD, b9, cC, aD, mC, aF, mUn, aA, aL, aK, a7, a5, dQ, fB, Res.bind, Ev.c, eD, d6, aC, aS, bF, bQ, a6, aO, eZ, mOr, dP, bW, fL, cF, aX, aV, dI, d9, bC, eR, ixE, dS, bZ, dat, cV, at0, at1, at2, eqE, aU, aT, pO, lG, qZ] at h ⊢
    rw [h]
    simp
   ·exact .inl rfl
  ·exact .inl rfl
 ·exact .inl rfl
noncomputable def eN (K : PySem.W.Frag) (c : Cls) (ls : List L) : Res L := match ls with
 | [.p (.tuple [.int i, .int j, h])] => .ok (.p (.tuple [.int i, .int j]))
 | _ => .bad
noncomputable def kQ (K : PySem.W.Frag) (c : Cls) : MS := (b9 (aC aS (aA (aF ixE (aD 0) (mC (.int 0))) (aA (aF ixE (aD 0) (mC (.int 1))) aL))))
theorem sM (K : PySem.W.Frag) (c : Cls) : ∀ ls, eN K c ls = .bad \/ d4 1 (kQ K c) ls = eN K c ls := by
 intro ls
 unfold eN
 split
 ·rename_i i j h
  right
  unfold d4
  rw [show bX 1 [.p (.tuple [.int i, .int j, h])] = [some (.p (.tuple [.int i, .int j, h]))] from rfl]
  simp [kQ, a8, bD, b9, cC, aD, mC, aF, mUn, aA, aL, aK, a7, a5, dQ, fB, Res.bind, Ev.c, eD, d6, aC, aS, bF, bQ, a6, aO, eZ, mOr, dP, bW, fL, cF, aX, aV, dI, d9, bC, eR, ixE, dS, bZ, dat, cV, at0, at1, at2, eqE, aU, aT]
 ·exact .inl rfl
structure GoodP (p : Pl) (pt : (Int × Int) × (Int × Int)) : Prop where
 i : Sz 100 p.1
 j : Sz 100 p.2.1
 h : Good 200 p.2.2
 x : Good 200 pt.1
 y : Good 200 pt.2
theorem GoodP.hgt {p : Pl} {pt : (Int × Int) × (Int × Int)} (g : GoodP p pt) : Good 802 (hgt p pt) := kL (kL (fU g.i g.x) (fU g.j g.y)) g.h
open Classical in
noncomputable def mOf {α : Type} (enc : α -> List L) (P : α -> Prop) (g : α -> Res L) (ls : List L) : Res L := if h : ∃ a, enc a = ls /\ P a then g h.choose else .bad
theorem u4 {α : Type} {enc : α -> List L} {P : α -> Prop} {g : α -> Res L} (inj : ∀ a b, enc a = enc b -> a = b) {a : α} (h : P a) : mOf enc P g (enc a) = g a := by
 have hx : ∃ b, enc b = enc a /\ P b := ⟨a, rfl, h⟩
 unfold mOf
 rw [dif_pos hx, inj _ _ hx.choose_spec.1]
theorem uC {α : Type} {enc : α -> List L} {P : α -> Prop} {g : α -> Res L} {n : Nat} {f : MS} (h : ∀ a, P a -> d4 n f (enc a) = g a) : ∀ ls, mOf enc P g ls = .bad \/ d4 n f ls = mOf enc P g ls := by
 intro ls
 unfold mOf
 by_cases hx : ∃ a, enc a = ls /\ P a
 ·rw [dif_pos hx]
  exact .inr ((congrArg _ hx.choose_spec.1.symm).trans (h _ hx.choose_spec.2))
 ·exact .inl (dif_neg hx)
theorem frI {a b : Int × Int} (h : frD a = frD b) : a = b := Option.some.inj (congrArg xC h)
theorem plI {a b : Pl} (h : plD a = plD b) : a = b := Option.some.inj (congrArg vZ h)
theorem aH1 {a b : List Pl} (h : a.map plD = b.map plD) : a = b := by
 have e := congrArg (p6 vZ) h
 rw [gB jH, gB jH] at e
 exact Option.some.inj e
theorem ptI {x y : (Int × Int) × (Int × Int)} (h : PyData.tuple [frD x.1, frD x.2] = .tuple [frD y.1, frD y.2]) : x = y := by
 injection h with h
 injection h with h1 h2
 injection h2 with h2 _
 exact Prod.ext (frI h1) (frI h2)
def ePH (a : Pl × (Int × Int) × (Int × Int)) : List L := [.p (plD a.1), .p (.tuple [frD a.2.1, frD a.2.2])]
theorem wJ (a b : Pl × (Int × Int) × (Int × Int)) (h : ePH a = ePH b) : a = b := by
 unfold ePH at h
 injection h with h1 h2
 injection h2 with h2 _
 injection h1 with h1
 injection h2 with h2
 exact Prod.ext (plI h1) (ptI h2)
noncomputable def dD (K : PySem.W.Frag) (c : Cls) : List L -> Res L := mOf ePH (fun a => GoodP a.1 a.2) fun a => .ok (.p (frD (hgt a.1 a.2)))
noncomputable def hV (K : PySem.W.Frag) (c : Cls) : MS := (a8 (bD 2 (aK 2 (hU K c) (aA (aC aS (aA (aF ixE (aD 0) (mC (.int 0))) (aA (mC (.int 1)) aL))) (aA (aF ixE (aD 1) (mC (.int 0))) aL)))) (a8 (bD 3 (aK 2 (hU K c) (aA (aC aS (aA (aF ixE (aD 0) (mC (.int 1))) (aA (mC (.int 1)) aL))) (aA (aF ixE (aD 1) (mC (.int 1))) aL)))) (b9 (aK 2 (jI K c) (aA (aK 2 (jI K c) (aA (aD 2) (aA (aD 3) aL))) (aA (aF ixE (aD 0) (mC (.int 2))) aL))))))
theorem mB (K : PySem.W.Frag) (c : Cls) : ∀ ls, dD K c ls = .bad \/ d4 4 (hV K c) ls = dD K c ls := uC fun a g => by
 have t1 := n6 K c (g.i.mono (show 100 <= 2000 by decide)) g.x (by decide)
 have t2 := n6 K c (g.j.mono (show 100 <= 2000 by decide)) g.y (by decide)
 have p1 := qV K c (fU g.i g.x) (fU g.j g.y) (by decide) (by decide)
 have p2 := qV K c (kL (fU g.i g.x) (fU g.j g.y)) g.h (by decide) (by decide)
 unfold d4
 rw [show bX 4 (ePH a) = [some (.p (plD a.1)), some (.p (.tuple [frD a.2.1, frD a.2.2])), none, none] from rfl]
 simp [hV, a8, bD, b9, cC, aD, mC, aF, mUn, aA, aL, aK, a7, a5, dQ, fB, Res.bind, Ev.c, eD, d6, aC, aS, bF, bQ, a6, aO, eZ, mOr, dP, bW, fL, cF, aX, aV, dI, d9, bC, eR, ixE, dS, bZ, dat, cV, at0, at1, at2, eqE, aU, aT, plD, t1, t2, p1, p2, hgt]
theorem aDx (K : PySem.W.Frag) (c : Cls) {p : Pl} {pt : (Int × Int) × (Int × Int)} (g : GoodP p pt) : dD K c [.p (plD p), .p (.tuple [frD pt.1, frD pt.2])] = .ok (.p (frD (hgt p pt))) := u4 (a := (p, pt)) wJ g
def eHA (a : List Pl × (Int × Int) × (Int × Int)) : List L := [.p (.list (a.1.map plD)), .p (.tuple [frD a.2.1, frD a.2.2])]
theorem yF (a b : List Pl × (Int × Int) × (Int × Int)) (h : eHA a = eHA b) : a = b := by
 unfold eHA at h
 injection h with h1 h2
 injection h2 with h2 _
 injection h1 with h1
 injection h1 with h1
 injection h2 with h2
 exact Prod.ext (aH1 h1) (ptI h2)
noncomputable def dW (K : PySem.W.Frag) (c : Cls) : List L -> Res L := mOf eHA (fun a => a.1 ≠ [] /\ a.1.length <= 100000 /\ ∀ q ∈ a.1, GoodP q a.2) fun a => .ok (.p (frD (best (hgt (a.1.headD (0, 0, (0, 1))) a.2) (a.1.map fun q => hgt q a.2))))
noncomputable def fR (K : PySem.W.Frag) (c : Cls) : En -> Res Ev := (aK 2 (dD K c) (aA (aD 0) (aA (aD 1) aL)))
noncomputable def jO (K : PySem.W.Frag) (c : Cls) : MS := (b9 (aK 1 (eJ K c) (aA (iB 1 [1] (lG (aD 0)) (aP 0) lQ (fR K c)) aL)))
theorem qF (K : PySem.W.Frag) (c : Cls) : ∀ ls, dW K c ls = .bad \/ d4 2 (jO K c) ls = dW K c ls := uC fun a h => by
 obtain ⟨ps, pt⟩ := a
 obtain ⟨hne, hl, hz⟩ := h
 dsimp only at hne hl hz ⊢
 cases ps with
 | nil => exact absurd rfl hne
 | cons p r =>
  have hm : tU (dU 1 [1] (aP 0) lQ (fR K c) [some (.p (.list ((p :: r).map plD))), some (.p (.tuple [frD pt.1, frD pt.2]))]) ((p :: r).map plD) = some ((p :: r).map fun q => frD (hgt q pt)) := by
   refine fZ _ fun q hq => ?_
   have hp := aDx K c (hz q hq)
   simp [dU, aP, yC, aBq, lQ, fR, a8, bD, b9, cC, aD, mC, aF, mUn, aA, aL, aK, a7, a5, dQ, fB, Res.bind, Ev.c, eD, d6, aC, aS, bF, bQ, a6, aO, eZ, mOr, dP, bW, fL, cF, aX, aV, dI, d9, bC, eR, ixE, dS, bZ, dat, cV, at0, at1, at2, eqE, aU, aT, hp]
  have hg : eJ K c [.p (.list ((p :: r).map fun q => frD (hgt q pt)))] = .ok (.p (frD (best (hgt p pt) ((p :: r).map fun q => hgt q pt)))) := by
   have e1 : ((p :: r).map fun q => frD (hgt q pt)) = ((p :: r).map fun q => hgt q pt).map frD := by rw [List.map_map]; rfl
   rw [e1]
   unfold eJ
   dsimp only
   rw [gB uK]
   rw [List.map_cons]
   dsimp only
   rw [if_pos]
   intro y hy
   rw [<- List.map_cons (f := fun q => hgt q pt)] at hy
   obtain ⟨q, hq, rfl⟩ := List.mem_map.mp hy
   exact ((hz q hq).hgt.mono (by decide)).fsz
  unfold d4
  rw [show bX 2 (eHA (p :: r, pt)) = [some (.p (.list ((p :: r).map plD))), some (.p (.tuple [frD pt.1, frD pt.2]))] from rfl]
  have hl2 : ((p :: r).map plD).length <= 100000 := by rw [List.length_map]; exact hl
  have hc : iB 1 [1] (lG (aD 0)) (aP 0) lQ (fR K c) [some (.p (.list ((p :: r).map plD))), some (.p (.tuple [frD pt.1, frD pt.2]))] = .ok (.f (.list ((p :: r).map fun q => frD (hgt q pt)))) := by
   unfold iB oH
   simp only [lG, aD, List.getElem?_cons_zero, Res.bind, Ev.c, qZ]
   rw [if_pos hl2, hm]
  simp only [jO, b9, aK, aA, aL, Res.bind, hc, Ev.c, a7, a5, dQ, List.length_cons, List.length_nil]
  rw [if_pos trivial, hg]
  rfl
noncomputable def cP (K : PySem.W.Frag) (c : Cls) (ls : List L) : Res L := match ls with
 | [.p (.tuple [.int i, .int j])] => .ok (.p (.bool (decide (i < 0 \/ i > 8 \/ j < 0 \/ j > 8))))
 | _ => .bad
noncomputable def eU (K : PySem.W.Frag) (c : Cls) : MS := (b9 (fL (aF ltE (aC (zY fun i j => if j < i then j else i) (aA (aD 0) aL)) (mC (.int 0))) (aF gtE (aC (zY fun i j => if i < j then j else i) (aA (aD 0) aL)) (mC (.int 8)))))
theorem mX (K : PySem.W.Frag) (c : Cls) : ∀ ls, cP K c ls = .bad \/ d4 1 (eU K c) ls = cP K c ls := by
 intro ls
 unfold cP
 split
 ·rename_i i j
  right
  unfold d4
  rw [show bX 1 [.p (.tuple [.int i, .int j])] = [some (.p (.tuple [.int i, .int j]))] from rfl]
  have e : ∀ b : Bool, (∀ x : Bool, (if x = true then (Res.ok (Ev.p (.bool true)) : Res Ev) else .ok (.p (.bool b))) = .ok (.p (.bool (x || b)))) := fun b x => by cases x <;> rfl
  by_cases h1 : (if j < i then j else i) < 0
  ·have h2 : (i < 0 \/ i > 8 \/ j < 0 \/ j > 8) := by split at h1 <;> omega
   simp [eU, a8, bD, b9, cC, aD, mC, aF, mUn, aA, aL, aK, a7, a5, dQ, fB, Res.bind, Ev.c, eD, d6, aC, aS, bF, bQ, a6, aO, eZ, mOr, dP, bW, fL, cF, aX, aV, dI, d9, bC, eR, ixE, dS, bZ, dat, cV, at0, at1, at2, eqE, aU, aT, zY, h1, h2]
  ·by_cases h3 : (if i < j then j else i) > 8
   ·have h2 : (i < 0 \/ i > 8 \/ j < 0 \/ j > 8) := by split at h3 <;> omega
    simp [eU, a8, bD, b9, cC, aD, mC, aF, mUn, aA, aL, aK, a7, a5, dQ, fB, Res.bind, Ev.c, eD, d6, aC, aS, bF, bQ, a6, aO, eZ, mOr, dP, bW, fL, cF, aX, aV, dI, d9, bC, eR, ixE, dS, bZ, dat, cV, at0, at1, at2, eqE, aU, aT, zY, h1, h2]
    split at h3 <;> omega
   ·have h2 : ¬ (i < 0 \/ i > 8 \/ j < 0 \/ j > 8) := by split at h1 <;> split at h3 <;> omega
    simp [eU, a8, bD, b9, cC, aD, mC, aF, mUn, aA, aL, aK, a7, a5, dQ, fB, Res.bind, Ev.c, eD, d6, aC, aS, bF, bQ, a6, aO, eZ, mOr, dP, bW, fL, cF, aX, aV, dI, d9, bC, eR, ixE, dS, bZ, dat, cV, at0, at1, at2, eqE, aU, aT, zY, h1, h2]
    split at h3 <;> omega
 ·exact .inl rfl
theorem cT (a : D) (r : List D) : ixE (.p (.tuple (a :: r))) (.p (.int 0)) = .ok (.p a) := by simp [ixE, dS, at0]
theorem cR (a b : D) (r : List D) : ixE (.p (.tuple (a :: b :: r))) (.p (.int 1)) = .ok (.p b) := by simp [ixE, dS, at1]
theorem dC (a b d : D) (r : List D) : ixE (.p (.tuple (a :: b :: d :: r))) (.p (.int 2)) = .ok (.p d) := by simp [ixE, dS, at2]
theorem bM (p : Pl) : ixE (.p (plD p)) (.p (.int 0)) = .ok (.p (.int p.1)) := cT _ _
theorem bL (p : Pl) : ixE (.p (plD p)) (.p (.int 1)) = .ok (.p (.int p.2.1)) := cR _ _ _
theorem bK (p : Pl) : ixE (.p (plD p)) (.p (.int 2)) = .ok (.p (frD p.2.2)) := dC _ _ _ _
theorem bO (p : Int × Int) : ixE (.p (frD p)) (.p (.int 0)) = .ok (.p (.int p.1)) := cT _ _
theorem bN (p : Int × Int) : ixE (.p (frD p)) (.p (.int 1)) = .ok (.p (.int p.2)) := cR _ _ _
section
variable {κ α : Type} [DecidableEq κ]
def dZ : List (κ × α) -> κ -> Option α
 | [], _ => none
 | p :: r, k => if p.1 = k then some p.2 else dZ r k
def nO (k : κ) (v : α) : List (κ × α) -> List (κ × α)
 | [] => []
 | p :: r => (if p.1 = k then (p.1, v) else p) :: nO k v r
def oX (m : List (κ × α)) (k : κ) (v : α) : List (κ × α) := if (dZ m k).isSome = true then nO k v m else m ++ [(k, v)]
def encM (ek : κ -> D) (ev : α -> D) (m : List (κ × α)) : List (D × D) := m.map fun p => (ek p.1, ev p.2)
variable {ek : κ -> D} {ev : α -> D} (inj : ∀ a b, ek a = ek b -> a = b)
include inj
theorem iI (k : κ) : ∀ m : List (κ × α), rW (encM ek ev m) (ek k) = (dZ m k).map ev
 | [] => rfl
 | p :: r => by
  unfold encM
  rw [List.map_cons]
  unfold rW dZ
  by_cases e : p.1 = k
  ·rw [if_pos (by rw [e]), if_pos e]; rfl
  ·rw [if_neg (fun z => e (inj _ _ z)), if_neg e]
   exact iI k r
theorem kK (k : κ) (v : α) : ∀ m : List (κ × α), zS (ek k) (ev v) (encM ek ev m) = encM ek ev (nO k v m)
 | [] => rfl
 | p :: r => by
  have ih := kK k v r
  unfold encM at ih ⊢
  rw [List.map_cons]
  unfold zS nO
  rw [List.map_cons, ih]
  by_cases e : p.1 = k
  ·rw [if_pos (by rw [e]), if_pos e]
  ·rw [if_neg (fun z => e (inj _ _ z)), if_neg e]
theorem oV (k : κ) (v : α) (m : List (κ × α)) : v7 (encM ek ev m) (ek k) (ev v) = encM ek ev (oX m k v) := by
 unfold v7 oX
 rw [iI inj]
 cases e : dZ m k with
 | none =>
  rw [if_neg (by simp), if_neg (by simp)]
  unfold encM
  rw [List.map_append]
  rfl
 | some x =>
  rw [if_pos (by rfl), if_pos (by rfl)]
  exact kK inj k v m
end
theorem kZ (a b : Int × Int) (h : slD a = slD b) : a = b := by
 unfold slD at h
 injection h with h
 injection h with h1 h2
 injection h2 with h2 _
 injection h1 with h1
 injection h2 with h2
 exact Prod.ext h1 h2
theorem kG {α : Type} {ev : α -> D} (m : List ((Int × Int) × α)) : dsp (encM slD ev m) = (false, encM slD ev m) := by
 cases m <;> rfl
theorem mY (s : Int × Int) : (aDz (slD s)).isSome = true := rfl
theorem j9 {α : Type} {ev : α -> D} (m : List ((Int × Int) × α)) (s : Int × Int) : oJ (encM slD ev m) (slD s) = some ((dZ m s).map ev) := by
 unfold oJ
 rw [kG]
 dsimp only
 rw [if_pos (mY s), iI kZ]
theorem tL {α : Type} {ev : α -> D} (m : List ((Int × Int) × α)) (s : Int × Int) (v : α) (h : m.length <= 100000) : vT (encM slD ev m) (slD s) (ev v) = some (encM slD ev (oX m s v)) := by
 unfold vT
 rw [kG]
 dsimp only
 rw [if_pos ⟨mY s, by unfold encM; rw [List.length_map]; exact h⟩, oV kZ]
theorem j7 {α κ : Type} [DecidableEq κ] (k : κ) (v : α) : ∀ m : List (κ × α), (nO k v m).length = m.length
 | [] => rfl
 | _ :: r => by unfold nO; rw [List.length_cons, List.length_cons, j7 k v r]
theorem u5 {α κ : Type} [DecidableEq κ] (m : List (κ × α)) (k : κ) (v : α) : (oX m k v).length <= m.length + 1 := by
 unfold oX
 split
 ·rw [j7]; exact Nat.le_succ _
 ·rw [List.length_append]; exact Nat.le_refl _
theorem i6 {α κ : Type} [DecidableEq κ] (k : κ) (v : α) (j : κ) : ∀ m : List (κ × α), dZ (nO k v m) j = if j = k then (dZ m k).map (fun _ => v) else dZ m j
 | [] => by unfold nO dZ; split <;> rfl
 | p :: r => by
  have ih := i6 k v j r
  unfold nO dZ
  by_cases e : p.1 = k
  ·rw [if_pos e]
   by_cases e2 : p.1 = j
   ·have : j = k := by rw [<- e2, e]
    rw [if_pos e2, if_pos this, if_pos e]; rfl
   ·have : j ≠ k := fun z => e2 (by rw [e, z])
    rw [if_neg e2, if_neg this, if_neg e2]
    rw [if_neg this] at ih
    exact ih
  ·rw [if_neg e]
   by_cases e2 : p.1 = j
   ·have : j ≠ k := fun z => e (by rw [e2, z])
    rw [if_pos e2, if_neg this, if_pos e2]
   ·rw [if_neg e2, ih]
    by_cases e3 : j = k
    ·rw [if_pos e3, if_pos e3, if_neg e]
    ·rw [if_neg e3, if_neg e3, if_neg e2]
theorem j8 {α κ : Type} [DecidableEq κ] (j : κ) (l : List (κ × α)) : ∀ m : List (κ × α), dZ (m ++ l) j = match dZ m j with
  | some x => some x
  | none => dZ l j
 | [] => rfl
 | p :: r => by
  have ih := j8 j l r
  rw [List.cons_append]
  show (if p.1 = j then some p.2 else dZ (r ++ l) j) = match (if p.1 = j then some p.2 else dZ r j) with
   | some x => some x
   | none => dZ l j
  by_cases e : p.1 = j
  ·rw [if_pos e, if_pos e]
  ·rw [if_neg e, if_neg e]; exact ih
theorem eT {α κ : Type} [DecidableEq κ] (m : List (κ × α)) (k : κ) (v : α) (j : κ) : dZ (oX m k v) j = if j = k then some v else dZ m j := by
 unfold oX
 cases e : dZ m k with
 | none =>
  rw [if_neg (by simp), j8]
  by_cases ej : j = k
  ·subst ej; rw [e, if_pos rfl]; unfold dZ; rw [if_pos rfl]
  ·rw [if_neg ej]
   cases e2 : dZ m j with
   | some x => rfl
   | none => unfold dZ; rw [if_neg (fun z => ej z.symm)]; rfl
 | some x =>
  rw [if_pos (by rfl), i6]
  by_cases ej : j = k
  ·rw [if_pos ej, if_pos ej, e]; rfl
  ·rw [if_neg ej, if_neg ej]
def slp (p : Pl) : Int × Int := (p.1, p.2.1)
def tak (o : Option (Int × Int)) (h : Int × Int) : Bool := match o with
 | none => true
 | some x => ltF x h
def hbS (m : List ((Int × Int) × Pl)) (p : Pl) : List ((Int × Int) × Pl) := if tak ((dZ m (slp p)).map fun q => q.2.2) p.2.2 = true then oX m (slp p) p else m
def hb (ps : List Pl) : List ((Int × Int) × Pl) := ps.foldl hbS []
theorem xY (m : List ((Int × Int) × Pl)) (p : Pl) : (hbS m p).length <= m.length + 1 := by
 unfold hbS
 split
 ·exact u5 _ _ _
 ·exact Nat.le_succ _
def hm (m : List ((Int × Int) × Pl)) : List ((Int × Int) × (Int × Int)) := m.map fun e => (e.1, e.2.2.2)
theorem kS (k : Int × Int) : ∀ m, dZ (hm m) k = (dZ m k).map fun p => p.2.2
 | [] => rfl
 | e :: r => by
  unfold hm
  rw [List.map_cons]
  unfold dZ
  by_cases h : e.1 = k
  ·rw [if_pos h, if_pos h]; rfl
  ·rw [if_neg h, if_neg h]; exact kS k r
theorem xA (k : Int × Int) (p : Pl) : ∀ m, nO k p.2.2 (hm m) = hm (nO k p m)
 | [] => rfl
 | e :: r => by
  unfold hm
  rw [List.map_cons]
  unfold nO
  rw [List.map_cons]
  congr 1
  ·by_cases h : e.1 = k
   ·rw [if_pos h, if_pos h]
   ·rw [if_neg h, if_neg h]
  ·exact xA k p r
theorem yK (m : List ((Int × Int) × Pl)) (k : Int × Int) (p : Pl) : oX (hm m) k p.2.2 = hm (oX m k p) := by
 unfold oX
 rw [kS]
 cases e : dZ m k with
 | some q => simp only [Option.map_some, Option.isSome_some, if_true]; exact xA k p m
 | none => simp only [Option.map_none, Option.isSome_none, Bool.false_eq_true, if_false]; simp [hm]
theorem nY (m : List ((Int × Int) × Pl)) : (hm m).length = m.length := List.length_map _
theorem tV : ∀ (ps : List Pl) (m : List ((Int × Int) × Pl)), (∀ k p, dZ m k = some p -> slp p = k) -> ∀ k p, dZ (ps.foldl hbS m) k = some p -> slp p = k
 | [], _, h => h
 | p :: ps, m, h => tV ps (hbS m p) fun k q e => by
  unfold hbS at e
  split at e
  ·rw [eT] at e
   split at e
   ·rename_i z; cases e; exact z.symm
   ·exact h k q e
  ·exact h k q e
def rwD (p : Pl) : D := .tuple [slD (slp p), frD p.2.2]
theorem aCp {p q : Pl} (h : rwD p = rwD q) : p = q := by
 unfold rwD at h
 injection h with h
 injection h with h1 h
 injection h with h2 _
 have e1 := kZ _ _ h1
 have e2 : p.2.2 = q.2.2 := Option.some.inj (congrArg xC h2)
 injection e1 with a1 a2
 exact Prod.ext a1 (Prod.ext a2 e2)
def eRw (ps : List Pl) : List L := [.p (.list (ps.map rwD))]
theorem aC2 (a b : List Pl) (h : eRw a = eRw b) : a = b := by
 unfold eRw at h
 injection h with h _
 injection h with h
 injection h with h
 exact (List.map_inj_right (fun _ _ => aCp)).mp h
noncomputable def bY (K : PySem.W.Frag) (c : Cls) : List L -> Res L := mOf eRw (fun ps => ps.length <= 1000 /\ ∀ p ∈ ps, FSz 2000 p.2.2) fun ps => .ok (.o (.dict (encM slD frD (hm (hb ps)))))
noncomputable def bS (K : PySem.W.Frag) (c : Cls) : MS := (cC (mOr (a6 (aF (v9 true) (aD 2) (aD 1))) (a6 (aK 2 (iW K c) (aA (aF kU (aD 1) (aD 2)) (aA (aD 3) aL))))) (oT 1 (aD 2) (aD 3)) aV)
noncomputable def fI (K : PySem.W.Frag) (c : Cls) : MS := (a8 (bD 1 mDT) (a8 (pO (lG (aD 0)) (gK 2 (bB (aP 2) (bB (aP 3) gJ))) (bS K c)) (b9 (aD 1))))
theorem oA (K : PySem.W.Frag) (c : Cls) (p : Pl) : eN K c [.p (plD p)] = .ok (.p (slD (slp p))) := rfl
theorem yS (K : PySem.W.Frag) (c : Cls) (N : Option L) : ∀ (ps : List Pl) (m : List ((Int × Int) × Pl)) (r r2 : Option L), (∀ p ∈ ps, FSz 2000 p.2.2) -> (∀ k p, dZ m k = some p -> FSz 2000 p.2.2) -> m.length + ps.length <= 100000 ->
  ∃ r' r2', gM (gK 2 (bB (aP 2) (bB (aP 3) gJ))) (bS K c) (ps.map rwD) [N, some (.o (.dict (encM slD frD (hm m)))), r, r2] = some (.nx [N, some (.o (.dict (encM slD frD (hm (ps.foldl hbS m))))), r', r2'])
 | [], m, r, r2, _, _, _ => ⟨r, r2, rfl⟩
 | p :: ps, m, r, r2, h, hm0, hl => by
  have hp := h p (.head _)
  have hl' : m.length + (ps.length + 1) <= 100000 := hl
  have hb1 : bS K c [N, some (.o (.dict (encM slD frD (hm m)))), some (.p (slD (slp p))), some (.p (frD p.2.2))] = some (.nx [N, some (.o (.dict (encM slD frD (hm (hbS m p))))), some (.p (slD (slp p))), some (.p (frD p.2.2))]) := by
   have hd := j9 (ev := frD) (hm m) (slp p)
   have hput := tL (ev := frD) (hm m) (slp p) p.2.2 (by rw [nY]; omega)
   rw [yK] at hput
   rw [kS] at hd
   unfold hbS
   cases ea : dZ m (slp p) with
   | none =>
    rw [ea] at hd
    simp [bS, a8, bD, b9, cC, aD, mC, aF, mUn, aA, aL, aK, a7, a5, dQ, fB, Res.bind, Ev.c, eD, d6, aC, aS, bF, bQ, a6, aO, eZ, mOr, dP, bW, fL, cF, aX, aV, dI, d9, bC, eR, bZ, dat, cV, eqE, aU, aT, bK, bM, bL, bO, bN, cT, cR, dC, v9, i7, hd, oT, hput, tak]
   | some q =>
    rw [ea] at hd
    have hq := hm0 _ _ ea
    have hlt := qH K c hq hp
    cases el : ltF q.2.2 p.2.2 with
    | true =>
     rw [el] at hlt
     simp [bS, a8, bD, b9, cC, aD, mC, aF, mUn, aA, aL, aK, a7, a5, dQ, fB, Res.bind, Ev.c, eD, d6, aC, aS, bF, bQ, a6, aO, eZ, mOr, dP, bW, fL, cF, aX, aV, dI, d9, bC, eR, bZ, dat, cV, eqE, aU, aT, bK, bM, bL, bO, bN, cT, cR, dC, v9, kU, i7, hd, oT, hput, tak, el, hlt]
    | false =>
     rw [el] at hlt
     simp [bS, a8, bD, b9, cC, aD, mC, aF, mUn, aA, aL, aK, a7, a5, dQ, fB, Res.bind, Ev.c, eD, d6, aC, aS, bF, bQ, a6, aO, eZ, mOr, dP, bW, fL, cF, aX, aV, dI, d9, bC, eR, bZ, dat, cV, eqE, aU, aT, bK, bM, bL, bO, bN, cT, cR, dC, v9, kU, i7, hd, oT, hput, tak, el, hlt]
  have hm2 : ∀ k q, dZ (hbS m p) k = some q -> FSz 2000 q.2.2 := fun k q e => by
   unfold hbS at e
   split at e
   ·rw [eT] at e
    split at e
    ·cases e; exact hp
    ·exact hm0 k q e
   ·exact hm0 k q e
  have hl2 := xY m p
  obtain ⟨r', r2', ih⟩ := yS K c N ps (hbS m p) (some (.p (slD (slp p)))) (some (.p (frD p.2.2))) (fun q hq => h q (.tail _ hq)) hm2 (by omega)
  refine ⟨r', r2', ?_⟩
  rw [List.map_cons]
  unfold gM
  have tg : gK 2 (bB (aP 2) (bB (aP 3) gJ)) (rwD p) [N, some (.o (.dict (encM slD frD (hm m)))), r, r2] = some [N, some (.o (.dict (encM slD frD (hm m)))), some (.p (slD (slp p))), some (.p (frD p.2.2))] := rfl
  rw [tg]
  dsimp only
  rw [hb1]
  exact ih
theorem jQ (K : PySem.W.Frag) (c : Cls) : ∀ ls, bY K c ls = .bad \/ d4 4 (fI K c) ls = bY K c ls := uC fun ps hz => by
 obtain ⟨r', r2', h⟩ := yS K c (some (.p (.list (ps.map rwD)))) ps [] none none hz.2 (fun k p e => nomatch e) (by have := hz.1; simp; omega)
 unfold d4
 rw [show bX 4 (eRw ps) = [some (.p (.list (ps.map rwD))), none, none, none] from rfl]
 have e0 : encM slD frD (hm ([] : List ((Int × Int) × Pl))) = [] := rfl
 rw [e0] at h
 simp [fI, a8, bD, b9, cC, aD, mC, aF, mUn, aA, aL, aK, a7, a5, dQ, fB, Res.bind, Ev.c, eD, d6, aC, aS, bF, bQ, a6, aO, eZ, mOr, dP, bW, fL, cF, aX, aV, dI, d9, bC, eR, bZ, dat, cV, eqE, aU, aT, bK, bM, bL, bO, bN, cT, cR, dC, pO, lG, qZ, mDT]
 rw [h]
 simp [hb]
def hX (p : Pl) : Bool := decide (p.1 < 0 \/ p.1 > 8 \/ p.2.1 < 0 \/ p.2.1 > 8)
def kys {α : Type} (m : List ((Int × Int) × α)) : List (List Int) := m.map fun e => [e.1.1, e.1.2]
def un2 (k : List Int) : Int × Int := (k.getD 0 0, k.getD 1 0)
def zL {α : Type} (m : List ((Int × Int) × α)) (d : α) (k : List Int) : α := (dZ m (un2 k)).getD d
def p0 : Pl := (0, 0, (0, 1))
def i8 (m : List ((Int × Int) × Pl)) : List Pl := (lA (kys m)).map (zL m p0)
theorem o5 {α : Type} {ev : α -> D} (m : List ((Int × Int) × α)) : (encM slD ev m).map (·.1) = (kys m).map nV := by
 unfold encM kys
 rw [List.map_map, List.map_map]
 rfl
theorem yR {α : Type} (m : List ((Int × Int) × α)) : ((kys m).all fun k => !k.isEmpty) = true := by
 unfold kys
 rw [List.all_map]
 exact List.all_eq_true.mpr fun _ _ => rfl
theorem lX {α : Type} {ev : α -> D} (m : List ((Int × Int) × α)) (h : m.length < 64) : eX [.p (.dict (encM slD ev m))] = .ok (.f (.list ((lA (kys m)).map nV))) := by
 unfold eX
 simp only [i7, kG, o5, mV]
 rw [if_pos trivial, if_pos ⟨yR m, by unfold kys; rw [List.length_map]; exact h⟩]
theorem kC {α κ : Type} [DecidableEq κ] : ∀ {m : List (κ × α)} {e : κ × α}, e ∈ m -> ∃ v, dZ m e.1 = some v
 | p :: r, e, h => by
  unfold dZ
  by_cases q : p.1 = e.1
  ·rw [if_pos q]; exact ⟨_, rfl⟩
  ·rw [if_neg q]
   rcases List.mem_cons.mp h with z | z
   ·exact absurd (by rw [z]) q
   ·exact kC z
theorem tP {α : Type} {m : List ((Int × Int) × α)} {k : List Int} (h : k ∈ lA (kys m)) (d : α) : nV k = slD (un2 k) /\ k = [(un2 k).1, (un2 k).2] /\ dZ m (un2 k) = some (zL m d k) := by
 have h1 := (e9 (kys m)).mem_iff.mp h
 obtain ⟨e, he, rfl⟩ := List.mem_map.mp h1
 obtain ⟨v, hv⟩ := kC he
 have hu : un2 [e.1.1, e.1.2] = e.1 := rfl
 refine ⟨rfl, rfl, ?_⟩
 unfold zL
 rw [hu, hv]
 rfl
theorem aBo (m : List ((Int × Int) × Pl)) : kys (hm m) = kys m := by
 unfold kys hm
 rw [List.map_map]
 rfl
open Classical in
noncomputable def aAo (c : Cls) (ps : List Pl) : Res L := if ps = [] then .exc c.NoRoof else if ps.any hX = true then .exc c.TooSteep else if (hb ps).length > 16 then .exc c.TooMany else .ok (.o (.list ((i8 (hb ps)).map plD)))
open Classical in
noncomputable def dJ (K : PySem.W.Frag) (c : Cls) (ls : List L) : Res L := match ls with
 | [.p (.list ds)] => match p6 vZ ds with
  | some ps => if ps.length <= 1000 /\ ∀ p ∈ ps, FSz 2000 p.2.2 then aAo c ps else .bad
  | none => .bad
 | _ => .bad
noncomputable def iV (K : PySem.W.Frag) (c : Cls) : En -> Res Ev := (aC aS (aA (aF ixE (aD 0) (mC (.int 0))) (aA (aF ixE (aD 0) (mC (.int 1))) (aA (aF kU (aD 1) (aD 0)) aL))))
noncomputable def i5 (K : PySem.W.Frag) (c : Cls) : En -> Res Ev := (aC aS (aA (aK 1 (eN K c) (aA (aD 0) aL)) (aA (aF ixE (aD 0) (mC (.int 2))) aL)))
noncomputable def iS (K : PySem.W.Frag) (c : Cls) : En -> Res Ev := (aK 1 (cP K c) (aA (aK 1 (eN K c) (aA (aD 0) aL)) aL))
noncomputable def iD (K : PySem.W.Frag) (c : Cls) : MS := (a8 (cC (a6 (aF (eqE false) (aC cV (aA (aD 0) aL)) (mC (.int 0)))) (aX c.NoRoof (aA (mC (.str "a roof has one plane or more")) aL)) aV) (a8 (cC (a6 (aC aDg (aA (iB 1 [] (lG (aD 0)) (aP 0) lQ (iS K c)) aL))) (aX c.TooSteep (aA (mC (.str "a slope has two numbers from 0 to 8")) aL)) aV) (a8 (bD 1 (aK 1 (bY K c) (aA (iB 1 [] (lG (aD 0)) (aP 0) lQ (i5 K c)) aL))) (a8 (cC (a6 (aF gtE (aC nE (aA (aD 1) aL)) (mC (.int 16)))) (aX c.TooMany (aA (mC (.str "a roof has at most sixteen unlike slopes")) aL)) aV) (fun en => (b9 (iB 1 [1] (lG (aC eX (aA (aD 1) aL))) (aP 0) lQ (iV K c))) (frz 1 en))))))
theorem pH {α : Type} (f : α -> Bool) : ∀ xs : List α, pG (xs.map fun x => PyData.bool (f x)) = some (xs.map f)
 | [] => rfl
 | x :: xs => by
  show (match pG (xs.map fun x => PyData.bool (f x)) with | some bs => some (f x :: bs) | none => none) = _
  rw [pH f xs]
  rfl
theorem any_map {α : Type} (f : α -> Bool) (xs : List α) : (xs.map f).any id = xs.any f := by rw [List.any_map]; rfl
theorem vQ (K : PySem.W.Frag) (c : Cls) : ∀ ls, dJ K c ls = .bad \/ d4 2 (iD K c) ls = dJ K c ls := by
 intro ls
 unfold dJ
 split
 ·rename_i ds
  split
  ·rename_i ps e
   split
   ·rename_i hz
    right
    have := mK xO e
    subst this
    unfold d4 aAo
    rw [show bX 2 [.p (.list (ps.map plD))] = [some (.p (.list (ps.map plD))), none] from rfl]
    have hlen : cV [.p (.list (ps.map plD))] = .ok (.p (.int (ps.length : Nat))) := by simp [cV, dS]
    by_cases h0 : ps = []
    ·subst h0
     simp [iD, a8, bD, b9, cC, aD, mC, aF, mUn, aA, aL, aK, a7, a5, dQ, fB, Res.bind, Ev.c, eD, d6, aC, aS, bF, bQ, a6, aO, eZ, mOr, dP, bW, fL, cF, aX, aV, dI, d9, bC, eR, bZ, dat, cV, eqE, aU, aT, bK, bM, bL, bO, bN, cT, cR, dC, dS]
    ·have hne : ((ps.length : Nat) : Int) ≠ 0 := fun z => h0 (List.length_eq_zero_iff.mp (by omega))
     rw [if_neg h0]
     have hc1 : iB 1 [] (lG (aD 0)) (aP 0) lQ (iS K c) [some (.p (.list (ps.map plD))), none] = .ok (.f (.list (ps.map fun p => PyData.bool (hX p)))) := by
      unfold iB oH
      simp only [lG, aD, List.getElem?_cons_zero, Res.bind, Ev.c, qZ]
      rw [if_pos (by rw [List.length_map]; have := hz.1; omega), fZ (out := fun p => PyData.bool (hX p))]
      intro p hp
      simp [dU, aP, yC, lQ, iS, a8, bD, b9, cC, aD, mC, aF, mUn, aA, aL, aK, a7, a5, dQ, fB, Res.bind, Ev.c, eD, d6, aC, aS, bF, bQ, a6, aO, eZ, mOr, dP, bW, fL, cF, aX, aV, dI, d9, bC, eR, bZ, dat, cV, eqE, aU, aT, bK, bM, bL, bO, bN, cT, cR, dC, oA]
      simp [cP, slD, slp, hX]
     have hany : aDg [.p (.list (ps.map fun p => PyData.bool (hX p)))] = .ok (.p (.bool (ps.any hX))) := by
      simp only [aDg, bZ, pH, any_map]
     have hcR : iB 1 [] (lG (aD 0)) (aP 0) lQ (i5 K c) [some (.p (.list (ps.map plD))), none] = .ok (.f (.list (ps.map rwD))) := by
      unfold iB oH
      simp only [lG, aD, List.getElem?_cons_zero, Res.bind, Ev.c, qZ]
      rw [if_pos (by rw [List.length_map]; have := hz.1; omega), fZ (out := rwD)]
      intro p hp
      simp [dU, aP, yC, lQ, i5, a8, bD, b9, cC, aD, mC, aF, mUn, aA, aL, aK, a7, a5, dQ, fB, Res.bind, Ev.c, eD, d6, aC, aS, bF, bQ, a6, aO, eZ, mOr, dP, bW, fL, cF, aX, aV, dI, d9, bC, eR, bZ, dat, cV, eqE, aU, aT, bK, bM, bL, bO, bN, cT, cR, dC, oA, rwD]
     have hhb : bY K c [.p (.list (ps.map rwD))] = .ok (.o (.dict (encM slD frD (hm (hb ps))))) := u4 (a := ps) aC2 hz
     have hld : nE [.b (.dict (encM slD frD (hm (hb ps))))] = .ok (.p (.int ((hb ps).length : Nat))) := by
      simp only [nE, i7, kG]
      unfold encM
      rw [List.length_map, nY]
     cases hs : ps.any hX with
     | true =>
      rw [hs] at hany
      simp [iD, a8, cC, a6, aF, aC, aA, aL, aD, mC, Res.bind, Ev.c, hlen, eqE, dat, aU, aT, aO, h0, hc1, hany, aX, aV]
     | false =>
      rw [hs] at hany
      by_cases hl : (hb ps).length > 16
      ·have hl' : (16 : Int) < ((hb ps).length : Nat) := by omega
       simp [iD, a8, cC, a6, aF, aC, aA, aL, aD, mC, Res.bind, Ev.c, hlen, eqE, dat, aU, aT, aO, h0, hc1, hany, aX, aV, bD, aK, a7, a5, dQ, hcR, hhb, d6, hld, bC, hl, hl']
      ·have hl' : ¬ (16 : Int) < ((hb ps).length : Nat) := by omega
       have hso := lX (ev := frD) (hm (hb ps)) (by rw [nY]; omega)
       rw [aBo] at hso
       have hc2 : iB 1 [1] (lG (aC eX (aA (aD 1) aL))) (aP 0) lQ (iV K c) [some (.p (.list (ps.map plD))), some (.p (.dict (encM slD frD (hm (hb ps)))))] = .ok (.f (.list ((i8 (hb ps)).map plD))) := by
        unfold iB oH
        simp only [lG, aC, aA, aL, aD, List.getElem?_cons_zero, List.getElem?_cons_succ, Res.bind, Ev.c, qZ, hso]
        have hn : (lA (kys (hb ps))).length = (hb ps).length := by rw [(e9 _).length_eq]; unfold kys; rw [List.length_map]
        rw [if_pos (by rw [List.length_map, hn]; omega), fZ (out := fun k => plD (zL (hb ps) p0 k))]
        ·unfold i8
         rw [List.map_map]
         rfl
        ·intro k hk
         obtain ⟨q1, q2, q3⟩ := tP hk p0
         have hd := j9 (ev := frD) (hm (hb ps)) (un2 k)
         rw [kS, q3] at hd
         have es := tV ps [] (fun _ _ e => nomatch e) _ _ q3
         rw [q1]
         generalize zL (hb ps) p0 k = q at hd es
         rw [<- es]
         rw [<- es] at hd
         have x0 : ixE (.p (slD (slp q))) (.p (.int 0)) = .ok (.p (.int q.1)) := cT _ _
         have x1 : ixE (.p (slD (slp q))) (.p (.int 1)) = .ok (.p (.int q.2.1)) := cR _ _ _
         simp [dU, aP, yC, aBq, lQ, iV, aF, aD, mC, aC, aA, aL, aS, bQ, Res.bind, Ev.c, kU, i7, hd, x0, x1, plD]
       simp [iD, a8, cC, a6, aF, aC, aA, aL, aD, mC, Res.bind, Ev.c, hlen, eqE, dat, aU, aT, aO, h0, hc1, hany, aX, aV, bD, aK, a7, a5, dQ, hcR, hhb, d6, hld, bC, hl, hl', frz, b9]
       simp [hc2, eD]
   ·exact .inl rfl
  ·exact .inl rfl
 ·exact .inl rfl
theorem q0 {x : Int} (n : Nat) (h : x.natAbs < 2 ^ n) : Sz n x := h
theorem cm {i j : Int} {m n : Nat} (h1 : Sz m i) (h2 : Sz n j) (hm : m <= 60000) (hn : n <= 60000) : CMulW i j := ⟨h1.mono hm, h2.mono hn⟩
theorem aCg {x : Int} (h0 : 0 <= x) (h1 : x < 10 ^ 60) : Sz 210 x := by
 unfold Sz
 have : (10 : Int) ^ 60 < 2 ^ 210 := by decide
 omega
theorem vY {x : Int} (h0 : -1000000000000 <= x) (h1 : x <= 1000000000000) : Sz 40 x := by
 unfold Sz
 omega
theorem cU {a b : Int} (hb : 0 < b) : 0 <= a.fmod b /\ a.fmod b < b := by
 rw [Int.fmod_eq_emod_of_nonneg a (Int.le_of_lt hb)]
 exact ⟨Int.emod_nonneg a (by omega), Int.emod_lt_of_pos a hb⟩
theorem aCa : aD3 10 60 := ⟨by decide, by decide, by decide⟩
theorem aEo : aD3 10 29 := ⟨by decide, by decide, by decide⟩
theorem aIn : aD3 1000003 4 := ⟨by decide, by decide, by decide⟩
noncomputable def eS (K : PySem.W.Frag) (c : Cls) : MS := (a8 (bD 2 (mC (.int 0))) (a8 (cC (a6 (aF ltE (aD 1) (aC cV (aA (aD 0) aL)))) (bD 2 (aF eQ (aF ixE (aD 0) (aD 1)) (aF sW (mC (.int 10)) (mC (.int 60))))) aV) (b9 (aF dI (aF jK (aD 2) (mC (.int 1000003))) (aF eQ (aF jK (aF eQ (aF jK (aF dI (aF dI (aF dI (aD 2) (aF jK (aF jK (mC (.int 7)) (aD 1)) (aD 1))) (aF jK (mC (.int 13)) (aD 1))) (mC (.int 5))) (mC (.int 48271))) (mC (.int 2147483647))) (mC (.int 69621))) (mC (.int 1000000007)))))))
noncomputable def aZ (K : PySem.W.Frag) (c : Cls) (ls : List L) : Res L := d4 3 (eS K c) ls
theorem lP (K : PySem.W.Frag) (c : Cls) : ∀ ls, aZ K c ls = .bad \/ d4 3 (eS K c) ls = aZ K c ls := fun _ => .inr rfl
theorem rO (K : PySem.W.Frag) (c : Cls) (S : L) (k C : Int) (k0 : 0 <= k) (k1 : k <= 100) (c0 : 0 <= C) (c1 : C < 10 ^ 60) : ∃ v, 0 <= v /\ Sz 300 v /\ (aF dI (aF jK (aD 2) (mC (.int 1000003))) (aF eQ (aF jK (aF eQ (aF jK (aF dI (aF dI (aF dI (aD 2) (aF jK (aF jK (mC (.int 7)) (aD 1)) (aD 1))) (aF jK (mC (.int 13)) (aD 1))) (mC (.int 5))) (mC (.int 48271))) (mC (.int 2147483647))) (mC (.int 69621))) (mC (.int 1000000007)))) [some S, some (.p (.int k)), some (.p (.int C))] = .ok (.p (.int v)) := by
 have zc := aCg c0 c1
 have zk : Sz 40 k := vY (by omega) (by omega)
 have z7 : Sz 40 (7 * k) := vY (by omega) (by omega)
 have hkk : 0 <= 7 * k * k /\ 7 * k * k <= 70000 := by
  refine ⟨Int.mul_nonneg (by omega) k0, ?_⟩
  have := Int.mul_le_mul (show 7 * k <= 700 by omega) k1 k0 (by decide)
  omega
 have zs : Sz 220 (C + 7 * k * k + 13 * k + 5) := by
  unfold Sz
  have : (10 : Int) ^ 60 + 100000 < 2 ^ 220 := by decide
  omega
 have m1 := cU (a := (C + 7 * k * k + 13 * k + 5) * 48271) (b := 2147483647) (by decide)
 have zm1 : Sz 40 (((C + 7 * k * k + 13 * k + 5) * 48271).fmod 2147483647) := vY (by omega) (by omega)
 have m2 := cU (a := ((C + 7 * k * k + 13 * k + 5) * 48271).fmod 2147483647 * 69621) (b := 1000000007) (by decide)
 have l1 : Sz 40 (1000003 : Int) := vY (by decide) (by decide)
 have l2 : Sz 40 (7 : Int) := vY (by decide) (by decide)
 have l3 : Sz 40 (13 : Int) := vY (by decide) (by decide)
 have l4 : Sz 40 (48271 : Int) := vY (by decide) (by decide)
 have l5 : Sz 40 (69621 : Int) := vY (by decide) (by decide)
 refine ⟨C * 1000003 + (((C + 7 * k * k + 13 * k + 5) * 48271).fmod 2147483647 * 69621).fmod 1000000007, ?_, ?_, ?_⟩
 ·have := Int.mul_nonneg c0 (show (0 : Int) <= 1000003 by decide)
  omega
 ·exact (Sz.add (Sz.mul zc l1) ((vY (x := (((C + 7 * k * k + 13 * k + 5) * 48271).fmod 2147483647 * 69621).fmod 1000000007) (by omega) (by omega)).mono (show 40 <= 210 + 40 by decide))).mono (by decide)
 ·have q1 : CMulW C 1000003 := cm zc l1 (by decide) (by decide)
  have q2 : CMulW 7 k := cm l2 zk (by decide) (by decide)
  have q3 : CMulW (7 * k) k := cm z7 zk (by decide) (by decide)
  have q4 : CMulW 13 k := cm l3 zk (by decide) (by decide)
  have q5 : CMulW (C + 7 * k * k + 13 * k + 5) 48271 := cm zs l4 (by decide) (by decide)
  have q6 : CMulW (((C + 7 * k * k + 13 * k + 5) * 48271).fmod 2147483647) 69621 := cm zm1 l5 (by decide) (by decide)
  simp [aF, aD, mC, Res.bind, Ev.c, dI, d9, q1, q2, q3, q4, q5, q6]
theorem xN {ns : List Int} {k : Int} (h0 : 0 <= k) (h : k < (ns.length : Int)) : ∃ v : Int, atI (ns.map PyData.int) k = some (.int v) := by
 have hk : k.toNat < ns.length := by omega
 have ek : k = ((k.toNat : Nat) : Int) := by omega
 have q : atI (ns.map PyData.int) ((k.toNat : Nat) : Int) = some (.int ns[k.toNat]) := iN (by rw [List.getElem?_map, List.getElem?_eq_getElem hk] <;> rfl)
 rw [<- ek] at q
 exact ⟨_, q⟩
theorem pD (K : PySem.W.Frag) (c : Cls) (ns : List Int) (k : Int) (k0 : 0 <= k) (k1 : k <= 100) : ∃ v, 0 <= v /\ Sz 300 v /\ aZ K c [.p (.list (ns.map .int)), .p (.int k)] = .ok (.p (.int v)) := by
 have hlen : cV [.p (.list (ns.map .int))] = .ok (.p (.int (ns.length : Nat))) := by simp [cV, dS]
 unfold aZ d4
 rw [show bX 3 [.p (.list (ns.map .int)), .p (.int k)] = [some (.p (.list (ns.map .int))), some (.p (.int k)), none] from rfl]
 by_cases hk : k < (ns.length : Nat)
 ·obtain ⟨x, hx⟩ := xN k0 hk
  have m1 := cU (a := x) (b := 10 ^ 60) (by decide)
  obtain ⟨v, v0, v1, hv⟩ := rO K c (.p (.list (ns.map .int))) k (x.fmod (10 ^ 60)) k0 k1 m1.1 m1.2
  refine ⟨v, v0, v1, ?_⟩
  have e1 : (aF eQ (aF ixE (aD 0) (aD 1)) (aF sW (mC (.int 10)) (mC (.int 60)))) [some (.p (.list (ns.map .int))), some (.p (.int k)), some (.p (.int 0))] = .ok (.p (.int (x.fmod (10 ^ 60)))) := by
   simp [aF, aD, mC, Res.bind, Ev.c, d9, ixE, dS, hx, aCa]
  have e2 : a6 (aF ltE (aD 1) (aC cV (aA (aD 0) aL))) [some (.p (.list (ns.map .int))), some (.p (.int k)), some (.p (.int 0))] = .ok true := by
   simp [a6, aF, aD, aC, aA, aL, Res.bind, Ev.c, hlen, bC, aO, hk]
  simp only [eS, a8, bD, mC, List.set_cons_succ, List.set_cons_zero, cC, e2, if_true, e1, b9, hv, eD]
 ·obtain ⟨v, v0, v1, hv⟩ := rO K c (.p (.list (ns.map .int))) k 0 k0 k1 (by decide) (by decide)
  refine ⟨v, v0, v1, ?_⟩
  have e2 : a6 (aF ltE (aD 1) (aC cV (aA (aD 0) aL))) [some (.p (.list (ns.map .int))), some (.p (.int k)), some (.p (.int 0))] = .ok false := by
   simp [a6, aF, aD, aC, aA, aL, Res.bind, Ev.c, hlen, bC, aO]
   omega
  simp only [eS, a8, bD, mC, List.set_cons_succ, List.set_cons_zero, cC]
  rw [e2]
  simp only [Bool.false_eq_true, if_false, aV]
  simp only [b9, hv, eD]
noncomputable def gG (K : PySem.W.Frag) (c : Cls) : En -> Res Ev := (aK 2 (aZ K c) (aA (aD 1) (aA (aD 0) aL)))
noncomputable def gP (K : PySem.W.Frag) (c : Cls) : MS := (b9 (iB 1 [0] (rY yI (aA (aD 1) (aA (aC (aCd fun i j => if j < i then j else i) (aA (aD 2) (aA (aC cV (aA (aD 0) aL)) aL))) aL))) (aP 0) lQ (gG K c)))
noncomputable def dB (K : PySem.W.Frag) (c : Cls) (ls : List L) : Res L := d4 3 (gP K c) ls
theorem oF (K : PySem.W.Frag) (c : Cls) : ∀ ls, dB K c ls = .bad \/ d4 3 (gP K c) ls = dB K c ls := fun _ => .inr rfl
theorem oZ {α : Type} {g : D -> Option (Option D)} {enc : α -> D} {P : Int -> Prop} : ∀ xs : List α, (∀ x ∈ xs, ∃ v, P v /\ g (enc x) = some (some (.int v))) -> ∃ vs : List Int, vs.length = xs.length /\ (∀ v ∈ vs, P v) /\ tU g (xs.map enc) = some (vs.map .int)
 | [], _ => ⟨[], rfl, (fun _ h => nomatch h), rfl⟩
 | x :: xs, h => by
  obtain ⟨v, pv, e⟩ := h x (.head _)
  obtain ⟨vs, hl, hp, ih⟩ := oZ xs fun y hy => h y (.tail _ hy)
  refine ⟨v :: vs, by simp [hl], fun y hy => ?_, ?_⟩
  ·rcases List.mem_cons.mp hy with z | z
   ·rw [z]; exact pv
   ·exact hp y z
  ·show (match g (enc x) with | none => none | some o => match tU g (xs.map enc) with | none => none | some r => some (match o with | some y => y :: r | none => r)) = _
   rw [e, ih]
   rfl
theorem aAf (K : PySem.W.Frag) (c : Cls) (ns : List Int) (hn : ns.length <= 63) : ∃ vs : List Int, vs.length <= 60 /\ (∀ v ∈ vs, 0 <= v /\ Sz 300 v) /\ dB K c [.p (.list (ns.map .int)), .p (.int 3), .p (.int 43)] = .ok (.o (.list (vs.map .int))) := by
 have hlen : cV [.p (.list (ns.map .int))] = .ok (.p (.int (ns.length : Nat))) := by simp [cV, dS]
 obtain ⟨vs, hl, hp, hm⟩ := oZ (g := dU 1 [0] (aP 0) lQ (gG K c) [some (.p (.list (ns.map .int))), some (.p (.int 3)), some (.p (.int 43))]) (enc := fun (k : Nat) => PyData.int (3 + (k : Int))) (P := fun v => 0 <= v /\ Sz 300 v) (List.range ((if ((ns.length : Nat) : Int) < 43 then ((ns.length : Nat) : Int) else 43) - 3).toNat) (fun k hk => by
  have hk := List.mem_range.mp hk
  obtain ⟨v, v0, v1, hv⟩ := pD K c ns (3 + (k : Int)) (by omega) (by split at hk <;> omega)
  refine ⟨v, ⟨v0, v1⟩, ?_⟩
  simp [dU, aP, yC, aBq, lQ, gG, a8, bD, b9, cC, aD, mC, aF, mUn, aA, aL, aK, a7, a5, dQ, fB, Res.bind, Ev.c, eD, d6, aC, aS, bF, bQ, a6, aO, eZ, mOr, dP, bW, fL, cF, aX, aV, dI, d9, bC, eR, bZ, dat, cV, eqE, aU, aT, bK, bM, bL, bO, bN, cT, cR, dC, hv])
 refine ⟨vs, by rw [hl, List.length_range]; split <;> omega, hp, ?_⟩
 unfold dB d4
 rw [show bX 3 [.p (.list (ns.map .int)), .p (.int 3), .p (.int 43)] = [some (.p (.list (ns.map .int))), some (.p (.int 3)), some (.p (.int 43))] from rfl]
 have hr : (rY yI (aA (aD 1) (aA (aC (aCd fun i j => if j < i then j else i) (aA (aD 2) (aA (aC cV (aA (aD 0) aL)) aL))) aL))) [some (.p (.list (ns.map .int))), some (.p (.int 3)), some (.p (.int 43))] = .ok (vM 3 ((if ((ns.length : Nat) : Int) < 43 then ((ns.length : Nat) : Int) else 43) - 3).toNat) := by
  have hb : -(2 ^ 62) <= (if ((ns.length : Nat) : Int) < 43 then ((ns.length : Nat) : Int) else 43) /\ (if ((ns.length : Nat) : Int) < 43 then ((ns.length : Nat) : Int) else 43) < 2 ^ 62 := by split <;> omega
  simp only [rY, aA, aL, aC, aD, List.getElem?_cons_zero, List.getElem?_cons_succ, Res.bind, Ev.c, hlen, aCd, yI]
  rw [if_pos ⟨by decide, by decide, hb.1, hb.2⟩]
 simp only [gP, b9, iB, hr, Res.bind, oH]
 rw [if_pos (by unfold vM; rw [List.length_map, List.length_range]; split <;> omega)]
 unfold vM
 rw [hm]
 rfl
def sN (c : Cls) (C : Addr) : Option Nat := if C = c.NoRoof then some 2 else if C = c.TooSteep then some 3 else if C = c.TooMany then some 4 else none
structure aAg (K : PySem.W.Frag) (c : Cls) (C : Addr) (n : Nat) : Prop where
 ex : PySem.W.ExcK K C
 rf : PySem.W.exmOne K (.ref C) (.ref c.RoofError) = some true
 k0 : PySem.W.kitOne K (.ref C) (.type "ValueError") = some true
 k1 : PySem.W.kitOne K (.ref C) (.ref c.NoFraction) = some (decide (n = 1))
 k2 : PySem.W.kitOne K (.ref C) (.ref c.NoRoof) = some (decide (n = 2))
 k3 : PySem.W.kitOne K (.ref C) (.ref c.TooSteep) = some (decide (n = 3))
 k4 : PySem.W.kitOne K (.ref C) (.ref c.TooMany) = some (decide (n = 4))
 k5 : PySem.W.kitOne K (.ref C) (.ref c.NoNumber) = some (decide (n = 5))
 k6 : PySem.W.kitOne K (.ref C) (.ref c.NoCorner) = some (decide (n = 6))
 k7 : PySem.W.kitOne K (.ref C) (.ref c.NoDealing) = some (decide (n = 7))
 k8 : PySem.W.kitOne K (.ref C) (.ref c.NoRow) = some (decide (n = 8))
 k9 : PySem.W.kitOne K (.ref C) (.ref c.NoText) = some (decide (n = 9))
 k10 : PySem.W.kitOne K (.ref C) (.ref c.NoName) = some (decide (n = 10))
structure iC (K : PySem.W.Frag) (c : Cls) : Prop where
 ii : PySem.W.kitOne K (.type "int") (.type "int") = some true
 ib : PySem.W.kitOne K (.type "int") (.type "bool") = some false
 tt : PySem.W.kitOne K (.type "tuple") (.type "tuple") = some true
 ll : PySem.W.kitOne K (.type "list") (.type "list") = some true
 il : PySem.W.kitOne K (.type "int") (.type "list") = some false
 ex : ∀ C n, sN c C = some n -> aAg K c C n
 n1 : c.TooSteep ≠ c.NoRoof
 n2 : c.TooMany ≠ c.NoRoof
 n3 : c.TooMany ≠ c.TooSteep
noncomputable def bH (K : PySem.W.Frag) (c : Cls) (ls : List L) : Res L := match ls with
 | [.p (.int i)] => .ok (.p (.bool true))
 | _ => .bad
noncomputable def iT (K : PySem.W.Frag) (c : Cls) : MS := (b9 (bW (mUn (lD K (.type "int")) (aD 0)) (cF (mUn (lD K (.type "bool")) (aD 0)))))
theorem pT (K : PySem.W.Frag) (c : Cls) (hk : iC K c) : ∀ ls, bH K c ls = .bad \/ d4 1 (iT K c) ls = bH K c ls := by
 intro ls
 unfold bH
 split
 ·rename_i i
  right
  unfold d4
  rw [show bX 1 [.p (.int i)] = [some (.p (.int i))] from rfl]
  simp [iT, a8, bD, b9, cC, aD, mC, aF, mUn, aA, aL, aK, a7, a5, dQ, fB, Res.bind, Ev.c, eD, d6, aC, aS, bF, bQ, a6, aO, eZ, mOr, dP, bW, fL, cF, aX, aV, dI, d9, bC, eR, bZ, dat, cV, eqE, aU, aT, bK, bM, bL, bO, bN, cT, cR, dC, lD, tyD, hk.ii, hk.ib]
 ·exact .inl rfl
noncomputable def bJ (K : PySem.W.Frag) (c : Cls) (ls : List L) : Res L := match ls with
 | [.p (.int a), .p (.int b)] => .ok (.p (.int (Int.gcd a b : Nat)))
 | _ => .bad
noncomputable def cQ (K : PySem.W.Frag) (c : Cls) : En -> Res Bool := (a6 (aF gtE (aD 1) (mC (.int 0))))
noncomputable def dN (K : PySem.W.Frag) (c : Cls) : MS := (a8 (bD 2 (aF eQ (aD 0) (aD 1))) (a8 (bD 0 (aD 1)) (bD 1 (aD 2))))
noncomputable def gX (K : PySem.W.Frag) (c : Cls) : MS := (a8 (bD 0 (aC zT (aA (aD 0) aL))) (a8 (bD 1 (aC zT (aA (aD 1) aL))) (a8 (nC (cQ K c) (dN K c)) (b9 (aD 0)))))
theorem mI (K : PySem.W.Frag) (c : Cls) : ∀ (n : Nat) (l s : Int) (r : Option L), 0 <= l -> 0 <= s -> s.toNat <= n -> ∃ r', mWh (cQ K c) (dN K c) (n + 1) [some (.p (.int l)), some (.p (.int s)), r] = some (.nx [some (.p (.int (Int.gcd l s : Nat))), some (.p (.int 0)), r']) := by
 intro n
 have hc : ∀ (l s : Int) (r : Option L), cQ K c [some (.p (.int l)), some (.p (.int s)), r] = .ok (decide (0 < s)) := fun l s r => by
  simp [cQ, a6, aF, aD, mC, Res.bind, Ev.c, eqE, dat, aU, aT, aO, bC]
 have done : ∀ (n : Nat) (l : Int) (r : Option L), 0 <= l -> mWh (cQ K c) (dN K c) (n + 1) [some (.p (.int l)), some (.p (.int 0)), r] = some (.nx [some (.p (.int (Int.gcd l 0 : Nat))), some (.p (.int 0)), r]) := fun n l r hl => by
  unfold mWh
  rw [hc, FR.wA hl]
  simp
 induction n with
 | zero =>
  intro l s r hl hs hn
  have : s = 0 := by omega
  subst this
  exact ⟨r, done 0 l r hl⟩
 | succ n ih =>
  intro l s r hl hs hn
  by_cases h0 : s = 0
  ·subst h0
   exact ⟨r, done _ l r hl⟩
  ·have em : l.fmod s = l % s := Int.fmod_eq_emod_of_nonneg l hs
   have m0 := Int.emod_nonneg l h0
   have m1 := Int.emod_lt_of_pos l (show 0 < s by omega)
   obtain ⟨r', ih⟩ := ih s (l.fmod s) (some (.p (.int (l.fmod s)))) hs (by omega) (by omega)
   refine ⟨r', ?_⟩
   rw [em, FR.u9 hl hs] at ih
   have hb : dN K c [some (.p (.int l)), some (.p (.int s)), r] = some (.nx [some (.p (.int s)), some (.p (.int (l % s))), some (.p (.int (l % s)))]) := by
    simp [dN, aF, aD, mC, Res.bind, Ev.c, a8, bD, d9, em, h0]
   have ht : cQ K c [some (.p (.int l)), some (.p (.int s)), r] = .ok true := by
    rw [hc]
    rw [decide_eq_true (show 0 < s by omega)]
   unfold mWh
   rw [ht]
   dsimp only
   rw [hb]
   exact ih
theorem lR (K : PySem.W.Frag) (c : Cls) : ∀ ls, bJ K c ls = .bad \/ d4 3 (gX K c) ls = bJ K c ls := by
 intro ls
 unfold bJ
 split
 ·rename_i a b
  right
  obtain ⟨r', h⟩ := mI K c  _ (if a < 0 then -a else a) (if b < 0 then -b else b) none (by split <;> omega) (by split <;> omega) (Nat.le_refl _)
  have h := rV h
  rw [FR.yQ] at h
  unfold d4
  rw [show bX 3 [.p (.int a), .p (.int b)] = [some (.p (.int a)), some (.p (.int b)), none] from rfl]
  simp [gX, a8, bD, aC, aA, aL, aD, Res.bind, Ev.c, zT, h, b9, eD]
 ·exact .inl rfl
open Classical in
noncomputable def aR (K : PySem.W.Frag) (c : Cls) (ls : List L) : Res L := match ls with
 | [.p (.int t), .p (.int b)] => if 1 <= b /\ Sz 8000 b then .ok (.p (frD (FR.mk t b))) else .bad
 | _ => .bad
noncomputable def gI (K : PySem.W.Frag) (c : Cls) : MS := (a8 (bD 2 (aK 2 (bJ K c) (aA (aD 0) (aA (aD 1) aL)))) (b9 (aC aS (aA (aF dY (aD 0) (aD 2)) (aA (aF dY (aD 1) (aD 2)) aL)))))
theorem lF (K : PySem.W.Frag) (c : Cls) : ∀ ls, aR K c ls = .bad \/ d4 3 (gI K c) ls = aR K c ls := by
 intro ls
 unfold aR
 split
 ·rename_i t b
  split
  ·rename_i hz
   right
   have hb : b ≠ 0 := by have := hz.1; omega
   obtain ⟨d1, _⟩ := aFp t hb hz.2
   have q1 : ∀ x : Int, mR x ((Int.gcd t b : Nat) : Int) := fun x => ⟨d1.1, d1.2⟩
   have es : FR.sgn b (Int.gcd t b) = ((Int.gcd t b : Nat) : Int) := if_neg (by have := hz.1; omega)
   unfold d4
   rw [show bX 3 [.p (.int t), .p (.int b)] = [some (.p (.int t)), some (.p (.int b)), none] from rfl]
   simp [gI, a8, bD, b9, cC, aD, mC, aF, mUn, aA, aL, aK, a7, a5, dQ, fB, Res.bind, Ev.c, eD, d6, aC, aS, bF, bQ, a6, aO, eZ, mOr, dP, bW, fL, cF, aX, aV, dI, d9, bC, eR, bZ, dat, cV, eqE, aU, aT, bK, bM, bL, bO, bN, cT, cR, dC, bJ, q1, FR.mk, es, frD]
  ·exact .inl rfl
 ·exact .inl rfl
noncomputable def aQ (K : PySem.W.Frag) (c : Cls) (ls : List L) : Res L := match ls with
 | [.p (.tuple [.int a, .int b])] => .ok (.p (.bool (decide (1 <= b /\ Int.gcd a b = 1))))
 | _ => .bad
noncomputable def eB (K : PySem.W.Frag) (c : Cls) : MS := (a8 (cC (mOr (dP (a6 (mUn (lD K (.type "tuple")) (aD 0)))) (a6 (aF (eqE true) (aC cV (aA (aD 0) aL)) (mC (.int 2))))) (b9 (mC (.bool false))) aV) (a8 (cC (mOr (dP (a6 (aK 1 (bH K c) (aA (aF ixE (aD 0) (mC (.int 0))) aL)))) (mOr (dP (a6 (aK 1 (bH K c) (aA (aF ixE (aD 0) (mC (.int 1))) aL)))) (a6 (aF ltE (aF ixE (aD 0) (mC (.int 1))) (mC (.int 1)))))) (b9 (mC (.bool false))) aV) (b9 (aF (eqE false) (aK 2 (bJ K c) (aA (aF ixE (aD 0) (mC (.int 0))) (aA (aF ixE (aD 0) (mC (.int 1))) aL))) (mC (.int 1))))))
theorem j4 (K : PySem.W.Frag) (c : Cls) (hk : iC K c) : ∀ ls, aQ K c ls = .bad \/ d4 1 (eB K c) ls = aQ K c ls := by
 intro ls
 unfold aQ
 split
 ·rename_i a b
  right
  have hl : cV [.p (.tuple [.int a, .int b])] = .ok (.p (.int 2)) := by simp [cV, dS]
  unfold d4
  rw [show bX 1 [.p (.tuple [.int a, .int b])] = [some (.p (.tuple [.int a, .int b]))] from rfl]
  by_cases h1 : b < 1
  ·have h2 : ¬ 1 <= b := by omega
   simp [eB, a8, bD, b9, cC, aD, mC, aF, mUn, aA, aL, aK, a7, a5, dQ, fB, Res.bind, Ev.c, eD, d6, aC, aS, bF, bQ, a6, aO, eZ, mOr, dP, bW, fL, cF, aX, aV, dI, d9, bC, eR, bZ, dat, cV, eqE, aU, aT, bK, bM, bL, bO, bN, cT, cR, dC, lD, tyD, hk.tt, hl, bH, h1, h2, dS]
  ·have h2 : 1 <= b := by omega
   have e : (((Int.gcd a b : Nat) : Int) == 1) = decide (Int.gcd a b = 1) := by
    by_cases q : Int.gcd a b = 1
    ·simp [q]
    ·rw [decide_eq_false q]
     have : ((Int.gcd a b : Nat) : Int) ≠ 1 := by omega
     simpa using this
   simp [eB, a8, bD, b9, cC, aD, mC, aF, mUn, aA, aL, aK, a7, a5, dQ, fB, Res.bind, Ev.c, eD, d6, aC, aS, bF, bQ, a6, aO, eZ, mOr, dP, bW, fL, cF, aX, aV, dI, d9, bC, eR, bZ, dat, cV, eqE, aU, aT, bK, bM, bL, bO, bN, cT, cR, dC, lD, tyD, hk.tt, hl, bH, bJ, h1, h2, dS]
   exact e
 ·exact .inl rfl
open Classical in
noncomputable def cY (K : PySem.W.Frag) (c : Cls) (ls : List L) : Res L := match ls with
 | [.p (.tuple [.int a, .int b]), .p (.tuple [.int d, .int e])] => if Sz 2000 a /\ Sz 2000 b /\ Sz 2000 d /\ Sz 2000 e /\ 1 <= b * e then .ok (.p (frD (FR.mk (a * e + d * b) (b * e)))) else .bad
 | _ => .bad
noncomputable def kT (K : PySem.W.Frag) (c : Cls) : MS := (b9 (aK 2 (aR K c) (aA (aF dI (aF jK (aF ixE (aD 0) (mC (.int 0))) (aF ixE (aD 1) (mC (.int 1)))) (aF jK (aF ixE (aD 1) (mC (.int 0))) (aF ixE (aD 0) (mC (.int 1))))) (aA (aF jK (aF ixE (aD 0) (mC (.int 1))) (aF ixE (aD 1) (mC (.int 1)))) aL))))
theorem sE (K : PySem.W.Frag) (c : Cls) : ∀ ls, cY K c ls = .bad \/ d4 2 (kT K c) ls = cY K c ls := by
 intro ls
 unfold cY
 split
 ·rename_i a b d e
  split
  ·rename_i hz
   obtain ⟨z1, z2, z3, z4, hb⟩ := hz
   right
   have sb : Sz 8000 (b * e) := (Sz.mul z2 z4).mono (by decide)
   have p1 := cm z1 z4 (by decide) (by decide)
   have p2 := cm z3 z2 (by decide) (by decide)
   have p3 := cm z2 z4 (by decide) (by decide)
   unfold d4
   rw [show bX 2 [.p (.tuple [.int a, .int b]), .p (.tuple [.int d, .int e])] = [some (.p (.tuple [.int a, .int b])), some (.p (.tuple [.int d, .int e]))] from rfl]
   simp [kT, a8, bD, b9, cC, aD, mC, aF, mUn, aA, aL, aK, a7, a5, dQ, fB, Res.bind, Ev.c, eD, d6, aC, aS, bF, bQ, a6, aO, eZ, mOr, dP, bW, fL, cF, aX, aV, dI, d9, bC, eR, bZ, dat, cV, eqE, aU, aT, bK, bM, bL, bO, bN, cT, cR, dC, p1, p2, p3, aR, sb, hb]
  ·exact .inl rfl
 ·exact .inl rfl
open Classical in
noncomputable def b7 (K : PySem.W.Frag) (c : Cls) (ls : List L) : Res L := match ls with
 | [.p (.tuple [.int a, .int b]), .p (.int i)] => if Sz 2000 a /\ Sz 2000 b /\ Sz 2000 i /\ 1 <= b then .ok (.p (frD (FR.mk (a * i) b))) else .bad
 | _ => .bad
noncomputable def i0 (K : PySem.W.Frag) (c : Cls) : MS := (b9 (aK 2 (aR K c) (aA (aF jK (aF ixE (aD 0) (mC (.int 0))) (aD 1)) (aA (aF ixE (aD 0) (mC (.int 1))) aL))))
theorem oM (K : PySem.W.Frag) (c : Cls) : ∀ ls, b7 K c ls = .bad \/ d4 2 (i0 K c) ls = b7 K c ls := by
 intro ls
 unfold b7
 split
 ·rename_i a b i
  split
  ·rename_i hz
   obtain ⟨z1, z2, z3, hb⟩ := hz
   right
   have sb : Sz 8000 b := z2.mono (by decide)
   have p1 := cm z1 z3 (by decide) (by decide)
   unfold d4
   rw [show bX 2 [.p (.tuple [.int a, .int b]), .p (.int i)] = [some (.p (.tuple [.int a, .int b])), some (.p (.int i))] from rfl]
   simp [i0, a8, bD, b9, cC, aD, mC, aF, mUn, aA, aL, aK, a7, a5, dQ, fB, Res.bind, Ev.c, eD, d6, aC, aS, bF, bQ, a6, aO, eZ, mOr, dP, bW, fL, cF, aX, aV, dI, d9, bC, eR, bZ, dat, cV, eqE, aU, aT, bK, bM, bL, bO, bN, cT, cR, dC, p1, aR, sb, hb]
  ·exact .inl rfl
 ·exact .inl rfl
open Classical in
noncomputable def bT (K : PySem.W.Frag) (c : Cls) (ls : List L) : Res L := match ls with
 | [.p (.tuple [.int a, .int b]), .p (.tuple [.int d, .int e])] => if Sz 2000 a /\ Sz 2000 b /\ Sz 2000 d /\ Sz 2000 e then .ok (.p (.bool (decide (a * e < d * b)))) else .bad
 | _ => .bad
noncomputable def iU (K : PySem.W.Frag) (c : Cls) : MS := (b9 (aF ltE (aF jK (aF ixE (aD 0) (mC (.int 0))) (aF ixE (aD 1) (mC (.int 1)))) (aF jK (aF ixE (aD 1) (mC (.int 0))) (aF ixE (aD 0) (mC (.int 1))))))
theorem pJ (K : PySem.W.Frag) (c : Cls) : ∀ ls, bT K c ls = .bad \/ d4 2 (iU K c) ls = bT K c ls := by
 intro ls
 unfold bT
 split
 ·rename_i a b d e
  split
  ·rename_i hz
   obtain ⟨z1, z2, z3, z4⟩ := hz
   right
   have p1 := jT (z1.mono (show 2000 <= 60000 by decide)) (z4.mono (show 2000 <= 60000 by decide))
   have p2 := jT (z3.mono (show 2000 <= 60000 by decide)) (z2.mono (show 2000 <= 60000 by decide))
   unfold d4
   rw [show bX 2 [.p (.tuple [.int a, .int b]), .p (.tuple [.int d, .int e])] = [some (.p (.tuple [.int a, .int b])), some (.p (.tuple [.int d, .int e]))] from rfl]
   simp [iU, a8, bD, b9, cC, aD, mC, aF, mUn, aA, aL, aK, a7, a5, dQ, fB, Res.bind, Ev.c, eD, d6, aC, aS, bF, bQ, a6, aO, eZ, mOr, dP, bW, fL, cF, aX, aV, dI, d9, bC, eR, ixE, dS, bZ, dat, cV, at0, at1, at2, eqE, aU, aT, p1, p2]
  ·exact .inl rfl
 ·exact .inl rfl
def nQ (n : Nat) : List D := (List.range 11).map fun (k : Nat) => PyData.bool (decide (k = 0 \/ k = n))
noncomputable def cO (K : PySem.W.Frag) (c : Cls) (ls : List L) : Res L := match ls with
 | [.x C] => match sN c C with
  | some n => .ok (.o (.list (nQ n)))
  | none => .bad
 | _ => .bad
noncomputable def iY (K : PySem.W.Frag) (c : Cls) : MS := (a8 (bD 1 (aC bF (aA (mUn (kF K (.type "ValueError")) (aD 0)) (aA (mUn (kF K (.ref c.NoFraction)) (aD 0)) (aA (mUn (kF K (.ref c.NoRoof)) (aD 0)) aL))))) (a8 (bD 1 (aF dI (aD 1) (aC bF (aA (mUn (kF K (.ref c.TooSteep)) (aD 0)) (aA (mUn (kF K (.ref c.TooMany)) (aD 0)) (aA (mUn (kF K (.ref c.NoNumber)) (aD 0)) aL)))))) (a8 (bD 1 (aF dI (aD 1) (aC bF (aA (mUn (kF K (.ref c.NoCorner)) (aD 0)) (aA (mUn (kF K (.ref c.NoDealing)) (aD 0)) (aA (mUn (kF K (.ref c.NoRow)) (aD 0)) aL)))))) (b9 (aF dI (aD 1) (aC bF (aA (mUn (kF K (.ref c.NoText)) (aD 0)) (aA (mUn (kF K (.ref c.NoName)) (aD 0)) aL))))))))
theorem pP (K : PySem.W.Frag) (c : Cls) (hk : iC K c) : ∀ ls, cO K c ls = .bad \/ d4 2 (iY K c) ls = cO K c ls := by
 intro ls
 unfold cO
 split
 ·rename_i C
  split
  ·rename_i n hn
   right
   have m := hk.ex C n hn
   unfold d4
   rw [show bX 2 [.x C] = [some (.x C), none] from rfl]
   simp [iY, a8, bD, b9, cC, aD, mC, aF, mUn, aA, aL, aK, a7, a5, dQ, fB, Res.bind, Ev.c, eD, d6, aC, aS, bF, bQ, a6, aO, eZ, mOr, dP, bW, fL, cF, aX, aV, dI, d9, bC, eR, bZ, dat, cV, eqE, aU, aT, bK, bM, bL, bO, bN, cT, cR, dC, kF, m.ex, m.k0, m.k1, m.k2, m.k3, m.k4, m.k5, m.k6, m.k7, m.k8, m.k9, m.k10, nQ, List.range, List.range.loop]
   omega
  ·exact .inl rfl
 ·exact .inl rfl
noncomputable def dX (K : PySem.W.Frag) (c : Cls) (ls : List L) : Res L := match ls with
 | [.p (.int n)] => if 0 <= n then .ok (.o (.list (nQ n.toNat))) else .bad
 | _ => .bad
noncomputable def gZ (K : PySem.W.Frag) (c : Cls) : En -> Res Ev := (aF (inE false) (aD 0) (aC aS (aA (mC (.int 0)) (aA (aD 1) aL))))
noncomputable def jR (K : PySem.W.Frag) (c : Cls) : MS := (b9 (iB 1 [0] (rY pN (aA (mC (.int 11)) aL)) (aP 0) lQ (gZ K c)))
theorem qI (K : PySem.W.Frag) (c : Cls) : ∀ ls, dX K c ls = .bad \/ d4 1 (jR K c) ls = dX K c ls := by
 intro ls
 unfold dX
 split
 ·rename_i n
  split
  ·rename_i hn
   right
   unfold d4
   rw [show bX 1 [.p (.int n)] = [some (.p (.int n))] from rfl]
   have hm := fZ (g := dU 1 [0] (aP 0) lQ (gZ K c) [some (.p (.int n))]) (enc := fun (k : Nat) => PyData.int (0 + (k : Int))) (out := fun (k : Nat) => PyData.bool (decide (k = 0 \/ k = n.toNat))) (List.range 11) (fun k hk => by
    have e : (List.any [PyData.int 0, .int n] fun e => PyData.eqv e (.int (0 + (k : Int)))) = decide (k = 0 \/ k = n.toNat) := by
     simp [aT]
     rw [Bool.eq_iff_iff]
     simp
     omega
    simp [dU, aP, yC, aBq, lQ, gZ, a8, bD, b9, cC, aD, mC, aF, mUn, aA, aL, aK, a7, a5, dQ, fB, Res.bind, Ev.c, eD, d6, aC, aS, bF, bQ, a6, aO, eZ, mOr, dP, bW, fL, cF, aX, aV, dI, d9, bC, eR, bZ, dat, cV, eqE, aU, aT, bK, bM, bL, bO, bN, cT, cR, dC, inE, dS, qM]
    simp at e
    exact e)
   have hr : (rY pN (aA (mC (.int 11)) aL)) [some (.p (.int n))] = .ok (vM 0 11) := by
    simp [rY, aA, aL, mC, Res.bind, Ev.c, pN]
   simp only [jR, b9, iB, hr, Res.bind, oH]
   rw [if_pos (by unfold vM; rw [List.length_map, List.length_range]; decide)]
   unfold vM
   rw [hm]
   rfl
  ·exact .inl rfl
 ·exact .inl rfl
noncomputable def cX (K : PySem.W.Frag) (c : Cls) : MS := (a8 (bD 2 (aF eQ (aD 0) (aF sW (mC (.int 10)) (mC (.int 60))))) (a8 (cC (a6 (aF (eqE false) (aF eQ (aD 1) (mC (.int 3))) (mC (.int 0)))) (b9 (aC aS (aA (aF xX (aF eQ (aD 2) (mC (.int 7))) (mC (.int 3))) (aA (mC (.int 1)) aL)))) aV) (a8 (cC (a6 (aF (eqE false) (aF eQ (aD 1) (mC (.int 3))) (mC (.int 1)))) (b9 (aK 2 (aR K c) (aA (aF xX (aF eQ (aD 2) (mC (.int 41))) (mC (.int 20))) (aA (aF dI (mC (.int 1)) (aF eQ (aF dY (aD 2) (mC (.int 41))) (mC (.int 12)))) aL)))) aV) (a8 (bD 3 (aF dI (mC (.int 1)) (aF eQ (aF jK (aD 2) (mC (.int 48271))) (aF sW (mC (.int 10)) (mC (.int 29)))))) (b9 (aK 2 (aR K c) (aA (aF xX (aF eQ (aF jK (aD 2) (aF sW (mC (.int 1000003)) (mC (.int 4)))) (aF dI (aF jK (mC (.int 2)) (aF sW (mC (.int 10)) (mC (.int 29)))) (mC (.int 1)))) (aF sW (mC (.int 10)) (mC (.int 29)))) (aA (aD 3) aL))))))))
noncomputable def aW (K : PySem.W.Frag) (c : Cls) (ls : List L) : Res L := d4 4 (cX K c) ls
theorem lB (K : PySem.W.Frag) (c : Cls) : ∀ ls, aW K c ls = .bad \/ d4 4 (cX K c) ls = aW K c ls := fun _ => .inr rfl
theorem aFt {x : Int} (h0 : -10 ^ 29 <= x) (h1 : x <= 10 ^ 29) : Sz 100 x := by
 unfold Sz
 have : (10 : Int) ^ 29 < 2 ^ 100 := by decide
 omega
theorem zF (K : PySem.W.Frag) (c : Cls) {t b : Int} (ht : Sz 100 t) (hb : Sz 100 b) (h1 : 1 <= b) : aR K c [.p (.int t), .p (.int b)] = .ok (.p (frD (FR.mk t b))) /\ Good 110 (FR.mk t b) /\ FR.Fr (FR.mk t b) := by
 have hb0 : b ≠ 0 := by omega
 refine ⟨?_, (kY ht hb hb0).mono (by decide), (FR.p9 hb0).1⟩
 simp only [aR]
 rw [if_pos ⟨h1, hb.mono (by decide)⟩]
theorem y9 (K : PySem.W.Frag) (c : Cls) (cell kind : Int) : ∃ x, aW K c [.p (.int cell), .p (.int kind)] = .ok (.p (frD x)) /\ Good 110 x /\ FR.Fr x := by
 unfold aW d4
 rw [show bX 4 [.p (.int cell), .p (.int kind)] = [some (.p (.int cell)), some (.p (.int kind)), none, none] from rfl]
 obtain ⟨C, c0, c1, e1⟩ : ∃ C : Int, 0 <= C /\ C < 10 ^ 60 /\ (aF eQ (aD 0) (aF sW (mC (.int 10)) (mC (.int 60)))) [some (.p (.int cell)), some (.p (.int kind)), none, none] = .ok (.p (.int C)) := by
  have m1 := cU (a := cell) (b := 10 ^ 60) (by decide)
  exact ⟨_, m1.1, m1.2, by simp [aF, aD, mC, Res.bind, Ev.c, d9, aCa]⟩
 have e2 : ∀ j : Int, a6 (aF (eqE false) (aF eQ (aD 1) (mC (.int 3))) (mC (.int j))) [some (.p (.int cell)), some (.p (.int kind)), some (.p (.int C)), none] = .ok (kind.fmod 3 == j) := fun j => by
  simp [a6, aF, aD, mC, Res.bind, Ev.c, d9, eqE, dat, aU, aT, aO]
 have zc := aCg c0 c1
 cases k0 : (kind.fmod 3 == 0) with
 | true =>
  have m1 := cU (a := C) (b := 7) (by decide)
  refine ⟨(C.fmod 7 - 3, 1), ?_, ⟨Int.le_refl 1, q0 110 (by omega), q0 110 (show (1 : Int).natAbs < 2 ^ 110 by decide)⟩, ⟨Int.le_refl 1, by simp⟩⟩
  simp only [cX, a8, bD, e1, eD, List.set_cons_succ, List.set_cons_zero, cC, e2, k0, if_true]
  simp [a8, bD, b9, cC, aD, mC, aF, mUn, aA, aL, aK, a7, a5, dQ, fB, Res.bind, Ev.c, eD, d6, aC, aS, bF, bQ, a6, aO, eZ, mOr, dP, bW, fL, cF, aX, aV, dI, d9, bC, eR, bZ, dat, cV, eqE, aU, aT, bK, bM, bL, bO, bN, cT, cR, dC, frD]
 | false =>
  cases k1 : (kind.fmod 3 == 1) with
  | true =>
   have m1 := cU (a := C) (b := 41) (by decide)
   have m2 := cU (a := C.fdiv 41) (b := 12) (by decide)
   obtain ⟨f1, f2, f3⟩ := zF K c (t := C.fmod 41 - 20) (b := 1 + (C.fdiv 41).fmod 12) (q0 100 (by omega)) (q0 100 (by omega)) (by omega)
   refine ⟨_, ?_, f2, f3⟩
   have q : mR C 41 := ⟨by decide, q0 8000 (Nat.lt_of_lt_of_le (show (41 : Int).natAbs < 2 ^ 6 by decide) (Nat.pow_le_pow_right (by decide) (by decide)))⟩
   simp only [cX, a8, bD, e1, eD, List.set_cons_succ, List.set_cons_zero, cC, e2, k0, k1, if_true, aV, Bool.false_eq_true, if_false]
   simp [a8, bD, b9, cC, aD, mC, aF, mUn, aA, aL, aK, a7, a5, dQ, fB, Res.bind, Ev.c, eD, d6, aC, aS, bF, bQ, a6, aO, eZ, mOr, dP, bW, fL, cF, aX, aV, dI, d9, bC, eR, bZ, dat, cV, eqE, aU, aT, bK, bM, bL, bO, bN, cT, cR, dC, q, f1]
  | false =>
   obtain ⟨b, b0, b1, eb⟩ : ∃ b : Int, 1 <= b /\ b <= 10 ^ 29 /\ (aF dI (mC (.int 1)) (aF eQ (aF jK (aD 2) (mC (.int 48271))) (aF sW (mC (.int 10)) (mC (.int 29))))) [some (.p (.int cell)), some (.p (.int kind)), some (.p (.int C)), none] = .ok (.p (.int b)) := by
    have m1 := cU (a := C * 48271) (b := 10 ^ 29) (by decide)
    have q : CMulW C 48271 := cm zc (vY (by decide) (by decide)) (by decide) (by decide)
    exact ⟨1 + (C * 48271).fmod (10 ^ 29), by omega, by omega, by simp [aF, aD, mC, Res.bind, Ev.c, dI, d9, aEo, q]⟩
   obtain ⟨t, t0, t1, et⟩ : ∃ t : Int, -10 ^ 29 <= t /\ t <= 10 ^ 29 /\ (aF xX (aF eQ (aF jK (aD 2) (aF sW (mC (.int 1000003)) (mC (.int 4)))) (aF dI (aF jK (mC (.int 2)) (aF sW (mC (.int 10)) (mC (.int 29)))) (mC (.int 1)))) (aF sW (mC (.int 10)) (mC (.int 29)))) [some (.p (.int cell)), some (.p (.int kind)), some (.p (.int C)), some (.p (.int b))] = .ok (.p (.int t)) := by
    have m1 := cU (a := C * 1000003 ^ 4) (b := 2 * 10 ^ 29 + 1) (by decide)
    have q : CMulW C (1000003 ^ 4) := cm zc (q0 100 (by decide)) (by decide) (by decide)
    have q2 : CMulW 2 (10 ^ 29) := cm (vY (by decide) (by decide)) (q0 100 (by decide)) (by decide) (by decide)
    refine ⟨(C * 1000003 ^ 4).fmod (2 * 10 ^ 29 + 1) - 10 ^ 29, by omega, by omega, ?_⟩
    simp at q q2
    simp [aF, aD, mC, Res.bind, Ev.c, dI, d9, bC, aEo, aIn, q, q2]
   obtain ⟨f1, f2, f3⟩ := zF K c (aFt t0 t1) (aFt (by omega) b1) b0
   refine ⟨_, ?_, f2, f3⟩
   simp only [cX, a8, bD, e1, eD, List.set_cons_succ, List.set_cons_zero, cC, e2, k0, k1, aV, Bool.false_eq_true, if_false, eb]
   simp only [b9, aK, aA, aL, et, Res.bind, Ev.c, aD, List.getElem?_cons_zero, List.getElem?_cons_succ, a7, a5, dQ, List.length_cons, List.length_nil, f1]
   simp [eD, d6, Ev.c]
noncomputable def fW (K : PySem.W.Frag) (c : Cls) : MS := (a8 (bD 5 (aF eQ (aD 4) (aF sW (mC (.int 10)) (mC (.int 60))))) (a8 (bD 6 (aC aS (aA (aF eQ (aD 5) (mC (.int 3))) (aA (aF eQ (aF dY (aD 5) (mC (.int 3))) (mC (.int 3))) aL)))) (a8 (cC (a6 (aF (eqE false) (aF eQ (aD 1) (mC (.int 3))) (mC (.int 1)))) (bD 6 (aC aS (aA (aF eQ (aD 3) (mC (.int 9))) (aA (aF dI (aF dY (aD 3) (mC (.int 9))) (aF eQ (aD 5) (mC (.int 3)))) aL)))) aV) (a8 (cC (a6 (aF (eqE false) (aF eQ (aD 1) (mC (.int 3))) (mC (.int 2)))) (bD 6 (aC aS (aA (aF xX (aF eQ (aD 5) (mC (.int 11))) (mC (.int 1))) (aA (aF xX (aF eQ (aF dY (aD 5) (mC (.int 11))) (mC (.int 11))) (mC (.int 1))) aL)))) aV) (cC (mOr (a6 (aF (eqE false) (aF eQ (aD 1) (mC (.int 3))) (mC (.int 0)))) (mOr (eZ (a6 (aF (eqE false) (aF eQ (aD 1) (mC (.int 3))) (mC (.int 1)))) (a6 (aF ltE (aD 3) (aF dI (mC (.int 14)) (aF eQ (aF dY (aD 1) (mC (.int 81))) (mC (.int 8))))))) (a6 (aF ltE (aD 3) (mC (.int 12)))))) (jP 2 (aC aS (aA (aF ixE (aD 6) (mC (.int 0))) (aA (aF ixE (aD 6) (mC (.int 1))) (aA (aK 2 (aW K c) (aA (aF dY (aD 5) (mC (.int 121))) (aA (aF dY (aD 1) (mC (.int 3))) aL))) aL))))) aV)))))
noncomputable def gC (K : PySem.W.Frag) (c : Cls) : MS := (a8 (bD 2 (aC bF aL)) (a8 (pO (rY wU (aA (aK 3 (dB K c) (aA (aD 0) (aA (mC (.int 3)) (aA (mC (.int 43)) aL)))) aL)) (gK 2 (bB (aP 3) (bB (aP 4) gJ))) (fW K c)) (a8 (cC (eZ (a6 (aF (eqE false) (aF eQ (aF dY (aD 1) (mC (.int 243))) (mC (.int 4))) (mC (.int 1)))) (a6 (aF gtE (aC cV (aA (aD 2) aL)) (mC (.int 0))))) (a8 (bD 7 (aF eQ (aF dY (aD 1) (mC (.int 7))) (aC cV (aA (aD 2) aL)))) (wI 2 (aD 7) (aC aS (aA (aF ixE (aC bF (aA (mUn eR (mC (.int 2))) (aA (mC (.int 9)) (aA (mC (.int 10)) (aA (mC (.int 3)) aL))))) (aF eQ (aF dY (aD 1) (mC (.int 11))) (mC (.int 4)))) (aA (aF ixE (aC bF (aA (mC (.int 9)) (aA (mUn eR (mC (.int 1))) (aA (mC (.int 4)) (aA (mC (.int 12)) aL))))) (aF eQ (aF dY (aD 1) (mC (.int 11))) (mC (.int 4)))) (aA (aF ixE (aF ixE (aD 2) (aD 7)) (mC (.int 2))) aL)))))) aV) (b9 (aD 2)))))
noncomputable def cM (K : PySem.W.Frag) (c : Cls) (ls : List L) : Res L := d4 8 (gC K c) ls
theorem nP (K : PySem.W.Frag) (c : Cls) : ∀ ls, cM K c ls = .bad \/ d4 8 (gC K c) ls = cM K c ls := fun _ => .inr rfl
theorem cS {f g : MS} {en e1 : En} (h : f en = some (.nx e1)) : a8 f g en = g e1 := by unfold a8; rw [h]
theorem mU {f g : MS} {en : En} {l : L} (h : f en = some (.rt l)) : a8 f g en = some (.rt l) := by unfold a8; rw [h]
theorem kW {i : Nat} {fe : En -> Res Ev} {en : En} {d : D} (h : fe en = .ok (.p d)) : bD i fe en = some (.nx (en.set i (some (.p d)))) := by unfold bD; rw [h]
theorem zV {i : Nat} {fe : En -> Res Ev} {en : En} {d : D} (h : fe en = .ok (.f d)) : bD i fe en = some (.nx (en.set i (some (.o d)))) := by unfold bD; rw [h]
theorem zW {ft : En -> Res Bool} {f g : MS} {en : En} (h : ft en = .ok true) : cC ft f g en = f en := by unfold cC; rw [h]; rfl
theorem zR {ft : En -> Res Bool} {f g : MS} {en : En} (h : ft en = .ok false) : cC ft f g en = g en := by unfold cC; rw [h]; rfl
theorem mZ {n : Nat} {f : MS} {ls : List L} {l : L} (h : f (bX n ls) = some (.rt l)) : d4 n f ls = .ok l := by unfold d4; rw [h]
structure GP (p : Pl) : Prop where
 i : Sz 100 p.1
 j : Sz 100 p.2.1
 h : Good 110 p.2.2
 f : FR.Fr p.2.2
theorem oC {x : Int} (h0 : -100000 <= x) (h1 : x <= 100000) : Sz 100 x := by
 unfold Sz
 omega
theorem iR (C : Int) {b : Int} (h0 : 1 <= b) (h1 : b <= 100000) : mR C b := ⟨by omega, (oC (by omega) h1).mono (by decide)⟩
theorem wY (K : PySem.W.Frag) (c : Cls) (S : Option L) (kind cell : Int) (k : Nat) (hk : k <= 1000) (ps : List Pl) (hl : ps.length <= 1000) (r5 r6 r7 : Option L) :
  ∃ ps' C s, (ps' = ps \/ ∃ p, GP p /\ ps' = ps ++ [p]) /\ fW K c [S, some (.p (.int kind)), some (.o (.list (ps.map plD))), some (.p (.int (k : Int))), some (.p (.int cell)), r5, r6, r7] = some (.nx [S, some (.p (.int kind)), some (.o (.list (ps'.map plD))), some (.p (.int (k : Int))), some (.p (.int cell)), some (.p (.int C)), some s, r7]) := by
 obtain ⟨C, c0, c1, e1⟩ : ∃ C : Int, 0 <= C /\ C < 10 ^ 60 /\ (aF eQ (aD 4) (aF sW (mC (.int 10)) (mC (.int 60)))) [S, some (.p (.int kind)), some (.o (.list (ps.map plD))), some (.p (.int (k : Int))), some (.p (.int cell)), r5, r6, r7] = .ok (.p (.int C)) := by
  have m1 := cU (a := cell) (b := 10 ^ 60) (by decide)
  exact ⟨_, m1.1, m1.2, by simp [aF, aD, mC, Res.bind, Ev.c, d9, aCa]⟩
 have t0 : ∀ (j : Int) (r : Option L), a6 (aF (eqE false) (aF eQ (aD 1) (mC (.int 3))) (mC (.int j))) [S, some (.p (.int kind)), some (.o (.list (ps.map plD))), some (.p (.int (k : Int))), some (.p (.int cell)), some (.p (.int C)), r, r7] = .ok (kind.fmod 3 == j) := fun j r => by
  simp [a6, aF, aD, mC, Res.bind, Ev.c, d9, eqE, dat, aU, aT, aO]
 have q3 := iR C (b := 3) (by decide) (by decide)
 have q11 := iR C (b := 11) (by decide) (by decide)
 have q121 := iR C (b := 121) (by decide) (by decide)
 have q9 := iR (k : Int) (b := 9) (by decide) (by decide)
 have qk3 := iR kind (b := 3) (by decide) (by decide)
 have q81 := iR kind (b := 81) (by decide) (by decide)
 have hs : ∃ x y : Int, Sz 100 x /\ Sz 100 y /\ ∀ g : MS, (a8 (bD 6 (aC aS (aA (aF eQ (aD 5) (mC (.int 3))) (aA (aF eQ (aF dY (aD 5) (mC (.int 3))) (mC (.int 3))) aL)))) (a8 (cC (a6 (aF (eqE false) (aF eQ (aD 1) (mC (.int 3))) (mC (.int 1)))) (bD 6 (aC aS (aA (aF eQ (aD 3) (mC (.int 9))) (aA (aF dI (aF dY (aD 3) (mC (.int 9))) (aF eQ (aD 5) (mC (.int 3)))) aL)))) aV) (a8 (cC (a6 (aF (eqE false) (aF eQ (aD 1) (mC (.int 3))) (mC (.int 2)))) (bD 6 (aC aS (aA (aF xX (aF eQ (aD 5) (mC (.int 11))) (mC (.int 1))) (aA (aF xX (aF eQ (aF dY (aD 5) (mC (.int 11))) (mC (.int 11))) (mC (.int 1))) aL)))) aV) g))) [S, some (.p (.int kind)), some (.o (.list (ps.map plD))), some (.p (.int (k : Int))), some (.p (.int cell)), some (.p (.int C)), r6, r7] = g [S, some (.p (.int kind)), some (.o (.list (ps.map plD))), some (.p (.int (k : Int))), some (.p (.int cell)), some (.p (.int C)), some (.p (.tuple [.int x, .int y])), r7] := by
  have a1 : (aC aS (aA (aF eQ (aD 5) (mC (.int 3))) (aA (aF eQ (aF dY (aD 5) (mC (.int 3))) (mC (.int 3))) aL))) [S, some (.p (.int kind)), some (.o (.list (ps.map plD))), some (.p (.int (k : Int))), some (.p (.int cell)), some (.p (.int C)), r6, r7] = .ok (.p (.tuple [.int (C.fmod 3), .int ((C.fdiv 3).fmod 3)])) := by
   simp [a8, bD, b9, cC, aD, mC, aF, mUn, aA, aL, aK, a7, a5, dQ, fB, Res.bind, Ev.c, eD, d6, aC, aS, bF, bQ, a6, aO, eZ, mOr, dP, bW, fL, cF, aX, aV, dI, d9, bC, eR, bZ, dat, cV, eqE, aU, aT, bK, bM, bL, bO, bN, cT, cR, dC, q3]
  have a2 : ∀ r, (aC aS (aA (aF eQ (aD 3) (mC (.int 9))) (aA (aF dI (aF dY (aD 3) (mC (.int 9))) (aF eQ (aD 5) (mC (.int 3)))) aL))) [S, some (.p (.int kind)), some (.o (.list (ps.map plD))), some (.p (.int (k : Int))), some (.p (.int cell)), some (.p (.int C)), r, r7] = .ok (.p (.tuple [.int ((k : Int).fmod 9), .int ((k : Int).fdiv 9 + C.fmod 3)])) := fun r => by
   simp [a8, bD, b9, cC, aD, mC, aF, mUn, aA, aL, aK, a7, a5, dQ, fB, Res.bind, Ev.c, eD, d6, aC, aS, bF, bQ, a6, aO, eZ, mOr, dP, bW, fL, cF, aX, aV, dI, d9, bC, eR, bZ, dat, cV, eqE, aU, aT, bK, bM, bL, bO, bN, cT, cR, dC, q9]
  have a3 : ∀ r, (aC aS (aA (aF xX (aF eQ (aD 5) (mC (.int 11))) (mC (.int 1))) (aA (aF xX (aF eQ (aF dY (aD 5) (mC (.int 11))) (mC (.int 11))) (mC (.int 1))) aL))) [S, some (.p (.int kind)), some (.o (.list (ps.map plD))), some (.p (.int (k : Int))), some (.p (.int cell)), some (.p (.int C)), r, r7] = .ok (.p (.tuple [.int (C.fmod 11 - 1), .int ((C.fdiv 11).fmod 11 - 1)])) := fun r => by
   simp [a8, bD, b9, cC, aD, mC, aF, mUn, aA, aL, aK, a7, a5, dQ, fB, Res.bind, Ev.c, eD, d6, aC, aS, bF, bQ, a6, aO, eZ, mOr, dP, bW, fL, cF, aX, aV, dI, d9, bC, eR, bZ, dat, cV, eqE, aU, aT, bK, bM, bL, bO, bN, cT, cR, dC, q11]
  have b1 := cU (a := C) (b := 3) (by decide)
  have b2 := cU (a := C.fdiv 3) (b := 3) (by decide)
  have b3 := cU (a := (k : Int)) (b := 9) (by decide)
  have b4 : 0 <= (k : Int).fdiv 9 /\ (k : Int).fdiv 9 <= 1000 := by
   rw [Int.fdiv_eq_ediv_of_nonneg _ (by decide)]
   omega
  have b5 := cU (a := C) (b := 11) (by decide)
  have b6 := cU (a := C.fdiv 11) (b := 11) (by decide)
  cases k1 : (kind.fmod 3 == 1) <;> cases k2 : (kind.fmod 3 == 2)
  ·refine ⟨C.fmod 3, (C.fdiv 3).fmod 3, oC (by omega) (by omega), oC (by omega) (by omega), fun g => ?_⟩
   simp only [a8, bD, a1, eD, List.set_cons_succ, List.set_cons_zero, cC, t0, k1, k2, aV, Bool.false_eq_true, if_false]
  ·refine ⟨C.fmod 11 - 1, (C.fdiv 11).fmod 11 - 1, oC (by omega) (by omega), oC (by omega) (by omega), fun g => ?_⟩
   simp only [a8, bD, a1, a3, eD, List.set_cons_succ, List.set_cons_zero, cC, t0, k1, k2, aV, Bool.false_eq_true, if_false, if_true]
  ·refine ⟨(k : Int).fmod 9, (k : Int).fdiv 9 + C.fmod 3, oC (by omega) (by omega), oC (by omega) (by omega), fun g => ?_⟩
   simp only [a8, bD, a1, a2, eD, List.set_cons_succ, List.set_cons_zero, cC, t0, k1, k2, aV, Bool.false_eq_true, if_false, if_true]
  ·refine ⟨C.fmod 11 - 1, (C.fdiv 11).fmod 11 - 1, oC (by omega) (by omega), oC (by omega) (by omega), fun g => ?_⟩
   simp only [a8, bD, a1, a2, a3, eD, List.set_cons_succ, List.set_cons_zero, cC, t0, k1, k2, aV, Bool.false_eq_true, if_false, if_true]
 obtain ⟨x, y, zx, zy, hs⟩ := hs
 obtain ⟨b, hor⟩ : ∃ b, (mOr (a6 (aF (eqE false) (aF eQ (aD 1) (mC (.int 3))) (mC (.int 0)))) (mOr (eZ (a6 (aF (eqE false) (aF eQ (aD 1) (mC (.int 3))) (mC (.int 1)))) (a6 (aF ltE (aD 3) (aF dI (mC (.int 14)) (aF eQ (aF dY (aD 1) (mC (.int 81))) (mC (.int 8))))))) (a6 (aF ltE (aD 3) (mC (.int 12)))))) [S, some (.p (.int kind)), some (.o (.list (ps.map plD))), some (.p (.int (k : Int))), some (.p (.int cell)), some (.p (.int C)), some (.p (.tuple [.int x, .int y])), r7] = .ok b := by
  have u1 : ∃ b, (a6 (aF ltE (aD 3) (aF dI (mC (.int 14)) (aF eQ (aF dY (aD 1) (mC (.int 81))) (mC (.int 8)))))) [S, some (.p (.int kind)), some (.o (.list (ps.map plD))), some (.p (.int (k : Int))), some (.p (.int cell)), some (.p (.int C)), some (.p (.tuple [.int x, .int y])), r7] = .ok b := ⟨_, by simp [a8, bD, b9, cC, aD, mC, aF, mUn, aA, aL, aK, a7, a5, dQ, fB, Res.bind, Ev.c, eD, d6, aC, aS, bF, bQ, a6, aO, eZ, mOr, dP, bW, fL, cF, aX, aV, dI, d9, bC, eR, bZ, dat, cV, eqE, aU, aT, bK, bM, bL, bO, bN, cT, cR, dC, q81]; rfl⟩
  have u2 : ∃ b, (a6 (aF ltE (aD 3) (mC (.int 12)))) [S, some (.p (.int kind)), some (.o (.list (ps.map plD))), some (.p (.int (k : Int))), some (.p (.int cell)), some (.p (.int C)), some (.p (.tuple [.int x, .int y])), r7] = .ok b := ⟨_, by simp [a8, bD, b9, cC, aD, mC, aF, mUn, aA, aL, aK, a7, a5, dQ, fB, Res.bind, Ev.c, eD, d6, aC, aS, bF, bQ, a6, aO, eZ, mOr, dP, bW, fL, cF, aX, aV, dI, d9, bC, eR, bZ, dat, cV, eqE, aU, aT, bK, bM, bL, bO, bN, cT, cR, dC]; rfl⟩
  obtain ⟨d1, u1⟩ := u1
  obtain ⟨d2, u2⟩ := u2
  simp only [mOr, eZ, t0, Res.bind]
  cases (kind.fmod 3 == 0)
  ·cases (kind.fmod 3 == 1)
   ·simp only [Bool.false_eq_true, if_false]
    exact ⟨_, u2⟩
   ·simp only [Bool.false_eq_true, if_false, if_true]
    rw [u1]
    cases d1
    ·simp only [Bool.false_eq_true, if_false]
     exact ⟨_, u2⟩
    ·exact ⟨_, rfl⟩
  ·exact ⟨_, rfl⟩
 cases b with
 | false =>
  refine ⟨ps, C, .p (.tuple [.int x, .int y]), .inl rfl, ?_⟩
  refine (cS (kW e1)).trans ((hs _).trans ?_)
  unfold cC
  rw [hor]
  rfl
 | true =>
  obtain ⟨h, h1, h2, h3⟩ := y9 K c (C.fdiv 121) (kind.fdiv 3)
  refine ⟨ps ++ [(x, y, h)], C, .p (.tuple [.int x, .int y]), .inr ⟨_, ⟨zx, zy, h2, h3⟩, rfl⟩, ?_⟩
  refine (cS (kW e1)).trans ((hs _).trans ?_)
  unfold cC
  rw [hor]
  have hl2 : (ps.map plD).length <= 100000 := by rw [List.length_map]; omega
  have et : (aC aS (aA (aF ixE (aD 6) (mC (.int 0))) (aA (aF ixE (aD 6) (mC (.int 1))) (aA (aK 2 (aW K c) (aA (aF dY (aD 5) (mC (.int 121))) (aA (aF dY (aD 1) (mC (.int 3))) aL))) aL)))) [S, some (.p (.int kind)), some (.o (.list (ps.map plD))), some (.p (.int (k : Int))), some (.p (.int cell)), some (.p (.int C)), some (.p (.tuple [.int x, .int y])), r7] = .ok (.p (plD (x, y, h))) := by
   simp [a8, bD, b9, cC, aD, mC, aF, mUn, aA, aL, aK, a7, a5, dQ, fB, Res.bind, Ev.c, eD, d6, aC, aS, bF, bQ, a6, aO, eZ, mOr, dP, bW, fL, cF, aX, aV, dI, d9, bC, eR, bZ, dat, cV, eqE, aU, aT, bK, bM, bL, bO, bN, cT, cR, dC, q121, qk3, h1, plD]
  simp only [if_true, jP, List.getElem?_cons_zero, List.getElem?_cons_succ, et, Ev.c]
  rw [if_pos hl2]
  simp
theorem nM (K : PySem.W.Frag) (c : Cls) (S : Option L) (kind : Int) (r7 : Option L) : ∀ (vs : List Int) (k : Nat) (ps : List Pl) (r3 r4 r5 r6 : Option L), k + vs.length <= 1000 -> ps.length + vs.length <= 1000 -> (∀ p ∈ ps, GP p) ->
  ∃ (ps' : List Pl) (q3 q4 q5 q6 : Option L), ps'.length <= ps.length + vs.length /\ (∀ p ∈ ps', GP p) /\ gM (gK 2 (bB (aP 3) (bB (aP 4) gJ))) (fW K c) (lZ k (vs.map .int)) [S, some (.p (.int kind)), some (.o (.list (ps.map plD))), r3, r4, r5, r6, r7] = some (.nx [S, some (.p (.int kind)), some (.o (.list (ps'.map plD))), q3, q4, q5, q6, r7])
 | [], k, ps, r3, r4, r5, r6, _, _, hp => ⟨ps, r3, r4, r5, r6, Nat.le_refl _, hp, rfl⟩
 | v :: vs, k, ps, r3, r4, r5, r6, h1, h2, hp => by
  have h1' : k + (vs.length + 1) <= 1000 := h1
  have h2' : ps.length + (vs.length + 1) <= 1000 := h2
  obtain ⟨ps1, C, s, hs, hb⟩ := wY K c S kind v k (by omega) ps (by omega) r5 r6 r7
  have g1 : ps1.length <= ps.length + 1 /\ ∀ p ∈ ps1, GP p := by
   rcases hs with rfl | ⟨p, gp, rfl⟩
   ·exact ⟨Nat.le_succ _, hp⟩
   ·refine ⟨by simp, fun q hq => ?_⟩
    rcases List.mem_append.mp hq with z | z
    ·exact hp q z
    ·rw [List.mem_singleton.mp z]; exact gp
  obtain ⟨ps', q3, q4, q5, q6, l, g, e⟩ := nM K c S kind r7 vs (k + 1) ps1 (some (.p (.int (k : Int)))) (some (.p (.int v))) (some (.p (.int C))) (some s) (by omega) (by omega) g1.2
  refine ⟨ps', q3, q4, q5, q6, by simp; omega, g, ?_⟩
  rw [List.map_cons]
  unfold lZ gM
  simp only [gK, bB, aP, gJ, List.length_cons, List.length_nil, List.set_cons_succ, List.set_cons_zero]
  rw [if_pos trivial]
  simp only [hb]
  exact e
theorem aD4 {n : Nat} {i : Int} (h0 : 0 <= i) (h1 : i < n) : ixN n i = some i.toNat := by
 unfold ixN
 rw [if_pos h0, if_pos h1]
theorem ix_list {ds : List D} {i : Int} {d : D} (h0 : 0 <= i) (h1 : ds[i.toNat]? = some d) : ixE (.p (.list ds)) (.p (.int i)) = .ok (.p d) /\ ixE (.b (.list ds)) (.p (.int i)) = .ok (.p d) := by
 have e : ((i.toNat : Nat) : Int) = i := by omega
 have q := iN h1
 rw [e] at q
 simp [ixE, dS, q]
theorem y7 (K : PySem.W.Frag) (c : Cls) (ns : List Int) (hn : ns.length <= 63) (kind : Int) : ∃ ps : List Pl, ps.length <= 60 /\ (∀ p ∈ ps, GP p) /\ cM K c [.p (.list (ns.map .int)), .p (.int kind)] = .ok (.o (.list (ps.map plD))) := by
 obtain ⟨vs, hv, _, hc⟩ := aAf K c ns hn
 obtain ⟨ps, q3, q4, q5, q6, l, g, e⟩ := nM K c (some (.p (.list (ns.map .int)))) kind none vs 0 [] none none none none (by omega) (by simp; omega) (fun _ h => nomatch h)
 have hit : (rY wU (aA (aK 3 (dB K c) (aA (aD 0) (aA (mC (.int 3)) (aA (mC (.int 43)) aL)))) aL)) [some (.p (.list (ns.map .int))), some (.p (.int kind)), some (.o (.list [])), none, none, none, none, none] = .ok (lZ 0 (vs.map .int)) := by
  simp [a8, bD, b9, cC, aD, mC, aF, mUn, aA, aL, aK, a7, a5, dQ, fB, Res.bind, Ev.c, eD, d6, aC, aS, bF, bQ, a6, aO, eZ, mOr, dP, bW, fL, cF, aX, aV, dI, d9, bC, eR, bZ, dat, cV, eqE, aU, aT, bK, bM, bL, bO, bN, cT, cR, dC, rY, hc, wU]
 have l' : ps.length <= 60 := by simp at l; omega
 unfold cM d4
 rw [show bX 8 [.p (.list (ns.map .int)), .p (.int kind)] = [some (.p (.list (ns.map .int))), some (.p (.int kind)), none, none, none, none, none, none] from rfl]
 have e0 : (aC bF aL) [some (.p (.list (ns.map .int))), some (.p (.int kind)), none, none, none, none, none, none] = .ok (.f (.list [])) := by simp [a8, bD, b9, cC, aD, mC, aF, mUn, aA, aL, aK, a7, a5, dQ, fB, Res.bind, Ev.c, eD, d6, aC, aS, bF, bQ, a6, aO, eZ, mOr, dP, bW, fL, cF, aX, aV, dI, d9, bC, eR, bZ, dat, cV, eqE, aU, aT, bK, bM, bL, bO, bN, cT, cR, dC]
 have ep : ([] : List Pl).map plD = [] := rfl
 rw [ep] at e
 simp only [gC, a8, bD, e0, eD, List.set_cons_succ, List.set_cons_zero, pO, hit, e]
 have hlen : cV [.b (.list (ps.map plD))] = .ok (.p (.int (ps.length : Nat))) := by simp [cV, dS]
 have q243 := iR kind (b := 243) (by decide) (by decide)
 have q7 := iR kind (b := 7) (by decide) (by decide)
 have q11 := iR kind (b := 11) (by decide) (by decide)
 have t1 : (a6 (aF (eqE false) (aF eQ (aF dY (aD 1) (mC (.int 243))) (mC (.int 4))) (mC (.int 1)))) [some (.p (.list (ns.map .int))), some (.p (.int kind)), some (.o (.list (ps.map plD))), q3, q4, q5, q6, none] = .ok ((kind.fdiv 243).fmod 4 == 1) := by
  simp [a8, bD, b9, cC, aD, mC, aF, mUn, aA, aL, aK, a7, a5, dQ, fB, Res.bind, Ev.c, eD, d6, aC, aS, bF, bQ, a6, aO, eZ, mOr, dP, bW, fL, cF, aX, aV, dI, d9, bC, eR, bZ, dat, cV, eqE, aU, aT, bK, bM, bL, bO, bN, cT, cR, dC, q243]
 have t2 : (a6 (aF gtE (aC cV (aA (aD 2) aL)) (mC (.int 0)))) [some (.p (.list (ns.map .int))), some (.p (.int kind)), some (.o (.list (ps.map plD))), q3, q4, q5, q6, none] = .ok (decide (0 < ps.length)) := by
  simp only [a6, aF, aC, aA, aL, aD, List.getElem?_cons_zero, List.getElem?_cons_succ, Res.bind, Ev.c, hlen, mC, bC, aO]
  congr 1
  simp
 by_cases hb : (kind.fdiv 243).fmod 4 == 1 /\ 0 < ps.length
 ·obtain ⟨hb1, hb2⟩ := hb
  have ha : (eZ (a6 (aF (eqE false) (aF eQ (aF dY (aD 1) (mC (.int 243))) (mC (.int 4))) (mC (.int 1)))) (a6 (aF gtE (aC cV (aA (aD 2) aL)) (mC (.int 0))))) [some (.p (.list (ns.map .int))), some (.p (.int kind)), some (.o (.list (ps.map plD))), q3, q4, q5, q6, none] = .ok true := by
   unfold eZ
   rw [t1, hb1]
   simp only [Res.bind, t2, if_true]
   rw [decide_eq_true hb2]
  have m1 := cU (a := kind.fdiv 7) (b := (ps.length : Int)) (by omega)
  have hat : ((kind.fdiv 7).fmod (ps.length : Int)).toNat < ps.length := by omega
  obtain ⟨a, ea⟩ : ∃ a, a = (kind.fdiv 7).fmod (ps.length : Int) := ⟨_, rfl⟩
  rw [<- ea] at m1 hat
  have hne : ((ps.length : Nat) : Int) ≠ 0 := by omega
  have es : (aF eQ (aF dY (aD 1) (mC (.int 7))) (aC cV (aA (aD 2) aL))) [some (.p (.list (ns.map .int))), some (.p (.int kind)), some (.o (.list (ps.map plD))), q3, q4, q5, q6, none] = .ok (.p (.int a)) := by
   rw [ea]
   simp only [aF, aC, aA, aL, aD, List.getElem?_cons_zero, List.getElem?_cons_succ, Res.bind, Ev.c, hlen, mC, d9]
   rw [if_pos q7]
   simp only [d9]
   rw [if_pos hne]
  have gq : GP (ps[a.toNat]) := g _ (List.getElem_mem hat)
  have i1 := (ix_list (ds := ps.map plD) m1.1 (d := plD ps[a.toNat]) (by rw [List.getElem?_map, List.getElem?_eq_getElem hat]; rfl)).2
  have m4 := cU (a := kind.fdiv 11) (b := 4) (by decide)
  have ex4 : ∀ r, (aF eQ (aF dY (aD 1) (mC (.int 11))) (mC (.int 4))) [some (.p (.list (ns.map .int))), some (.p (.int kind)), some (.o (.list (ps.map plD))), q3, q4, q5, q6, r] = .ok (.p (.int ((kind.fdiv 11).fmod 4))) := fun r => by
   simp [a8, bD, b9, cC, aD, mC, aF, mUn, aA, aL, aK, a7, a5, dQ, fB, Res.bind, Ev.c, eD, d6, aC, aS, bF, bQ, a6, aO, eZ, mOr, dP, bW, fL, cF, aX, aV, dI, d9, bC, eR, bZ, dat, cV, eqE, aU, aT, bK, bM, bL, bO, bN, cT, cR, dC, q11]
  obtain ⟨w, ew⟩ : ∃ w, w = (kind.fdiv 11).fmod 4 := ⟨_, rfl⟩
  rw [<- ew] at m4 ex4
  have menu : ∀ (l1 : List Int), l1.length = 4 -> (∀ x ∈ l1, Sz 100 x) -> ∃ x, Sz 100 x /\ ixE (.p (.list (l1.map .int))) (.p (.int w)) = .ok (.p (.int x)) := fun l1 h1 h2 => by
   have hw : w.toNat < l1.length := by omega
   exact ⟨l1[w.toNat], h2 _ (List.getElem_mem hw), (ix_list m4.1 (by rw [List.getElem?_map, List.getElem?_eq_getElem hw]; rfl)).1⟩
  obtain ⟨x, zx, ix⟩ := menu [-2, 9, 10, 3] rfl (by simp; exact ⟨oC (by decide) (by decide), oC (by decide) (by decide), oC (by decide) (by decide), oC (by decide) (by decide)⟩)
  obtain ⟨y, zy, iy⟩ := menu [9, -1, 4, 12] rfl (by simp; exact ⟨oC (by decide) (by decide), oC (by decide) (by decide), oC (by decide) (by decide), oC (by decide) (by decide)⟩)
  have et : (aC aS (aA (aF ixE (aC bF (aA (mUn eR (mC (.int 2))) (aA (mC (.int 9)) (aA (mC (.int 10)) (aA (mC (.int 3)) aL))))) (aF eQ (aF dY (aD 1) (mC (.int 11))) (mC (.int 4)))) (aA (aF ixE (aC bF (aA (mC (.int 9)) (aA (mUn eR (mC (.int 1))) (aA (mC (.int 4)) (aA (mC (.int 12)) aL))))) (aF eQ (aF dY (aD 1) (mC (.int 11))) (mC (.int 4)))) (aA (aF ixE (aF ixE (aD 2) (aD 7)) (mC (.int 2))) aL)))) [some (.p (.list (ns.map .int))), some (.p (.int kind)), some (.o (.list (ps.map plD))), q3, q4, q5, q6, some (.p (.int a))] = .ok (.p (plD (x, y, (ps[a.toNat]).2.2))) := by
   have l1 : (aC bF (aA (mUn eR (mC (.int 2))) (aA (mC (.int 9)) (aA (mC (.int 10)) (aA (mC (.int 3)) aL))))) [some (.p (.list (ns.map .int))), some (.p (.int kind)), some (.o (.list (ps.map plD))), q3, q4, q5, q6, some (.p (.int a))] = .ok (.f (.list (([-2, 9, 10, 3] : List Int).map .int))) := by simp [a8, bD, b9, cC, aD, mC, aF, mUn, aA, aL, aK, a7, a5, dQ, fB, Res.bind, Ev.c, eD, d6, aC, aS, bF, bQ, a6, aO, eZ, mOr, dP, bW, fL, cF, aX, aV, dI, d9, bC, eR, bZ, dat, cV, eqE, aU, aT, bK, bM, bL, bO, bN, cT, cR, dC]
   have l2 : (aC bF (aA (mC (.int 9)) (aA (mUn eR (mC (.int 1))) (aA (mC (.int 4)) (aA (mC (.int 12)) aL))))) [some (.p (.list (ns.map .int))), some (.p (.int kind)), some (.o (.list (ps.map plD))), q3, q4, q5, q6, some (.p (.int a))] = .ok (.f (.list (([9, -1, 4, 12] : List Int).map .int))) := by simp [a8, bD, b9, cC, aD, mC, aF, mUn, aA, aL, aK, a7, a5, dQ, fB, Res.bind, Ev.c, eD, d6, aC, aS, bF, bQ, a6, aO, eZ, mOr, dP, bW, fL, cF, aX, aV, dI, d9, bC, eR, bZ, dat, cV, eqE, aU, aT, bK, bM, bL, bO, bN, cT, cR, dC]
   have v1 : (aF ixE (aF ixE (aD 2) (aD 7)) (mC (.int 2))) [some (.p (.list (ns.map .int))), some (.p (.int kind)), some (.o (.list (ps.map plD))), q3, q4, q5, q6, some (.p (.int a))] = .ok (.p (frD (ps[a.toNat]).2.2)) := by
    simp only [aF, aD, mC, List.getElem?_cons_zero, List.getElem?_cons_succ, Res.bind, Ev.c, i1, bK]
   have v2 : ∀ {f g : En -> Res Ev} {en : En} {ds : List D} {k : Int} {x : D}, f en = .ok (.f (.list ds)) -> g en = .ok (.p (.int k)) -> ixE (.p (.list ds)) (.p (.int k)) = .ok (.p x) -> aF ixE f g en = .ok (.p x) := fun h1 h2 h3 => by
    simp only [aF, h1, h2, Res.bind, Ev.c, h3]
   have v3 := v2 l1 (ex4 _) ix
   have v4 := v2 l2 (ex4 _) iy
   simp only [aC, aA, aL, v1] at v3 v4 ⊢
   rw [v3]
   simp only [Res.bind]
   rw [v4]
   simp [Res.bind, Ev.c, aS, bQ, plD, frD]
  refine ⟨ps.set a.toNat (x, y, (ps[a.toNat]).2.2), by rw [List.length_set]; exact l', fun p hp => ?_, ?_⟩
  ·rcases List.mem_or_eq_of_mem_set hp with z | z
   ·exact g p z
   ·rw [z]; exact ⟨zx, zy, gq.h, gq.f⟩
  ·have e5 : (wI 2 (aD 7) (aC aS (aA (aF ixE (aC bF (aA (mUn eR (mC (.int 2))) (aA (mC (.int 9)) (aA (mC (.int 10)) (aA (mC (.int 3)) aL))))) (aF eQ (aF dY (aD 1) (mC (.int 11))) (mC (.int 4)))) (aA (aF ixE (aC bF (aA (mC (.int 9)) (aA (mUn eR (mC (.int 1))) (aA (mC (.int 4)) (aA (mC (.int 12)) aL))))) (aF eQ (aF dY (aD 1) (mC (.int 11))) (mC (.int 4)))) (aA (aF ixE (aF ixE (aD 2) (aD 7)) (mC (.int 2))) aL))))) [some (.p (.list (ns.map .int))), some (.p (.int kind)), some (.o (.list (ps.map plD))), q3, q4, q5, q6, some (.p (.int a))] = some (.nx [some (.p (.list (ns.map .int))), some (.p (.int kind)), some (.o (.list ((ps.set a.toNat (x, y, (ps[a.toNat]).2.2)).map plD))), q3, q4, q5, q6, some (.p (.int a))]) := by
    unfold wI
    simp only [List.getElem?_cons_zero, List.getElem?_cons_succ, et, aD, Ev.c]
    rw [aD4 m1.1 (by rw [List.length_map]; exact m1.2)]
    simp [List.map_set]
   simp only [zW ha, a8, bD, es, eD, List.set_cons_succ, List.set_cons_zero, e5]
   simp only [b9, aD, List.getElem?_cons_zero, List.getElem?_cons_succ]
   simp [eD, d6]
 ·have ha : (eZ (a6 (aF (eqE false) (aF eQ (aF dY (aD 1) (mC (.int 243))) (mC (.int 4))) (mC (.int 1)))) (a6 (aF gtE (aC cV (aA (aD 2) aL)) (mC (.int 0))))) [some (.p (.list (ns.map .int))), some (.p (.int kind)), some (.o (.list (ps.map plD))), q3, q4, q5, q6, none] = .ok false := by
   unfold eZ
   rw [t1]
   simp only [Res.bind, t2]
   cases h1 : (kind.fdiv 243).fmod 4 == 1
   ·rfl
   ·simp only [if_true]
    have : ¬ 0 < ps.length := fun z => hb ⟨h1, z⟩
    rw [decide_eq_false this]
  refine ⟨ps, l', g, ?_⟩
  simp only [cC, ha, Bool.false_eq_true, if_false, aV]
  simp [a8, bD, b9, cC, aD, mC, aF, mUn, aA, aL, aK, a7, a5, dQ, fB, Res.bind, Ev.c, eD, d6, aC, aS, bF, bQ, a6, aO, eZ, mOr, dP, bW, fL, cF, aX, aV, dI, d9, bC, eR, bZ, dat, cV, eqE, aU, aT, bK, bM, bL, bO, bN, cT, cR, dC]
theorem mM {α : Type} (f : α -> D) (h : ∀ a, PyData.canLay0 (f a) = true) : ∀ xs : List α, PyData.canLayAll0 (xs.map f) = true
 | [] => rfl
 | x :: xs => by rw [List.map_cons, PyData.canLayAll0, h x, mM f h xs]; rfl
theorem mW {α : Type} (f : α -> D) (n : Nat) (h : ∀ a, PyData.depth (f a) <= n) : ∀ xs : List α, PyData.depthAll (xs.map f) <= n
 | [] => Nat.zero_le _
 | x :: xs => by
  rw [List.map_cons, PyData.depthAll]
  exact Nat.max_le.mpr ⟨h x, mW f n h xs⟩
theorem zG (p : Pl) : PyData.canLay0 (plD p) = true := by simp [plD, frD, PyData.canLay0, PyData.canLayAll0]
theorem xF (p : Pl) : PyData.depth (plD p) <= 9 := by simp [plD, frD, PyData.depth, PyData.depthAll]
theorem pC {α : Type} (f : α -> D) (h1 : ∀ a, PyData.canLay0 (f a) = true) (h2 : ∀ a, PyData.depth (f a) <= 9) (xs : List α) : SeqAt.shaped (.list (xs.map f)) = true := by
 have a : PyData.canLay0 (.list (xs.map f)) = true := by rw [PyData.canLay0]; exact mM f h1 xs
 have b : PyData.depth (.list (xs.map f)) <= 64 := by
  rw [PyData.depth]
  have := mW f 9 h2 xs
  omega
 unfold SeqAt.shaped
 rw [a, decide_eq_true b]
 rfl
theorem jB {x y : Ev} {d : D} (h1 : dat x = some d) (h2 : dat y = some d) (hs : SeqAt.shaped d = true) (ng : Bool) : eqE ng x y = .ok (.p (.bool (!ng))) := by
 have hc : PyData.canLay0 d = true := by
  unfold SeqAt.shaped at hs
  exact (Bool.and_eq_true_iff.mp hs).1
 unfold eqE
 rw [h1, h2]
 dsimp only
 rw [if_pos ⟨hs, hs⟩, SeqAt.eqv_refl d hc]
 cases ng <;> rfl
theorem xK (ps : List Pl) : SeqAt.shaped (.list (ps.map plD)) = true := pC plD zG xF ps
theorem aF9 (x : Int × Int) : SeqAt.shaped (frD x) = true := by simp [SeqAt.shaped, frD, PyData.canLay0, PyData.canLayAll0, PyData.depth, PyData.depthAll]
noncomputable def iM (K : PySem.W.Frag) (c : Cls) : En -> Res Ev := (aC aS (aA (aD 0) (aA (aD 1) (aA (aF kU (aD 2) (aC aS (aA (aD 0) (aA (aD 1) aL)))) aL))))
noncomputable def eK (K : PySem.W.Frag) (c : Cls) : MS := (a8 (cC (mOr (a6 (aF ltE (aD 2) (mC (.int 0)))) (mOr (a6 (aF gtE (aD 2) (mC (.int 8)))) (mOr (a6 (aF ltE (aD 3) (mC (.int 0)))) (a6 (aF gtE (aD 3) (mC (.int 8))))))) (b9 (mC (.int 3))) aV) (cC (mOr (a6 (aF (v9 true) (aC aS (aA (aD 2) (aA (aD 3) aL))) (aD 1))) (a6 (aK 2 (bT K c) (aA (aF kU (aD 1) (aC aS (aA (aD 2) (aA (aD 3) aL)))) (aA (aD 4) aL))))) (oT 1 (aC aS (aA (aD 2) (aA (aD 3) aL))) (aD 4)) aV))
noncomputable def jA (K : PySem.W.Frag) (c : Cls) : MS := (a8 (cC (a6 (aF (eqE false) (aC cV (aA (aD 0) aL)) (mC (.int 0)))) (b9 (mC (.int 2))) aV) (a8 (bD 1 mDT) (a8 (pO (lG (aD 0)) (gK 3 (bB (aP 2) (bB (aP 3) (bB (aP 4) gJ)))) (eK K c)) (a8 (cC (a6 (aF gtE (aC nE (aA (aD 1) aL)) (mC (.int 16)))) (b9 (mC (.int 4))) aV) (fun en => (b9 (iB 2 [1] (lG (aC eX (aA (aD 1) aL))) (gK 2 (bB (aP 0) (bB (aP 1) gJ))) lQ (iM K c))) (frz 1 en))))))
noncomputable def eM (K : PySem.W.Frag) (c : Cls) (ls : List L) : Res L := d4 5 (jA K c) ls
theorem tJ (K : PySem.W.Frag) (c : Cls) : ∀ ls, eM K c ls = .bad \/ d4 5 (jA K c) ls = eM K c ls := fun _ => .inr rfl
theorem nZ (K : PySem.W.Frag) (c : Cls) {x y : Int × Int} (hx : FSz 2000 x) (hy : FSz 2000 y) : bT K c [.p (frD x), .p (frD y)] = .ok (.p (.bool (ltF x y))) := by
 simp only [bT, frD]
 rw [if_pos ⟨hx.1, hx.2, hy.1, hy.2⟩]
 rfl
theorem aFr (K : PySem.W.Frag) (c : Cls) (N : Option L) (m : List ((Int × Int) × Pl)) (p : Pl) (hp : FSz 2000 p.2.2) (hm2 : ∀ k p, dZ m k = some p -> FSz 2000 p.2.2) (hl : m.length <= 100000) :
  eK K c [N, some (.o (.dict (encM slD frD (hm m)))), some (.p (.int p.1)), some (.p (.int p.2.1)), some (.p (frD p.2.2))] = if hX p = true then some (.rt (.p (.int 3))) else some (.nx [N, some (.o (.dict (encM slD frD (hm (hbS m p))))), some (.p (.int p.1)), some (.p (.int p.2.1)), some (.p (frD p.2.2))]) := by
 have t1 : (mOr (a6 (aF ltE (aD 2) (mC (.int 0)))) (mOr (a6 (aF gtE (aD 2) (mC (.int 8)))) (mOr (a6 (aF ltE (aD 3) (mC (.int 0)))) (a6 (aF gtE (aD 3) (mC (.int 8))))))) [N, some (.o (.dict (encM slD frD (hm m)))), some (.p (.int p.1)), some (.p (.int p.2.1)), some (.p (frD p.2.2))] = .ok (hX p) := by
  unfold hX
  by_cases h1 : p.1 < 0 <;> by_cases h2 : 8 < p.1 <;> by_cases h3 : p.2.1 < 0 <;> by_cases h4 : 8 < p.2.1 <;> simp [a8, bD, b9, cC, aD, mC, aF, mUn, aA, aL, aK, a7, a5, dQ, fB, Res.bind, Ev.c, eD, d6, aC, aS, bF, bQ, a6, aO, eZ, mOr, dP, bW, fL, cF, aX, aV, dI, d9, bC, eR, bZ, dat, cV, eqE, aU, aT, bK, bM, bL, bO, bN, cT, cR, dC, h1, h2, h3, h4]
 cases hs : hX p with
 | true =>
  rw [hs] at t1
  rw [if_pos rfl]
  unfold eK
  exact mU ((zW t1).trans rfl)
 | false =>
  rw [hs] at t1
  rw [if_neg (by decide)]
  unfold eK
  refine (cS ((zR t1).trans rfl)).trans ?_
  have hd := j9 (ev := frD) (hm m) (slp p)
  rw [kS] at hd
  have hput := tL (ev := frD) (hm m) (slp p) p.2.2 (by rw [nY]; exact hl)
  rw [yK] at hput
  have ek : (aC aS (aA (aD 2) (aA (aD 3) aL))) [N, some (.o (.dict (encM slD frD (hm m)))), some (.p (.int p.1)), some (.p (.int p.2.1)), some (.p (frD p.2.2))] = .ok (.p (slD (slp p))) := by
   simp [a8, bD, b9, cC, aD, mC, aF, mUn, aA, aL, aK, a7, a5, dQ, fB, Res.bind, Ev.c, eD, d6, aC, aS, bF, bQ, a6, aO, eZ, mOr, dP, bW, fL, cF, aX, aV, dI, d9, bC, eR, bZ, dat, cV, eqE, aU, aT, bK, bM, bL, bO, bN, cT, cR, dC, slD, slp]
  unfold hbS
  cases ea : dZ m (slp p) with
  | none =>
   rw [ea] at hd
   have t2 : (mOr (a6 (aF (v9 true) (aC aS (aA (aD 2) (aA (aD 3) aL))) (aD 1))) (a6 (aK 2 (bT K c) (aA (aF kU (aD 1) (aC aS (aA (aD 2) (aA (aD 3) aL)))) (aA (aD 4) aL))))) [N, some (.o (.dict (encM slD frD (hm m)))), some (.p (.int p.1)), some (.p (.int p.2.1)), some (.p (frD p.2.2))] = .ok true := by
    simp [mOr, a6, aF, ek, Res.bind, Ev.c, aD, v9, i7, hd, aO]
   rw [zW t2]
   unfold oT
   simp [aD, ek, Ev.c, hput, tak]
  | some q =>
   rw [ea] at hd
   have hlt := nZ K c (hm2 _ _ ea) hp
   have t2 : (mOr (a6 (aF (v9 true) (aC aS (aA (aD 2) (aA (aD 3) aL))) (aD 1))) (a6 (aK 2 (bT K c) (aA (aF kU (aD 1) (aC aS (aA (aD 2) (aA (aD 3) aL)))) (aA (aD 4) aL))))) [N, some (.o (.dict (encM slD frD (hm m)))), some (.p (.int p.1)), some (.p (.int p.2.1)), some (.p (frD p.2.2))] = .ok (ltF q.2.2 p.2.2) := by
    simp [mOr, a6, aF, ek, Res.bind, Ev.c, aD, v9, i7, hd, aO, aK, aA, aL, kU, a7, a5, dQ, hlt, d6]
   cases el : ltF q.2.2 p.2.2 with
   | true =>
    rw [el] at t2
    rw [zW t2]
    unfold oT
    simp [aD, ek, Ev.c, hput, tak, el]
   | false =>
    rw [el] at t2
    rw [zR t2]
    simp [aV, tak, el]
theorem aE5 {n : Nat} {m : List ((Int × Int) × Pl)} {p : Pl} (hp : FSz n p.2.2) (h : ∀ k p, dZ m k = some p -> FSz n p.2.2) : ∀ k q, dZ (hbS m p) k = some q -> FSz n q.2.2 := fun k q e => by
 unfold hbS at e
 split at e
 ·rw [eT] at e
  split at e
  ·cases e; exact hp
  ·exact h k q e
 ·exact h k q e
theorem tR (K : PySem.W.Frag) (c : Cls) (N : Option L) : ∀ (ps : List Pl) (m : List ((Int × Int) × Pl)) (r2 r3 r4 : Option L), (∀ p ∈ ps, FSz 2000 p.2.2) -> (∀ k p, dZ m k = some p -> FSz 2000 p.2.2) -> m.length + ps.length <= 100000 ->
  ∃ q2 q3 q4, gM (gK 3 (bB (aP 2) (bB (aP 3) (bB (aP 4) gJ)))) (eK K c) (ps.map plD) [N, some (.o (.dict (encM slD frD (hm m)))), r2, r3, r4] = if ps.any hX = true then some (.rt (.p (.int 3))) else some (.nx [N, some (.o (.dict (encM slD frD (hm (ps.foldl hbS m))))), q2, q3, q4])
 | [], m, r2, r3, r4, _, _, _ => ⟨r2, r3, r4, rfl⟩
 | p :: ps, m, r2, r3, r4, h, hm2, hl => by
  have hl' : m.length + (ps.length + 1) <= 100000 := hl
  have hb := aFr K c N m p (h p (.head _)) hm2 (by omega)
  have hl2 := xY m p
  obtain ⟨q2, q3, q4, ih⟩ := tR K c N ps (hbS m p) (some (.p (.int p.1))) (some (.p (.int p.2.1))) (some (.p (frD p.2.2))) (fun q hq => h q (.tail _ hq)) (aE5 (h p (.head _)) hm2) (by omega)
  refine ⟨q2, q3, q4, ?_⟩
  rw [List.map_cons]
  unfold gM
  have et : gK 3 (bB (aP 2) (bB (aP 3) (bB (aP 4) gJ))) (plD p) [N, some (.o (.dict (encM slD frD (hm m)))), r2, r3, r4] = some [N, some (.o (.dict (encM slD frD (hm m)))), some (.p (.int p.1)), some (.p (.int p.2.1)), some (.p (frD p.2.2))] := by
   simp [gK, bB, aP, gJ, plD]
  rw [et]
  dsimp only
  rw [hb]
  cases hs : hX p with
  | true => simp [hs]
  | false =>
   rw [if_neg (by decide)]
   dsimp only
   rw [ih, List.any_cons, hs, Bool.false_or]
   rfl
noncomputable def aGl (ps : List Pl) : L := if ps = [] then .p (.int 2) else if ps.any hX = true then .p (.int 3) else if (hb ps).length > 16 then .p (.int 4) else .o (.list ((i8 (hb ps)).map plD))
theorem aF0 (K : PySem.W.Frag) (c : Cls) (ps : List Pl) (hl : ps.length <= 1000) (hz : ∀ p ∈ ps, FSz 2000 p.2.2) : eM K c [.p (.list (ps.map plD))] = .ok (aGl ps) := by
 have hlen : cV [.p (.list (ps.map plD))] = .ok (.p (.int (ps.length : Nat))) := by simp [cV, dS]
 unfold eM
 refine mZ ?_
 rw [show bX 5 [.p (.list (ps.map plD))] = [some (.p (.list (ps.map plD))), none, none, none, none] from rfl]
 have t0 : (a6 (aF (eqE false) (aC cV (aA (aD 0) aL)) (mC (.int 0)))) [some (.p (.list (ps.map plD))), none, none, none, none] = .ok (decide (ps = [])) := by
  simp only [a6, aF, aC, aA, aL, aD, List.getElem?_cons_zero, Res.bind, Ev.c, hlen, mC, eqE, dat, aU, aT, aO]
  cases ps <;> simp
  omega
 unfold jA aGl
 by_cases h0 : ps = []
 ·rw [if_pos h0]
  rw [decide_eq_true h0] at t0
  exact mU ((zW t0).trans rfl)
 ·rw [if_neg h0]
  rw [decide_eq_false h0] at t0
  refine (cS ((zR t0).trans rfl)).trans ?_
  refine (cS (zV (d := .dict []) rfl)).trans ?_
  obtain ⟨q2, q3, q4, e⟩ := tR K c (some (.p (.list (ps.map plD)))) ps [] none none none hz (fun k p e => nomatch e) (by simp; omega)
  have ef : (pO (lG (aD 0)) (gK 3 (bB (aP 2) (bB (aP 3) (bB (aP 4) gJ)))) (eK K c)) ([some (.p (.list (ps.map plD))), none, none, none, none].set 1 (some (.o (.dict [])))) = if ps.any hX = true then some (.rt (.p (.int 3))) else some (.nx [some (.p (.list (ps.map plD))), some (.o (.dict (encM slD frD (hm (hb ps))))), q2, q3, q4]) := e
  cases hs : ps.any hX with
  | true =>
   rw [hs] at ef
   rw [if_pos rfl]
   exact mU ef
  | false =>
   rw [hs] at ef
   rw [if_neg (by decide)] at ef ⊢
   refine (cS ef).trans ?_
   have hld : nE [.b (.dict (encM slD frD (hm (hb ps))))] = .ok (.p (.int ((hb ps).length : Nat))) := by
    simp only [nE, i7, kG]
    unfold encM
    rw [List.length_map, nY]
   have t2 : (a6 (aF gtE (aC nE (aA (aD 1) aL)) (mC (.int 16)))) [some (.p (.list (ps.map plD))), some (.o (.dict (encM slD frD (hm (hb ps))))), q2, q3, q4] = .ok (decide ((hb ps).length > 16)) := by
    simp only [a6, aF, aC, aA, aL, aD, List.getElem?_cons_zero, List.getElem?_cons_succ, Res.bind, Ev.c, hld, mC, bC, aO]
    congr 1
    simp
    omega
   by_cases h16 : (hb ps).length > 16
   ·rw [if_pos h16]
    rw [decide_eq_true h16] at t2
    exact mU ((zW t2).trans rfl)
   ·rw [if_neg h16]
    rw [decide_eq_false h16] at t2
    refine (cS ((zR t2).trans rfl)).trans ?_
    have hso := lX (ev := frD) (hm (hb ps)) (by rw [nY]; omega)
    rw [aBo] at hso
    have hc : iB 2 [1] (lG (aC eX (aA (aD 1) aL))) (gK 2 (bB (aP 0) (bB (aP 1) gJ))) lQ (iM K c) [some (.p (.list (ps.map plD))), some (.p (.dict (encM slD frD (hm (hb ps))))), q2, q3, q4] = .ok (.f (.list ((i8 (hb ps)).map plD))) := by
     unfold iB oH
     simp only [lG, aC, aA, aL, aD, List.getElem?_cons_zero, List.getElem?_cons_succ, Res.bind, Ev.c, qZ, hso]
     have hn : (lA (kys (hb ps))).length = (hb ps).length := by rw [(e9 _).length_eq]; unfold kys; rw [List.length_map]
     rw [if_pos (by rw [List.length_map, hn]; omega), fZ (out := fun k => plD (zL (hb ps) p0 k))]
     ·unfold i8
      rw [List.map_map]
      rfl
     ·intro k hk
      obtain ⟨k1, k2, k3⟩ := tP hk p0
      have hsl := tV ps [] (fun k p e => nomatch e) _ _ k3
      obtain ⟨a, ha⟩ : ∃ a, a = zL (hb ps) p0 k := ⟨_, rfl⟩
      rw [<- ha] at hsl k3 ⊢
      have hd := j9 (ev := frD) (hm (hb ps)) (slp a)
      rw [kS, hsl, k3] at hd
      rw [k1, <- hsl]
      rw [<- hsl] at hd
      simp only [slD, slp, Option.map_some] at hd
      simp [dU, gK, bB, gJ, aP, yC, aBq, lQ, iM, a8, bD, b9, cC, aD, mC, aF, mUn, aA, aL, aK, a7, a5, dQ, fB, Res.bind, Ev.c, eD, d6, aC, aS, bF, bQ, a6, aO, eZ, mOr, dP, bW, fL, cF, aX, aV, dI, d9, bC, eR, bZ, dat, cV, eqE, aU, aT, bK, bM, bL, bO, bN, cT, cR, dC, slD, slp, kU, i7, hd, plD]
    simp only [frz, List.getElem?_cons_zero, List.getElem?_cons_succ, List.set_cons_succ, List.set_cons_zero, b9, hc, eD]
noncomputable def eV (K : PySem.W.Frag) (c : Cls) : MS := (a8 (bD 6 (aK 2 (cY K c) (aA (aK 2 (cY K c) (aA (aK 2 (b7 K c) (aA (aF ixE (aD 1) (mC (.int 0))) (aA (aD 3) aL))) (aA (aK 2 (b7 K c) (aA (aF ixE (aD 1) (mC (.int 1))) (aA (aD 4) aL))) aL))) (aA (aD 5) aL)))) (cC (mOr (a6 (mUn (vU false) (aD 2))) (a6 (aK 2 (bT K c) (aA (aD 2) (aA (aD 6) aL))))) (bD 2 (aD 6)) aV))
noncomputable def jW (K : PySem.W.Frag) (c : Cls) : MS := (a8 (bD 2 (mC (.none))) (a8 (pO (lG (aD 0)) (gK 3 (bB (aP 3) (bB (aP 4) (bB (aP 5) gJ)))) (eV K c)) (b9 (aD 2))))
noncomputable def cD (K : PySem.W.Frag) (c : Cls) (ls : List L) : Res L := d4 7 (jW K c) ls
theorem qS (K : PySem.W.Frag) (c : Cls) : ∀ ls, cD K c ls = .bad \/ d4 7 (jW K c) ls = cD K c ls := fun _ => .inr rfl
noncomputable def eL (K : PySem.W.Frag) (c : Cls) : MS := (a8 (cC (mOr (dP (a6 (mUn (lD K (.type "tuple")) (aD 2)))) (mOr (a6 (aF (eqE true) (aC cV (aA (aD 2) aL)) (mC (.int 3)))) (dP (a6 (aK 1 (aQ K c) (aA (aF ixE (aD 2) (mC (.int 2))) aL)))))) (b9 (mC (.bool false))) aV) (cC (mOr (dP (a6 (aK 1 (bH K c) (aA (aF ixE (aD 2) (mC (.int 0))) aL)))) (dP (a6 (aK 1 (bH K c) (aA (aF ixE (aD 2) (mC (.int 1))) aL))))) (b9 (mC (.bool false))) aV))
noncomputable def iA (K : PySem.W.Frag) (c : Cls) : MS := (a8 (cC (mOr (dP (a6 (mUn (lD K (.type "list")) (aD 0)))) (a6 (aF (eqE true) (aC cV (aA (aD 0) aL)) (aC cV (aA (aD 1) aL))))) (b9 (mC (.bool false))) aV) (a8 (pO (lG (aD 0)) (aP 2) (eL K c)) (b9 (aF (eqE false) (aD 0) (aD 1)))))
noncomputable def cH (K : PySem.W.Frag) (c : Cls) (ls : List L) : Res L := d4 3 (iA K c) ls
theorem nG (K : PySem.W.Frag) (c : Cls) : ∀ ls, cH K c ls = .bad \/ d4 3 (iA K c) ls = cH K c ls := fun _ => .inr rfl
theorem aBk {fi : En -> Res (List D)} {tg : D -> En -> Option En} {f : MS} {en : En} {ds : List D} (h : fi en = .ok ds) : pO fi tg f en = gM tg f ds en := by unfold pO; rw [h]
theorem aH6 (i : Int) (x : Int × Int) : FR.mk (x.1 * i) x.2 = hT i x := by
 unfold hT
 rw [Int.mul_comm, Int.one_mul]
theorem n8 (K : PySem.W.Frag) (c : Cls) {n : Nat} {i : Int} {x : Int × Int} (hi : Sz 2000 i) (hx : Good n x) (hn : n <= 2000) : b7 K c [.p (frD x), .p (.int i)] = .ok (.p (frD (hT i x))) := by
 simp only [b7, frD]
 rw [if_pos ⟨hx.2.1.mono hn, hx.2.2.mono hn, hi, hx.1⟩, aH6]
theorem uL (K : PySem.W.Frag) (c : Cls) {m n : Nat} {x y : Int × Int} (hx : Good m x) (hy : Good n y) (hm : m <= 2000) (hn : n <= 2000) : cY K c [.p (frD x), .p (frD y)] = .ok (.p (frD (hP x y))) := by
 simp only [cY, frD]
 have h1 : 1 <= x.2 * y.2 := by
  have := Int.mul_pos (show 0 < x.2 by have := hx.1; omega) (show 0 < y.2 by have := hy.1; omega)
  omega
 rw [if_pos ⟨hx.2.1.mono hm, hx.2.2.mono hm, hy.2.1.mono hn, hy.2.2.mono hn, h1⟩, hP]
theorem qY (K : PySem.W.Frag) (c : Cls) {p : Pl} {pt : (Int × Int) × (Int × Int)} (g : GoodP p pt) (N b r : Option L) : (aK 2 (cY K c) (aA (aK 2 (cY K c) (aA (aK 2 (b7 K c) (aA (aF ixE (aD 1) (mC (.int 0))) (aA (aD 3) aL))) (aA (aK 2 (b7 K c) (aA (aF ixE (aD 1) (mC (.int 1))) (aA (aD 4) aL))) aL))) (aA (aD 5) aL))) [N, some (.p (.tuple [frD pt.1, frD pt.2])), b, some (.p (.int p.1)), some (.p (.int p.2.1)), some (.p (frD p.2.2)), r] = .ok (.p (frD (hgt p pt))) := by
 have t1 := n8 K c (g.i.mono (show 100 <= 2000 by decide)) g.x (by decide)
 have t2 := n8 K c (g.j.mono (show 100 <= 2000 by decide)) g.y (by decide)
 have p1 := uL K c (fU g.i g.x) (fU g.j g.y) (by decide) (by decide)
 have p2 := uL K c (kL (fU g.i g.x) (fU g.j g.y)) g.h (by decide) (by decide)
 simp [a8, bD, b9, cC, aD, mC, aF, mUn, aA, aL, aK, a7, a5, dQ, fB, Res.bind, Ev.c, eD, d6, aC, aS, bF, bQ, a6, aO, eZ, mOr, dP, bW, fL, cF, aX, aV, dI, d9, bC, eR, bZ, dat, cV, eqE, aU, aT, bK, bM, bL, bO, bN, cT, cR, dC, t1, t2, p1, p2, hgt]
theorem vS (K : PySem.W.Frag) (c : Cls) {p : Pl} {pt : (Int × Int) × (Int × Int)} (g : GoodP p pt) (N r : Option L) : eV K c [N, some (.p (.tuple [frD pt.1, frD pt.2])), some (.p .none), some (.p (.int p.1)), some (.p (.int p.2.1)), some (.p (frD p.2.2)), r] = some (.nx [N, some (.p (.tuple [frD pt.1, frD pt.2])), some (.p (frD (hgt p pt))), some (.p (.int p.1)), some (.p (.int p.2.1)), some (.p (frD p.2.2)), some (.p (frD (hgt p pt)))]) := by
 refine (cS (kW (qY K c g N _ r))).trans ?_
 simp only [List.set_cons_succ, List.set_cons_zero]
 simp [a8, bD, b9, cC, aD, mC, aF, mUn, aA, aL, aK, a7, a5, dQ, fB, Res.bind, Ev.c, eD, d6, aC, aS, bF, bQ, a6, aO, eZ, mOr, dP, bW, fL, cF, aX, aV, dI, d9, bC, eR, bZ, dat, cV, eqE, aU, aT, bK, bM, bL, bO, bN, cT, cR, dC, vU]
theorem wM (K : PySem.W.Frag) (c : Cls) {p : Pl} {pt : (Int × Int) × (Int × Int)} (g : GoodP p pt) (N r : Option L) {b : Int × Int} (hb : FSz 2000 b) : eV K c [N, some (.p (.tuple [frD pt.1, frD pt.2])), some (.p (frD b)), some (.p (.int p.1)), some (.p (.int p.2.1)), some (.p (frD p.2.2)), r] = some (.nx [N, some (.p (.tuple [frD pt.1, frD pt.2])), some (.p (frD (if ltF b (hgt p pt) = true then hgt p pt else b))), some (.p (.int p.1)), some (.p (.int p.2.1)), some (.p (frD p.2.2)), some (.p (frD (hgt p pt)))]) := by
 have hlt := nZ K c hb (g.hgt.mono (show 802 <= 2000 by decide)).fsz
 have hn : vU false (.p (frD b)) = .ok (.p (.bool false)) := rfl
 refine (cS (kW (qY K c g N _ r))).trans ?_
 simp only [List.set_cons_succ, List.set_cons_zero]
 cases el : ltF b (hgt p pt) with
 | true => rw [el] at hlt; simp [a8, bD, b9, cC, aD, mC, aF, mUn, aA, aL, aK, a7, a5, dQ, fB, Res.bind, Ev.c, eD, d6, aC, aS, bF, bQ, a6, aO, eZ, mOr, dP, bW, fL, cF, aX, aV, dI, d9, bC, eR, bZ, dat, cV, eqE, aU, aT, bK, bM, bL, bO, bN, cT, cR, dC, hn, hlt]
 | false => rw [el] at hlt; simp [a8, bD, b9, cC, aD, mC, aF, mUn, aA, aL, aK, a7, a5, dQ, fB, Res.bind, Ev.c, eD, d6, aC, aS, bF, bQ, a6, aO, eZ, mOr, dP, bW, fL, cF, aX, aV, dI, d9, bC, eR, bZ, dat, cV, eqE, aU, aT, bK, bM, bL, bO, bN, cT, cR, dC, hn, hlt]
theorem qG (K : PySem.W.Frag) (c : Cls) (N : Option L) (pt : (Int × Int) × (Int × Int)) : ∀ (ps : List Pl) (b : Int × Int) (r3 r4 r5 r6 : Option L), FSz 2000 b -> (∀ p ∈ ps, GoodP p pt) ->
  ∃ q3 q4 q5 q6, gM (gK 3 (bB (aP 3) (bB (aP 4) (bB (aP 5) gJ)))) (eV K c) (ps.map plD) [N, some (.p (.tuple [frD pt.1, frD pt.2])), some (.p (frD b)), r3, r4, r5, r6] = some (.nx [N, some (.p (.tuple [frD pt.1, frD pt.2])), some (.p (frD (best b (ps.map fun p => hgt p pt)))), q3, q4, q5, q6])
 | [], b, r3, r4, r5, r6, _, _ => ⟨r3, r4, r5, r6, rfl⟩
 | p :: ps, b, r3, r4, r5, r6, hb, h => by
  have g := h p (.head _)
  have hb2 : FSz 2000 (if ltF b (hgt p pt) = true then hgt p pt else b) := by
   split
   ·exact (g.hgt.mono (show 802 <= 2000 by decide)).fsz
   ·exact hb
  obtain ⟨q3, q4, q5, q6, ih⟩ := qG K c N pt ps _ (some (.p (.int p.1))) (some (.p (.int p.2.1))) (some (.p (frD p.2.2))) (some (.p (frD (hgt p pt)))) hb2 (fun q hq => h q (.tail _ hq))
  refine ⟨q3, q4, q5, q6, ?_⟩
  rw [List.map_cons]
  unfold gM
  have et : gK 3 (bB (aP 3) (bB (aP 4) (bB (aP 5) gJ))) (plD p) [N, some (.p (.tuple [frD pt.1, frD pt.2])), some (.p (frD b)), r3, r4, r5, r6] = some [N, some (.p (.tuple [frD pt.1, frD pt.2])), some (.p (frD b)), some (.p (.int p.1)), some (.p (.int p.2.1)), some (.p (frD p.2.2)), r6] := by
   simp [gK, bB, aP, gJ, plD]
  rw [et]
  dsimp only
  rw [wM K c g N r6 hb]
  dsimp only
  rw [ih]
  rfl
theorem aCz (K : PySem.W.Frag) (c : Cls) (pt : (Int × Int) × (Int × Int)) (p : Pl) (ps : List Pl) (h : ∀ q ∈ p :: ps, GoodP q pt) : cD K c [.p (.list ((p :: ps).map plD)), .p (.tuple [frD pt.1, frD pt.2])] = .ok (.p (frD (best (hgt p pt) (ps.map fun q => hgt q pt)))) := by
 have g := h p (.head _)
 unfold cD
 refine mZ ?_
 rw [show bX 7 [.p (.list ((p :: ps).map plD)), .p (.tuple [frD pt.1, frD pt.2])] = [some (.p (.list ((p :: ps).map plD))), some (.p (.tuple [frD pt.1, frD pt.2])), none, none, none, none, none] from rfl]
 refine (cS (kW (d := .none) rfl)).trans ?_
 obtain ⟨q3, q4, q5, q6, e⟩ := qG K c (some (.p (.list ((p :: ps).map plD)))) pt ps (hgt p pt) (some (.p (.int p.1))) (some (.p (.int p.2.1))) (some (.p (frD p.2.2))) (some (.p (frD (hgt p pt)))) (g.hgt.mono (show 802 <= 2000 by decide)).fsz (fun q hq => h q (.tail _ hq))
 have ef : (pO (lG (aD 0)) (gK 3 (bB (aP 3) (bB (aP 4) (bB (aP 5) gJ)))) (eV K c)) ([some (.p (.list ((p :: ps).map plD))), some (.p (.tuple [frD pt.1, frD pt.2])), none, none, none, none, none].set 2 (some (.p .none))) = some (.nx [some (.p (.list ((p :: ps).map plD))), some (.p (.tuple [frD pt.1, frD pt.2])), some (.p (frD (best (hgt p pt) (ps.map fun q => hgt q pt)))), q3, q4, q5, q6]) := by
  rw [aBk (ds := plD p :: ps.map plD) rfl]
  unfold gM
  simp only [List.set_cons_succ, List.set_cons_zero]
  have et : gK 3 (bB (aP 3) (bB (aP 4) (bB (aP 5) gJ))) (plD p) [some (.p (.list ((p :: ps).map plD))), some (.p (.tuple [frD pt.1, frD pt.2])), some (.p .none), none, none, none, none] = some [some (.p (.list ((p :: ps).map plD))), some (.p (.tuple [frD pt.1, frD pt.2])), some (.p .none), some (.p (.int p.1)), some (.p (.int p.2.1)), some (.p (frD p.2.2)), none] := by
   simp [gK, bB, aP, gJ, plD]
  rw [et]
  dsimp only
  rw [vS K c g _ none]
  exact e
 refine (cS ef).trans ?_
 rfl
theorem vB (K : PySem.W.Frag) (c : Cls) {x : Int × Int} (h : FR.Fr x) : aQ K c [.p (frD x)] = .ok (.p (.bool true)) := by
 simp only [aQ, frD]
 rw [decide_eq_true ⟨h.pos, h.low⟩]
theorem aFe (K : PySem.W.Frag) (c : Cls) (hk : iC K c) (A B : Option L) {p : Pl} (h : FR.Fr p.2.2) : eL K c [A, B, some (.p (plD p))] = some (.nx [A, B, some (.p (plD p))]) := by
 have hf := vB K c h
 have hw : ∀ i : Int, bH K c [.p (.int i)] = .ok (.p (.bool true)) := fun _ => rfl
 have hl : cV [.p (plD p)] = .ok (.p (.int 3)) := by simp [cV, dS, plD]
 have hi : lD K (.type "tuple") (.p (plD p)) = .ok (.p (.bool true)) := by
  unfold lD
  simp only [dat]
  show (match PySem.W.kitOne K (.type "tuple") (.type "tuple") with | some b => Res.ok (Ev.p (.bool b)) | none => .bad) = _
  rw [hk.tt]
 simp [eL, a8, bD, b9, cC, aD, mC, aF, mUn, aA, aL, aK, a7, a5, dQ, fB, Res.bind, Ev.c, eD, d6, aC, aS, bF, bQ, a6, aO, eZ, mOr, dP, bW, fL, cF, aX, aV, dI, d9, bC, eR, bZ, dat, eqE, aU, aT, bK, bM, bL, bO, bN, cT, cR, dC, hi, hl, hf, hw]
theorem aFq (K : PySem.W.Frag) (c : Cls) (hk : iC K c) (qs : List Pl) (h : ∀ q ∈ qs, FR.Fr q.2.2) : cH K c [.p (.list (qs.map plD)), .p (.list (qs.map plD))] = .ok (.p (.bool true)) := by
 have hlen : cV [.p (.list (qs.map plD))] = .ok (.p (.int (qs.length : Nat))) := by simp [cV, dS]
 have hi : lD K (.type "list") (.p (.list (qs.map plD))) = .ok (.p (.bool true)) := by
  unfold lD
  simp only [dat]
  show (match PySem.W.kitOne K (.type "list") (.type "list") with | some b => Res.ok (Ev.p (.bool b)) | none => .bad) = _
  rw [hk.ll]
 unfold cH
 refine mZ ?_
 rw [show bX 3 [.p (.list (qs.map plD)), .p (.list (qs.map plD))] = [some (.p (.list (qs.map plD))), some (.p (.list (qs.map plD))), none] from rfl]
 have he := jB (x := .p (.int (qs.length : Nat))) (y := .p (.int (qs.length : Nat))) rfl rfl (aU _) true
 have he2 := jB (x := .p (.list (qs.map plD))) (y := .p (.list (qs.map plD))) rfl rfl (xK qs) false
 have t0 : (mOr (dP (a6 (mUn (lD K (.type "list")) (aD 0)))) (a6 (aF (eqE true) (aC cV (aA (aD 0) aL)) (aC cV (aA (aD 1) aL))))) [some (.p (.list (qs.map plD))), some (.p (.list (qs.map plD))), none] = .ok false := by
  simp only [mOr, dP, a6, mUn, aF, aC, aA, aL, aD, List.getElem?_cons_zero, List.getElem?_cons_succ, Res.bind, Ev.c, hlen, hi, aO, he]
  rfl
 refine (cS ((zR t0).trans rfl)).trans ?_
 have lp : ∀ (rs : List Pl) (r : Option L), (∀ q ∈ rs, FR.Fr q.2.2) -> ∃ r', gM (aP 2) (eL K c) (rs.map plD) [some (.p (.list (qs.map plD))), some (.p (.list (qs.map plD))), r] = some (.nx [some (.p (.list (qs.map plD))), some (.p (.list (qs.map plD))), r']) := by
  intro rs
  induction rs with
  | nil => intro r _; exact ⟨r, rfl⟩
  | cons q rs ih =>
   intro r hr
   obtain ⟨r', e⟩ := ih (some (.p (plD q))) fun z hz => hr z (.tail _ hz)
   refine ⟨r', ?_⟩
   rw [List.map_cons]
   unfold gM
   simp only [aP, List.set_cons_succ, List.set_cons_zero]
   rw [aFe K c hk _ _ (hr q (.head _))]
   exact e
 obtain ⟨r', e⟩ := lp qs none h
 refine (cS ((aBk (ds := qs.map plD) rfl).trans e)).trans ?_
 unfold b9
 simp only [aF, aD, List.getElem?_cons_zero, List.getElem?_cons_succ, Res.bind, Ev.c, he2]
 rfl
def leF (x y : Int × Int) : Prop := x.1 * y.2 <= y.1 * x.2
theorem gA (x : Int × Int) : leF x x := Int.le_refl _
theorem uF {x y : Int × Int} (h : ltF y x = false) : leF x y := by
 unfold ltF at h
 have := of_decide_eq_false h
 unfold leF
 omega
theorem tW {x y : Int × Int} (h : ltF x y = true) : leF x y := by
 unfold ltF at h
 have := of_decide_eq_true h
 unfold leF
 omega
theorem eG {x y z : Int × Int} (hx : 1 <= x.2) (hy : 1 <= y.2) (hz : 1 <= z.2) (h1 : leF x y) (h2 : leF y z) : leF x z := by
 unfold leF at *
 have a := Int.mul_le_mul_of_nonneg_right h1 (show 0 <= z.2 by omega)
 have b := Int.mul_le_mul_of_nonneg_right h2 (show 0 <= x.2 by omega)
 refine Int.le_of_mul_le_mul_right (a := y.2) ?_ (by omega)
 have e1 : x.1 * z.2 * y.2 = x.1 * y.2 * z.2 := by ac_rfl
 have e2 : z.1 * x.2 * y.2 = z.1 * y.2 * x.2 := by ac_rfl
 have e3 : y.1 * x.2 * z.2 = y.1 * z.2 * x.2 := by ac_rfl
 omega
theorem nB {a b d : Int} (h : d ∣ a * b) (g : Int.gcd a d = 1) : d ∣ b := by
 have h1 : d.natAbs ∣ a.natAbs * b.natAbs := by
  rw [<- Int.natAbs_mul]
  exact Int.natAbs_dvd_natAbs.mpr h
 have c : Nat.Coprime d.natAbs a.natAbs := by
  show Nat.gcd d.natAbs a.natAbs = 1
  rw [Nat.gcd_comm]
  exact g
 exact Int.natAbs_dvd_natAbs.mp (Nat.Coprime.dvd_of_dvd_mul_left c h1)
theorem aB7 {x y : Int × Int} (hx : FR.Fr x) (hy : FR.Fr y) (h1 : leF x y) (h2 : leF y x) : x = y := by
 have e : x.1 * y.2 = y.1 * x.2 := Int.le_antisymm h1 h2
 have p1 := hx.pos
 have p2 := hy.pos
 have d1 : x.2 ∣ y.2 := by
  have : x.2 ∣ x.1 * y.2 := ⟨y.1, by rw [e]; ac_rfl⟩
  exact nB this hx.low
 have d2 : y.2 ∣ x.2 := by
  have : y.2 ∣ y.1 * x.2 := ⟨x.1, by rw [<- e]; ac_rfl⟩
  exact nB this hy.low
 have eb : x.2 = y.2 := Int.dvd_antisymm (by omega) (by omega) d1 d2
 have et : x.1 = y.1 := by
  rw [eb] at e
  exact Int.eq_of_mul_eq_mul_right (by omega) e
 exact Prod.ext et eb
theorem mk_le {t b u d : Int} (hb : 1 <= b) (hd : 1 <= d) (h : t * d <= u * b) : leF (FR.mk t b) (FR.mk u d) := by
 obtain ⟨f1, e1⟩ := FR.p9 (t := t) (b := b) (by omega)
 obtain ⟨f2, e2⟩ := FR.p9 (t := u) (b := d) (by omega)
 have a : leF (FR.mk t b) (t, b) := Int.le_of_eq e1
 have b' : leF (u, d) (FR.mk u d) := Int.le_of_eq e2.symm
 have m : leF (t, b) (u, d) := h
 exact eG f1.pos hb f2.pos a (eG hb hd f2.pos m b')
theorem aGk {a h h' : Int × Int} (ha : 1 <= a.2) (h1 : 1 <= h.2) (h2 : 1 <= h'.2) (h0 : leF h h') : leF (hP a h) (hP a h') := by
 unfold hP
 have pos : ∀ {x y : Int}, 1 <= x -> 1 <= y -> 1 <= x * y := fun {x y} hx hy => by
  have := Int.mul_pos (show 0 < x by omega) (show 0 < y by omega)
  omega
 refine mk_le (pos ha h1) (pos ha h2) ?_
 unfold leF at h0
 have k := Int.mul_le_mul_of_nonneg_left h0 (show 0 <= a.2 * a.2 by have := pos ha ha; omega)
 rw [Int.add_mul, Int.add_mul]
 have e1 : a.1 * h.2 * (a.2 * h'.2) = a.1 * h'.2 * (a.2 * h.2) := by ac_rfl
 have e2 : h.1 * a.2 * (a.2 * h'.2) = a.2 * a.2 * (h.1 * h'.2) := by ac_rfl
 have e3 : h'.1 * a.2 * (a.2 * h.2) = a.2 * a.2 * (h'.1 * h.2) := by ac_rfl
 omega
theorem kJ : ∀ (xs : List (Int × Int)) (b : Int × Int), best b xs = b \/ best b xs ∈ xs
 | [], b => .inl rfl
 | x :: xs, b => by
  show best (if ltF b x = true then x else b) xs = b \/ best (if ltF b x = true then x else b) xs ∈ x :: xs
  rcases kJ xs (if ltF b x = true then x else b) with h | h
  ·rw [h]
   split
   ·exact .inr (.head _)
   ·exact .inl rfl
  ·exact .inr (.tail _ h)
theorem lW : ∀ (xs : List (Int × Int)) (b : Int × Int), 1 <= b.2 -> (∀ x ∈ xs, 1 <= x.2) -> leF b (best b xs) /\ (∀ x ∈ xs, leF x (best b xs)) /\ 1 <= (best b xs).2
 | [], b, h, _ => ⟨gA b, (fun _ z => nomatch z), h⟩
 | x :: xs, b, h, hx => by
  have hx0 := hx x (.head _)
  have hb2 : 1 <= (if ltF b x = true then x else b).2 := by split <;> assumption
  have g : best b (x :: xs) = best (if ltF b x = true then x else b) xs := rfl
  obtain ⟨i1, i2, i3⟩ := lW xs (if ltF b x = true then x else b) hb2 fun y hy => hx y (.tail _ hy)
  rw [g]
  have l1 : leF b (if ltF b x = true then x else b) := by
   split
   ·rename_i z; exact tW z
   ·exact gA b
  have l2 : leF x (if ltF b x = true then x else b) := by
   split
   ·exact gA x
   ·rename_i z; exact uF (by simpa using z)
  refine ⟨eG h hb2 i3 l1 i1, fun y hy => ?_, i3⟩
  rcases List.mem_cons.mp hy with z | z
  ·rw [z]; exact eG hx0 hb2 i3 l2 i1
  ·exact i2 y z
def Cov (m : List ((Int × Int) × Pl)) (p : Pl) : Prop := ∃ q, dZ m (slp p) = some q /\ leF p.2.2 q.2.2
def Pos (m : List ((Int × Int) × Pl)) : Prop := ∀ k q, dZ m k = some q -> 1 <= q.2.2.2
theorem aCf {m : List ((Int × Int) × Pl)} {p : Pl} (h : Pos m) (hp : 1 <= p.2.2.2) : Pos (hbS m p) := fun k q e => by
 unfold hbS at e
 split at e
 ·rw [eT] at e
  split at e
  ·cases e; exact hp
  ·exact h k q e
 ·exact h k q e
theorem aAx (m : List ((Int × Int) × Pl)) (p : Pl) : Cov (hbS m p) p := by
 unfold hbS Cov
 cases ea : dZ m (slp p) with
 | none =>
  rw [if_pos (show tak ((none : Option Pl).map fun q => q.2.2) p.2.2 = true from rfl)]
  exact ⟨p, by rw [eT, if_pos rfl], gA _⟩
 | some q =>
  cases el : ltF q.2.2 p.2.2 with
  | true =>
   rw [if_pos (show tak ((some q).map fun q => q.2.2) p.2.2 = true from el)]
   exact ⟨p, by rw [eT, if_pos rfl], gA _⟩
  | false =>
   rw [if_neg (show ¬ tak ((some q).map fun q => q.2.2) p.2.2 = true by
    show ¬ ltF q.2.2 p.2.2 = true
    rw [el]; decide)]
   exact ⟨q, ea, uF el⟩
theorem aBb {m : List ((Int × Int) × Pl)} {p r : Pl} (h : Pos m) (hp : 1 <= p.2.2.2) (hr : 1 <= r.2.2.2) (hc : Cov m p) : Cov (hbS m r) p := by
 obtain ⟨q, e, l⟩ := hc
 unfold hbS
 split
 ·rename_i ht
  by_cases hs : slp p = slp r
  ·rw [<- hs, e] at ht
   exact ⟨r, by rw [eT, if_pos hs], eG hp (h _ _ e) hr l (tW ht)⟩
  ·exact ⟨q, by rw [eT, if_neg hs]; exact e, l⟩
 ·exact ⟨q, e, l⟩
theorem oR : ∀ (ps : List Pl) (m : List ((Int × Int) × Pl)), Pos m -> (∀ p ∈ ps, 1 <= p.2.2.2) -> (∀ p, 1 <= p.2.2.2 -> Cov m p -> Cov (ps.foldl hbS m) p) /\ ∀ p ∈ ps, Cov (ps.foldl hbS m) p
 | [], _, _, _ => ⟨fun _ _ h => h, fun _ h => nomatch h⟩
 | r :: ps, m, hm, hp => by
  have hr := hp r (.head _)
  obtain ⟨i1, i2⟩ := oR ps (hbS m r) (aCf hm hr) fun p h => hp p (.tail _ h)
  refine ⟨fun p h1 hc => i1 p h1 (aBb hm h1 hr hc), fun p h => ?_⟩
  rcases List.mem_cons.mp h with z | z
  ·rw [z]; exact i1 r hr (aAx m r)
  ·exact i2 p z
theorem aBu : ∀ (ps : List Pl) (m : List ((Int × Int) × Pl)) (A : List Pl), (∀ k p, dZ m k = some p -> p ∈ A) -> (∀ p ∈ ps, p ∈ A) -> ∀ k p, dZ (ps.foldl hbS m) k = some p -> p ∈ A
 | [], _, _, h, _ => h
 | r :: ps, m, A, h, hA => aBu ps (hbS m r) A (fun k q e => by
   unfold hbS at e
   split at e
   ·rw [eT] at e
    split at e
    ·cases e; exact hA r (.head _)
    ·exact h k q e
   ·exact h k q e) fun p hp => hA p (.tail _ hp)
theorem lK {ps : List Pl} {q : Pl} (h : q ∈ i8 (hb ps)) : q ∈ ps := by
 unfold i8 at h
 obtain ⟨k, hk, rfl⟩ := List.mem_map.mp h
 obtain ⟨_, _, e⟩ := tP hk p0
 exact aBu ps [] ps (fun k p e => nomatch e) (fun _ h => h) _ _ e
theorem uJ {α κ : Type} [DecidableEq κ] : ∀ {m : List (κ × α)} {k : κ} {v : α}, dZ m k = some v -> ∃ e ∈ m, e.1 = k
 | p :: r, k, v, h => by
  unfold dZ at h
  by_cases q : p.1 = k
  ·exact ⟨p, .head _, q⟩
  ·rw [if_neg q] at h
   obtain ⟨e, h1, h2⟩ := uJ h
   exact ⟨e, .tail _ h1, h2⟩
theorem uR {m : List ((Int × Int) × Pl)} {s : Int × Int} {q : Pl} (h : dZ m s = some q) : q ∈ i8 m := by
 obtain ⟨e, he, hs⟩ := uJ h
 unfold i8
 have hk : [e.1.1, e.1.2] ∈ lA (kys m) := (e9 _).mem_iff.mpr (List.mem_map.mpr ⟨e, he, rfl⟩)
 refine List.mem_map.mpr ⟨_, hk, ?_⟩
 unfold zL
 have hu : un2 [e.1.1, e.1.2] = e.1 := rfl
 rw [hu, hs, h]
 rfl
theorem yB {p : Pl} {pt : (Int × Int) × (Int × Int)} (g : GoodP p pt) : FR.Fr (hgt p pt) := (FR.p9 (Good.ne (kL (fU g.i g.x) (fU g.j g.y)) g.h)).1
theorem aEq {p q : Pl} {pt : (Int × Int) × (Int × Int)} (g : GoodP p pt) (g' : GoodP q pt) (hs : slp q = slp p) (hl : leF p.2.2 q.2.2) : leF (hgt p pt) (hgt q pt) := by
 have e1 : (slp q).1 = (slp p).1 := by rw [hs]
 have e2 : (slp q).2 = (slp p).2 := by rw [hs]
 have e1 : q.1 = p.1 := e1
 have e2 : q.2.1 = p.2.1 := e2
 unfold hgt
 rw [e1, e2]
 exact aGk (kL (fU g.i g.x) (fU g.j g.y)).1 g.h.1 g'.h.1 hl
theorem aAl {p : Pl} {ps : List Pl} {q : Pl} {qs : List Pl} {pt : (Int × Int) × (Int × Int)} (g : ∀ r ∈ p :: ps, GoodP r pt) (hq : i8 (hb (p :: ps)) = q :: qs) :
  best (hgt q pt) ((q :: qs).map fun r => hgt r pt) = best (hgt p pt) (ps.map fun r => hgt r pt) /\ FR.Fr (best (hgt p pt) (ps.map fun r => hgt r pt)) := by
 have gq : ∀ r ∈ q :: qs, GoodP r pt := fun r hr => g r (lK (by rw [hq]; exact hr))
 have fr : ∀ (r : Pl) (rs : List Pl), (∀ x ∈ r :: rs, GoodP x pt) -> ∃ x ∈ r :: rs, best (hgt r pt) (rs.map fun r => hgt r pt) = hgt x pt := fun r rs h => by
  rcases kJ (rs.map fun r => hgt r pt) (hgt r pt) with z | z
  ·exact ⟨r, .head _, z⟩
  ·obtain ⟨x, hx, e⟩ := List.mem_map.mp z
   exact ⟨x, .tail _ hx, e.symm⟩
 obtain ⟨x, hx, ex⟩ := fr p ps g
 obtain ⟨y, hy, ey⟩ : ∃ y ∈ q :: qs, best (hgt q pt) ((q :: qs).map fun r => hgt r pt) = hgt y pt := by
  rcases kJ ((q :: qs).map fun r => hgt r pt) (hgt q pt) with z | z
  ·exact ⟨q, .head _, z⟩
  ·obtain ⟨x, hx, e⟩ := List.mem_map.mp z
   exact ⟨x, hx, e.symm⟩
 have b1 := lW (ps.map fun r => hgt r pt) (hgt p pt) (g p (.head _)).hgt.1 (fun z hz => by
  obtain ⟨r, hr, rfl⟩ := List.mem_map.mp hz
  exact (g r (.tail _ hr)).hgt.1)
 have b2 := lW ((q :: qs).map fun r => hgt r pt) (hgt q pt) (gq q (.head _)).hgt.1 (fun z hz => by
  obtain ⟨r, hr, rfl⟩ := List.mem_map.mp hz
  exact (gq r hr).hgt.1)
 have all1 : ∀ r ∈ p :: ps, leF (hgt r pt) (best (hgt p pt) (ps.map fun r => hgt r pt)) := fun r hr => by
  rcases List.mem_cons.mp hr with z | z
  ·rw [z]; exact b1.1
  ·exact b1.2.1 _ (List.mem_map.mpr ⟨r, z, rfl⟩)
 have gx := g x hx
 have hyp : y ∈ p :: ps := lK (by rw [hq]; exact hy)
 have gy := g y hyp
 refine ⟨?_, by rw [ex]; exact yB gx⟩
 have l1 : leF (hgt y pt) (hgt x pt) := by rw [<- ex]; exact all1 y hyp
 have l2 : leF (hgt x pt) (hgt y pt) := by
  obtain ⟨r, er, lr⟩ := (oR (p :: ps) [] (fun k q e => nomatch e) (fun z hz => (g z hz).h.1)).2 x hx
  have hr := uR er
  have sr := tV (p :: ps) [] (fun k p e => nomatch e) _ _ er
  have hr' : r ∈ q :: qs := by rw [<- hq]; exact hr
  have gr := gq r hr'
  have k1 := aEq gx gr sr lr
  have k2 : leF (hgt r pt) (hgt y pt) := by rw [<- ey]; exact b2.2.1 _ (List.mem_map.mpr ⟨r, hr', rfl⟩)
  exact eG gx.hgt.1 gr.hgt.1 gy.hgt.1 k1 k2
 rw [ex, ey]
 exact aB7 (yB gy) (yB gx) l1 l2
theorem aD0 {p : Pl} {ps : List Pl} (h : ∀ r ∈ p :: ps, 1 <= r.2.2.2) : ∃ q qs, i8 (hb (p :: ps)) = q :: qs := by
 obtain ⟨r, er, _⟩ := (oR (p :: ps) [] (fun k q e => nomatch e) h).2 p (.head _)
 have hr := uR er
 cases e : i8 ((p :: ps).foldl hbS []) with
 | nil => rw [e] at hr; cases hr
 | cons q qs => exact ⟨q, qs, e⟩
noncomputable def iX (K : PySem.W.Frag) (c : Cls) : MS := (a8 (bD 2 (mC (.none))) (a8 (bD 3 (mC (.none))) (a8 (aDu K c.RoofError 4 (bD 3 (aK 1 (dJ K c) (aA (aD 0) aL))) (bD 2 (aK 1 (cO K c) (aA (aD 4) aL)))) (a8 (cC (dP (a6 (mUn (lD K (.type "list")) (aD 1)))) (b9 (aF (eqE false) (aD 2) (aK 1 (dX K c) (aA (aD 1) aL)))) aV) (a8 (cC (mOr (a6 (mUn (vU true) (aD 2))) (dP (a6 (aK 2 (cH K c) (aA (aD 3) (aA (aD 1) aL)))))) (b9 (mC (.bool false))) aV) (a8 (jP 3 (aC aS (aA (mC (.int 0)) (aA (mC (.int 0)) (aA (aC aS (aA (mC (.int 7)) (aA (mC (.int 1)) aL))) aL))))) (b9 (mC (.bool true)))))))))
noncomputable def b8 (K : PySem.W.Frag) (c : Cls) (ls : List L) : Res L := d4 5 (iX K c) ls
theorem pV (K : PySem.W.Frag) (c : Cls) : ∀ ls, b8 K c ls = .bad \/ d4 5 (iX K c) ls = b8 K c ls := fun _ => .inr rfl
theorem aFn {K : PySem.W.Frag} {RE C : Addr} {i : Nat} {f fh : MS} {en e e' : En} (h : f en = some (.ex C e)) (hr : PySem.W.exmOne K (.ref C) (.ref RE) = some true) (h2 : fh (e.set i (some (.x C))) = some (.nx e')) : aDu K RE i f fh en = some (.nx (e'.set i none)) := by
 unfold aDu
 rw [h]
 dsimp only
 rw [if_pos hr, h2]
theorem aEz {K : PySem.W.Frag} {RE : Addr} {i : Nat} {f fh : MS} {en e : En} (h : f en = some (.nx e)) : aDu K RE i f fh en = some (.nx e) := by
 unfold aDu
 rw [h]
theorem zA (K : PySem.W.Frag) (c : Cls) {ps : List Pl} (hl : ps.length <= 1000) (hz : ∀ p ∈ ps, FSz 2000 p.2.2) : dJ K c [.p (.list (ps.map plD))] = aAo c ps := by
 simp only [dJ]
 rw [gB jH]
 dsimp only
 rw [if_pos ⟨hl, hz⟩]
theorem aC6 (n : Nat) : SeqAt.shaped (.list (nQ n)) = true := pC (fun (k : Nat) => PyData.bool (decide (k = 0 \/ k = n))) (fun _ => rfl) (fun _ => Nat.zero_le _) _
theorem nF (K : PySem.W.Frag) (c : Cls) (hk : iC K c) {ps : List Pl} {C : Addr} {n : Nat} (hr : dJ K c [.p (.list (ps.map plD))] = .exc C) (hn : sN c C = some n) : b8 K c [.p (.list (ps.map plD)), .p (.int (n : Int))] = .ok (.p (.bool true)) := by
 have m := hk.ex C n hn
 unfold b8
 refine mZ ?_
 rw [show bX 5 [.p (.list (ps.map plD)), .p (.int (n : Int))] = [some (.p (.list (ps.map plD))), some (.p (.int (n : Int))), none, none, none] from rfl]
 refine (cS (kW (d := .none) rfl)).trans ?_
 refine (cS (kW (d := .none) rfl)).trans ?_
 have e1 : (bD 3 (aK 1 (dJ K c) (aA (aD 0) aL))) [some (.p (.list (ps.map plD))), some (.p (.int (n : Int))), some (.p .none), some (.p .none), none] = some (.ex C [some (.p (.list (ps.map plD))), some (.p (.int (n : Int))), some (.p .none), some (.p .none), none]) := by
  simp [bD, aK, aA, aL, aD, Res.bind, Ev.c, a7, a5, dQ, hr]
 have hm : cO K c [.x C] = .ok (.o (.list (nQ n))) := by
  simp only [cO]
  rw [hn]
 have e2 : (bD 2 (aK 1 (cO K c) (aA (aD 4) aL))) [some (.p (.list (ps.map plD))), some (.p (.int (n : Int))), some (.p .none), some (.p .none), some (.x C)] = some (.nx [some (.p (.list (ps.map plD))), some (.p (.int (n : Int))), some (.o (.list (nQ n))), some (.p .none), some (.x C)]) := by
  simp [bD, aK, aA, aL, aD, Res.bind, Ev.c, a7, a5, dQ, hm, d6]
 refine (cS (aFn e1 m.rf e2)).trans ?_
 have hi : lD K (.type "list") (.p (.int (n : Int))) = .ok (.p (.bool false)) := by
  unfold lD
  simp only [dat]
  show (match PySem.W.kitOne K (.type "int") (.type "list") with | some b => Res.ok (Ev.p (.bool b)) | none => .bad) = _
  rw [hk.il]
 have t1 : (dP (a6 (mUn (lD K (.type "list")) (aD 1)))) [some (.p (.list (ps.map plD))), some (.p (.int (n : Int))), some (.o (.list (nQ n))), some (.p .none), none] = .ok true := by
  simp [dP, a6, mUn, aD, Res.bind, Ev.c, hi, aO]
 have ho : dX K c [.p (.int (n : Int))] = .ok (.o (.list (nQ n))) := by
  simp only [dX]
  rw [if_pos (by omega)]
  rfl
 have he := jB (x := .b (.list (nQ n))) (y := .p (.list (nQ n))) rfl rfl (aC6 n) false
 refine mU ((zW t1).trans ?_)
 unfold b9
 simp only [aF, aD, aK, aA, aL, List.getElem?_cons_zero, List.getElem?_cons_succ, List.set_cons_succ, List.set_cons_zero, Res.bind, Ev.c, a7, a5, dQ, List.length_cons, List.length_nil, ho, if_true, d6, he]
 rfl
theorem vP (K : PySem.W.Frag) (c : Cls) (hk : iC K c) {ps qs : List Pl} (hr : dJ K c [.p (.list (ps.map plD))] = .ok (.o (.list (qs.map plD)))) (hq : ∀ q ∈ qs, FR.Fr q.2.2) (hl : qs.length <= 1000) : b8 K c [.p (.list (ps.map plD)), .p (.list (qs.map plD))] = .ok (.p (.bool true)) := by
 unfold b8
 refine mZ ?_
 rw [show bX 5 [.p (.list (ps.map plD)), .p (.list (qs.map plD))] = [some (.p (.list (ps.map plD))), some (.p (.list (qs.map plD))), none, none, none] from rfl]
 refine (cS (kW (d := .none) rfl)).trans ?_
 refine (cS (kW (d := .none) rfl)).trans ?_
 have e1 : (bD 3 (aK 1 (dJ K c) (aA (aD 0) aL))) [some (.p (.list (ps.map plD))), some (.p (.list (qs.map plD))), some (.p .none), some (.p .none), none] = some (.nx [some (.p (.list (ps.map plD))), some (.p (.list (qs.map plD))), some (.p .none), some (.o (.list (qs.map plD))), none]) := by
  simp [bD, aK, aA, aL, aD, Res.bind, Ev.c, a7, a5, dQ, hr, d6]
 refine (cS (aEz e1)).trans ?_
 have hi : lD K (.type "list") (.p (.list (qs.map plD))) = .ok (.p (.bool true)) := by
  unfold lD
  simp only [dat]
  show (match PySem.W.kitOne K (.type "list") (.type "list") with | some b => Res.ok (Ev.p (.bool b)) | none => .bad) = _
  rw [hk.ll]
 have t1 : (dP (a6 (mUn (lD K (.type "list")) (aD 1)))) [some (.p (.list (ps.map plD))), some (.p (.list (qs.map plD))), some (.p .none), some (.o (.list (qs.map plD))), none] = .ok false := by
  simp [dP, a6, mUn, aD, Res.bind, Ev.c, hi, aO]
 refine (cS ((zR t1).trans rfl)).trans ?_
 have hs := aFq K c hk qs hq
 have t2 : (mOr (a6 (mUn (vU true) (aD 2))) (dP (a6 (aK 2 (cH K c) (aA (aD 3) (aA (aD 1) aL)))))) [some (.p (.list (ps.map plD))), some (.p (.list (qs.map plD))), some (.p .none), some (.o (.list (qs.map plD))), none] = .ok false := by
  simp [mOr, dP, a6, mUn, aD, Res.bind, Ev.c, aO, vU, aK, aA, aL, a7, a5, dQ, fB, hs, vR, lfD, d6]
 refine (cS ((zR t2).trans rfl)).trans ?_
 have hl2 : (qs.map plD).length <= 100000 := by rw [List.length_map]; omega
 have e3 : (jP 3 (aC aS (aA (mC (.int 0)) (aA (mC (.int 0)) (aA (aC aS (aA (mC (.int 7)) (aA (mC (.int 1)) aL))) aL))))) [some (.p (.list (ps.map plD))), some (.p (.list (qs.map plD))), some (.p .none), some (.o (.list (qs.map plD))), none] = some (.nx [some (.p (.list (ps.map plD))), some (.p (.list (qs.map plD))), some (.p .none), some (.o (.list (qs.map plD ++ [.tuple [.int 0, .int 0, .tuple [.int 7, .int 1]]]))), none]) := by
  have et : (aC aS (aA (mC (.int 0)) (aA (mC (.int 0)) (aA (aC aS (aA (mC (.int 7)) (aA (mC (.int 1)) aL))) aL)))) [some (.p (.list (ps.map plD))), some (.p (.list (qs.map plD))), some (.p .none), some (.o (.list (qs.map plD))), none] = .ok (.p (.tuple [.int 0, .int 0, .tuple [.int 7, .int 1]])) := by
   simp [a8, bD, b9, cC, aD, mC, aF, mUn, aA, aL, aK, a7, a5, dQ, fB, Res.bind, Ev.c, eD, d6, aC, aS, bF, bQ, a6, aO, eZ, mOr, dP, bW, fL, cF, aX, aV, dI, d9, bC, eR, bZ, dat, cV, eqE, aU, aT, bK, bM, bL, bO, bN, cT, cR, dC]
  unfold jP
  simp only [List.getElem?_cons_zero, List.getElem?_cons_succ, et, Ev.c]
  rw [if_pos hl2]
  rfl
 refine (cS e3).trans ?_
 rfl
def vE (ps : List Pl) : D := if ps = [] then .int 2 else if ps.any hX = true then .int 3 else if (hb ps).length > 16 then .int 4 else .list ((i8 (hb ps)).map plD)
theorem u0 (ps : List Pl) : (i8 (hb ps)).length = (hb ps).length := by
 unfold i8
 rw [List.length_map, (e9 _).length_eq]
 unfold kys
 rw [List.length_map]
theorem aBh (K : PySem.W.Frag) (c : Cls) (hk : iC K c) {ps : List Pl} (hl : ps.length <= 60) (g : ∀ p ∈ ps, GP p) : b8 K c [.p (.list (ps.map plD)), .p (vE ps)] = .ok (.p (.bool true)) := by
 have hr := zA K c (ps := ps) (by omega) fun p hp => ((g p hp).h.mono (show 110 <= 2000 by decide)).fsz
 unfold aAo at hr
 unfold vE
 by_cases h0 : ps = []
 ·rw [if_pos h0] at hr ⊢
  exact nF K c hk (n := 2) hr (by unfold sN; rw [if_pos rfl])
 ·rw [if_neg h0] at hr ⊢
  by_cases h1 : ps.any hX = true
  ·rw [if_pos h1] at hr ⊢
   exact nF K c hk (n := 3) hr (by unfold sN; rw [if_neg hk.n1, if_pos rfl])
  ·rw [if_neg h1] at hr ⊢
   by_cases h2 : (hb ps).length > 16
   ·rw [if_pos h2] at hr ⊢
    exact nF K c hk (n := 4) hr (by unfold sN; rw [if_neg hk.n2, if_neg hk.n3, if_pos rfl])
   ·rw [if_neg h2] at hr ⊢
    exact vP K c hk hr (fun q hq => (g q (lK hq)).f) (by rw [u0]; omega)
noncomputable def oO (K : PySem.W.Frag) (c : Cls) : MS := (cC (mOr (dP (a6 (aK 2 (b8 K c) (aA (aD 5) (aA (aD 3) aL))))) (a6 (aF (eqE true) (aD 5) (aD 2)))) (b9 (mC (.bool false))) aV)
noncomputable def aCk (K : PySem.W.Frag) (c : Cls) : MS := (a8 (bD 1 (aK 2 (aZ K c) (aA (aD 0) (aA (mC (.int 0)) aL)))) (a8 (bD 2 (aK 2 (cM K c) (aA (aD 0) (aA (aD 1) aL)))) (fun en => (a8 (bD 3 (aK 1 (eM K c) (aA (aD 2) aL))) (a8 (bD 4 (aC aS (aA (aK 2 (aW K c) (aA (aK 2 (aZ K c) (aA (aD 0) (aA (mC (.int 1)) aL))) (aA (aF dY (aD 1) (mC (.int 9))) aL))) (aA (aK 2 (aW K c) (aA (aK 2 (aZ K c) (aA (aD 0) (aA (mC (.int 2)) aL))) (aA (aF dY (aD 1) (mC (.int 27))) aL))) aL)))) (a8 (bD 5 (aC listE (aA (aD 2) aL))) (a8 (pO (rY pN (aA (mC (.int 2)) aL)) (aP 6) (oO K c)) (a8 (cC (dP (a6 (mUn (lD K (.type "list")) (aD 3)))) (b9 (mC (.bool true))) aV) (a8 (bD 7 (aK 2 (dW K c) (aA (aC listE (aA (aD 3) aL)) (aA (aD 4) aL)))) (b9 (bW (aK 1 (aQ K c) (aA (aD 7) aL)) (aF (eqE false) (aD 7) (aK 2 (cD K c) (aA (aD 2) (aA (aD 4) aL)))))))))))) (frz 2 en))))
noncomputable def vW (K : PySem.W.Frag) (c : Cls) (ls : List L) : Res L := d4 8 (aCk K c) ls
theorem aF4 (K : PySem.W.Frag) (c : Cls) : ∀ ls, vW K c ls = .bad \/ d4 8 (aCk K c) ls = vW K c ls := fun _ => .inr rfl
theorem aHn (K : PySem.W.Frag) (c : Cls) (pt : (Int × Int) × (Int × Int)) (q : Pl) (r : List Pl) (hl : (q :: r).length <= 100000) (h : ∀ x ∈ q :: r, GoodP x pt) : dW K c [.p (.list ((q :: r).map plD)), .p (.tuple [frD pt.1, frD pt.2])] = .ok (.p (frD (best (hgt q pt) ((q :: r).map fun x => hgt x pt)))) := u4 (a := (q :: r, pt)) yF ⟨List.cons_ne_nil _ _, hl, h⟩
theorem aFj (K : PySem.W.Frag) (c : Cls) (hk : iC K c) {ps : List Pl} (hl : ps.length <= 60) (g : ∀ p ∈ ps, GP p) (A B C4 D6 E7 : Option L) (d : L) (hd : d = .p (vE ps) \/ d = .o (vE ps)) : oO K c [A, B, some (.p (.list (ps.map plD))), some d, C4, some (.o (.list (ps.map plD))), D6, E7] = some (.nx [A, B, some (.p (.list (ps.map plD))), some d, C4, some (.o (.list (ps.map plD))), D6, E7]) := by
 have ha := aBh K c hk hl g
 have he := jB (x := .b (.list (ps.map plD))) (y := .p (.list (ps.map plD))) rfl rfl (xK ps) true
 have t : (mOr (dP (a6 (aK 2 (b8 K c) (aA (aD 5) (aA (aD 3) aL))))) (a6 (aF (eqE true) (aD 5) (aD 2)))) [A, B, some (.p (.list (ps.map plD))), some d, C4, some (.o (.list (ps.map plD))), D6, E7] = .ok false := by
  rcases hd with rfl | rfl
  ·simp [mOr, dP, a6, aD, aF, Res.bind, Ev.c, aO, aK, aA, aL, a7, a5, dQ, fB, ha, vR, lfD, d6, he]
  ·simp [mOr, dP, a6, aD, aF, Res.bind, Ev.c, aO, aK, aA, aL, a7, a5, dQ, fB, ha, vR, lfD, d6, he]
 exact (zR t).trans rfl
theorem aFf (K : PySem.W.Frag) (c : Cls) (hk : iC K c) (ns : List Int) (hn : ns.length <= 63) : vW K c [.p (.list (ns.map .int))] = .ok (.p (.bool true)) := by
 obtain ⟨kind, _, _, h0⟩ := pD K c ns 0 (by decide) (by decide)
 obtain ⟨v1, _, _, h1⟩ := pD K c ns 1 (by decide) (by decide)
 obtain ⟨v2, _, _, h2⟩ := pD K c ns 2 (by decide) (by decide)
 obtain ⟨ps, hl, g, hp⟩ := y7 K c ns hn kind
 obtain ⟨x, n1, n2, n3⟩ := y9 K c v1 (kind.fdiv 9)
 obtain ⟨y, o1, o2, o3⟩ := y9 K c v2 (kind.fdiv 27)
 have q9 := iR kind (b := 9) (by decide) (by decide)
 have q27 := iR kind (b := 27) (by decide) (by decide)
 have hdue := aF0 K c ps (by omega) fun p hp => ((g p hp).h.mono (show 110 <= 2000 by decide)).fsz
 unfold vW
 refine mZ ?_
 rw [show bX 8 [.p (.list (ns.map .int))] = [some (.p (.list (ns.map .int))), none, none, none, none, none, none, none] from rfl]
 have e1 : (aK 2 (aZ K c) (aA (aD 0) (aA (mC (.int 0)) aL))) [some (.p (.list (ns.map .int))), none, none, none, none, none, none, none] = .ok (.p (.int kind)) := by
  simp [aK, aA, aL, aD, mC, Res.bind, Ev.c, a7, a5, dQ, h0, d6]
 refine (cS (kW e1)).trans ?_
 have e2 : (aK 2 (cM K c) (aA (aD 0) (aA (aD 1) aL))) [some (.p (.list (ns.map .int))), some (.p (.int kind)), none, none, none, none, none, none] = .ok (.f (.list (ps.map plD))) := by
  simp [aK, aA, aL, aD, mC, Res.bind, Ev.c, a7, a5, dQ, hp, d6]
 refine (cS (zV e2)).trans ?_
 have e3 : ∃ d, (d = .p (vE ps) \/ d = .o (vE ps)) /\ aGl ps = d := ⟨_, by unfold aGl vE; split <;> (try split) <;> (try split) <;> simp, rfl⟩
 obtain ⟨d, hd, hdd⟩ := e3
 have e4 : (bD 3 (aK 1 (eM K c) (aA (aD 2) aL))) [some (.p (.list (ns.map .int))), some (.p (.int kind)), some (.p (.list (ps.map plD))), none, none, none, none, none] = some (.nx [some (.p (.list (ns.map .int))), some (.p (.int kind)), some (.p (.list (ps.map plD))), some d, none, none, none, none]) := by
  rw [hdd] at hdue
  rcases hd with rfl | rfl
  ·simp [bD, aK, aA, aL, aD, mC, Res.bind, Ev.c, a7, a5, dQ, hdue, d6]
  ·simp [bD, aK, aA, aL, aD, mC, Res.bind, Ev.c, a7, a5, dQ, hdue, d6]
 show a8 _ _ [some (.p (.list (ns.map .int))), some (.p (.int kind)), some (.p (.list (ps.map plD))), none, none, none, none, none] = _
 refine (cS e4).trans ?_
 have e5 : (aC aS (aA (aK 2 (aW K c) (aA (aK 2 (aZ K c) (aA (aD 0) (aA (mC (.int 1)) aL))) (aA (aF dY (aD 1) (mC (.int 9))) aL))) (aA (aK 2 (aW K c) (aA (aK 2 (aZ K c) (aA (aD 0) (aA (mC (.int 2)) aL))) (aA (aF dY (aD 1) (mC (.int 27))) aL))) aL))) [some (.p (.list (ns.map .int))), some (.p (.int kind)), some (.p (.list (ps.map plD))), some d, none, none, none, none] = .ok (.p (.tuple [frD x, frD y])) := by
  simp [a8, bD, b9, cC, aD, mC, aF, mUn, aA, aL, aK, a7, a5, dQ, fB, Res.bind, Ev.c, eD, d6, aC, aS, bF, bQ, a6, aO, eZ, mOr, dP, bW, fL, cF, aX, aV, dI, d9, bC, eR, bZ, dat, cV, eqE, aU, aT, bK, bM, bL, bO, bN, cT, cR, dC, h1, h2, n1, o1, q9, q27]
 refine (cS (kW e5)).trans ?_
 have e6 : (aC listE (aA (aD 2) aL)) [some (.p (.list (ns.map .int))), some (.p (.int kind)), some (.p (.list (ps.map plD))), some d, some (.p (.tuple [frD x, frD y])), none, none, none] = .ok (.f (.list (ps.map plD))) := by
  simp [aC, aA, aL, aD, Res.bind, Ev.c, listE, dS]
 refine (cS (zV e6)).trans ?_
 have hit : (rY pN (aA (mC (.int 2)) aL)) [some (.p (.list (ns.map .int))), some (.p (.int kind)), some (.p (.list (ps.map plD))), some d, some (.p (.tuple [frD x, frD y])), some (.o (.list (ps.map plD))), none, none] = .ok (vM 0 2) := by
  simp [rY, aA, aL, mC, Res.bind, Ev.c, pN]
 have hrl : vM 0 2 = [.int 0, .int 1] := rfl
 have e7 : (pO (rY pN (aA (mC (.int 2)) aL)) (aP 6) (oO K c)) [some (.p (.list (ns.map .int))), some (.p (.int kind)), some (.p (.list (ps.map plD))), some d, some (.p (.tuple [frD x, frD y])), some (.o (.list (ps.map plD))), none, none] = some (.nx [some (.p (.list (ns.map .int))), some (.p (.int kind)), some (.p (.list (ps.map plD))), some d, some (.p (.tuple [frD x, frD y])), some (.o (.list (ps.map plD))), some (.p (.int 1)), none]) := by
  rw [aBk hit, hrl]
  have b := fun r => aFj K c hk hl g (some (.p (.list (ns.map .int)))) (some (.p (.int kind))) (some (.p (.tuple [frD x, frD y]))) r none d hd
  simp only [gM, aP, List.set_cons_succ, List.set_cons_zero, b]
 refine (cS e7).trans ?_
 have isl : ∀ (v : Bool), PySem.W.kitOne K (.type (tyD (vE ps))) (.type "list") = some v -> (dP (a6 (mUn (lD K (.type "list")) (aD 3)))) [some (.p (.list (ns.map .int))), some (.p (.int kind)), some (.p (.list (ps.map plD))), some d, some (.p (.tuple [frD x, frD y])), some (.o (.list (ps.map plD))), some (.p (.int 1)), none] = .ok (!v) := fun v hv => by
  rcases hd with rfl | rfl
  ·simp [dP, a6, mUn, aD, Res.bind, Ev.c, lD, dat, hv, aO]
  ·simp [dP, a6, mUn, aD, Res.bind, Ev.c, lD, dat, hv, aO]
 by_cases hbad : ps = [] \/ ps.any hX = true \/ (hb ps).length > 16
 ·have hv : PySem.W.kitOne K (.type (tyD (vE ps))) (.type "list") = some false := by
   have : tyD (vE ps) = "int" := by
    unfold vE
    by_cases z0 : ps = []
    ·rw [if_pos z0]; rfl
    ·rw [if_neg z0]
     by_cases z1 : ps.any hX = true
     ·rw [if_pos z1]; rfl
     ·rw [if_neg z1]
      have z2 : (hb ps).length > 16 := (hbad.resolve_left z0).resolve_left z1
      rw [if_pos z2]; rfl
   rw [this]
   exact hk.il
  exact mU ((zW (isl false hv)).trans rfl)
 ·have z0 : ps ≠ [] := fun z => hbad (.inl z)
  have z1 : ¬ ps.any hX = true := fun z => hbad (.inr (.inl z))
  have z2 : ¬ (hb ps).length > 16 := fun z => hbad (.inr (.inr z))
  have hdl : vE ps = .list ((i8 (hb ps)).map plD) := by
   unfold vE
   rw [if_neg z0, if_neg z1, if_neg z2]
  have hv : PySem.W.kitOne K (.type (tyD (vE ps))) (.type "list") = some true := by
   rw [hdl]
   exact hk.ll
  refine (cS ((zR (isl true hv)).trans rfl)).trans ?_
  cases ps with
  | nil => exact absurd rfl z0
  | cons p rs =>
   obtain ⟨q, qs, hq⟩ := aD0 (p := p) (ps := rs) fun r hr => (g r hr).h.1
   have gg : ∀ r ∈ p :: rs, GoodP r (x, y) := fun r hr => ⟨(g r hr).i, (g r hr).j, (g r hr).h.mono (by decide), n2.mono (by decide), o2.mono (by decide)⟩
   have gq : ∀ r ∈ q :: qs, GoodP r (x, y) := fun r hr => gg r (lK (by rw [hq]; exact hr))
   have hll := u0 (p :: rs)
   rw [hq] at hll
   have hA := aHn K c (x, y) q qs (by omega) gq
   have hH := aCz K c (x, y) p rs gg
   obtain ⟨t1, t2⟩ := aAl gg hq
   rw [t1] at hA
   have e8 : (aK 2 (dW K c) (aA (aC listE (aA (aD 3) aL)) (aA (aD 4) aL))) [some (.p (.list (ns.map .int))), some (.p (.int kind)), some (.p (.list ((p :: rs).map plD))), some d, some (.p (.tuple [frD x, frD y])), some (.o (.list ((p :: rs).map plD))), some (.p (.int 1)), none] = .ok (.p (frD (best (hgt p (x, y)) (rs.map fun r => hgt r (x, y))))) := by
    rw [hdl, hq] at hd
    have hA' : dW K c [.p (.list ((q :: qs).map plD)), .p (.tuple [frD x, frD y])] = .ok (.p (frD (best (hgt p (x, y)) (rs.map fun r => hgt r (x, y))))) := hA
    rcases hd with rfl | rfl
    ·simp only [aK, aA, aL, aC, aD, List.getElem?_cons_zero, List.getElem?_cons_succ, Res.bind, Ev.c, listE, dS, a7, a5, dQ, List.length_cons, List.length_nil, hA', if_true, d6]
    ·simp only [aK, aA, aL, aC, aD, List.getElem?_cons_zero, List.getElem?_cons_succ, Res.bind, Ev.c, listE, dS, a7, a5, dQ, List.length_cons, List.length_nil, hA', if_true, d6]
   refine (cS (kW e8)).trans ?_
   have hf := vB K c t2
   have he := jB (x := .p (frD (best (hgt p (x, y)) (rs.map fun r => hgt r (x, y))))) (y := .p (frD (best (hgt p (x, y)) (rs.map fun r => hgt r (x, y))))) rfl rfl (aF9 _) false
   have hH' : cD K c [.p (.list ((p :: rs).map plD)), .p (.tuple [frD x, frD y])] = .ok (.p (frD (best (hgt p (x, y)) (rs.map fun r => hgt r (x, y))))) := hH
   have c1 : (aK 1 (aQ K c) (aA (aD 7) aL)) [some (.p (.list (ns.map .int))), some (.p (.int kind)), some (.p (.list ((p :: rs).map plD))), some d, some (.p (.tuple [frD x, frD y])), some (.o (.list ((p :: rs).map plD))), some (.p (.int 1)), some (.p (frD (best (hgt p (x, y)) (rs.map fun r => hgt r (x, y)))))] = .ok (.p (.bool true)) := by
    simp only [aK, aA, aL, aD, List.getElem?_cons_zero, List.getElem?_cons_succ, Res.bind, Ev.c, a7, a5, dQ, List.length_cons, List.length_nil, hf, if_true, d6]
   have c2 : (aF (eqE false) (aD 7) (aK 2 (cD K c) (aA (aD 2) (aA (aD 4) aL)))) [some (.p (.list (ns.map .int))), some (.p (.int kind)), some (.p (.list ((p :: rs).map plD))), some d, some (.p (.tuple [frD x, frD y])), some (.o (.list ((p :: rs).map plD))), some (.p (.int 1)), some (.p (frD (best (hgt p (x, y)) (rs.map fun r => hgt r (x, y)))))] = .ok (.p (.bool true)) := by
    have k : (aK 2 (cD K c) (aA (aD 2) (aA (aD 4) aL))) [some (.p (.list (ns.map .int))), some (.p (.int kind)), some (.p (.list ((p :: rs).map plD))), some d, some (.p (.tuple [frD x, frD y])), some (.o (.list ((p :: rs).map plD))), some (.p (.int 1)), some (.p (frD (best (hgt p (x, y)) (rs.map fun r => hgt r (x, y)))))] = .ok (.p (frD (best (hgt p (x, y)) (rs.map fun r => hgt r (x, y))))) := by
     simp only [aK, aA, aL, aD, List.getElem?_cons_zero, List.getElem?_cons_succ, Res.bind, Ev.c, a7, a5, dQ, List.length_cons, List.length_nil, hH', if_true, d6]
    simp only [aF, aD, List.getElem?_cons_zero, List.getElem?_cons_succ, Res.bind, k, Ev.c, he]
    rfl
   have c3 : (bW (aK 1 (aQ K c) (aA (aD 7) aL)) (aF (eqE false) (aD 7) (aK 2 (cD K c) (aA (aD 2) (aA (aD 4) aL))))) [some (.p (.list (ns.map .int))), some (.p (.int kind)), some (.p (.list ((p :: rs).map plD))), some d, some (.p (.tuple [frD x, frD y])), some (.o (.list ((p :: rs).map plD))), some (.p (.int 1)), some (.p (frD (best (hgt p (x, y)) (rs.map fun r => hgt r (x, y)))))] = .ok (.p (.bool true)) := by
    unfold bW
    rw [c1]
    exact c2
   unfold b9
   exact (show (match (bW (aK 1 (aQ K c) (aA (aD 7) aL)) (aF (eqE false) (aD 7) (aK 2 (cD K c) (aA (aD 2) (aA (aD 4) aL))))) [some (.p (.list (ns.map .int))), some (.p (.int kind)), some (.p (.list ((p :: rs).map plD))), some d, some (.p (.tuple [frD x, frD y])), some (.o (.list ((p :: rs).map plD))), some (.p (.int 1)), some (.p (frD (best (hgt p (x, y)) (rs.map fun r => hgt r (x, y)))))] with
    | .ok r => some (Out.rt (eD r))
    | .exc C => some (.ex C _)
    | .bad => none) = some (.rt (.p (.bool true))) by rw [c3]; rfl)
theorem aI3 {j k : Nat} {A : Around} {e : Value} (hr : Room k A) (h : j <= k) : RoomQ j (A.mark e) := ⟨(hr.mono h).dp, (hr.mono h).un⟩
section
variable {P : Program} {w : World} {K : PySem.W.Frag} {mg : Str -> Option Value} {base : Heap}
theorem sc_fraction : a9 ["top", "bottom", "divisor"] ["top", "bottom"] (aJ jF) := ⟨rfl, rfl, rfl, by decide +kernel, rfl, by decide +kernel, by decide +kernel⟩
theorem tK {c : Cls} (Df : Def K mg "fraction" ["top", "bottom"] jF) (B : Blt mg) (C : jU mg c) (O : jM mg base c) (hk : iC K c) (c_greatest_divisor : Cal P w K mg base 1 "greatest_divisor" 2 (bA K c)) : Cal P w K mg base 2 "fraction" 2 (dO K c) := by
 refine kP (k := 1) Df sc_fraction rfl (fun f cdv A outer s H E hr => ⟨iE K c, ?_, sZ K c⟩)
 exact (aH (fJ (dH (gU (u64 hr)) iG fC (dv 1) aE (cG _)) (aM (lM oD rfl rfl O.NoFraction PySem.F.excBase_ValueError (aB uY aI))) cA) (aH (bE (i := 2) sc_fraction.nd rfl (Or.inl rfl) (aN c_greatest_divisor hr dG (aB (dv 0) (aB (dv 1) aI)))) (aH (fJ (dH nS fT bG (dv 1) aE (cG _)) (aM (bE (i := 2) sc_fraction.nd rfl (Or.inl rfl) (y1 (dv 2)))) cA) (aM (bI (eP (aB (aY dA eI aG (dv 0) (dv 2)) (aB (aY dA eI aG (dv 1) (dv 2)) aI))))))))
theorem l6 : a9 ["slope"] ["slope"] (aJ fS) := ⟨rfl, rfl, rfl, by decide +kernel, rfl, by decide +kernel, by decide +kernel⟩
theorem nN {c : Cls} (Df : Def K mg "is_too_steep" ["slope"] fS) (B : Blt mg) (C : jU mg c) (O : jM mg base c) (hk : iC K c) {t_STEEPEST : Tok} (c_STEEPEST : mg "STEEPEST" = some (.int 8 t_STEEPEST)) : Cal P w K mg base 1 "is_too_steep" 1 (cP K c) := by
 refine kP (k := 0) Df l6 rfl (fun f cdv A outer s H E hr => ⟨eU K c, ?_, mX K c⟩)
 exact (aM (bI (aHd (kI nS fT bG (cB (w5 rfl rfl) aB2 w8 rfl B.min_ aB1 (aB (dv 0) aI)) aE (cG _)) (yT (kI sC fT bG (cB (wC rfl rfl) aB2 w8 rfl B.max_ aFd (aB (dv 0) aI)) (uS rfl c_STEEPEST) (cG _))))))
theorem sc__law_planes : a9 ["_law_script", "_law_kind", "_law_planes_here", "_law_k", "_law_cell", "_law_c", "_law_slope", "_law_at"] ["_law_script", "_law_kind"] (aJ gE) := ⟨rfl, rfl, rfl, by decide +kernel, rfl, by decide +kernel, by decide +kernel⟩
theorem nR {c : Cls} (Df : Def K mg "_law_planes" ["_law_script", "_law_kind"] gE) (B : Blt mg) (C : jU mg c) (O : jM mg base c) (hk : iC K c) (c__law_cells : Cal P w K mg base 2 "_law_cells" 3 (dB K c)) (c__law_number_by : Cal P w K mg base 3 "_law_number_by" 2 (aW K c)) : Cal P w K mg base 4 "_law_planes" 2 (cM K c) := by
 refine kP (k := 3) Df sc__law_planes rfl (fun f cdv A outer s H E hr => ⟨gC K c, ?_, nP K c⟩)
 exact (aH (bE (i := 2) sc__law_planes.nd rfl (Or.inl rfl) (nJ aI)) (aH (mG PassesOwn.leaving rfl (aDo rfl B.enumerate_ (aB (aN c__law_cells hr dG (aB (dv 0) (aB aE (aB aE aI)))) aI)) (rN (n := 2) rfl (eW (dF (i := 3) sc__law_planes.nd rfl (Or.inl rfl)) (eW (dF (i := 4) sc__law_planes.nd rfl (Or.inl rfl)) nI))) (aH (bE (i := 5) sc__law_planes.nd rfl (Or.inl rfl) (aY bV cZ aG (dv 4) (aY mH mF aG aE aE))) (aH (bE (i := 6) sc__law_planes.nd rfl (Or.inl rfl) (eP (aB (aY bV cZ aG (dv 5) aE) (aB (aY bV cZ aG (aY dA eI aG (dv 5) aE) aE) aI)))) (aH (fJ (dH (gU (u64 hr)) iG fC (aY bV cZ aG (dv 1) aE) aE (cG _)) (aM (bE (i := 6) sc__law_planes.nd rfl (Or.inl rfl) (eP (aB (aY bV cZ aG (dv 3) aE) (aB (aY fG gW fF (aY dA eI aG (dv 3) aE) (aY bV cZ aG (dv 5) aE)) aI))))) cA) (aH (fJ (dH (gU (u64 hr)) iG fC (aY bV cZ aG (dv 1) aE) aE (cG _)) (aM (bE (i := 6) sc__law_planes.nd rfl (Or.inl rfl) (eP (aB (aY qC rJ bG (aY bV cZ aG (dv 5) aE) aE) (aB (aY qC rJ bG (aY bV cZ aG (aY dA eI aG (dv 5) aE) aE) aE) aI))))) cA) (aM (fJ (DW.t (iZ (dH (gU (u64 hr)) iG fC (aY bV cZ aG (dv 1) aE) aE (cG _)) (iZ (DW.t (aBz (dH (gU (u64 hr)) iG fC (aY bV cZ aG (dv 1) aE) aE (cG _)) (wB (dH nS fT bG (dv 3) (aY fG gW fF aE (aY bV cZ aG (aY dA eI aG (dv 1) aE) aE)) (cG _))))) (iQ (dH nS fT bG (dv 3) aE (cG _)))))) (aM (qP (i := 2) (eP (aB (cI (dv 6) aE (fun _ _ => rfl)) (aB (cI (dv 6) aE (fun _ _ => rfl)) (aB (aN c__law_number_by hr dG (aB (aY dA eI aG (dv 5) aE) (aB (aY dA eI aG (dv 1) aE) aI))) aI)))) (fun t q => zE (aEu PySem.F.plainAttrs_list PySem.F.slot_list_append PySem.F.type_list_append qQ (pv 2) (mT q vG))))) cA))))))) (aH (fJ (DW.t (aBz (dH (gU (u64 hr)) iG fC (aY bV cZ aG (aY dA eI aG (dv 1) aE) aE) aE (cG _)) (wB (dH sC fT bG (cB cN jJ gY rfl B.len_ PySem.boot_len (aB (dv 2) aI)) aE (cG _))))) (aH (bE (i := 7) sc__law_planes.nd rfl (Or.inl rfl) (aY bV cZ aG (aY dA eI aG (dv 1) aE) (cB cN jJ gY rfl B.len_ PySem.boot_len (aB (dv 2) aI)))) (aM (aCb (i := 2) (dv 7) (eP (aB (cI (nJ (aB (y1 aE) (aB aE (aB aE (aB aE aI))))) (aY bV cZ aG (aY dA eI aG (dv 1) aE) aE) (fun _ _ => rfl)) (aB (cI (nJ (aB aE (aB (y1 aE) (aB aE (aB aE aI))))) (aY bV cZ aG (aY dA eI aG (dv 1) aE) aE) (fun _ _ => rfl)) (aB (cI (cI (dv 2) (dv 7) (fun _ _ => rfl)) aE (fun _ _ => rfl)) aI)))) (fun _ _ p q => aGh q (aEr (pv 2) p set_list))))) cA) (aM (bI (dv 2))))))
end
section
variable {P : Program} {w : World} {K : PySem.W.Frag} {mg : Str -> Option Value} {base : Heap}
theorem rS : a9 ["roof", "point"] ["roof", "point"] (aJ iH) := ⟨rfl, rfl, rfl, by decide +kernel, rfl, by decide +kernel, by decide +kernel⟩
theorem p7 {c : Cls} (Df : Def K mg "height_at" ["roof", "point"] iH) (B : Blt mg) (C : jU mg c) (O : jM mg base c) (hk : iC K c) (c_greatest : Cal P w K mg base 2 "greatest" 1 (eJ K c)) (c_plane_height : Cal P w K mg base 4 "plane_height" 2 (dD K c)) : Cal P w K mg base 5 "height_at" 2 (dW K c) := by
 refine kP (k := 4) Df rS rfl (fun f cdv A outer s H E hr => ⟨jO K c, ?_, qF K c⟩)
 exact (aM (bI (aN c_greatest hr dG (aB (jN (xs := ["plane"]) (ys := ["point"]) (js := [1]) (cl := [("point", s.heap.objs.size + 1)]) rfl (hZ (dv 0)) (tH (ys := ["point"]) (js := [1]) rfl (List.forall_mem_cons.mpr ⟨rfl, (fun _ h => nomatch h)⟩) (fP ⟨rfl, .inl rfl, .inl rfl, rfl, rfl⟩ fD) (by decide +kernel) (by decide +kernel)) (fP ⟨rfl, .inl rfl, .inl rfl, rfl, rfl⟩ fD) (by decide +kernel) rfl (by decide +kernel) rfl (by decide) (fun C s₀ H₀ ex pn => (dF (i := 0) (show (["plane", "point"] : List Str).Nodup by decide +kernel) rfl (Or.inl rfl))) (fun C s₀ H₀ ex pn => j3) (fun C s₀ H₀ ex pn => (aN c_plane_height hr wL (aB (dv 0) (aB (dv 1) aI))))) aI))))
theorem sc_roof_of : a9 ["planes", "highest"] ["planes"] (aJ kA) := ⟨rfl, rfl, rfl, by decide +kernel, rfl, by decide +kernel, by decide +kernel⟩
theorem vI {c : Cls} (Df : Def K mg "roof_of" ["planes"] kA) (B : Blt mg) (C : jU mg c) (O : jM mg base c) (hk : iC K c) (c_highest_by_slope : Cal P w K mg base 2 "highest_by_slope" 1 (bY K c)) (c_slope_of : Cal P w K mg base 1 "slope_of" 1 (eN K c)) (c_is_too_steep : Cal P w K mg base 1 "is_too_steep" 1 (cP K c)) {t_MOST_PLANES : Tok} (c_MOST_PLANES : mg "MOST_PLANES" = some (.int 16 t_MOST_PLANES)) : Cal P w K mg base 3 "roof_of" 1 (dJ K c) := by
 refine kP (k := 2) Df sc_roof_of rfl (fun f cdv A outer s H E hr => ⟨iD K c, ?_, vQ K c⟩)
 exact (aH (fJ (dH (gU (u64 hr)) iG fC (cB cN jJ gY rfl B.len_ PySem.boot_len (aB (dv 0) aI)) aE (cG _)) (aM (lM oD rfl rfl O.NoRoof PySem.F.excBase_ValueError (aB uY aI))) cA) (aH (fJ (fV (cB (aAc rfl rfl) aEi aDv rfl B.any_ aFm (aB (jN (xs := ["plane"]) (ys := []) (js := []) (cl := []) rfl (hZ (dv 0)) (tH (ys := []) (js := []) rfl (fun _ h => nomatch h) fD (by decide +kernel) (by decide +kernel)) fD (by decide +kernel) rfl (by decide +kernel) rfl (by decide) (fun C s₀ H₀ ex pn => (dF (i := 0) (show (["plane"] : List Str).Nodup by decide +kernel) rfl (Or.inl rfl))) (fun C s₀ H₀ ex pn => j3) (fun C s₀ H₀ ex pn => (aN c_is_too_steep hr wL (aB (aN c_slope_of hr wL (aB (dv 0) aI)) aI)))) aI))) (aM (lM oD rfl rfl O.TooSteep PySem.F.excBase_ValueError (aB uY aI))) cA) (aH (bE (i := 1) sc_roof_of.nd rfl (Or.inr rfl) (aN c_highest_by_slope hr dG (aB (jN (xs := ["plane"]) (ys := []) (js := []) (cl := []) rfl (hZ (dv 0)) (tH (ys := []) (js := []) rfl (fun _ h => nomatch h) fD (by decide +kernel) (by decide +kernel)) fD (by decide +kernel) rfl (by decide +kernel) rfl (by decide) (fun C s₀ H₀ ex pn => (dF (i := 0) (show (["plane"] : List Str).Nodup by decide +kernel) rfl (Or.inl rfl))) (fun C s₀ H₀ ex pn => j3) (fun C s₀ H₀ ex pn => (eP (aB (aN c_slope_of hr wL (aB (dv 0) aI)) (aB (cI (dv 0) aE (fun _ _ => rfl)) aI))))) aI))) (aH (fJ (dH sC fT bG (cB n9 xI uD rfl B.len_ PySem.boot_len (aB (dv 1) aI)) (uS rfl c_MOST_PLANES) (cG _)) (aM (lM oD rfl rfl O.TooMany PySem.F.excBase_ValueError (aB uY aI))) cA) (sG 1 (aM (bI (jN (xs := ["slope"]) (ys := ["highest"]) (js := [1]) (cl := [("highest", s.heap.objs.size + 1)]) rfl (hZ (cB (SRT.n5 rfl) nX mD rfl B.sorted_ rB (aB (dv 1) aI))) (tH (ys := ["highest"]) (js := [1]) rfl (List.forall_mem_cons.mpr ⟨rfl, (fun _ h => nomatch h)⟩) (fP ⟨rfl, .inl rfl, .inl rfl, rfl, rfl⟩ fD) (by decide +kernel) (by decide +kernel)) (fP ⟨rfl, .inl rfl, .inl rfl, rfl, rfl⟩ fD) (by decide +kernel) rfl (by decide +kernel) rfl (by decide) (fun C s₀ H₀ ex pn => (dF (i := 0) (show (["slope", "highest"] : List Str).Nodup by decide +kernel) rfl (Or.inl rfl))) (fun C s₀ H₀ ex pn => j3) (fun C s₀ H₀ ex pn => (eP (aB (cI (dv 0) aE (fun _ _ => rfl)) (aB (cI (dv 0) aE (fun _ _ => rfl)) (aB (oW (u1 hr) (dv 1) (dv 0) (fun _ _ => rfl)) aI)))))))))))))
theorem tD : a9 ["_law_a", "_law_b"] ["_law_a", "_law_b"] (aJ i9) := ⟨rfl, rfl, rfl, by decide +kernel, rfl, by decide +kernel, by decide +kernel⟩
theorem sA {c : Cls} (Df : Def K mg "_law_sum" ["_law_a", "_law_b"] i9) (B : Blt mg) (C : jU mg c) (O : jM mg base c) (hk : iC K c) (c__law_fraction : Cal P w K mg base 2 "_law_fraction" 2 (aR K c)) : Cal P w K mg base 3 "_law_sum" 2 (cY K c) := by
 refine kP (k := 2) Df tD rfl (fun f cdv A outer s H E hr => ⟨kT K c, ?_, sE K c⟩)
 exact (aM (bI (aN c__law_fraction hr dG (aB (aY fG gW fF (aY cW eO aG (cI (dv 0) aE (fun _ _ => rfl)) (cI (dv 1) aE (fun _ _ => rfl))) (aY cW eO aG (cI (dv 1) aE (fun _ _ => rfl)) (cI (dv 0) aE (fun _ _ => rfl)))) (aB (aY cW eO aG (cI (dv 0) aE (fun _ _ => rfl)) (cI (dv 1) aE (fun _ _ => rfl))) aI)))))
theorem oE : a9 ["_law_a", "_law_b"] ["_law_a", "_law_b"] (aJ gQ) := ⟨rfl, rfl, rfl, by decide +kernel, rfl, by decide +kernel, by decide +kernel⟩
theorem pK {c : Cls} (Df : Def K mg "_law_below" ["_law_a", "_law_b"] gQ) (B : Blt mg) (C : jU mg c) (O : jM mg base c) (hk : iC K c) : Cal P w K mg base 1 "_law_below" 2 (bT K c) := by
 refine kP (k := 0) Df oE rfl (fun f cdv A outer s H E hr => ⟨iU K c, ?_, pJ K c⟩)
 exact (aM (bI (kI nS fT bG (aY cW eO aG (cI (dv 0) aE (fun _ _ => rfl)) (cI (dv 1) aE (fun _ _ => rfl))) (aY cW eO aG (cI (dv 1) aE (fun _ _ => rfl)) (cI (dv 0) aE (fun _ _ => rfl))) (cG _))))
end
section
variable {P : Program} {w : World} {K : PySem.W.Frag} {mg : Str -> Option Value} {base : Heap}
theorem sc_highest_by_slope : a9 ["rows", "highest", "slope", "height"] ["rows"] (aJ eF) := ⟨rfl, rfl, rfl, by decide +kernel, rfl, by decide +kernel, by decide +kernel⟩
theorem jZ {c : Cls} (Df : Def K mg "highest_by_slope" ["rows"] eF) (B : Blt mg) (C : jU mg c) (O : jM mg base c) (hk : iC K c) (c_less : Cal P w K mg base 1 "less" 2 (iW K c)) : Cal P w K mg base 2 "highest_by_slope" 1 (bY K c) := by
 refine kP (k := 1) Df sc_highest_by_slope rfl (fun f cdv A outer s H E hr => ⟨fI K c, ?_, jQ K c⟩)
 exact (aH (bE (i := 1) sc_highest_by_slope.nd rfl (Or.inl rfl) uE) (aH (mG PassesOwn.leaving rfl (hZ (dv 0)) (rN (n := 2) rfl (eW (dF (i := 2) sc_highest_by_slope.nd rfl (Or.inl rfl)) (eW (dF (i := 3) sc_highest_by_slope.nd rfl (Or.inl rfl)) nI))) (aM (fJ (DW.t (iZ (rG (u1 hr) (dv 2) (dv 1)) (iQ (fV (aN c_less hr dG (aB (oW (u1 hr) (dv 1) (dv 2) (fun _ _ => rfl)) (aB (dv 3) aI))))))) (aM (yG (i := 1) (u1 hr) (pv 1) (dv 2) (dv 3) rfl)) cA))) (aM (bI (dv 1)))))
theorem sc__law_cell_at : a9 ["_law_script", "_law_k", "_law_cell"] ["_law_script", "_law_k"] (aJ fN) := ⟨rfl, rfl, rfl, by decide +kernel, rfl, by decide +kernel, by decide +kernel⟩
theorem mP {c : Cls} (Df : Def K mg "_law_cell_at" ["_law_script", "_law_k"] fN) (B : Blt mg) (C : jU mg c) (O : jM mg base c) (hk : iC K c) : Cal P w K mg base 1 "_law_cell_at" 2 (aZ K c) := by
 refine kP (k := 0) Df sc__law_cell_at rfl (fun f cdv A outer s H E hr => ⟨eS K c, ?_, lP K c⟩)
 exact (aH (bE (i := 2) sc__law_cell_at.nd rfl (Or.inl rfl) aE) (aH (fJ (dH nS fT bG (dv 1) (cB cN jJ gY rfl B.len_ PySem.boot_len (aB (dv 0) aI)) (cG _)) (aM (bE (i := 2) sc__law_cell_at.nd rfl (Or.inl rfl) (aY bV cZ aG (cI (dv 0) (dv 1) (fun _ _ => rfl)) (aY mH mF aG aE aE)))) cA) (aM (bI (aY fG gW fF (aY cW eO aG (dv 2) aE) (aY bV cZ aG (aY cW eO aG (aY bV cZ aG (aY cW eO aG (aY fG gW fF (aY fG gW fF (aY fG gW fF (dv 2) (aY cW eO aG (aY cW eO aG aE (dv 1)) (dv 1))) (aY cW eO aG aE (dv 1))) aE) aE) aE) aE) aE))))))
theorem oQ : a9 ["_law_a", "_law_many"] ["_law_a", "_law_many"] (aJ gN) := ⟨rfl, rfl, rfl, by decide +kernel, rfl, by decide +kernel, by decide +kernel⟩
theorem pA {c : Cls} (Df : Def K mg "_law_taken" ["_law_a", "_law_many"] gN) (B : Blt mg) (C : jU mg c) (O : jM mg base c) (hk : iC K c) (c__law_fraction : Cal P w K mg base 2 "_law_fraction" 2 (aR K c)) : Cal P w K mg base 3 "_law_taken" 2 (b7 K c) := by
 refine kP (k := 2) Df oQ rfl (fun f cdv A outer s H E hr => ⟨i0 K c, ?_, oM K c⟩)
 exact (aM (bI (aN c__law_fraction hr dG (aB (aY cW eO aG (cI (dv 0) aE (fun _ _ => rfl)) (dv 1)) (aB (cI (dv 0) aE (fun _ _ => rfl)) aI)))))
theorem sc__law_due : a9 ["_law_planes_here", "_law_found", "_law_i", "_law_j", "_law_high_here"] ["_law_planes_here"] (aJ jC) := ⟨rfl, rfl, rfl, by decide +kernel, rfl, by decide +kernel, by decide +kernel⟩
theorem s8 {c : Cls} (Df : Def K mg "_law_due" ["_law_planes_here"] jC) (B : Blt mg) (C : jU mg c) (O : jM mg base c) (hk : iC K c) (c__law_below : Cal P w K mg base 1 "_law_below" 2 (bT K c)) : Cal P w K mg base 2 "_law_due" 1 (eM K c) := by
 refine kP (k := 1) Df sc__law_due rfl (fun f cdv A outer s H E hr => ⟨jA K c, ?_, tJ K c⟩)
 exact (aH (fJ (dH (gU (u64 hr)) iG fC (cB cN jJ gY rfl B.len_ PySem.boot_len (aB (dv 0) aI)) aE (cG _)) (aM (bI aE)) cA) (aH (bE (i := 1) sc__law_due.nd rfl (Or.inr rfl) uE) (aH (mG PassesOwn.leaving rfl (hZ (dv 0)) (rN (n := 3) rfl (eW (dF (i := 2) sc__law_due.nd rfl (Or.inl rfl)) (eW (dF (i := 3) sc__law_due.nd rfl (Or.inl rfl)) (eW (dF (i := 4) sc__law_due.nd rfl (Or.inl rfl)) nI)))) (aH (fJ (DW.t (iZ (dH nS fT bG (dv 2) aE (cG _)) (iZ (dH sC fT bG (dv 2) aE (cG _)) (iZ (dH nS fT bG (dv 3) aE (cG _)) (iQ (dH sC fT bG (dv 3) aE (cG _))))))) (aM (bI aE)) cA) (aM (fJ (DW.t (iZ (rG (u1 hr) (eP (aB (dv 2) (aB (dv 3) aI))) (dv 1)) (iQ (fV (aN c__law_below hr dG (aB (oW (u1 hr) (dv 1) (eP (aB (dv 2) (aB (dv 3) aI))) (fun _ _ => rfl)) (aB (dv 4) aI))))))) (aM (yG (i := 1) (u1 hr) (pv 1) (eP (aB (dv 2) (aB (dv 3) aI))) (dv 4) rfl)) cA)))) (aH (fJ (dH sC fT bG (cB n9 xI uD rfl B.len_ PySem.boot_len (aB (dv 1) aI)) aE (cG _)) (aM (bI aE)) cA) (sG 1 (aM (bI (jN (xs := ["_law_i", "_law_j"]) (ys := ["_law_found"]) (js := [1]) (cl := [("_law_found", s.heap.objs.size + 1)]) rfl (hZ (cB (SRT.n5 rfl) nX mD rfl B.sorted_ rB (aB (dv 1) aI))) (tH (ys := ["_law_found"]) (js := [1]) rfl (List.forall_mem_cons.mpr ⟨rfl, (fun _ h => nomatch h)⟩) (fP ⟨rfl, .inl rfl, .inl rfl, rfl, rfl⟩ fD) (by decide +kernel) (by decide +kernel)) (fP ⟨rfl, .inl rfl, .inl rfl, rfl, rfl⟩ fD) (by decide +kernel) rfl (by decide +kernel) rfl (by decide) (fun C s₀ H₀ ex pn => (rN (n := 2) rfl (eW (dF (i := 0) (show (["_law_i", "_law_j", "_law_found"] : List Str).Nodup by decide +kernel) rfl (Or.inl rfl)) (eW (dF (i := 1) (show (["_law_i", "_law_j", "_law_found"] : List Str).Nodup by decide +kernel) rfl (Or.inl rfl)) nI)))) (fun C s₀ H₀ ex pn => j3) (fun C s₀ H₀ ex pn => (eP (aB (dv 0) (aB (dv 1) (aB (oW (u1 hr) (dv 2) (eP (aB (dv 0) (aB (dv 1) aI))) (fun _ _ => rfl)) aI)))))))))))))
end
section
variable {P : Program} {w : World} {K : PySem.W.Frag} {mg : Str -> Option Value} {base : Heap}
theorem aBg : a9 ["a", "b"] ["a", "b"] (aJ o7) := ⟨rfl, rfl, rfl, by decide +kernel, rfl, by decide +kernel, by decide +kernel⟩
theorem aAh {c : Cls} (Df : Def K mg "times" ["a", "b"] o7) (B : Blt mg) (C : jU mg c) (O : jM mg base c) (hk : iC K c) (c_fraction : Cal P w K mg base 2 "fraction" 2 (dO K c)) : Cal P w K mg base 3 "times" 2 (hU K c) := by
 refine kP (k := 2) Df aBg rfl (fun f cdv A outer s H E hr => ⟨sD K c, ?_, aAi K c⟩)
 exact (aM (bI (aN c_fraction hr dG (aB (aY cW eO aG (cI (dv 0) aE (fun _ _ => rfl)) (cI (dv 1) aE (fun _ _ => rfl))) (aB (aY cW eO aG (cI (dv 0) aE (fun _ _ => rfl)) (cI (dv 1) aE (fun _ _ => rfl))) aI)))))
theorem pR : a9 ["_law_script", "_law_first", "_law_last"] ["_law_script", "_law_first", "_law_last"] (aJ gO) := ⟨rfl, rfl, rfl, by decide +kernel, rfl, by decide +kernel, by decide +kernel⟩
theorem oP {c : Cls} (Df : Def K mg "_law_cells" ["_law_script", "_law_first", "_law_last"] gO) (B : Blt mg) (C : jU mg c) (O : jM mg base c) (hk : iC K c) (c__law_cell_at : Cal P w K mg base 1 "_law_cell_at" 2 (aZ K c)) : Cal P w K mg base 2 "_law_cells" 3 (dB K c) := by
 refine kP (k := 1) Df pR rfl (fun f cdv A outer s H E hr => ⟨gP K c, ?_, oF K c⟩)
 exact (aM (bI (jN (xs := ["_law_k"]) (ys := ["_law_script"]) (js := [0]) (cl := [("_law_script", s.heap.objs.size + 1)]) rfl (xM rfl B.range_ (aB (dv 1) (aB (cB (x9 rfl) aEn aDy rfl B.min_ aB1 (aB (dv 2) (aB (cB cN jJ gY rfl B.len_ PySem.boot_len (aB (dv 0) aI)) aI))) aI))) (tH (ys := ["_law_script"]) (js := [0]) rfl (List.forall_mem_cons.mpr ⟨rfl, (fun _ h => nomatch h)⟩) (fP ⟨rfl, .inl rfl, .inl rfl, rfl, rfl⟩ fD) (by decide +kernel) (by decide +kernel)) (fP ⟨rfl, .inl rfl, .inl rfl, rfl, rfl⟩ fD) (by decide +kernel) rfl (by decide +kernel) rfl (by decide) (fun C s₀ H₀ ex pn => (dF (i := 0) (show (["_law_k", "_law_script"] : List Str).Nodup by decide +kernel) rfl (Or.inl rfl))) (fun C s₀ H₀ ex pn => j3) (fun C s₀ H₀ ex pn => (aN c__law_cell_at hr wL (aB (dv 1) (aB (dv 0) aI)))))))
theorem sc__law_divisor : a9 ["_law_a", "_law_b", "_law_rest"] ["_law_a", "_law_b"] (aJ fQ) := ⟨rfl, rfl, rfl, by decide +kernel, rfl, by decide +kernel, by decide +kernel⟩
theorem mJ {c : Cls} (Df : Def K mg "_law_divisor" ["_law_a", "_law_b"] fQ) (B : Blt mg) (C : jU mg c) (O : jM mg base c) (hk : iC K c) : Cal P w K mg base 1 "_law_divisor" 2 (bJ K c) := by
 refine kP (k := 0) Df sc__law_divisor rfl (fun f cdv A outer s H E hr => ⟨gX K c, ?_, lR K c⟩)
 exact (aH (bE (i := 0) sc__law_divisor.nd rfl (Or.inl rfl) (cB lO uQ pM rfl B.abs_ uO (aB (dv 0) aI))) (aH (bE (i := 1) sc__law_divisor.nd rfl (Or.inl rfl) (cB lO uQ pM rfl B.abs_ uO (aB (dv 1) aI))) (aH (uA PassesOwn.leaving (dH sC fT bG (dv 1) aE (cG _)) (aH (bE (i := 2) sc__law_divisor.nd rfl (Or.inl rfl) (aY bV cZ aG (dv 0) (dv 1))) (aH (bE (i := 0) sc__law_divisor.nd rfl (Or.inl rfl) (dv 1)) (aM (bE (i := 1) sc__law_divisor.nd rfl (Or.inl rfl) (dv 2)))))) (aM (bI (dv 0))))))
theorem sc_law : a9 ["_law_script", "_law_kind", "_law_planes_here", "_law_due_here", "_law_point", "_law_handed", "_law_turn", "_law_here"] ["_law_script"] (aJ qD) := ⟨rfl, rfl, rfl, by decide +kernel, rfl, by decide +kernel, by decide +kernel⟩
theorem aFy {c : Cls} {f : Addr} {fd : FuncData} (F : Fun K "law" "law" qD f fd) (B : Blt mg) (C : jU mg c) (O : jM mg base c) (hk : iC K c) (c__law_is_fraction : Cal P w K mg base 2 "_law_is_fraction" 1 (aQ K c)) (c__law_high : Cal P w K mg base 4 "_law_high" 2 (cD K c)) (c_height_at : Cal P w K mg base 5 "height_at" 2 (dW K c)) (c__law_asked : Cal P w K mg base 4 "_law_asked" 2 (b8 K c)) (c__law_number_by : Cal P w K mg base 3 "_law_number_by" 2 (aW K c)) (c__law_cell_at : Cal P w K mg base 1 "_law_cell_at" 2 (aZ K c)) (c__law_due : Cal P w K mg base 2 "_law_due" 1 (eM K c)) (c__law_planes : Cal P w K mg base 4 "_law_planes" 2 (cM K c)) : FnOk P w K mg base (CXr P w) 6 f fd ["_law_script"] (spM K 1 (vW K c)) := by
 refine fnM (k := 5) F sc_law rfl (fun cdv A outer s H E hr => ⟨aCk K c, ?_, aF4 K c⟩)
 exact (aH (bE (i := 1) sc_law.nd rfl (Or.inl rfl) (aN c__law_cell_at hr dG (aB (dv 0) (aB aE aI)))) (aH (bE (i := 2) sc_law.nd rfl (Or.inl rfl) (aN c__law_planes hr dG (aB (dv 0) (aB (dv 1) aI)))) (sG 2 (aH (bE (i := 3) sc_law.nd rfl (Or.inl rfl) (aN c__law_due hr dG (aB (dv 2) aI))) (aH (bE (i := 4) sc_law.nd rfl (Or.inl rfl) (eP (aB (aN c__law_number_by hr dG (aB (aN c__law_cell_at hr dG (aB (dv 0) (aB aE aI))) (aB (aY dA eI aG (dv 1) aE) aI))) (aB (aN c__law_number_by hr dG (aB (aN c__law_cell_at hr dG (aB (dv 0) (aB aE aI))) (aB (aY dA eI aG (dv 1) aE) aI))) aI)))) (aH (bE (i := 5) sc_law.nd rfl (Or.inl rfl) (qA lE wF uB rfl B.list_ nL (aB (dv 2) aI))) (aH (mG PassesOwn.leaving rfl (qJ rfl B.range_ (aB aE aI)) (dF (i := 6) sc_law.nd rfl (Or.inl rfl)) (aM (fJ (DW.t (iZ (iP (fV (aN c__law_asked hr dG (aB (dv 5) (aB (dv 3) aI))))) (iQ (dH (rR (u64 hr)) iG fC (dv 5) (dv 2) (cG _))))) (aM (bI pU)) cA))) (aH (fJ (iP (fV (nH (cv := .type "list") rfl B.isinstance_ (.inl ⟨_, rfl⟩) rfl (dv 3) (i4 (v := .ty "list") rfl B.list_ nL rfl)))) (aM (bI pU)) cA) (aH (bE (i := 7) sc_law.nd rfl (Or.inl rfl) (aN c_height_at hr dG (aB (qA lE wF uB rfl B.list_ nL (aB (dv 3) aI)) (aB (dv 4) aI)))) (aM (bI (aB8 (aN c__law_is_fraction hr dG (aB (dv 7) aI)) (yT (kI (gU (u64 hr)) iG fC (dv 7) (aN c__law_high hr dG (aB (dv 2) (aB (dv 4) aI))) (cG _)))))))))))))))
end
section
variable {P : Program} {w : World} {K : PySem.W.Frag} {mg : Str -> Option Value} {base : Heap}
theorem aC1 : a9 ["a", "b"] ["a", "b"] (aJ uH) := ⟨rfl, rfl, rfl, by decide +kernel, rfl, by decide +kernel, by decide +kernel⟩
theorem aDc {c : Cls} (Df : Def K mg "less" ["a", "b"] uH) (B : Blt mg) (C : jU mg c) (O : jM mg base c) (hk : iC K c) : Cal P w K mg base 1 "less" 2 (iW K c) := by
 refine kP (k := 0) Df aC1 rfl (fun f cdv A outer s H E hr => ⟨xG K c, ?_, aDn K c⟩)
 exact (aM (bI (kI nS fT bG (aY cW eO aG (cI (dv 0) aE (fun _ _ => rfl)) (cI (dv 1) aE (fun _ _ => rfl))) (aY cW eO aG (cI (dv 1) aE (fun _ _ => rfl)) (cI (dv 0) aE (fun _ _ => rfl))) (cG _))))
theorem sc_greatest : a9 ["numbers", "best", "number"] ["numbers"] (aJ jD) := ⟨rfl, rfl, rfl, by decide +kernel, rfl, by decide +kernel, by decide +kernel⟩
theorem tF {c : Cls} (Df : Def K mg "greatest" ["numbers"] jD) (B : Blt mg) (C : jU mg c) (O : jM mg base c) (hk : iC K c) (c_less : Cal P w K mg base 1 "less" 2 (iW K c)) : Cal P w K mg base 2 "greatest" 1 (eJ K c) := by
 refine kP (k := 1) Df sc_greatest rfl (fun f cdv A outer s H E hr => ⟨kR K c, ?_, tN K c⟩)
 exact (aH (bE (i := 1) sc_greatest.nd rfl (Or.inl rfl) (cI (dv 0) aE (fun _ _ => rfl))) (aH (mG PassesOwn.leaving rfl (hZ (dv 0)) (dF (i := 2) sc_greatest.nd rfl (Or.inl rfl)) (aM (fJ (fV (aN c_less hr dG (aB (dv 1) (aB (dv 2) aI)))) (aM (bE (i := 1) sc_greatest.nd rfl (Or.inl rfl) (dv 2))) cA))) (aM (bI (dv 1)))))
theorem jL : a9 ["_law_found"] ["_law_found"] (aJ eC) := ⟨rfl, rfl, rfl, by decide +kernel, rfl, by decide +kernel, by decide +kernel⟩
theorem jX {c : Cls} (Df : Def K mg "_law_is_fraction" ["_law_found"] eC) (B : Blt mg) (C : jU mg c) (O : jM mg base c) (hk : iC K c) (c__law_divisor : Cal P w K mg base 1 "_law_divisor" 2 (bJ K c)) (c__law_whole : Cal P w K mg base 1 "_law_whole" 1 (bH K c)) : Cal P w K mg base 2 "_law_is_fraction" 1 (aQ K c) := by
 refine kP (k := 1) Df jL rfl (fun f cdv A outer s H E hr => ⟨eB K c, ?_, j4 K c hk⟩)
 exact (aH (fJ (DW.t (iZ (iP (fV (nH (cv := .type "tuple") rfl B.isinstance_ (.inl ⟨_, rfl⟩) rfl (dv 0) (i4 (v := .ty "tuple") rfl B.tuple_ uN rfl)))) (iQ (dH (rR (u64 hr)) iG fC (cB cN jJ gY rfl B.len_ PySem.boot_len (aB (dv 0) aI)) aE (cG _))))) (aM (bI pU)) cA) (aH (fJ (DW.t (iZ (iP (fV (aN c__law_whole hr dG (aB (cI (dv 0) aE (fun _ _ => rfl)) aI)))) (iZ (iP (fV (aN c__law_whole hr dG (aB (cI (dv 0) aE (fun _ _ => rfl)) aI)))) (iQ (dH nS fT bG (cI (dv 0) aE (fun _ _ => rfl)) aE (cG _)))))) (aM (bI pU)) cA) (aM (bI (kI (gU (u64 hr)) iG fC (aN c__law_divisor hr dG (aB (cI (dv 0) aE (fun _ _ => rfl)) (aB (cI (dv 0) aE (fun _ _ => rfl)) aI))) aE (cG _))))))
theorem sc__law_marks : a9 ["_law_e", "_law_marks_here"] ["_law_e"] (aJ gT) := ⟨rfl, rfl, rfl, by decide +kernel, rfl, by decide +kernel, by decide +kernel⟩
theorem o4 {c : Cls} (Df : Def K mg "_law_marks" ["_law_e"] gT) (B : Blt mg) (C : jU mg c) (O : jM mg base c) (hk : iC K c) : aGa P w K mg base 1 "_law_marks" 1 (cO K c) := by
 refine aH0 (k := 0) Df sc__law_marks rfl (fun f cdv A outer s H hrq => ⟨iY K c, ?_, pP K c hk⟩)
 exact (aH (bE (i := 1) sc__law_marks.nd rfl (Or.inl rfl) (nJ (aB (gH (cv := .type "ValueError") rfl B.isinstance_ (.inl ⟨_, rfl⟩) rfl (dv 0) (i4 (v := .ty "ValueError") rfl B.ValueError_ pL rfl)) (aB (gH (cv := .ref c.NoFraction) rfl B.isinstance_ (.inr ⟨_, rfl⟩) rfl (dv 0) (gL (v := .ref c.NoFraction) rfl C.mNoFraction rfl)) (aB (gH (cv := .ref c.NoRoof) rfl B.isinstance_ (.inr ⟨_, rfl⟩) rfl (dv 0) (gL (v := .ref c.NoRoof) rfl C.mNoRoof rfl)) aI))))) (aH (bE (i := 1) sc__law_marks.nd rfl (Or.inl rfl) (aY fG gW fF (dv 1) (nJ (aB (gH (cv := .ref c.TooSteep) rfl B.isinstance_ (.inr ⟨_, rfl⟩) rfl (dv 0) (gL (v := .ref c.TooSteep) rfl C.mTooSteep rfl)) (aB (gH (cv := .ref c.TooMany) rfl B.isinstance_ (.inr ⟨_, rfl⟩) rfl (dv 0) (gL (v := .ref c.TooMany) rfl C.mTooMany rfl)) (aB (gH (cv := .ref c.NoNumber) rfl B.isinstance_ (.inr ⟨_, rfl⟩) rfl (dv 0) (gL (v := .ref c.NoNumber) rfl C.mNoNumber rfl)) aI)))))) (aH (bE (i := 1) sc__law_marks.nd rfl (Or.inl rfl) (aY fG gW fF (dv 1) (nJ (aB (gH (cv := .ref c.NoCorner) rfl B.isinstance_ (.inr ⟨_, rfl⟩) rfl (dv 0) (gL (v := .ref c.NoCorner) rfl C.mNoCorner rfl)) (aB (gH (cv := .ref c.NoDealing) rfl B.isinstance_ (.inr ⟨_, rfl⟩) rfl (dv 0) (gL (v := .ref c.NoDealing) rfl C.mNoDealing rfl)) (aB (gH (cv := .ref c.NoRow) rfl B.isinstance_ (.inr ⟨_, rfl⟩) rfl (dv 0) (gL (v := .ref c.NoRow) rfl C.mNoRow rfl)) aI)))))) (aM (bI (aY fG gW fF (dv 1) (nJ (aB (gH (cv := .ref c.NoText) rfl B.isinstance_ (.inr ⟨_, rfl⟩) rfl (dv 0) (gL (v := .ref c.NoText) rfl C.mNoText rfl)) (aB (gH (cv := .ref c.NoName) rfl B.isinstance_ (.inr ⟨_, rfl⟩) rfl (dv 0) (gL (v := .ref c.NoName) rfl C.mNoName rfl)) aI)))))))))
theorem rA : a9 ["_law_at"] ["_law_at"] (aJ iK) := ⟨rfl, rfl, rfl, by decide +kernel, rfl, by decide +kernel, by decide +kernel⟩
theorem rC {c : Cls} (Df : Def K mg "_law_only" ["_law_at"] iK) (B : Blt mg) (C : jU mg c) (O : jM mg base c) (hk : iC K c) : Cal P w K mg base 1 "_law_only" 1 (dX K c) := by
 refine kP (k := 0) Df rA rfl (fun f cdv A outer s H E hr => ⟨jR K c, ?_, qI K c⟩)
 exact (aM (bI (jN (xs := ["_law_k"]) (ys := ["_law_at"]) (js := [0]) (cl := [("_law_at", s.heap.objs.size + 1)]) rfl (qJ rfl B.range_ (aB aE aI)) (tH (ys := ["_law_at"]) (js := [0]) rfl (List.forall_mem_cons.mpr ⟨rfl, (fun _ h => nomatch h)⟩) (fP ⟨rfl, .inl rfl, .inl rfl, rfl, rfl⟩ fD) (by decide +kernel) (by decide +kernel)) (fP ⟨rfl, .inl rfl, .inl rfl, rfl, rfl⟩ fD) (by decide +kernel) rfl (by decide +kernel) rfl (by decide) (fun C s₀ H₀ ex pn => (dF (i := 0) (show (["_law_k", "_law_at"] : List Str).Nodup by decide +kernel) rfl (Or.inl rfl))) (fun C s₀ H₀ ex pn => j3) (fun C s₀ H₀ ex pn => (kI (aF8 rfl) aHh aD8 (dv 0) (eP (aB aE (aB (dv 1) aI))) (by with_unfolding_all rfl))))))
end
section
variable {P : Program} {w : World} {K : PySem.W.Frag} {mg : Str -> Option Value} {base : Heap}
theorem sc_plane_height : a9 ["plane", "point", "along_x", "along_y"] ["plane", "point"] (aJ fO) := ⟨rfl, rfl, rfl, by decide +kernel, rfl, by decide +kernel, by decide +kernel⟩
theorem lS {c : Cls} (Df : Def K mg "plane_height" ["plane", "point"] fO) (B : Blt mg) (C : jU mg c) (O : jM mg base c) (hk : iC K c) (c_plus : Cal P w K mg base 3 "plus" 2 (jI K c)) (c_times : Cal P w K mg base 3 "times" 2 (hU K c)) : Cal P w K mg base 4 "plane_height" 2 (dD K c) := by
 refine kP (k := 3) Df sc_plane_height rfl (fun f cdv A outer s H E hr => ⟨hV K c, ?_, mB K c⟩)
 exact (aH (bE (i := 2) sc_plane_height.nd rfl (Or.inl rfl) (aN c_times hr dG (aB (eP (aB (cI (dv 0) aE (fun _ _ => rfl)) (aB aE aI))) (aB (cI (dv 1) aE (fun _ _ => rfl)) aI)))) (aH (bE (i := 3) sc_plane_height.nd rfl (Or.inl rfl) (aN c_times hr dG (aB (eP (aB (cI (dv 0) aE (fun _ _ => rfl)) (aB aE aI))) (aB (cI (dv 1) aE (fun _ _ => rfl)) aI)))) (aM (bI (aN c_plus hr dG (aB (aN c_plus hr dG (aB (dv 2) (aB (dv 3) aI))) (aB (cI (dv 0) aE (fun _ _ => rfl)) aI)))))))
theorem oI : a9 ["_law_found"] ["_law_found"] (aJ gS) := ⟨rfl, rfl, rfl, by decide +kernel, rfl, by decide +kernel, by decide +kernel⟩
theorem o8 {c : Cls} (Df : Def K mg "_law_whole" ["_law_found"] gS) (B : Blt mg) (C : jU mg c) (O : jM mg base c) (hk : iC K c) : Cal P w K mg base 1 "_law_whole" 1 (bH K c) := by
 refine kP (k := 0) Df oI rfl (fun f cdv A outer s H E hr => ⟨iT K c, ?_, pT K c hk⟩)
 exact (aM (bI (aB8 (nH (cv := .type "int") rfl B.isinstance_ (.inl ⟨_, rfl⟩) rfl (dv 0) (i4 (v := .ty "int") rfl B.int_ aEh rfl)) (yT (aFz (nH (cv := .type "bool") rfl B.isinstance_ (.inl ⟨_, rfl⟩) rfl (dv 0) (i4 (v := .ty "bool") rfl B.bool_ aDq rfl)))))))
theorem sc__law_fraction : a9 ["_law_top", "_law_bottom", "_law_by"] ["_law_top", "_law_bottom"] (aJ fE) := ⟨rfl, rfl, rfl, by decide +kernel, rfl, by decide +kernel, by decide +kernel⟩
theorem lH {c : Cls} (Df : Def K mg "_law_fraction" ["_law_top", "_law_bottom"] fE) (B : Blt mg) (C : jU mg c) (O : jM mg base c) (hk : iC K c) (c__law_divisor : Cal P w K mg base 1 "_law_divisor" 2 (bJ K c)) : Cal P w K mg base 2 "_law_fraction" 2 (aR K c) := by
 refine kP (k := 1) Df sc__law_fraction rfl (fun f cdv A outer s H E hr => ⟨gI K c, ?_, lF K c⟩)
 exact (aH (bE (i := 2) sc__law_fraction.nd rfl (Or.inl rfl) (aN c__law_divisor hr dG (aB (dv 0) (aB (dv 1) aI)))) (aM (bI (eP (aB (aY dA eI aG (dv 0) (dv 2)) (aB (aY dA eI aG (dv 1) (dv 2)) aI))))))
theorem sc__law_high : a9 ["_law_planes_here", "_law_point", "_law_best_so", "_law_i", "_law_j", "_law_high_here", "_law_here"] ["_law_planes_here", "_law_point"] (aJ iJ) := ⟨rfl, rfl, rfl, by decide +kernel, rfl, by decide +kernel, by decide +kernel⟩
theorem qW {c : Cls} (Df : Def K mg "_law_high" ["_law_planes_here", "_law_point"] iJ) (B : Blt mg) (C : jU mg c) (O : jM mg base c) (hk : iC K c) (c__law_below : Cal P w K mg base 1 "_law_below" 2 (bT K c)) (c__law_sum : Cal P w K mg base 3 "_law_sum" 2 (cY K c)) (c__law_taken : Cal P w K mg base 3 "_law_taken" 2 (b7 K c)) : Cal P w K mg base 4 "_law_high" 2 (cD K c) := by
 refine kP (k := 3) Df sc__law_high rfl (fun f cdv A outer s H E hr => ⟨jW K c, ?_, qS K c⟩)
 exact (aH (bE (i := 2) sc__law_high.nd rfl (Or.inl rfl) x2) (aH (mG PassesOwn.leaving rfl (hZ (dv 0)) (rN (n := 3) rfl (eW (dF (i := 3) sc__law_high.nd rfl (Or.inl rfl)) (eW (dF (i := 4) sc__law_high.nd rfl (Or.inl rfl)) (eW (dF (i := 5) sc__law_high.nd rfl (Or.inl rfl)) nI)))) (aH (bE (i := 6) sc__law_high.nd rfl (Or.inl rfl) (aN c__law_sum hr dG (aB (aN c__law_sum hr dG (aB (aN c__law_taken hr dG (aB (cI (dv 1) aE (fun _ _ => rfl)) (aB (dv 3) aI))) (aB (aN c__law_taken hr dG (aB (cI (dv 1) aE (fun _ _ => rfl)) (aB (dv 4) aI))) aI))) (aB (dv 5) aI)))) (aM (fJ (DW.t (iZ (aFh (dv 2)) (iQ (fV (aN c__law_below hr dG (aB (dv 2) (aB (dv 6) aI))))))) (aM (bE (i := 2) sc__law_high.nd rfl (Or.inl rfl) (dv 6))) cA)))) (aM (bI (dv 2)))))
theorem sc__law_asked : a9 ["_law_planes_here", "_law_due_here", "_law_told", "_law_found", "_law_e"] ["_law_planes_here", "_law_due_here"] (aJ gR) := ⟨rfl, rfl, rfl, by decide +kernel, rfl, by decide +kernel, by decide +kernel⟩
theorem pW {c : Cls} (Df : Def K mg "_law_asked" ["_law_planes_here", "_law_due_here"] gR) (B : Blt mg) (C : jU mg c) (O : jM mg base c) (hk : iC K c) (c__law_is_roof : Cal P w K mg base 3 "_law_is_roof" 2 (cH K c)) (c__law_only : Cal P w K mg base 1 "_law_only" 1 (dX K c)) (c_roof_of : Cal P w K mg base 3 "roof_of" 1 (dJ K c)) (c__law_marks : aGa P w K mg base 1 "_law_marks" 1 (cO K c)) : Cal P w K mg base 4 "_law_asked" 2 (b8 K c) := by
 refine kP (k := 3) Df sc__law_asked rfl (fun f cdv A outer s H E hr => ⟨iX K c, ?_, pV K c⟩)
 exact (aH (bE (i := 2) sc__law_asked.nd rfl (Or.inl rfl) x2) (aH (bE (i := 3) sc__law_asked.nd rfl (Or.inl rfl) x2) (aH (aEt (i := 4) rfl rfl sc__law_asked.nd rfl rfl rfl C.mRoofError (fun W pn E hx => (aM (bE (i := 3) sc__law_asked.nd rfl (Or.inl rfl) (aN c_roof_of hr hx (aB (dv 0) aI))))) (fun e => (aM (bE (i := 2) sc__law_asked.nd rfl (Or.inl rfl) (yP c__law_marks (aI3 hr (by decide)) (aB (dv 4) aI)))))) (aH (fJ (iP (fV (nH (cv := .type "list") rfl B.isinstance_ (.inl ⟨_, rfl⟩) rfl (dv 1) (i4 (v := .ty "list") rfl B.list_ nL rfl)))) (aM (bI (kI (gU (u64 hr)) iG fC (dv 2) (aN c__law_only hr dG (aB (dv 1) aI)) (cG _)))) cA) (aH (fJ (DW.t (iZ (aCw (dv 2)) (iQ (iP (fV (aN c__law_is_roof hr dG (aB (dv 3) (aB (dv 1) aI)))))))) (aM (bI pU)) cA) (aH (qP (i := 3) (eP (aB aE (aB aE (aB (eP (aB aE (aB aE aI))) aI)))) (fun t q => zE (aEu PySem.F.plainAttrs_list PySem.F.slot_list_append PySem.F.type_list_append qQ (pv 3) (mT q vG)))) (aM (bI pU))))))))
end
section
variable {P : Program} {w : World} {K : PySem.W.Frag} {mg : Str -> Option Value} {base : Heap}
theorem sc_greatest_divisor : a9 ["a", "b", "larger", "smaller", "rest"] ["a", "b"] (aJ eA) := ⟨rfl, rfl, rfl, by decide +kernel, rfl, by decide +kernel, by decide +kernel⟩
theorem jV {c : Cls} (Df : Def K mg "greatest_divisor" ["a", "b"] eA) (B : Blt mg) (C : jU mg c) (O : jM mg base c) (hk : iC K c) : Cal P w K mg base 1 "greatest_divisor" 2 (bA K c) := by
 refine kP (k := 0) Df sc_greatest_divisor rfl (fun f cdv A outer s H E hr => ⟨fH K c, ?_, jS K c⟩)
 exact (aH (bE (i := 2) sc_greatest_divisor.nd rfl (Or.inl rfl) (cB lO uQ pM rfl B.abs_ uO (aB (dv 0) aI))) (aH (bE (i := 3) sc_greatest_divisor.nd rfl (Or.inl rfl) (cB lO uQ pM rfl B.abs_ uO (aB (dv 1) aI))) (aH (uA PassesOwn.leaving (dH (rR (u64 hr)) iG fC (dv 3) aE (cG _)) (aH (bE (i := 4) sc_greatest_divisor.nd rfl (Or.inl rfl) (aY bV cZ aG (dv 2) (dv 3))) (aH (bE (i := 2) sc_greatest_divisor.nd rfl (Or.inl rfl) (dv 3)) (aM (bE (i := 3) sc_greatest_divisor.nd rfl (Or.inl rfl) (dv 4)))))) (aM (bI (dv 2))))))
theorem aDd : a9 ["a", "b"] ["a", "b"] (aJ tQ) := ⟨rfl, rfl, rfl, by decide +kernel, rfl, by decide +kernel, by decide +kernel⟩
theorem aDs {c : Cls} (Df : Def K mg "plus" ["a", "b"] tQ) (B : Blt mg) (C : jU mg c) (O : jM mg base c) (hk : iC K c) (c_fraction : Cal P w K mg base 2 "fraction" 2 (dO K c)) : Cal P w K mg base 3 "plus" 2 (jI K c) := by
 refine kP (k := 2) Df aDd rfl (fun f cdv A outer s H E hr => ⟨xS K c, ?_, aCm K c⟩)
 exact (aM (bI (aN c_fraction hr dG (aB (aY fG gW fF (aY cW eO aG (cI (dv 0) aE (fun _ _ => rfl)) (cI (dv 1) aE (fun _ _ => rfl))) (aY cW eO aG (cI (dv 1) aE (fun _ _ => rfl)) (cI (dv 0) aE (fun _ _ => rfl)))) (aB (aY cW eO aG (cI (dv 0) aE (fun _ _ => rfl)) (cI (dv 1) aE (fun _ _ => rfl))) aI)))))
theorem sS : a9 ["plane"] ["plane"] (aJ jE) := ⟨rfl, rfl, rfl, by decide +kernel, rfl, by decide +kernel, by decide +kernel⟩
theorem sH {c : Cls} (Df : Def K mg "slope_of" ["plane"] jE) (B : Blt mg) (C : jU mg c) (O : jM mg base c) (hk : iC K c) : Cal P w K mg base 1 "slope_of" 1 (eN K c) := by
 refine kP (k := 0) Df sS rfl (fun f cdv A outer s H E hr => ⟨kQ K c, ?_, sM K c⟩)
 exact (aM (bI (eP (aB (cI (dv 0) aE (fun _ _ => rfl)) (aB (cI (dv 0) aE (fun _ _ => rfl)) aI)))))
theorem sc__law_number_by : a9 ["_law_cell", "_law_kind", "_law_c", "_law_bottom"] ["_law_cell", "_law_kind"] (aJ eY) := ⟨rfl, rfl, rfl, by decide +kernel, rfl, by decide +kernel, by decide +kernel⟩
theorem kX {c : Cls} (Df : Def K mg "_law_number_by" ["_law_cell", "_law_kind"] eY) (B : Blt mg) (C : jU mg c) (O : jM mg base c) (hk : iC K c) (c__law_fraction : Cal P w K mg base 2 "_law_fraction" 2 (aR K c)) : Cal P w K mg base 3 "_law_number_by" 2 (aW K c) := by
 refine kP (k := 2) Df sc__law_number_by rfl (fun f cdv A outer s H E hr => ⟨cX K c, ?_, lB K c⟩)
 exact (aH (bE (i := 2) sc__law_number_by.nd rfl (Or.inl rfl) (aY bV cZ aG (dv 0) (aY mH mF aG aE aE))) (aH (fJ (dH (gU (u64 hr)) iG fC (aY bV cZ aG (dv 1) aE) aE (cG _)) (aM (bI (eP (aB (aY qC rJ bG (aY bV cZ aG (dv 2) aE) aE) (aB aE aI))))) cA) (aH (fJ (dH (gU (u64 hr)) iG fC (aY bV cZ aG (dv 1) aE) aE (cG _)) (aM (bI (aN c__law_fraction hr dG (aB (aY qC rJ bG (aY bV cZ aG (dv 2) aE) aE) (aB (aY fG gW fF aE (aY bV cZ aG (aY dA eI aG (dv 2) aE) aE)) aI))))) cA) (aH (bE (i := 3) sc__law_number_by.nd rfl (Or.inl rfl) (aY fG gW fF aE (aY bV cZ aG (aY cW eO aG (dv 2) aE) (aY mH mF aG aE aE)))) (aM (bI (aN c__law_fraction hr dG (aB (aY qC rJ bG (aY bV cZ aG (aY cW eO aG (dv 2) (aY mH mF aG aE aE)) (aY fG gW fF (aY cW eO aG aE (aY mH mF aG aE aE)) aE)) (aY mH mF aG aE aE)) (aB (dv 3) aI)))))))))
theorem sc__law_is_roof : a9 ["_law_found", "_law_due_here", "_law_plane"] ["_law_found", "_law_due_here"] (aJ fM) := ⟨rfl, rfl, rfl, by decide +kernel, rfl, by decide +kernel, by decide +kernel⟩
theorem lU {c : Cls} (Df : Def K mg "_law_is_roof" ["_law_found", "_law_due_here"] fM) (B : Blt mg) (C : jU mg c) (O : jM mg base c) (hk : iC K c) (c__law_whole : Cal P w K mg base 1 "_law_whole" 1 (bH K c)) (c__law_is_fraction : Cal P w K mg base 2 "_law_is_fraction" 1 (aQ K c)) : Cal P w K mg base 3 "_law_is_roof" 2 (cH K c) := by
 refine kP (k := 2) Df sc__law_is_roof rfl (fun f cdv A outer s H E hr => ⟨iA K c, ?_, nG K c⟩)
 exact (aH (fJ (DW.t (iZ (iP (fV (nH (cv := .type "list") rfl B.isinstance_ (.inl ⟨_, rfl⟩) rfl (dv 0) (i4 (v := .ty "list") rfl B.list_ nL rfl)))) (iQ (dH (rR (u64 hr)) iG fC (cB cN jJ gY rfl B.len_ PySem.boot_len (aB (dv 0) aI)) (cB cN jJ gY rfl B.len_ PySem.boot_len (aB (dv 1) aI)) (cG _))))) (aM (bI pU)) cA) (aH (mG PassesOwn.leaving rfl (hZ (dv 0)) (dF (i := 2) sc__law_is_roof.nd rfl (Or.inl rfl)) (aH (fJ (DW.t (iZ (iP (fV (nH (cv := .type "tuple") rfl B.isinstance_ (.inl ⟨_, rfl⟩) rfl (dv 2) (i4 (v := .ty "tuple") rfl B.tuple_ uN rfl)))) (iZ (dH (rR (u64 hr)) iG fC (cB cN jJ gY rfl B.len_ PySem.boot_len (aB (dv 2) aI)) aE (cG _)) (iQ (iP (fV (aN c__law_is_fraction hr dG (aB (cI (dv 2) aE (fun _ _ => rfl)) aI)))))))) (aM (bI pU)) cA) (aM (fJ (DW.t (iZ (iP (fV (aN c__law_whole hr dG (aB (cI (dv 2) aE (fun _ _ => rfl)) aI)))) (iQ (iP (fV (aN c__law_whole hr dG (aB (cI (dv 2) aE (fun _ _ => rfl)) aI))))))) (aM (bI pU)) cA)))) (aM (bI (kI (gU (u64 hr)) iG fC (dv 0) (dv 1) (cG _))))))
end
theorem zC {K : PySem.W.Frag} {C R : Addr} {cd : ClassData} (r1 : PySem.W.clsIn K R = some cd) (r2 : PySem.W.typeIn K (.ref R) = some (.type "type")) (r3 : PySem.W.subIn K (.ref R) (.type "BaseException") = some true) {b : Bool} (r4 : PySem.W.subIn K (.ref C) (.ref R) = some b) : PySem.W.exmOne K (.ref C) (.ref R) = some b := by
 show (if (PySem.W.subIn K (.ref R) (.type "BaseException") == some true) = true then (if ((PySem.W.clsIn K R).isSome && PySem.W.typeIn K (.ref R) == some (.type "type")) = true then PySem.W.subIn K (.ref C) (.ref R) else none) else none) = some b
 rw [r3, r1, r2, r4]
 rfl
theorem uV {K : PySem.W.Frag} {h₀ : Heap} {mg : Str -> Option Value} {x : Str} {C : Addr} {bmB : List Value} {newId : String} (X : K.In h₀) (G : h₀.Ns mainGlobals mg) (e : PySem.W.nsIn K mainGlobals x = some (some (.ref C))) (q : PySem.W.excIn K C bmB newId = true) : PyProof.Rows.OwnCls x C bmB newId mg h₀ := by
 refine ⟨PySem.W.mg_of X G e, ?_⟩
 unfold PySem.W.excIn at q
 split at q
 ·rename_i d1 cd1 sl1 ho1
  split at q
  ·rename_i C1 bm1 s0 s1 s2 s3 n1 s5 hm1 hs1
   simp only [Bool.and_eq_true, beq_iff_eq, Bool.not_eq_true'] at q
   obtain ⟨⟨⟨⟨⟨rfl, rfl⟩, hdl⟩, htl⟩, hnok⟩, hini⟩ := q
   obtain ⟨c1, c2, c3, c4, c5, c6, c7, c8, c9, c10, c11⟩ := cd1
   dsimp only at hm1 hdl hnok hini
   subst hm1 hdl
   obtain ⟨sll⟩ := sl1
   simp only at hs1
   subst hs1
   exact ⟨bm1, c4, c1, c5, c2, c6, c7, c8, c9, c10, d1, s0, s1, s2, s3, s5, _, X _ _ ho1, .of_isNs (PySem.W.isNs_of_in X hnok), PySem.W.nsMap_none_of_in X hnok hini, PySem.W.tail_of_in X htl⟩
  ·cases q
 ·cases q
theorem mQ {α : Type} {us : List α} (h : us.length = 1) : ∃ a, us = [a] := List.length_eq_one_iff.mp h
theorem iO {α : Type} {us : List α} (h : us.length = 2) : ∃ a b, us = [a, b] := by
 cases us with
 | nil => cases h
 | cons a r => obtain ⟨b, rfl⟩ := mQ (Nat.succ.inj h); exact ⟨a, b, rfl⟩
theorem aGt {α : Type} {us : List α} (h : us.length = 3) : ∃ a b c, us = [a, b, c] := by
 cases us with
 | nil => cases h
 | cons a r => obtain ⟨b, c, rfl⟩ := iO (Nat.succ.inj h); exact ⟨a, b, c, rfl⟩
def xE (K : PySem.W.Frag) : Bool := K.all fun p => match p.2.cls with
 | .type n => !(n == "list")
 | _ => true
theorem lookup_mem {a : Addr} {o : Obj} : ∀ {l : List (Addr × Obj)}, l.lookup a = some o -> (a, o) ∈ l
 | (k, v) :: r, h => by
  unfold List.lookup at h
  split at h
  ·rename_i z
   have e : a = k := by simpa using z
   cases h
   rw [e]
   exact .head _
  ·exact .tail _ (lookup_mem h)
theorem vO {K : PySem.W.Frag} (h : xE K = true) {a : Addr} {o : Obj} (e : K.lookup a = some o) (hc : o.cls = .type "list") : False := by
 have := List.all_eq_true.mp h (a, o) (lookup_mem e)
 dsimp only at this
 rw [hc] at this
 cases this
def aAb : Sp := fun vs H Q _ => ∃ (a : Addr) (ns : List Int), vs = [.ref a] /\ Rd H a (.lst (ns.map V.int)) /\ ns.length <= 63 /\ ∀ H', Q (.bl true) H'
theorem kN {K : PySem.W.Frag} {G : Hp} : ∀ ns : List Int, Reps K G (ns.map V.int) (ns.map PyData.int)
 | [] => .nil
 | i :: r => .cons (.int i) (kN r)
theorem aE7 {P : Program} {w : World} {K : PySem.W.Frag} {mg : Str -> Option Value} {base : Heap} {f : Addr} {fd : FuncData} {c : Cls} (hk : iC K c) (F : FnOk P w K mg base (CXr P w) 6 f fd ["_law_script"] (spM K 1 (vW K c))) : FnOk P w K mg base (CXr P w) 6 f fd ["_law_script"] aAb :=
 F.imp fun vs H Q E h => by
  obtain ⟨a, ns, rfl, rd, hl, hq⟩ := h
  refine ⟨rfl, H, [.p (.list (ns.map .int))], Same.refl _, ⟨.lst rd (kN ns), trivial⟩, ?_⟩
  rw [aFf K c hk ns hl]
  intro G' H' v st r
  cases r
  exact hq H'
structure FnAt (K : PySem.W.Frag) (x : Str) (st : Stmt) (f : Addr) (m : Value) (c : Addr) : Prop where
 a : PySem.W.nsIn K mainGlobals x = some (some (.ref f))
 l : K.lookup f = some ⟨.type "function", none, .func (PySem.W.fnOf x x (fX st) (d8 st) (aJ st) .none .none .none m none (.ref c) .none), #[]⟩
 c : PySem.W.codeIn K (.ref c) x = true
 k : PySem.W.keepIn K (.ref f) = true
theorem FnAt.df {K : PySem.W.Frag} {h : Heap} {mg : Str -> Option Value} {x : Str} {st : Stmt} {f c : Addr} {m : Value} {ps : List Str} (A : FnAt K x st f m c) (X : K.In h) (G : h.Ns mainGlobals mg)
  (hb : ∀ (kV doc pm : Value) (an : Option Addr) (cdv ct : Value) (us : List Value), us.length = ps.length -> bindArgs (PySem.W.fnOf x x (fX st) (d8 st) (aJ st) .none kV doc pm an cdv ct) ⟨us, []⟩ = pure (ps.zip us)) : Def K mg x ps st :=
 have F := aB3 (st := st) A.l A.c A.k
 ⟨_, _, F, F.binds hb, A.k, PySem.W.mg_of X G A.a⟩
theorem all_mk {l : PySem.W.OpenLaw} {w : World} {K : PySem.W.Frag} {h : Heap} {mg : Str -> Option Value} {fa : Addr} {f1 c1 f2 c2 f3 c3 f4 c4 f5 c5 f6 c6 f7 c7 f8 c8 f9 c9 f10 c10 f11 c11 f12 c12 f13 c13 f14 c14 f15 c15 f16 c16 f17 c17 f18 c18 f19 c19 f20 c20 f21 c21 f22 c22 f23 c23 f24 c24 f25 c25 f26 c26 f27 c27 f28 c28 f29 c29 f30 c30 CRoofError CNoFraction CNoRoof CTooSteep CTooMany CNoNumber CNoCorner CNoDealing CNoRow CNoText CNoName : Addr} {tSTEEPEST tMOST_PLANES : Tok} (X : K.In h) (G : h.Ns mainGlobals mg) (hfa : mg "law" = some (.ref fa))
  {m1 m2 m3 m4 m5 m6 m7 m8 m9 m10 m11 m12 m13 m14 m15 m16 m17 m18 m19 m20 m21 m22 m23 m24 m25 m26 m27 m28 m29 m30 : Value}
  (h1 : FnAt K "greatest_divisor" eA f1 m1 c1)
  (h2 : FnAt K "fraction" jF f2 m2 c2)
  (h3 : FnAt K "plus" tQ f3 m3 c3)
  (h4 : FnAt K "times" o7 f4 m4 c4)
  (h5 : FnAt K "less" uH f5 m5 c5)
  (h6 : FnAt K "greatest" jD f6 m6 c6)
  (h7 : FnAt K "slope_of" jE f7 m7 c7)
  (h8 : FnAt K "plane_height" fO f8 m8 c8)
  (h9 : FnAt K "height_at" iH f9 m9 c9)
  (h10 : FnAt K "is_too_steep" fS f10 m10 c10)
  (h11 : FnAt K "highest_by_slope" eF f11 m11 c11)
  (h12 : FnAt K "roof_of" kA f12 m12 c12)
  (h13 : FnAt K "_law_cell_at" fN f13 m13 c13)
  (h14 : FnAt K "_law_cells" gO f14 m14 c14)
  (h15 : FnAt K "_law_whole" gS f15 m15 c15)
  (h16 : FnAt K "_law_divisor" fQ f16 m16 c16)
  (h17 : FnAt K "_law_fraction" fE f17 m17 c17)
  (h18 : FnAt K "_law_is_fraction" eC f18 m18 c18)
  (h19 : FnAt K "_law_sum" i9 f19 m19 c19)
  (h20 : FnAt K "_law_taken" gN f20 m20 c20)
  (h21 : FnAt K "_law_below" gQ f21 m21 c21)
  (h22 : FnAt K "_law_marks" gT f22 m22 c22)
  (h23 : FnAt K "_law_only" iK f23 m23 c23)
  (h24 : FnAt K "_law_number_by" eY f24 m24 c24)
  (h25 : FnAt K "_law_planes" gE f25 m25 c25)
  (h26 : FnAt K "_law_due" jC f26 m26 c26)
  (h27 : FnAt K "_law_high" iJ f27 m27 c27)
  (h28 : FnAt K "_law_is_roof" fM f28 m28 c28)
  (h29 : FnAt K "_law_asked" gR f29 m29 c29)
  (h30 : FnAt K "law" qD f30 m30 c30)
  (z0 : PySem.W.nsIn K mainGlobals "ValueError" = some none)
  (z1 : PySem.W.nsIn K mainGlobals "abs" = some none)
  (z2 : PySem.W.nsIn K mainGlobals "any" = some none)
  (z3 : PySem.W.nsIn K mainGlobals "bool" = some none)
  (z4 : PySem.W.nsIn K mainGlobals "enumerate" = some none)
  (z5 : PySem.W.nsIn K mainGlobals "int" = some none)
  (z6 : PySem.W.nsIn K mainGlobals "isinstance" = some none)
  (z7 : PySem.W.nsIn K mainGlobals "len" = some none)
  (z8 : PySem.W.nsIn K mainGlobals "list" = some none)
  (z9 : PySem.W.nsIn K mainGlobals "max" = some none)
  (z10 : PySem.W.nsIn K mainGlobals "min" = some none)
  (z11 : PySem.W.nsIn K mainGlobals "range" = some none)
  (z12 : PySem.W.nsIn K mainGlobals "sorted" = some none)
  (z13 : PySem.W.nsIn K mainGlobals "tuple" = some none)
  (vSTEEPEST : PySem.W.nsIn K mainGlobals "STEEPEST" = some (some (.int 8 tSTEEPEST)))
  (vMOST_PLANES : PySem.W.nsIn K mainGlobals "MOST_PLANES" = some (some (.int 16 tMOST_PLANES)))
  (nRoofError : PySem.W.nsIn K mainGlobals "RoofError" = some (some (.ref CRoofError)))
  (nNoFraction : PySem.W.nsIn K mainGlobals "NoFraction" = some (some (.ref CNoFraction)))
  (nNoRoof : PySem.W.nsIn K mainGlobals "NoRoof" = some (some (.ref CNoRoof)))
  (nTooSteep : PySem.W.nsIn K mainGlobals "TooSteep" = some (some (.ref CTooSteep)))
  (nTooMany : PySem.W.nsIn K mainGlobals "TooMany" = some (some (.ref CTooMany)))
  (nNoNumber : PySem.W.nsIn K mainGlobals "NoNumber" = some (some (.ref CNoNumber)))
  (nNoCorner : PySem.W.nsIn K mainGlobals "NoCorner" = some (some (.ref CNoCorner)))
  (nNoDealing : PySem.W.nsIn K mainGlobals "NoDealing" = some (some (.ref CNoDealing)))
  (nNoRow : PySem.W.nsIn K mainGlobals "NoRow" = some (some (.ref CNoRow)))
  (nNoText : PySem.W.nsIn K mainGlobals "NoText" = some (some (.ref CNoText)))
  (nNoName : PySem.W.nsIn K mainGlobals "NoName" = some (some (.ref CNoName)))
  (eNoFraction : PySem.W.excIn K CNoFraction [.type "ValueError", .type "Exception", .type "BaseException", .type "object"] "ValueError.__new__" = true)
  (eNoRoof : PySem.W.excIn K CNoRoof [.type "ValueError", .type "Exception", .type "BaseException", .type "object"] "ValueError.__new__" = true)
  (eTooMany : PySem.W.excIn K CTooMany [.type "ValueError", .type "Exception", .type "BaseException", .type "object"] "ValueError.__new__" = true)
  (eTooSteep : PySem.W.excIn K CTooSteep [.type "ValueError", .type "Exception", .type "BaseException", .type "object"] "ValueError.__new__" = true)
  (r1 : (PySem.W.clsIn K CRoofError).isSome = true)
  (r2 : PySem.W.typeIn K (.ref CRoofError) = some (.type "type"))
  (r3 : PySem.W.subIn K (.ref CRoofError) (.type "BaseException") = some true)
  (r4NoRoof : PySem.W.subIn K (.ref CNoRoof) (.ref CRoofError) = some true)
  (y1NoRoof : PySem.W.findIn K (.ref CNoRoof) "__getattribute__" = some (some (.builtin "BaseException.__getattribute__")))
  (y2NoRoof : PySem.W.findIn K (.ref CNoRoof) "__getattr__" = some none)
  (y3NoRoof : PySem.W.findIn K (.ref CNoRoof) "__class__" = some (some (.builtin "object.__class__")))
  (y4NoRoof : PySem.W.mroIn K CNoRoof (.type "object") = some true)
  (y5NoRoof : PySem.W.mroIn K CNoRoof (.type "BaseException") = some true)
  (y6NoRoof : (PySem.W.clsIn K CNoRoof).isSome = true)
  (w0NoRoof : PySem.W.kitOne K (.ref CNoRoof) (.type "ValueError") = some true)
  (w1NoRoof : PySem.W.kitOne K (.ref CNoRoof) (.ref CNoFraction) = some false)
  (w2NoRoof : PySem.W.kitOne K (.ref CNoRoof) (.ref CNoRoof) = some true)
  (w3NoRoof : PySem.W.kitOne K (.ref CNoRoof) (.ref CTooSteep) = some false)
  (w4NoRoof : PySem.W.kitOne K (.ref CNoRoof) (.ref CTooMany) = some false)
  (w5NoRoof : PySem.W.kitOne K (.ref CNoRoof) (.ref CNoNumber) = some false)
  (w6NoRoof : PySem.W.kitOne K (.ref CNoRoof) (.ref CNoCorner) = some false)
  (w7NoRoof : PySem.W.kitOne K (.ref CNoRoof) (.ref CNoDealing) = some false)
  (w8NoRoof : PySem.W.kitOne K (.ref CNoRoof) (.ref CNoRow) = some false)
  (w9NoRoof : PySem.W.kitOne K (.ref CNoRoof) (.ref CNoText) = some false)
  (w10NoRoof : PySem.W.kitOne K (.ref CNoRoof) (.ref CNoName) = some false)
  (r4TooSteep : PySem.W.subIn K (.ref CTooSteep) (.ref CRoofError) = some true)
  (y1TooSteep : PySem.W.findIn K (.ref CTooSteep) "__getattribute__" = some (some (.builtin "BaseException.__getattribute__")))
  (y2TooSteep : PySem.W.findIn K (.ref CTooSteep) "__getattr__" = some none)
  (y3TooSteep : PySem.W.findIn K (.ref CTooSteep) "__class__" = some (some (.builtin "object.__class__")))
  (y4TooSteep : PySem.W.mroIn K CTooSteep (.type "object") = some true)
  (y5TooSteep : PySem.W.mroIn K CTooSteep (.type "BaseException") = some true)
  (y6TooSteep : (PySem.W.clsIn K CTooSteep).isSome = true)
  (w0TooSteep : PySem.W.kitOne K (.ref CTooSteep) (.type "ValueError") = some true)
  (w1TooSteep : PySem.W.kitOne K (.ref CTooSteep) (.ref CNoFraction) = some false)
  (w2TooSteep : PySem.W.kitOne K (.ref CTooSteep) (.ref CNoRoof) = some false)
  (w3TooSteep : PySem.W.kitOne K (.ref CTooSteep) (.ref CTooSteep) = some true)
  (w4TooSteep : PySem.W.kitOne K (.ref CTooSteep) (.ref CTooMany) = some false)
  (w5TooSteep : PySem.W.kitOne K (.ref CTooSteep) (.ref CNoNumber) = some false)
  (w6TooSteep : PySem.W.kitOne K (.ref CTooSteep) (.ref CNoCorner) = some false)
  (w7TooSteep : PySem.W.kitOne K (.ref CTooSteep) (.ref CNoDealing) = some false)
  (w8TooSteep : PySem.W.kitOne K (.ref CTooSteep) (.ref CNoRow) = some false)
  (w9TooSteep : PySem.W.kitOne K (.ref CTooSteep) (.ref CNoText) = some false)
  (w10TooSteep : PySem.W.kitOne K (.ref CTooSteep) (.ref CNoName) = some false)
  (r4TooMany : PySem.W.subIn K (.ref CTooMany) (.ref CRoofError) = some true)
  (y1TooMany : PySem.W.findIn K (.ref CTooMany) "__getattribute__" = some (some (.builtin "BaseException.__getattribute__")))
  (y2TooMany : PySem.W.findIn K (.ref CTooMany) "__getattr__" = some none)
  (y3TooMany : PySem.W.findIn K (.ref CTooMany) "__class__" = some (some (.builtin "object.__class__")))
  (y4TooMany : PySem.W.mroIn K CTooMany (.type "object") = some true)
  (y5TooMany : PySem.W.mroIn K CTooMany (.type "BaseException") = some true)
  (y6TooMany : (PySem.W.clsIn K CTooMany).isSome = true)
  (w0TooMany : PySem.W.kitOne K (.ref CTooMany) (.type "ValueError") = some true)
  (w1TooMany : PySem.W.kitOne K (.ref CTooMany) (.ref CNoFraction) = some false)
  (w2TooMany : PySem.W.kitOne K (.ref CTooMany) (.ref CNoRoof) = some false)
  (w3TooMany : PySem.W.kitOne K (.ref CTooMany) (.ref CTooSteep) = some false)
  (w4TooMany : PySem.W.kitOne K (.ref CTooMany) (.ref CTooMany) = some true)
  (w5TooMany : PySem.W.kitOne K (.ref CTooMany) (.ref CNoNumber) = some false)
  (w6TooMany : PySem.W.kitOne K (.ref CTooMany) (.ref CNoCorner) = some false)
  (w7TooMany : PySem.W.kitOne K (.ref CTooMany) (.ref CNoDealing) = some false)
  (w8TooMany : PySem.W.kitOne K (.ref CTooMany) (.ref CNoRow) = some false)
  (w9TooMany : PySem.W.kitOne K (.ref CTooMany) (.ref CNoText) = some false)
  (w10TooMany : PySem.W.kitOne K (.ref CTooMany) (.ref CNoName) = some false)
  (d1 : CTooSteep ≠ CNoRoof)
  (d2 : CTooMany ≠ CNoRoof)
  (d3 : CTooMany ≠ CTooSteep)
  (xii : PySem.W.kitOne K (.type "int") (.type "int") = some true)
  (xib : PySem.W.kitOne K (.type "int") (.type "bool") = some false)
  (xtt : PySem.W.kitOne K (.type "tuple") (.type "tuple") = some true)
  (xll : PySem.W.kitOne K (.type "list") (.type "list") = some true)
  (xil : PySem.W.kitOne K (.type "int") (.type "list") = some false)
  : ∃ fd : FuncData, (∀ (s : Shared) (v : Value), BindsTo s fd ⟨[v], []⟩ [("_law_script", v)]) /\ ∀ base : Heap, K.In base -> base.Ns mainGlobals mg -> FnOk l.prog w K mg base (CXr l.prog w) 6 fa fd ["_law_script"] aAb := by
 obtain ⟨cdR, r1⟩ := Option.isSome_iff_exists.mp r1
 obtain ⟨cdNoRoof, y6NoRoof⟩ := Option.isSome_iff_exists.mp y6NoRoof
 obtain ⟨cdTooSteep, y6TooSteep⟩ := Option.isSome_iff_exists.mp y6TooSteep
 obtain ⟨cdTooMany, y6TooMany⟩ := Option.isSome_iff_exists.mp y6TooMany
 have e := hfa.symm.trans (PySem.W.mg_of X G h30.a)
 cases e
 have D1 := h1.df (ps := ["a", "b"]) X G (fun _ _ _ _ _ _ us hl => by obtain ⟨_, _, rfl⟩ := iO hl; rfl)
 have D2 := h2.df (ps := ["top", "bottom"]) X G (fun _ _ _ _ _ _ us hl => by obtain ⟨_, _, rfl⟩ := iO hl; rfl)
 have D3 := h3.df (ps := ["a", "b"]) X G (fun _ _ _ _ _ _ us hl => by obtain ⟨_, _, rfl⟩ := iO hl; rfl)
 have D4 := h4.df (ps := ["a", "b"]) X G (fun _ _ _ _ _ _ us hl => by obtain ⟨_, _, rfl⟩ := iO hl; rfl)
 have D5 := h5.df (ps := ["a", "b"]) X G (fun _ _ _ _ _ _ us hl => by obtain ⟨_, _, rfl⟩ := iO hl; rfl)
 have D6 := h6.df (ps := ["numbers"]) X G (fun _ _ _ _ _ _ us hl => by obtain ⟨_, rfl⟩ := mQ hl; rfl)
 have D7 := h7.df (ps := ["plane"]) X G (fun _ _ _ _ _ _ us hl => by obtain ⟨_, rfl⟩ := mQ hl; rfl)
 have D8 := h8.df (ps := ["plane", "point"]) X G (fun _ _ _ _ _ _ us hl => by obtain ⟨_, _, rfl⟩ := iO hl; rfl)
 have D9 := h9.df (ps := ["roof", "point"]) X G (fun _ _ _ _ _ _ us hl => by obtain ⟨_, _, rfl⟩ := iO hl; rfl)
 have D10 := h10.df (ps := ["slope"]) X G (fun _ _ _ _ _ _ us hl => by obtain ⟨_, rfl⟩ := mQ hl; rfl)
 have D11 := h11.df (ps := ["rows"]) X G (fun _ _ _ _ _ _ us hl => by obtain ⟨_, rfl⟩ := mQ hl; rfl)
 have D12 := h12.df (ps := ["planes"]) X G (fun _ _ _ _ _ _ us hl => by obtain ⟨_, rfl⟩ := mQ hl; rfl)
 have D13 := h13.df (ps := ["_law_script", "_law_k"]) X G (fun _ _ _ _ _ _ us hl => by obtain ⟨_, _, rfl⟩ := iO hl; rfl)
 have D14 := h14.df (ps := ["_law_script", "_law_first", "_law_last"]) X G (fun _ _ _ _ _ _ us hl => by obtain ⟨_, _, _, rfl⟩ := aGt hl; rfl)
 have D15 := h15.df (ps := ["_law_found"]) X G (fun _ _ _ _ _ _ us hl => by obtain ⟨_, rfl⟩ := mQ hl; rfl)
 have D16 := h16.df (ps := ["_law_a", "_law_b"]) X G (fun _ _ _ _ _ _ us hl => by obtain ⟨_, _, rfl⟩ := iO hl; rfl)
 have D17 := h17.df (ps := ["_law_top", "_law_bottom"]) X G (fun _ _ _ _ _ _ us hl => by obtain ⟨_, _, rfl⟩ := iO hl; rfl)
 have D18 := h18.df (ps := ["_law_found"]) X G (fun _ _ _ _ _ _ us hl => by obtain ⟨_, rfl⟩ := mQ hl; rfl)
 have D19 := h19.df (ps := ["_law_a", "_law_b"]) X G (fun _ _ _ _ _ _ us hl => by obtain ⟨_, _, rfl⟩ := iO hl; rfl)
 have D20 := h20.df (ps := ["_law_a", "_law_many"]) X G (fun _ _ _ _ _ _ us hl => by obtain ⟨_, _, rfl⟩ := iO hl; rfl)
 have D21 := h21.df (ps := ["_law_a", "_law_b"]) X G (fun _ _ _ _ _ _ us hl => by obtain ⟨_, _, rfl⟩ := iO hl; rfl)
 have D22 := h22.df (ps := ["_law_e"]) X G (fun _ _ _ _ _ _ us hl => by obtain ⟨_, rfl⟩ := mQ hl; rfl)
 have D23 := h23.df (ps := ["_law_at"]) X G (fun _ _ _ _ _ _ us hl => by obtain ⟨_, rfl⟩ := mQ hl; rfl)
 have D24 := h24.df (ps := ["_law_cell", "_law_kind"]) X G (fun _ _ _ _ _ _ us hl => by obtain ⟨_, _, rfl⟩ := iO hl; rfl)
 have D25 := h25.df (ps := ["_law_script", "_law_kind"]) X G (fun _ _ _ _ _ _ us hl => by obtain ⟨_, _, rfl⟩ := iO hl; rfl)
 have D26 := h26.df (ps := ["_law_planes_here"]) X G (fun _ _ _ _ _ _ us hl => by obtain ⟨_, rfl⟩ := mQ hl; rfl)
 have D27 := h27.df (ps := ["_law_planes_here", "_law_point"]) X G (fun _ _ _ _ _ _ us hl => by obtain ⟨_, _, rfl⟩ := iO hl; rfl)
 have D28 := h28.df (ps := ["_law_found", "_law_due_here"]) X G (fun _ _ _ _ _ _ us hl => by obtain ⟨_, _, rfl⟩ := iO hl; rfl)
 have D29 := h29.df (ps := ["_law_planes_here", "_law_due_here"]) X G (fun _ _ _ _ _ _ us hl => by obtain ⟨_, _, rfl⟩ := iO hl; rfl)
 have B : Blt mg := ⟨PySem.W.mg_none_of X G z0, PySem.W.mg_none_of X G z1, PySem.W.mg_none_of X G z2, PySem.W.mg_none_of X G z3, PySem.W.mg_none_of X G z4, PySem.W.mg_none_of X G z5, PySem.W.mg_none_of X G z6, PySem.W.mg_none_of X G z7, PySem.W.mg_none_of X G z8, PySem.W.mg_none_of X G z9, PySem.W.mg_none_of X G z10, PySem.W.mg_none_of X G z11, PySem.W.mg_none_of X G z12, PySem.W.mg_none_of X G z13⟩
 let c : Cls := ⟨CRoofError, CNoFraction, CNoRoof, CTooSteep, CTooMany, CNoNumber, CNoCorner, CNoDealing, CNoRow, CNoText, CNoName⟩
 have C : jU mg c := ⟨PySem.W.mg_of X G nRoofError, PySem.W.mg_of X G nNoFraction, PySem.W.mg_of X G nNoRoof, PySem.W.mg_of X G nTooSteep, PySem.W.mg_of X G nTooMany, PySem.W.mg_of X G nNoNumber, PySem.W.mg_of X G nNoCorner, PySem.W.mg_of X G nNoDealing, PySem.W.mg_of X G nNoRow, PySem.W.mg_of X G nNoText, PySem.W.mg_of X G nNoName⟩
 have MNoRoof : aAg K c CNoRoof 2 := ⟨⟨y1NoRoof, y2NoRoof, y3NoRoof, y4NoRoof, y5NoRoof, by rw [y6NoRoof]; rfl⟩, zC r1 r2 r3 r4NoRoof, w0NoRoof, w1NoRoof, w2NoRoof, w3NoRoof, w4NoRoof, w5NoRoof, w6NoRoof, w7NoRoof, w8NoRoof, w9NoRoof, w10NoRoof⟩
 have MTooSteep : aAg K c CTooSteep 3 := ⟨⟨y1TooSteep, y2TooSteep, y3TooSteep, y4TooSteep, y5TooSteep, by rw [y6TooSteep]; rfl⟩, zC r1 r2 r3 r4TooSteep, w0TooSteep, w1TooSteep, w2TooSteep, w3TooSteep, w4TooSteep, w5TooSteep, w6TooSteep, w7TooSteep, w8TooSteep, w9TooSteep, w10TooSteep⟩
 have MTooMany : aAg K c CTooMany 4 := ⟨⟨y1TooMany, y2TooMany, y3TooMany, y4TooMany, y5TooMany, by rw [y6TooMany]; rfl⟩, zC r1 r2 r3 r4TooMany, w0TooMany, w1TooMany, w2TooMany, w3TooMany, w4TooMany, w5TooMany, w6TooMany, w7TooMany, w8TooMany, w9TooMany, w10TooMany⟩
 have hk : iC K c := by
  refine ⟨xii, xib, xtt, xll, xil, fun D n h => ?_, d1, d2, d3⟩
  unfold sN at h
  split at h
  ·rename_i z; cases h; rw [z]; exact MNoRoof
  ·split at h
   ·rename_i z; cases h; rw [z]; exact MTooSteep
   ·split at h
    ·rename_i z; cases h; rw [z]; exact MTooMany
    ·cases h
 refine ⟨PySem.W.fnOf "law" "law" (fX qD) (d8 qD) (aJ qD) .none .none .none m30 none (.ref c30) .none, fun s v => .of_eq rfl, fun base kb nb => ?_⟩
 have O : jM mg base c := ⟨uV kb nb nNoFraction eNoFraction, uV kb nb nNoRoof eNoRoof, uV kb nb nTooMany eTooMany, uV kb nb nTooSteep eTooSteep⟩
 have G1 : Cal l.prog w K mg base 1 "greatest_divisor" 2 (bA K c) := jV D1 B C O hk
 have G5 : Cal l.prog w K mg base 1 "less" 2 (iW K c) := aDc D5 B C O hk
 have G7 : Cal l.prog w K mg base 1 "slope_of" 1 (eN K c) := sH D7 B C O hk
 have G10 : Cal l.prog w K mg base 1 "is_too_steep" 1 (cP K c) := nN D10 B C O hk (PySem.W.mg_of X G vSTEEPEST)
 have G13 : Cal l.prog w K mg base 1 "_law_cell_at" 2 (aZ K c) := mP D13 B C O hk
 have G15 : Cal l.prog w K mg base 1 "_law_whole" 1 (bH K c) := o8 D15 B C O hk
 have G16 : Cal l.prog w K mg base 1 "_law_divisor" 2 (bJ K c) := mJ D16 B C O hk
 have G21 : Cal l.prog w K mg base 1 "_law_below" 2 (bT K c) := pK D21 B C O hk
 have G22 : aGa l.prog w K mg base 1 "_law_marks" 1 (cO K c) := o4 D22 B C O hk
 have G23 : Cal l.prog w K mg base 1 "_law_only" 1 (dX K c) := rC D23 B C O hk
 have G2 : Cal l.prog w K mg base 2 "fraction" 2 (dO K c) := tK D2 B C O hk G1
 have G6 : Cal l.prog w K mg base 2 "greatest" 1 (eJ K c) := tF D6 B C O hk G5
 have G11 : Cal l.prog w K mg base 2 "highest_by_slope" 1 (bY K c) := jZ D11 B C O hk G5
 have G14 : Cal l.prog w K mg base 2 "_law_cells" 3 (dB K c) := oP D14 B C O hk G13
 have G17 : Cal l.prog w K mg base 2 "_law_fraction" 2 (aR K c) := lH D17 B C O hk G16
 have G18 : Cal l.prog w K mg base 2 "_law_is_fraction" 1 (aQ K c) := jX D18 B C O hk G16 G15
 have G26 : Cal l.prog w K mg base 2 "_law_due" 1 (eM K c) := s8 D26 B C O hk G21
 have G3 : Cal l.prog w K mg base 3 "plus" 2 (jI K c) := aDs D3 B C O hk G2
 have G4 : Cal l.prog w K mg base 3 "times" 2 (hU K c) := aAh D4 B C O hk G2
 have G12 : Cal l.prog w K mg base 3 "roof_of" 1 (dJ K c) := vI D12 B C O hk G11 G7 G10 (PySem.W.mg_of X G vMOST_PLANES)
 have G19 : Cal l.prog w K mg base 3 "_law_sum" 2 (cY K c) := sA D19 B C O hk G17
 have G20 : Cal l.prog w K mg base 3 "_law_taken" 2 (b7 K c) := pA D20 B C O hk G17
 have G24 : Cal l.prog w K mg base 3 "_law_number_by" 2 (aW K c) := kX D24 B C O hk G17
 have G28 : Cal l.prog w K mg base 3 "_law_is_roof" 2 (cH K c) := lU D28 B C O hk G15 G18
 have G8 : Cal l.prog w K mg base 4 "plane_height" 2 (dD K c) := lS D8 B C O hk G3 G4
 have G25 : Cal l.prog w K mg base 4 "_law_planes" 2 (cM K c) := nR D25 B C O hk G14 G24
 have G27 : Cal l.prog w K mg base 4 "_law_high" 2 (cD K c) := qW D27 B C O hk G21 G19 G20
 have G29 : Cal l.prog w K mg base 4 "_law_asked" 2 (b8 K c) := pW D29 B C O hk G28 G23 G12 G22
 have G9 : Cal l.prog w K mg base 5 "height_at" 2 (dW K c) := p7 D9 B C O hk G6 G8
 exact aE7 hk (aFy (aB3 (st := qD) h30.l h30.c h30.k) B C O hk G18 G27 G9 G29 G24 G13 G26 G25)
theorem walk {l : PySem.W.OpenLaw} {q : Program} {loose : List Str} {XP : (Str -> Option Value) -> Heap -> Prop} {YP : World -> Heap -> Prop} {d : DefRec} {K : Params -> PySem.W.Frag} (hn : l.most = some 63) (hdf : d.params.defaults = [])
  (hY : ∀ (w : World) (h : Heap), YP w h -> (K w.params).In h) (hK : ∀ w : World, xE (K w.params) = true)
  (F : ∀ (w : World) (mg : Str -> Option Value) (fa : Addr) (h : Heap), (K w.params).In h -> h.Ns mainGlobals mg -> mg d.name = some (.ref fa) ->
   ∃ fd : FuncData, (∀ (s : Shared) (u : Value), BindsTo s fd ⟨[u], []⟩ [("_law_script", u)]) /\ ∀ base : Heap, (K w.params).In base -> base.Ns mainGlobals mg -> FnOk l.prog w (K w.params) mg base (CXr l.prog w) 6 fa fd ["_law_script"] aAb) :
  PySem.W.WalkO q loose XP YP l.row.toRowW d [] (fun f vs => PySem.call f vs) :=
 L2.aDm (n := 63) (k := 6) (x := "_law_script") (CX := fun w => CXr l.prog w) (sp := fun _ => aAb) hn (by decide) hdf ⟨rfl, by decide, by decide⟩ hY F (fun w _ a ns hl _ hS => ⟨a, ns, rfl, hS.elim id (fun ⟨_, _, _, e, hc, _⟩ => (vO (hK w) e hc).elim), hl, fun _ => rfl⟩) fun _ _ _ _ _ ⟨_, _, _, _, _, _, _, z⟩ => z
end My
namespace Hd
open PySem PySem.W PyProof.Rows L2 My
abbrev pr : Program := PySem.Challenge.pw_creasecurve_k03_roofs_made
def sub (i j : Nat) : Stmt := match top i with
 | .ClassDef (body := b) .. => b.getD j (.Pass ⟨0, 0, 0, 0⟩)
 | _ => .Pass ⟨0, 0, 0, 0⟩
noncomputable def vs (s : String) (t : Nat) : Value := .str (Str.ofString s) t
noncomputable def en (P : Params) (s : String) (t : Nat) (v : Value) : DictEntry := ⟨PyData.keyHash P (Str.ofString s), .str (Str.ofString s) t, v⟩
noncomputable def fd (n q : String) (a : Arguments) (b : FuncBody) (s : Scope) (g : Nat) (c : List (Str × Nat)) (d k dc m : Value) (an : Option Nat) (co ct : Value) (bl : Nat) : FuncData := ⟨Str.ofString n, Str.ofString q, a, b, s, g, c, d, k, dc, m, an, co, ct, bl⟩
noncomputable def pE (e : DictEntry) : Obj -> Obj
 | ⟨c, d, .dict es n, s⟩ => ⟨c, d, .dict (es.push e) (n + 1), s⟩
 | o => o
noncomputable def rE (i : Nat) (v : Value) : Obj -> Obj
 | ⟨c, d, .dict es n, s⟩ => ⟨c, d, .dict (es.modify i fun e => ⟨e.hash, e.key, v⟩) n, s⟩
 | o => o
noncomputable def pF (vs : List Value) : Obj -> Obj
 | ⟨c, d, .fields xs, s⟩ => ⟨c, d, .fields (xs ++ vs.toArray), s⟩
 | o => o
noncomputable def tu (xs : List Value) : Obj := ⟨.type "tuple", none, .seq xs.toArray 0, #[]⟩
noncomputable def fl (xs : List Value) : Obj := ⟨.none, none, .fields xs.toArray, #[]⟩
noncomputable def fo (i : Nat) (nm : String) (g : Nat) (m co c : Value) : Obj := ⟨c, none, .func (fd nm nm (fX (top i)) (.stmts (d8 (top i))) (aJ (top i)) g [] .none .none .none m none co .none 0), #[]⟩
noncomputable def co (nm : String) (t u l k a c : Nat) (v x : Value) (f : Nat) : Obj := ⟨.type "code", none, .fields #[vs nm t, vs nm (t + 1), vs "/claim/cut.py" (t + 2), .int l 0, .int k 0, .int 0 0, .int 0 0, .int 3 0, .ref a, .bool true, .int 181 0, .ref c, .none, v, x, .ref f, .int u 0, .int l 0, vs "/claim/cut.py" (u + 1)], #[]⟩
noncomputable def vL (t : Nat) : List String -> List Value
 | [] => []
 | s :: r => vs s t :: vL (t + 1) r
noncomputable def d7 (P : Params) (i : Nat) (nm : String) (m : Value) (l k : Nat) (vn : List String) (n t u : Nat) (T : BT) : BT := ((((((((T.set 3 (pE (en P nm (u + 2) (.ref (n + 6))))).set 12 (pF [.int l 0, .int 0 0, .ref (n + 5)])).ins n (tu [])).ins (n + 1) (fl [])).ins (n + 2) (tu (vL (t + 3) vn))).ins (n + 3) (tu [])).ins (n + 4) (fo i nm 0 .none .none .none)).ins (n + 5) (co nm t u l k n (n + 1) (.ref (n + 2)) (.ref (n + 3)) (n + 4))).ins (n + 6) (fo i nm 3 m (.ref (n + 5)) (.type "function"))
noncomputable def d5 (P : Params) (i : Nat) (nm : String) (m : Value) (l k n t u : Nat) (T : BT) : BT := ((((((T.set 3 (pE (en P nm (u + 2) (.ref (n + 4))))).set 12 (pF [.int l 0, .int 0 0, .ref (n + 3)])).ins n (tu [])).ins (n + 1) (fl [])).ins (n + 2) (fo i nm 0 .none .none .none)).ins (n + 3) (co nm t u l k n (n + 1) .none .none (n + 2))).ins (n + 4) (fo i nm 3 m (.ref (n + 3)) (.type "function"))
noncomputable def rX : Env := { scope := pr.main.scope, locals := mainNs, globals := mainNs, cells := [], code := (.ref 13), frame := some 14 }
noncomputable def cE : Code := .body (behindTheImports pr) rX
noncomputable def ol (P : Params) : List Obj := [boot_o_0 P, boot_o_1 P, boot_o_2 P, boot_o_3 P, boot_o_4 P, boot_o_5 P, boot_o_6 P, boot_o_7 P, boot_o_8 P, boot_o_9 P, boot_o_10 P, (⟨(.type "tuple"), none, (.seq #[] 0), #[]⟩ : Obj), (⟨.none, none, (.fields #[]), #[]⟩ : Obj), (⟨(.type "code"), none, (.fields #[(vs "<module>" 182), (vs "<module>" 183), (vs "/claim/cut.py" 184), (.int 1 0), (.int 0 0), (.int 0 0), (.int 0 0), (.int 0 0), (.ref 11), (.bool false), (.int 181 0), (.ref 12), .none, .none, .none, .none, (.int 185 0), (.int 1 0), (vs "/claim/cut.py" 186)]), #[]⟩ : Obj), (⟨(.type "frame"), none, .plain, #[(some (.ref 13)), (some (.ref 3)), (some (.ref 3)), none, (some (vs "__main__" 164)), none, (some (.ref 0))]⟩ : Obj)]
noncomputable def bt : Nat -> List Obj -> BT -> BT
 | _, [], T => T
 | i, o :: r, T => bt (i + 1) r (T.ins i o)
noncomputable def t0 (P : Params) : BT := bt 0 (ol P) .nil
noncomputable abbrev sT (t : Params -> BT) (n k : Nat) (w : World) (os : OsState) : SharedT := ⟨t w.params, n, {}, ⟨[]⟩, boot_drawn, k, os⟩
abbrev B : List Frame := [topFrame ⟨0, 0, 0, 0⟩]
theorem aD1 (w : World) : (fun os => topGo treeTable pr w 11 (some (.ref 6)) 12 ⟨boot_heap w.params, ⟨[]⟩, boot_drawn, boot_toks, os⟩ (topStub pr)) = (fun os => some ((⟨⟨⟨ol w.params⟩, {}⟩, ⟨[]⟩, boot_drawn, 187, os⟩ : Shared), ⟨denote treeTable cE, cE, ⟨0, 0, 0, 0⟩, B⟩)) := by
 rw [PySem.W.Fast.te15667345088766844465, PySem.W.Fast.te14364793385576792824, PySem.W.Fast.te11892475500146522536]
 kernel_rfl
theorem aEk (w : World) : (fun os => segRun treeTable pr w 11 (some (.ref 6)) 1 1 ⟨⟨⟨ol w.params⟩, {}⟩, ⟨[]⟩, boot_drawn, 187, os⟩ (blockOf (behindTheImports pr) rX cE ⟨0, 0, 0, 0⟩ B)) = (fun os => some (.next, (sT t0 15 187 w os).abs, cE, ⟨0, 0, 0, 0⟩)) := by
 rw [PySem.W.Fast.te14374325043358763698, PySem.W.Fast.te14364793385576792824]
 kernel_rfl
noncomputable def t1 (P : Params) : BT :=
 (t0 P) |>
 (fun T => T.set 3 (rE 0 (vs "creasecurve.errors" 187))) |>
 (fun T => T.set 3 (pE (en P "RoofError" 206 (.ref 24)))) |>
 (fun T => T.set 12 (pF [(.int 2 0), (.int 0 0), (.ref 20)])) |>
 (fun T => T.ins 15 (tu [(.type "ValueError")])) |>
 (fun T => T.ins 16 ⟨(.type "builtin_function_or_method"), none, (.fields #[(.builtin "type.__prepare__"), (.type "type")]), #[]⟩) |>
 (fun T => T.ins 17 ⟨(.type "dict"), none, (.dict #[en P "__module__" 196 (vs "creasecurve.errors" 187), en P "__qualname__" 198 (vs "RoofError" 197), en P "__firstlineno__" 200 (.int 2 199), en P "__static_attributes__" 201 (.ref 22)] 4), #[]⟩) |>
 (fun T => T.ins 18 (tu [])) |>
 (fun T => T.ins 19 (fl [])) |>
 (fun T => T.ins 20 ⟨(.type "code"), none, (.fields #[(vs "RoofError" 191), (vs "RoofError" 192), (vs "/claim/cut.py" 193), (.int 2 0), (.int 0 0), (.int 0 0), (.int 0 0), (.int 0 0), (.ref 18), (.bool false), (.int 181 0), (.ref 19), .none, .none, .none, .none, (.int 194 0), (.int 2 0), (vs "/claim/cut.py" 195)]), #[]⟩) |>
 (fun T => T.ins 21 ⟨(.type "frame"), none, .plain, #[(some (.ref 20)), (some (.ref 3)), (some (.ref 17)), none, (some (vs "creasecurve.errors" 187)), none, (some (.ref 0))]⟩) |>
 (fun T => T.ins 22 (tu [])) |>
 (fun T => T.ins 23 ⟨(.type "dict"), none, (.dict #[en P "__module__" 196 (vs "creasecurve.errors" 187), en P "__firstlineno__" 200 (.int 2 199), en P "__static_attributes__" 201 (.ref 22), en P "__weakref__" 203 (.ref 25), en P "__doc__" 204 .none] 3), #[]⟩) |>
 (fun T => T.ins 24 ⟨(.type "type"), none, (.cls ⟨"RoofError", [(.type "ValueError")], [(.ref 24), (.type "ValueError"), (.type "Exception"), (.type "BaseException"), (.type "object")], 23, "RoofError", true, [], [], false, none, false⟩), #[(some (.ref 15)), none, (some (vs "RoofError" 189)), (some (vs "RoofError" 197)), (some (.builtin "ValueError.__new__")), (some (.bool true))]⟩) |>
 (fun T => T.ins 25 ⟨(.type "getset_descriptor"), none, (.fields #[(vs "__weakref__" 202), (.ref 24), (.builtin "ExceptionGroup.__weakref__"), .none]), #[]⟩) |>
 (fun T => T.ins 26 ⟨(.type "super"), none, (.fields #[(.ref 24), (.ref 24), (.ref 24)]), #[]⟩) |>
 (fun T => T.ins 27 ⟨(.type "builtin_function_or_method"), none, (.fields #[(.builtin "object.__init_subclass__"), (.ref 24)]), #[]⟩)
noncomputable def g0 : List Stmt := [top 0, top 1]
theorem hg0 (w : World) : (fun os => segRunT treeTable pr w 11 (some (.ref 6)) 1 196 (sT t0 15 187 w os) (piecesOf g0 rX cE ⟨0, 0, 0, 0⟩ B)) = (fun os => some (.next, sT t1 28 207 w os, cE, ⟨2, 0, 3, 8⟩)) := by
 rw [PySem.W.Fast.te10110043849684766642, PySem.W.Fast.te14364793385576792824]
 kernel_rfl
noncomputable def t2 (P : Params) : BT :=
 (t1 P) |>
 (fun T => T.set 3 (pE (en P "NoFraction" 222 (.ref 37)))) |>
 (fun T => T.set 12 (pF [(.int 4 0), (.int 0 0), (.ref 33)])) |>
 (fun T => T.set 24 (fun _ => ⟨(.type "type"), none, (.cls ⟨"RoofError", [(.type "ValueError")], [(.ref 24), (.type "ValueError"), (.type "Exception"), (.type "BaseException"), (.type "object")], 23, "RoofError", true, [], [(.ref 37)], false, none, false⟩), #[(some (.ref 15)), none, (some (vs "RoofError" 189)), (some (vs "RoofError" 197)), (some (.builtin "ValueError.__new__")), (some (.bool true))]⟩)) |>
 (fun T => T.ins 28 (tu [(.ref 24)])) |>
 (fun T => T.ins 29 ⟨(.type "builtin_function_or_method"), none, (.fields #[(.builtin "type.__prepare__"), (.type "type")]), #[]⟩) |>
 (fun T => T.ins 30 ⟨(.type "dict"), none, (.dict #[en P "__module__" 214 (vs "creasecurve.errors" 187), en P "__qualname__" 216 (vs "NoFraction" 215), en P "__firstlineno__" 218 (.int 4 217), en P "__static_attributes__" 219 (.ref 35)] 4), #[]⟩) |>
 (fun T => T.ins 31 (tu [])) |>
 (fun T => T.ins 32 (fl [])) |>
 (fun T => T.ins 33 ⟨(.type "code"), none, (.fields #[(vs "NoFraction" 209), (vs "NoFraction" 210), (vs "/claim/cut.py" 211), (.int 4 0), (.int 0 0), (.int 0 0), (.int 0 0), (.int 0 0), (.ref 31), (.bool false), (.int 181 0), (.ref 32), .none, .none, .none, .none, (.int 212 0), (.int 4 0), (vs "/claim/cut.py" 213)]), #[]⟩) |>
 (fun T => T.ins 34 ⟨(.type "frame"), none, .plain, #[(some (.ref 33)), (some (.ref 3)), (some (.ref 30)), none, (some (vs "creasecurve.errors" 187)), none, (some (.ref 0))]⟩) |>
 (fun T => T.ins 35 (tu [])) |>
 (fun T => T.ins 36 ⟨(.type "dict"), none, (.dict #[en P "__module__" 214 (vs "creasecurve.errors" 187), en P "__firstlineno__" 218 (.int 4 217), en P "__static_attributes__" 219 (.ref 35), en P "__doc__" 220 .none] 2), #[]⟩) |>
 (fun T => T.ins 37 ⟨(.type "type"), none, (.cls ⟨"NoFraction", [(.ref 24)], [(.ref 37), (.ref 24), (.type "ValueError"), (.type "Exception"), (.type "BaseException"), (.type "object")], 36, "NoFraction", true, [], [], false, none, false⟩), #[(some (.ref 28)), none, (some (vs "NoFraction" 207)), (some (vs "NoFraction" 215)), (some (.builtin "ValueError.__new__")), (some (.bool true))]⟩) |>
 (fun T => T.ins 38 ⟨(.type "super"), none, (.fields #[(.ref 37), (.ref 37), (.ref 37)]), #[]⟩) |>
 (fun T => T.ins 39 ⟨(.type "builtin_function_or_method"), none, (.fields #[(.builtin "object.__init_subclass__"), (.ref 37)]), #[]⟩)
noncomputable def g1 : List Stmt := [top 2]
theorem hg1 (w : World) : (fun os => segRunT treeTable pr w 11 (some (.ref 6)) 1 214 (sT t1 28 207 w os) (piecesOf g1 rX cE ⟨2, 0, 3, 8⟩ B)) = (fun os => some (.next, sT t2 40 223 w os, cE, ⟨4, 0, 5, 8⟩)) := by
 rw [PySem.W.Fast.te10110043849684766642, PySem.W.Fast.te14364793385576792824]
 kernel_rfl
noncomputable def t3 (P : Params) : BT :=
 (t2 P) |>
 (fun T => T.set 3 (pE (en P "NoRoof" 238 (.ref 49)))) |>
 (fun T => T.set 12 (pF [(.int 6 0), (.int 0 0), (.ref 45)])) |>
 (fun T => T.set 24 (fun _ => ⟨(.type "type"), none, (.cls ⟨"RoofError", [(.type "ValueError")], [(.ref 24), (.type "ValueError"), (.type "Exception"), (.type "BaseException"), (.type "object")], 23, "RoofError", true, [], [(.ref 37), (.ref 49)], false, none, false⟩), #[(some (.ref 15)), none, (some (vs "RoofError" 189)), (some (vs "RoofError" 197)), (some (.builtin "ValueError.__new__")), (some (.bool true))]⟩)) |>
 (fun T => T.ins 40 (tu [(.ref 24)])) |>
 (fun T => T.ins 41 ⟨(.type "builtin_function_or_method"), none, (.fields #[(.builtin "type.__prepare__"), (.type "type")]), #[]⟩) |>
 (fun T => T.ins 42 ⟨(.type "dict"), none, (.dict #[en P "__module__" 230 (vs "creasecurve.errors" 187), en P "__qualname__" 232 (vs "NoRoof" 231), en P "__firstlineno__" 234 (.int 6 233), en P "__static_attributes__" 235 (.ref 47)] 4), #[]⟩) |>
 (fun T => T.ins 43 (tu [])) |>
 (fun T => T.ins 44 (fl [])) |>
 (fun T => T.ins 45 ⟨(.type "code"), none, (.fields #[(vs "NoRoof" 225), (vs "NoRoof" 226), (vs "/claim/cut.py" 227), (.int 6 0), (.int 0 0), (.int 0 0), (.int 0 0), (.int 0 0), (.ref 43), (.bool false), (.int 181 0), (.ref 44), .none, .none, .none, .none, (.int 228 0), (.int 6 0), (vs "/claim/cut.py" 229)]), #[]⟩) |>
 (fun T => T.ins 46 ⟨(.type "frame"), none, .plain, #[(some (.ref 45)), (some (.ref 3)), (some (.ref 42)), none, (some (vs "creasecurve.errors" 187)), none, (some (.ref 0))]⟩) |>
 (fun T => T.ins 47 (tu [])) |>
 (fun T => T.ins 48 ⟨(.type "dict"), none, (.dict #[en P "__module__" 230 (vs "creasecurve.errors" 187), en P "__firstlineno__" 234 (.int 6 233), en P "__static_attributes__" 235 (.ref 47), en P "__doc__" 236 .none] 2), #[]⟩) |>
 (fun T => T.ins 49 ⟨(.type "type"), none, (.cls ⟨"NoRoof", [(.ref 24)], [(.ref 49), (.ref 24), (.type "ValueError"), (.type "Exception"), (.type "BaseException"), (.type "object")], 48, "NoRoof", true, [], [], false, none, false⟩), #[(some (.ref 40)), none, (some (vs "NoRoof" 223)), (some (vs "NoRoof" 231)), (some (.builtin "ValueError.__new__")), (some (.bool true))]⟩) |>
 (fun T => T.ins 50 ⟨(.type "super"), none, (.fields #[(.ref 49), (.ref 49), (.ref 49)]), #[]⟩) |>
 (fun T => T.ins 51 ⟨(.type "builtin_function_or_method"), none, (.fields #[(.builtin "object.__init_subclass__"), (.ref 49)]), #[]⟩)
noncomputable def g2 : List Stmt := [top 3]
theorem hg2 (w : World) : (fun os => segRunT treeTable pr w 11 (some (.ref 6)) 1 214 (sT t2 40 223 w os) (piecesOf g2 rX cE ⟨4, 0, 5, 8⟩ B)) = (fun os => some (.next, sT t3 52 239 w os, cE, ⟨6, 0, 7, 8⟩)) := by
 rw [PySem.W.Fast.te10110043849684766642, PySem.W.Fast.te14364793385576792824]
 kernel_rfl
noncomputable def t4 (P : Params) : BT :=
 (t3 P) |>
 (fun T => T.set 3 (pE (en P "TooSteep" 254 (.ref 61)))) |>
 (fun T => T.set 12 (pF [(.int 8 0), (.int 0 0), (.ref 57)])) |>
 (fun T => T.set 24 (fun _ => ⟨(.type "type"), none, (.cls ⟨"RoofError", [(.type "ValueError")], [(.ref 24), (.type "ValueError"), (.type "Exception"), (.type "BaseException"), (.type "object")], 23, "RoofError", true, [], [(.ref 37), (.ref 49), (.ref 61)], false, none, false⟩), #[(some (.ref 15)), none, (some (vs "RoofError" 189)), (some (vs "RoofError" 197)), (some (.builtin "ValueError.__new__")), (some (.bool true))]⟩)) |>
 (fun T => T.ins 52 (tu [(.ref 24)])) |>
 (fun T => T.ins 53 ⟨(.type "builtin_function_or_method"), none, (.fields #[(.builtin "type.__prepare__"), (.type "type")]), #[]⟩) |>
 (fun T => T.ins 54 ⟨(.type "dict"), none, (.dict #[en P "__module__" 246 (vs "creasecurve.errors" 187), en P "__qualname__" 248 (vs "TooSteep" 247), en P "__firstlineno__" 250 (.int 8 249), en P "__static_attributes__" 251 (.ref 59)] 4), #[]⟩) |>
 (fun T => T.ins 55 (tu [])) |>
 (fun T => T.ins 56 (fl [])) |>
 (fun T => T.ins 57 ⟨(.type "code"), none, (.fields #[(vs "TooSteep" 241), (vs "TooSteep" 242), (vs "/claim/cut.py" 243), (.int 8 0), (.int 0 0), (.int 0 0), (.int 0 0), (.int 0 0), (.ref 55), (.bool false), (.int 181 0), (.ref 56), .none, .none, .none, .none, (.int 244 0), (.int 8 0), (vs "/claim/cut.py" 245)]), #[]⟩) |>
 (fun T => T.ins 58 ⟨(.type "frame"), none, .plain, #[(some (.ref 57)), (some (.ref 3)), (some (.ref 54)), none, (some (vs "creasecurve.errors" 187)), none, (some (.ref 0))]⟩) |>
 (fun T => T.ins 59 (tu [])) |>
 (fun T => T.ins 60 ⟨(.type "dict"), none, (.dict #[en P "__module__" 246 (vs "creasecurve.errors" 187), en P "__firstlineno__" 250 (.int 8 249), en P "__static_attributes__" 251 (.ref 59), en P "__doc__" 252 .none] 2), #[]⟩) |>
 (fun T => T.ins 61 ⟨(.type "type"), none, (.cls ⟨"TooSteep", [(.ref 24)], [(.ref 61), (.ref 24), (.type "ValueError"), (.type "Exception"), (.type "BaseException"), (.type "object")], 60, "TooSteep", true, [], [], false, none, false⟩), #[(some (.ref 52)), none, (some (vs "TooSteep" 239)), (some (vs "TooSteep" 247)), (some (.builtin "ValueError.__new__")), (some (.bool true))]⟩) |>
 (fun T => T.ins 62 ⟨(.type "super"), none, (.fields #[(.ref 61), (.ref 61), (.ref 61)]), #[]⟩) |>
 (fun T => T.ins 63 ⟨(.type "builtin_function_or_method"), none, (.fields #[(.builtin "object.__init_subclass__"), (.ref 61)]), #[]⟩)
noncomputable def g3 : List Stmt := [top 4]
theorem hg3 (w : World) : (fun os => segRunT treeTable pr w 11 (some (.ref 6)) 1 214 (sT t3 52 239 w os) (piecesOf g3 rX cE ⟨6, 0, 7, 8⟩ B)) = (fun os => some (.next, sT t4 64 255 w os, cE, ⟨8, 0, 9, 8⟩)) := by
 rw [PySem.W.Fast.te10110043849684766642, PySem.W.Fast.te14364793385576792824]
 kernel_rfl
noncomputable def t5 (P : Params) : BT :=
 (t4 P) |>
 (fun T => T.set 3 (pE (en P "TooMany" 270 (.ref 73)))) |>
 (fun T => T.set 12 (pF [(.int 10 0), (.int 0 0), (.ref 69)])) |>
 (fun T => T.set 24 (fun _ => ⟨(.type "type"), none, (.cls ⟨"RoofError", [(.type "ValueError")], [(.ref 24), (.type "ValueError"), (.type "Exception"), (.type "BaseException"), (.type "object")], 23, "RoofError", true, [], [(.ref 37), (.ref 49), (.ref 61), (.ref 73)], false, none, false⟩), #[(some (.ref 15)), none, (some (vs "RoofError" 189)), (some (vs "RoofError" 197)), (some (.builtin "ValueError.__new__")), (some (.bool true))]⟩)) |>
 (fun T => T.ins 64 (tu [(.ref 24)])) |>
 (fun T => T.ins 65 ⟨(.type "builtin_function_or_method"), none, (.fields #[(.builtin "type.__prepare__"), (.type "type")]), #[]⟩) |>
 (fun T => T.ins 66 ⟨(.type "dict"), none, (.dict #[en P "__module__" 262 (vs "creasecurve.errors" 187), en P "__qualname__" 264 (vs "TooMany" 263), en P "__firstlineno__" 266 (.int 10 265), en P "__static_attributes__" 267 (.ref 71)] 4), #[]⟩) |>
 (fun T => T.ins 67 (tu [])) |>
 (fun T => T.ins 68 (fl [])) |>
 (fun T => T.ins 69 ⟨(.type "code"), none, (.fields #[(vs "TooMany" 257), (vs "TooMany" 258), (vs "/claim/cut.py" 259), (.int 10 0), (.int 0 0), (.int 0 0), (.int 0 0), (.int 0 0), (.ref 67), (.bool false), (.int 181 0), (.ref 68), .none, .none, .none, .none, (.int 260 0), (.int 10 0), (vs "/claim/cut.py" 261)]), #[]⟩) |>
 (fun T => T.ins 70 ⟨(.type "frame"), none, .plain, #[(some (.ref 69)), (some (.ref 3)), (some (.ref 66)), none, (some (vs "creasecurve.errors" 187)), none, (some (.ref 0))]⟩) |>
 (fun T => T.ins 71 (tu [])) |>
 (fun T => T.ins 72 ⟨(.type "dict"), none, (.dict #[en P "__module__" 262 (vs "creasecurve.errors" 187), en P "__firstlineno__" 266 (.int 10 265), en P "__static_attributes__" 267 (.ref 71), en P "__doc__" 268 .none] 2), #[]⟩) |>
 (fun T => T.ins 73 ⟨(.type "type"), none, (.cls ⟨"TooMany", [(.ref 24)], [(.ref 73), (.ref 24), (.type "ValueError"), (.type "Exception"), (.type "BaseException"), (.type "object")], 72, "TooMany", true, [], [], false, none, false⟩), #[(some (.ref 64)), none, (some (vs "TooMany" 255)), (some (vs "TooMany" 263)), (some (.builtin "ValueError.__new__")), (some (.bool true))]⟩) |>
 (fun T => T.ins 74 ⟨(.type "super"), none, (.fields #[(.ref 73), (.ref 73), (.ref 73)]), #[]⟩) |>
 (fun T => T.ins 75 ⟨(.type "builtin_function_or_method"), none, (.fields #[(.builtin "object.__init_subclass__"), (.ref 73)]), #[]⟩)
noncomputable def g4 : List Stmt := [top 5]
theorem hg4 (w : World) : (fun os => segRunT treeTable pr w 11 (some (.ref 6)) 1 214 (sT t4 64 255 w os) (piecesOf g4 rX cE ⟨8, 0, 9, 8⟩ B)) = (fun os => some (.next, sT t5 76 271 w os, cE, ⟨10, 0, 11, 8⟩)) := by
 rw [PySem.W.Fast.te10110043849684766642, PySem.W.Fast.te14364793385576792824]
 kernel_rfl
noncomputable def t6 (P : Params) : BT :=
 (t5 P) |>
 (fun T => T.set 3 (pE (en P "NoNumber" 286 (.ref 85)))) |>
 (fun T => T.set 12 (pF [(.int 12 0), (.int 0 0), (.ref 81)])) |>
 (fun T => T.set 24 (fun _ => ⟨(.type "type"), none, (.cls ⟨"RoofError", [(.type "ValueError")], [(.ref 24), (.type "ValueError"), (.type "Exception"), (.type "BaseException"), (.type "object")], 23, "RoofError", true, [], [(.ref 37), (.ref 49), (.ref 61), (.ref 73), (.ref 85)], false, none, false⟩), #[(some (.ref 15)), none, (some (vs "RoofError" 189)), (some (vs "RoofError" 197)), (some (.builtin "ValueError.__new__")), (some (.bool true))]⟩)) |>
 (fun T => T.ins 76 (tu [(.ref 24)])) |>
 (fun T => T.ins 77 ⟨(.type "builtin_function_or_method"), none, (.fields #[(.builtin "type.__prepare__"), (.type "type")]), #[]⟩) |>
 (fun T => T.ins 78 ⟨(.type "dict"), none, (.dict #[en P "__module__" 278 (vs "creasecurve.errors" 187), en P "__qualname__" 280 (vs "NoNumber" 279), en P "__firstlineno__" 282 (.int 12 281), en P "__static_attributes__" 283 (.ref 83)] 4), #[]⟩) |>
 (fun T => T.ins 79 (tu [])) |>
 (fun T => T.ins 80 (fl [])) |>
 (fun T => T.ins 81 ⟨(.type "code"), none, (.fields #[(vs "NoNumber" 273), (vs "NoNumber" 274), (vs "/claim/cut.py" 275), (.int 12 0), (.int 0 0), (.int 0 0), (.int 0 0), (.int 0 0), (.ref 79), (.bool false), (.int 181 0), (.ref 80), .none, .none, .none, .none, (.int 276 0), (.int 12 0), (vs "/claim/cut.py" 277)]), #[]⟩) |>
 (fun T => T.ins 82 ⟨(.type "frame"), none, .plain, #[(some (.ref 81)), (some (.ref 3)), (some (.ref 78)), none, (some (vs "creasecurve.errors" 187)), none, (some (.ref 0))]⟩) |>
 (fun T => T.ins 83 (tu [])) |>
 (fun T => T.ins 84 ⟨(.type "dict"), none, (.dict #[en P "__module__" 278 (vs "creasecurve.errors" 187), en P "__firstlineno__" 282 (.int 12 281), en P "__static_attributes__" 283 (.ref 83), en P "__doc__" 284 .none] 2), #[]⟩) |>
 (fun T => T.ins 85 ⟨(.type "type"), none, (.cls ⟨"NoNumber", [(.ref 24)], [(.ref 85), (.ref 24), (.type "ValueError"), (.type "Exception"), (.type "BaseException"), (.type "object")], 84, "NoNumber", true, [], [], false, none, false⟩), #[(some (.ref 76)), none, (some (vs "NoNumber" 271)), (some (vs "NoNumber" 279)), (some (.builtin "ValueError.__new__")), (some (.bool true))]⟩) |>
 (fun T => T.ins 86 ⟨(.type "super"), none, (.fields #[(.ref 85), (.ref 85), (.ref 85)]), #[]⟩) |>
 (fun T => T.ins 87 ⟨(.type "builtin_function_or_method"), none, (.fields #[(.builtin "object.__init_subclass__"), (.ref 85)]), #[]⟩)
noncomputable def g5 : List Stmt := [top 6]
theorem hg5 (w : World) : (fun os => segRunT treeTable pr w 11 (some (.ref 6)) 1 214 (sT t5 76 271 w os) (piecesOf g5 rX cE ⟨10, 0, 11, 8⟩ B)) = (fun os => some (.next, sT t6 88 287 w os, cE, ⟨12, 0, 13, 8⟩)) := by
 rw [PySem.W.Fast.te10110043849684766642, PySem.W.Fast.te14364793385576792824]
 kernel_rfl
noncomputable def t7 (P : Params) : BT :=
 (t6 P) |>
 (fun T => T.set 3 (pE (en P "NoCorner" 302 (.ref 97)))) |>
 (fun T => T.set 12 (pF [(.int 14 0), (.int 0 0), (.ref 93)])) |>
 (fun T => T.set 24 (fun _ => ⟨(.type "type"), none, (.cls ⟨"RoofError", [(.type "ValueError")], [(.ref 24), (.type "ValueError"), (.type "Exception"), (.type "BaseException"), (.type "object")], 23, "RoofError", true, [], [(.ref 37), (.ref 49), (.ref 61), (.ref 73), (.ref 85), (.ref 97)], false, none, false⟩), #[(some (.ref 15)), none, (some (vs "RoofError" 189)), (some (vs "RoofError" 197)), (some (.builtin "ValueError.__new__")), (some (.bool true))]⟩)) |>
 (fun T => T.ins 88 (tu [(.ref 24)])) |>
 (fun T => T.ins 89 ⟨(.type "builtin_function_or_method"), none, (.fields #[(.builtin "type.__prepare__"), (.type "type")]), #[]⟩) |>
 (fun T => T.ins 90 ⟨(.type "dict"), none, (.dict #[en P "__module__" 294 (vs "creasecurve.errors" 187), en P "__qualname__" 296 (vs "NoCorner" 295), en P "__firstlineno__" 298 (.int 14 297), en P "__static_attributes__" 299 (.ref 95)] 4), #[]⟩) |>
 (fun T => T.ins 91 (tu [])) |>
 (fun T => T.ins 92 (fl [])) |>
 (fun T => T.ins 93 ⟨(.type "code"), none, (.fields #[(vs "NoCorner" 289), (vs "NoCorner" 290), (vs "/claim/cut.py" 291), (.int 14 0), (.int 0 0), (.int 0 0), (.int 0 0), (.int 0 0), (.ref 91), (.bool false), (.int 181 0), (.ref 92), .none, .none, .none, .none, (.int 292 0), (.int 14 0), (vs "/claim/cut.py" 293)]), #[]⟩) |>
 (fun T => T.ins 94 ⟨(.type "frame"), none, .plain, #[(some (.ref 93)), (some (.ref 3)), (some (.ref 90)), none, (some (vs "creasecurve.errors" 187)), none, (some (.ref 0))]⟩) |>
 (fun T => T.ins 95 (tu [])) |>
 (fun T => T.ins 96 ⟨(.type "dict"), none, (.dict #[en P "__module__" 294 (vs "creasecurve.errors" 187), en P "__firstlineno__" 298 (.int 14 297), en P "__static_attributes__" 299 (.ref 95), en P "__doc__" 300 .none] 2), #[]⟩) |>
 (fun T => T.ins 97 ⟨(.type "type"), none, (.cls ⟨"NoCorner", [(.ref 24)], [(.ref 97), (.ref 24), (.type "ValueError"), (.type "Exception"), (.type "BaseException"), (.type "object")], 96, "NoCorner", true, [], [], false, none, false⟩), #[(some (.ref 88)), none, (some (vs "NoCorner" 287)), (some (vs "NoCorner" 295)), (some (.builtin "ValueError.__new__")), (some (.bool true))]⟩) |>
 (fun T => T.ins 98 ⟨(.type "super"), none, (.fields #[(.ref 97), (.ref 97), (.ref 97)]), #[]⟩) |>
 (fun T => T.ins 99 ⟨(.type "builtin_function_or_method"), none, (.fields #[(.builtin "object.__init_subclass__"), (.ref 97)]), #[]⟩)
noncomputable def g6 : List Stmt := [top 7]
theorem hg6 (w : World) : (fun os => segRunT treeTable pr w 11 (some (.ref 6)) 1 214 (sT t6 88 287 w os) (piecesOf g6 rX cE ⟨12, 0, 13, 8⟩ B)) = (fun os => some (.next, sT t7 100 303 w os, cE, ⟨14, 0, 15, 8⟩)) := by
 rw [PySem.W.Fast.te10110043849684766642, PySem.W.Fast.te14364793385576792824]
 kernel_rfl
noncomputable def t8 (P : Params) : BT :=
 (t7 P) |>
 (fun T => T.set 3 (pE (en P "NoDealing" 318 (.ref 109)))) |>
 (fun T => T.set 12 (pF [(.int 16 0), (.int 0 0), (.ref 105)])) |>
 (fun T => T.set 24 (fun _ => ⟨(.type "type"), none, (.cls ⟨"RoofError", [(.type "ValueError")], [(.ref 24), (.type "ValueError"), (.type "Exception"), (.type "BaseException"), (.type "object")], 23, "RoofError", true, [], [(.ref 37), (.ref 49), (.ref 61), (.ref 73), (.ref 85), (.ref 97), (.ref 109)], false, none, false⟩), #[(some (.ref 15)), none, (some (vs "RoofError" 189)), (some (vs "RoofError" 197)), (some (.builtin "ValueError.__new__")), (some (.bool true))]⟩)) |>
 (fun T => T.ins 100 (tu [(.ref 24)])) |>
 (fun T => T.ins 101 ⟨(.type "builtin_function_or_method"), none, (.fields #[(.builtin "type.__prepare__"), (.type "type")]), #[]⟩) |>
 (fun T => T.ins 102 ⟨(.type "dict"), none, (.dict #[en P "__module__" 310 (vs "creasecurve.errors" 187), en P "__qualname__" 312 (vs "NoDealing" 311), en P "__firstlineno__" 314 (.int 16 313), en P "__static_attributes__" 315 (.ref 107)] 4), #[]⟩) |>
 (fun T => T.ins 103 (tu [])) |>
 (fun T => T.ins 104 (fl [])) |>
 (fun T => T.ins 105 ⟨(.type "code"), none, (.fields #[(vs "NoDealing" 305), (vs "NoDealing" 306), (vs "/claim/cut.py" 307), (.int 16 0), (.int 0 0), (.int 0 0), (.int 0 0), (.int 0 0), (.ref 103), (.bool false), (.int 181 0), (.ref 104), .none, .none, .none, .none, (.int 308 0), (.int 16 0), (vs "/claim/cut.py" 309)]), #[]⟩) |>
 (fun T => T.ins 106 ⟨(.type "frame"), none, .plain, #[(some (.ref 105)), (some (.ref 3)), (some (.ref 102)), none, (some (vs "creasecurve.errors" 187)), none, (some (.ref 0))]⟩) |>
 (fun T => T.ins 107 (tu [])) |>
 (fun T => T.ins 108 ⟨(.type "dict"), none, (.dict #[en P "__module__" 310 (vs "creasecurve.errors" 187), en P "__firstlineno__" 314 (.int 16 313), en P "__static_attributes__" 315 (.ref 107), en P "__doc__" 316 .none] 2), #[]⟩) |>
 (fun T => T.ins 109 ⟨(.type "type"), none, (.cls ⟨"NoDealing", [(.ref 24)], [(.ref 109), (.ref 24), (.type "ValueError"), (.type "Exception"), (.type "BaseException"), (.type "object")], 108, "NoDealing", true, [], [], false, none, false⟩), #[(some (.ref 100)), none, (some (vs "NoDealing" 303)), (some (vs "NoDealing" 311)), (some (.builtin "ValueError.__new__")), (some (.bool true))]⟩) |>
 (fun T => T.ins 110 ⟨(.type "super"), none, (.fields #[(.ref 109), (.ref 109), (.ref 109)]), #[]⟩) |>
 (fun T => T.ins 111 ⟨(.type "builtin_function_or_method"), none, (.fields #[(.builtin "object.__init_subclass__"), (.ref 109)]), #[]⟩)
noncomputable def g7 : List Stmt := [top 8]
theorem hg7 (w : World) : (fun os => segRunT treeTable pr w 11 (some (.ref 6)) 1 214 (sT t7 100 303 w os) (piecesOf g7 rX cE ⟨14, 0, 15, 8⟩ B)) = (fun os => some (.next, sT t8 112 319 w os, cE, ⟨16, 0, 17, 8⟩)) := by
 rw [PySem.W.Fast.te10110043849684766642, PySem.W.Fast.te14364793385576792824]
 kernel_rfl
noncomputable def t9 (P : Params) : BT :=
 (t8 P) |>
 (fun T => T.set 3 (pE (en P "NoRow" 334 (.ref 121)))) |>
 (fun T => T.set 12 (pF [(.int 18 0), (.int 0 0), (.ref 117)])) |>
 (fun T => T.set 24 (fun _ => ⟨(.type "type"), none, (.cls ⟨"RoofError", [(.type "ValueError")], [(.ref 24), (.type "ValueError"), (.type "Exception"), (.type "BaseException"), (.type "object")], 23, "RoofError", true, [], [(.ref 37), (.ref 49), (.ref 61), (.ref 73), (.ref 85), (.ref 97), (.ref 109), (.ref 121)], false, none, false⟩), #[(some (.ref 15)), none, (some (vs "RoofError" 189)), (some (vs "RoofError" 197)), (some (.builtin "ValueError.__new__")), (some (.bool true))]⟩)) |>
 (fun T => T.ins 112 (tu [(.ref 24)])) |>
 (fun T => T.ins 113 ⟨(.type "builtin_function_or_method"), none, (.fields #[(.builtin "type.__prepare__"), (.type "type")]), #[]⟩) |>
 (fun T => T.ins 114 ⟨(.type "dict"), none, (.dict #[en P "__module__" 326 (vs "creasecurve.errors" 187), en P "__qualname__" 328 (vs "NoRow" 327), en P "__firstlineno__" 330 (.int 18 329), en P "__static_attributes__" 331 (.ref 119)] 4), #[]⟩) |>
 (fun T => T.ins 115 (tu [])) |>
 (fun T => T.ins 116 (fl [])) |>
 (fun T => T.ins 117 ⟨(.type "code"), none, (.fields #[(vs "NoRow" 321), (vs "NoRow" 322), (vs "/claim/cut.py" 323), (.int 18 0), (.int 0 0), (.int 0 0), (.int 0 0), (.int 0 0), (.ref 115), (.bool false), (.int 181 0), (.ref 116), .none, .none, .none, .none, (.int 324 0), (.int 18 0), (vs "/claim/cut.py" 325)]), #[]⟩) |>
 (fun T => T.ins 118 ⟨(.type "frame"), none, .plain, #[(some (.ref 117)), (some (.ref 3)), (some (.ref 114)), none, (some (vs "creasecurve.errors" 187)), none, (some (.ref 0))]⟩) |>
 (fun T => T.ins 119 (tu [])) |>
 (fun T => T.ins 120 ⟨(.type "dict"), none, (.dict #[en P "__module__" 326 (vs "creasecurve.errors" 187), en P "__firstlineno__" 330 (.int 18 329), en P "__static_attributes__" 331 (.ref 119), en P "__doc__" 332 .none] 2), #[]⟩) |>
 (fun T => T.ins 121 ⟨(.type "type"), none, (.cls ⟨"NoRow", [(.ref 24)], [(.ref 121), (.ref 24), (.type "ValueError"), (.type "Exception"), (.type "BaseException"), (.type "object")], 120, "NoRow", true, [], [], false, none, false⟩), #[(some (.ref 112)), none, (some (vs "NoRow" 319)), (some (vs "NoRow" 327)), (some (.builtin "ValueError.__new__")), (some (.bool true))]⟩) |>
 (fun T => T.ins 122 ⟨(.type "super"), none, (.fields #[(.ref 121), (.ref 121), (.ref 121)]), #[]⟩) |>
 (fun T => T.ins 123 ⟨(.type "builtin_function_or_method"), none, (.fields #[(.builtin "object.__init_subclass__"), (.ref 121)]), #[]⟩)
noncomputable def g8 : List Stmt := [top 9]
theorem hg8 (w : World) : (fun os => segRunT treeTable pr w 11 (some (.ref 6)) 1 214 (sT t8 112 319 w os) (piecesOf g8 rX cE ⟨16, 0, 17, 8⟩ B)) = (fun os => some (.next, sT t9 124 335 w os, cE, ⟨18, 0, 19, 8⟩)) := by
 rw [PySem.W.Fast.te10110043849684766642, PySem.W.Fast.te14364793385576792824]
 kernel_rfl
noncomputable def t10 (P : Params) : BT :=
 (t9 P) |>
 (fun T => T.set 3 (pE (en P "NoText" 359 (.ref 140)))) |>
 (fun T => T.set 12 (pF [(.int 20 0), (.int 0 0), (.ref 129)])) |>
 (fun T => T.set 24 (fun _ => ⟨(.type "type"), none, (.cls ⟨"RoofError", [(.type "ValueError")], [(.ref 24), (.type "ValueError"), (.type "Exception"), (.type "BaseException"), (.type "object")], 23, "RoofError", true, [], [(.ref 37), (.ref 49), (.ref 61), (.ref 73), (.ref 85), (.ref 97), (.ref 109), (.ref 121), (.ref 140)], false, none, false⟩), #[(some (.ref 15)), none, (some (vs "RoofError" 189)), (some (vs "RoofError" 197)), (some (.builtin "ValueError.__new__")), (some (.bool true))]⟩)) |>
 (fun T => T.ins 124 (tu [(.ref 24)])) |>
 (fun T => T.ins 125 ⟨(.type "builtin_function_or_method"), none, (.fields #[(.builtin "type.__prepare__"), (.type "type")]), #[]⟩) |>
 (fun T => T.ins 126 ⟨(.type "dict"), none, (.dict #[en P "__module__" 342 (vs "creasecurve.errors" 187), en P "__qualname__" 344 (vs "NoText" 343), en P "__firstlineno__" 346 (.int 20 345), en P "__init__" 354 (.ref 137), en P "__static_attributes__" 356 (.ref 138)] 5), #[]⟩) |>
 (fun T => T.ins 127 (tu [])) |>
 (fun T => T.ins 128 (fl [(.int 22 0), (.int 4 0), (.ref 136)])) |>
 (fun T => T.ins 129 ⟨(.type "code"), none, (.fields #[(vs "NoText" 337), (vs "NoText" 338), (vs "/claim/cut.py" 339), (.int 20 0), (.int 0 0), (.int 0 0), (.int 0 0), (.int 0 0), (.ref 127), (.bool false), (.int 181 0), (.ref 128), .none, .none, .none, .none, (.int 340 0), (.int 20 0), (vs "/claim/cut.py" 341)]), #[]⟩) |>
 (fun T => T.ins 130 ⟨(.type "frame"), none, .plain, #[(some (.ref 129)), (some (.ref 3)), (some (.ref 126)), none, (some (vs "creasecurve.errors" 187)), none, (some (.ref 0))]⟩) |>
 (fun T => T.ins 131 (tu [])) |>
 (fun T => T.ins 132 (fl [])) |>
 (fun T => T.ins 133 (tu [(vs "self" 350), (vs "at" 351)])) |>
 (fun T => T.ins 134 (tu [])) |>
 (fun T => T.ins 135 ⟨.none, none, (.func (fd "__init__" "NoText.__init__" (fX (sub 10 0)) (.stmts (d8 (sub 10 0))) (aJ (sub 10 0)) 0 [] .none .none .none .none none .none .none 0)), #[]⟩) |>
 (fun T => T.ins 136 ⟨(.type "code"), none, (.fields #[(vs "__init__" 347), (vs "NoText.__init__" 348), (vs "/claim/cut.py" 349), (.int 22 0), (.int 2 0), (.int 0 0), (.int 0 0), (.int 3 0), (.ref 131), (.bool true), (.int 181 0), (.ref 132), .none, (.ref 133), (.ref 134), (.ref 135), (.int 352 0), (.int 22 0), (vs "/claim/cut.py" 353)]), #[]⟩) |>
 (fun T => T.ins 137 ⟨(.type "function"), none, (.func (fd "__init__" "NoText.__init__" (fX (sub 10 0)) (.stmts (d8 (sub 10 0))) (aJ (sub 10 0)) 3 [] .none .none .none (vs "creasecurve.errors" 187) none (.ref 136) .none 0)), #[]⟩) |>
 (fun T => T.ins 138 (tu [(vs "at" 355)])) |>
 (fun T => T.ins 139 ⟨(.type "dict"), none, (.dict #[en P "__module__" 342 (vs "creasecurve.errors" 187), en P "__firstlineno__" 346 (.int 20 345), en P "__init__" 354 (.ref 137), en P "__static_attributes__" 356 (.ref 138), en P "__doc__" 357 .none] 2), #[]⟩) |>
 (fun T => T.ins 140 ⟨(.type "type"), none, (.cls ⟨"NoText", [(.ref 24)], [(.ref 140), (.ref 24), (.type "ValueError"), (.type "Exception"), (.type "BaseException"), (.type "object")], 139, "NoText", true, [], [], false, none, false⟩), #[(some (.ref 124)), none, (some (vs "NoText" 335)), (some (vs "NoText" 343)), (some (.builtin "ValueError.__new__")), (some (.bool true))]⟩) |>
 (fun T => T.ins 141 ⟨(.type "super"), none, (.fields #[(.ref 140), (.ref 140), (.ref 140)]), #[]⟩) |>
 (fun T => T.ins 142 ⟨(.type "builtin_function_or_method"), none, (.fields #[(.builtin "object.__init_subclass__"), (.ref 140)]), #[]⟩)
noncomputable def g9 : List Stmt := [top 10]
theorem hg9 (w : World) : (fun os => segRunT treeTable pr w 11 (some (.ref 6)) 1 246 (sT t9 124 335 w os) (piecesOf g9 rX cE ⟨18, 0, 19, 8⟩ B)) = (fun os => some (.next, sT t10 143 360 w os, cE, ⟨20, 0, 23, 20⟩)) := by
 rw [PySem.W.Fast.te10110043849684766642, PySem.W.Fast.te14364793385576792824]
 kernel_rfl
noncomputable def t11 (P : Params) : BT :=
 (t10 P) |>
 (fun T => T.set 3 (pE (en P "NoName" 384 (.ref 159)))) |>
 (fun T => T.set 12 (pF [(.int 24 0), (.int 0 0), (.ref 148)])) |>
 (fun T => T.set 24 (fun _ => ⟨(.type "type"), none, (.cls ⟨"RoofError", [(.type "ValueError")], [(.ref 24), (.type "ValueError"), (.type "Exception"), (.type "BaseException"), (.type "object")], 23, "RoofError", true, [], [(.ref 37), (.ref 49), (.ref 61), (.ref 73), (.ref 85), (.ref 97), (.ref 109), (.ref 121), (.ref 140), (.ref 159)], false, none, false⟩), #[(some (.ref 15)), none, (some (vs "RoofError" 189)), (some (vs "RoofError" 197)), (some (.builtin "ValueError.__new__")), (some (.bool true))]⟩)) |>
 (fun T => T.ins 143 (tu [(.ref 24)])) |>
 (fun T => T.ins 144 ⟨(.type "builtin_function_or_method"), none, (.fields #[(.builtin "type.__prepare__"), (.type "type")]), #[]⟩) |>
 (fun T => T.ins 145 ⟨(.type "dict"), none, (.dict #[en P "__module__" 367 (vs "creasecurve.errors" 187), en P "__qualname__" 369 (vs "NoName" 368), en P "__firstlineno__" 371 (.int 24 370), en P "__init__" 379 (.ref 156), en P "__static_attributes__" 381 (.ref 157)] 5), #[]⟩) |>
 (fun T => T.ins 146 (tu [])) |>
 (fun T => T.ins 147 (fl [(.int 26 0), (.int 4 0), (.ref 155)])) |>
 (fun T => T.ins 148 ⟨(.type "code"), none, (.fields #[(vs "NoName" 362), (vs "NoName" 363), (vs "/claim/cut.py" 364), (.int 24 0), (.int 0 0), (.int 0 0), (.int 0 0), (.int 0 0), (.ref 146), (.bool false), (.int 181 0), (.ref 147), .none, .none, .none, .none, (.int 365 0), (.int 24 0), (vs "/claim/cut.py" 366)]), #[]⟩) |>
 (fun T => T.ins 149 ⟨(.type "frame"), none, .plain, #[(some (.ref 148)), (some (.ref 3)), (some (.ref 145)), none, (some (vs "creasecurve.errors" 187)), none, (some (.ref 0))]⟩) |>
 (fun T => T.ins 150 (tu [])) |>
 (fun T => T.ins 151 (fl [])) |>
 (fun T => T.ins 152 (tu [(vs "self" 375), (vs "name" 376)])) |>
 (fun T => T.ins 153 (tu [])) |>
 (fun T => T.ins 154 ⟨.none, none, (.func (fd "__init__" "NoName.__init__" (fX (sub 11 0)) (.stmts (d8 (sub 11 0))) (aJ (sub 11 0)) 0 [] .none .none .none .none none .none .none 0)), #[]⟩) |>
 (fun T => T.ins 155 ⟨(.type "code"), none, (.fields #[(vs "__init__" 372), (vs "NoName.__init__" 373), (vs "/claim/cut.py" 374), (.int 26 0), (.int 2 0), (.int 0 0), (.int 0 0), (.int 3 0), (.ref 150), (.bool true), (.int 181 0), (.ref 151), .none, (.ref 152), (.ref 153), (.ref 154), (.int 377 0), (.int 26 0), (vs "/claim/cut.py" 378)]), #[]⟩) |>
 (fun T => T.ins 156 ⟨(.type "function"), none, (.func (fd "__init__" "NoName.__init__" (fX (sub 11 0)) (.stmts (d8 (sub 11 0))) (aJ (sub 11 0)) 3 [] .none .none .none (vs "creasecurve.errors" 187) none (.ref 155) .none 0)), #[]⟩) |>
 (fun T => T.ins 157 (tu [(vs "name" 380)])) |>
 (fun T => T.ins 158 ⟨(.type "dict"), none, (.dict #[en P "__module__" 367 (vs "creasecurve.errors" 187), en P "__firstlineno__" 371 (.int 24 370), en P "__init__" 379 (.ref 156), en P "__static_attributes__" 381 (.ref 157), en P "__doc__" 382 .none] 2), #[]⟩) |>
 (fun T => T.ins 159 ⟨(.type "type"), none, (.cls ⟨"NoName", [(.ref 24)], [(.ref 159), (.ref 24), (.type "ValueError"), (.type "Exception"), (.type "BaseException"), (.type "object")], 158, "NoName", true, [], [], false, none, false⟩), #[(some (.ref 143)), none, (some (vs "NoName" 360)), (some (vs "NoName" 368)), (some (.builtin "ValueError.__new__")), (some (.bool true))]⟩) |>
 (fun T => T.ins 160 ⟨(.type "super"), none, (.fields #[(.ref 159), (.ref 159), (.ref 159)]), #[]⟩) |>
 (fun T => T.ins 161 ⟨(.type "builtin_function_or_method"), none, (.fields #[(.builtin "object.__init_subclass__"), (.ref 159)]), #[]⟩) |>
 (fun T => T.set 3 (rE 0 (vs "creasecurve.fractions" 385))) |>
 (d7 P 13 "greatest_divisor" (vs "creasecurve.fractions" 385) 29 2 ["a", "b", "larger", "smaller", "rest"] 162 387 395) |>
 (d7 P 14 "fraction" (vs "creasecurve.fractions" 385) 37 2 ["top", "bottom", "divisor"] 169 398 404) |>
 (d7 P 15 "plus" (vs "creasecurve.fractions" 385) 44 2 ["a", "b"] 176 407 412) |>
 (d7 P 16 "times" (vs "creasecurve.fractions" 385) 46 2 ["a", "b"] 183 415 420)
noncomputable def g10 : List Stmt := [top 11, top 12, top 13, top 14, top 15, top 16]
theorem aIq (w : World) : (fun os => segRunT treeTable pr w 11 (some (.ref 6)) 1 379 (sT t10 143 360 w os) (piecesOf g10 rX cE ⟨20, 0, 23, 20⟩ B)) = (fun os => some (.next, sT t11 190 423 w os, cE, ⟨46, 0, 47, 45⟩)) := by
 rw [PySem.W.Fast.te10110043849684766642, PySem.W.Fast.te14364793385576792824]
 kernel_rfl
noncomputable def t12 (P : Params) : BT :=
 (t11 P) |>
 (d7 P 17 "less" (vs "creasecurve.fractions" 385) 48 2 ["a", "b"] 190 423 428) |>
 (d7 P 18 "greatest" (vs "creasecurve.fractions" 385) 50 1 ["numbers", "best", "number"] 197 431 437) |>
 (fun T => T.set 3 (rE 0 (vs "creasecurve.roofs" 440))) |>
 (fun T => T.set 3 (pE (en P "STEEPEST" 443 (.int 8 442)))) |>
 (fun T => T.set 3 (pE (en P "MOST_PLANES" 445 (.int 16 444)))) |>
 (d7 P 22 "slope_of" (vs "creasecurve.roofs" 440) 59 1 ["plane"] 204 446 450) |>
 (d7 P 23 "plane_height" (vs "creasecurve.roofs" 440) 61 2 ["plane", "point", "along_x", "along_y"] 211 453 460) |>
 (d5 P 24 "height_at" (vs "creasecurve.roofs" 440) 65 2 218 463 466) |>
 (d7 P 25 "is_too_steep" (vs "creasecurve.roofs" 440) 67 1 ["slope"] 223 469 473) |>
 (d7 P 26 "highest_by_slope" (vs "creasecurve.roofs" 440) 69 1 ["rows", "highest", "slope", "height"] 230 476 483) |>
 (d5 P 27 "roof_of" (vs "creasecurve.roofs" 440) 75 1 237 486 489) |>
 (fun T => T.set 3 (rE 0 (vs "law_creasecurve_k03_roofs_made" 492))) |>
 (d7 P 29 "_law_cell_at" (vs "law_creasecurve_k03_roofs_made" 492) 85 2 ["_law_script", "_law_k", "_law_cell"] 242 494 500) |>
 (d5 P 30 "_law_cells" (vs "law_creasecurve_k03_roofs_made" 492) 90 3 249 503 506) |>
 (d7 P 31 "_law_whole" (vs "law_creasecurve_k03_roofs_made" 492) 92 1 ["_law_found"] 254 509 513) |>
 (d7 P 32 "_law_divisor" (vs "law_creasecurve_k03_roofs_made" 492) 94 2 ["_law_a", "_law_b", "_law_rest"] 261 516 522)
noncomputable def g11 : List Stmt := [top 17, top 18, top 19, top 20, top 21, top 22, top 23, top 24, top 25, top 26, top 27, top 28, top 29, top 30, top 31, top 32]
theorem aI1 (w : World) : (fun os => segRunT treeTable pr w 11 (some (.ref 6)) 1 389 (sT t11 190 423 w os) (piecesOf g11 rX cE ⟨46, 0, 47, 45⟩ B)) = (fun os => some (.next, sT t12 268 525 w os, cE, ⟨94, 0, 101, 17⟩)) := by
 rw [PySem.W.Fast.te10110043849684766642, PySem.W.Fast.te14364793385576792824]
 kernel_rfl
noncomputable def t13 (P : Params) : BT :=
 (t12 P) |>
 (d7 P 33 "_law_fraction" (vs "law_creasecurve_k03_roofs_made" 492) 102 2 ["_law_top", "_law_bottom", "_law_by"] 268 525 531) |>
 (d7 P 34 "_law_is_fraction" (vs "law_creasecurve_k03_roofs_made" 492) 105 1 ["_law_found"] 275 534 538) |>
 (d7 P 35 "_law_sum" (vs "law_creasecurve_k03_roofs_made" 492) 111 2 ["_law_a", "_law_b"] 282 541 546) |>
 (d7 P 36 "_law_taken" (vs "law_creasecurve_k03_roofs_made" 492) 113 2 ["_law_a", "_law_many"] 289 549 554) |>
 (d7 P 37 "_law_below" (vs "law_creasecurve_k03_roofs_made" 492) 115 2 ["_law_a", "_law_b"] 296 557 562) |>
 (d7 P 38 "_law_marks" (vs "law_creasecurve_k03_roofs_made" 492) 117 1 ["_law_e", "_law_marks_here"] 303 565 570) |>
 (d5 P 39 "_law_only" (vs "law_creasecurve_k03_roofs_made" 492) 122 1 310 573 576) |>
 (d7 P 40 "_law_number_by" (vs "law_creasecurve_k03_roofs_made" 492) 124 2 ["_law_cell", "_law_kind", "_law_c", "_law_bottom"] 315 579 586) |>
 (d7 P 41 "_law_planes" (vs "law_creasecurve_k03_roofs_made" 492) 132 2 ["_law_script", "_law_kind", "_law_planes_here", "_law_k", "_law_cell", "_law_c", "_law_slope", "_law_at"] 322 589 600) |>
 (d5 P 42 "_law_due" (vs "law_creasecurve_k03_roofs_made" 492) 147 1 329 603 606) |>
 (d7 P 43 "_law_high" (vs "law_creasecurve_k03_roofs_made" 492) 159 2 ["_law_planes_here", "_law_point", "_law_best_so", "_law_i", "_law_j", "_law_high_here", "_law_here"] 334 609 619) |>
 (d7 P 44 "_law_is_roof" (vs "law_creasecurve_k03_roofs_made" 492) 166 2 ["_law_found", "_law_due_here", "_law_plane"] 341 622 628) |>
 (d7 P 45 "_law_asked" (vs "law_creasecurve_k03_roofs_made" 492) 175 2 ["_law_planes_here", "_law_due_here", "_law_told", "_law_found", "_law_e"] 348 631 639)
noncomputable def g12 : List Stmt := [top 33, top 34, top 35, top 36, top 37, top 38, top 39, top 40, top 41, top 42, top 43, top 44, top 45]
theorem aIu (w : World) : (fun os => segRunT treeTable pr w 11 (some (.ref 6)) 1 400 (sT t12 268 525 w os) (piecesOf g12 rX cE ⟨94, 0, 101, 17⟩ B)) = (fun os => some (.next, sT t13 355 642 w os, cE, ⟨175, 0, 187, 15⟩)) := by
 rw [PySem.W.Fast.te10110043849684766642, PySem.W.Fast.te14364793385576792824]
 kernel_rfl
noncomputable def t14 (P : Params) : BT :=
 (t13 P) |>
 (d7 P 46 "law" (vs "law_creasecurve_k03_roofs_made" 492) 188 1 ["_law_script", "_law_kind", "_law_planes_here", "_law_due_here", "_law_point", "_law_handed", "_law_turn", "_law_here"] 355 642 653)
noncomputable def g13 : List Stmt := [top 46]
theorem aIs (w : World) : (fun os => segRunT treeTable pr w 11 (some (.ref 6)) 1 37 (sT t13 355 642 w os) (piecesOf g13 rX cE ⟨175, 0, 187, 15⟩ B)) = (fun os => some (.next, sT t14 362 656 w os, cE, ⟨188, 0, 200, 95⟩)) := by
 rw [PySem.W.Fast.te10110043849684766642, PySem.W.Fast.te14364793385576792824]
 kernel_rfl
noncomputable def hF (P : Params) : Heap := absHeap (t14 P) 362 {}
theorem aHe (w : World) : (fun os => topRun treeTable pr w 11 (some (.ref 6)) 2 (sT t14 362 656 w os).abs ⟨doneF .next, cE, ⟨188, 0, 200, 95⟩, B⟩) = (fun os => some ((⟨hF w.params, ⟨[]⟩, boot_drawn, 656, os⟩ : Shared))) := by
 rw [PySem.W.Fast.te14082659384304107361, PySem.W.Fast.te14364793385576792824]
 kernel_rfl
theorem hb : behindTheImports pr = g0 ++ (g1 ++ (g2 ++ (g3 ++ (g4 ++ (g5 ++ (g6 ++ (g7 ++ (g8 ++ (g9 ++ (g10 ++ (g11 ++ (g12 ++ (g13 ++ []))))))))))))) := by kernel_rfl
theorem aIo (w : World) (os : OsState) : topRun treeTable pr w 11 (some (.ref 6)) (12 + (1 + (196 + (214 + (214 + (214 + (214 + (214 + (214 + (214 + (214 + (246 + (379 + (389 + (400 + (37 + (2))))))))))))))))) ⟨boot_heap w.params, ⟨[]⟩, boot_drawn, boot_toks, os⟩ (topStub pr) = some ⟨hF w.params, ⟨[]⟩, boot_drawn, 656, os⟩ := go_top (congrFun (aD1 w) os) (piece_block (congrFun (aEk w) os) (by
 rw [hb]
 exact piece_app (segRun_of (congrFun (hg0 w) os)) (piece_app (segRun_of (congrFun (hg1 w) os)) (piece_app (segRun_of (congrFun (hg2 w) os)) (piece_app (segRun_of (congrFun (hg3 w) os)) (piece_app (segRun_of (congrFun (hg4 w) os)) (piece_app (segRun_of (congrFun (hg5 w) os)) (piece_app (segRun_of (congrFun (hg6 w) os)) (piece_app (segRun_of (congrFun (hg7 w) os)) (piece_app (segRun_of (congrFun (hg8 w) os)) (piece_app (segRun_of (congrFun (hg9 w) os)) (piece_app (segRun_of (congrFun (aIq w) os)) (piece_app (segRun_of (congrFun (aI1 w) os)) (piece_app (segRun_of (congrFun (aIu w) os)) (piece_app (segRun_of (congrFun (aIs w) os)) (piece_nil (congrFun (aHe w) os)))))))))))))))))
noncomputable def qv : Program := { pr with main := { pr.main with body := [top 1, top 2, top 3, top 4, top 5, top 6, top 7, top 8, top 9, top 10, top 11, top 13, top 14, top 15, top 16, top 17, top 18, top 20, top 21, top 22, top 23, top 24, top 25, top 26, top 27, top 29, top 30, top 31, top 32, top 33, top 34, top 35, top 36, top 37, top 38, top 39, top 40, top 41, top 42, top 43, top 44, top 45, top 46] } }
noncomputable def ks : List Nat := [3, 20, 23, 24, 33, 36, 37, 45, 48, 49, 57, 60, 61, 69, 72, 73, 81, 84, 85, 93, 96, 97, 105, 108, 109, 117, 120, 121, 129, 136, 137, 139, 140, 148, 155, 156, 158, 159, 167, 168, 174, 175, 181, 182, 188, 189, 195, 196, 202, 203, 209, 210, 216, 217, 221, 222, 228, 229, 235, 236, 240, 241, 247, 248, 252, 253, 259, 260, 266, 267, 273, 274, 280, 281, 287, 288, 294, 295, 301, 302, 308, 309, 313, 314, 320, 321, 327, 328, 332, 333, 339, 340, 346, 347, 353, 354, 360, 361]
noncomputable def K (P : Params) : Frag := ks.map fun a => (a, ((t14 P).get a).getD default)
theorem ksE (P : Params) : ks = (K P).map (·.1) := by kernel_rfl
noncomputable abbrev hk : Hook := kHook K ks ksE
noncomputable abbrev xt : Shared -> Bool := fun s => xlAt qv [] s && recOk [] s
theorem aHt (w : World) : ((boot_heap w.params).isNs mainGlobals && (⟨[]⟩ : Array GenState).size == 0, (boot_heap w.params).objs.size, (boot_heap w.params).nsMap mainGlobals "__annotations__") = (true, 11, (some (.ref 6))) := by kernel_rfl
theorem aHg (w : World) : (fun os : OsState => (staticsOk (importedModules pr.main.body) (boot_heap w.params) (hF w.params) && namesBound pr (hF w.params) && gensDone ⟨hF w.params, ⟨[]⟩, boot_drawn, 656, os⟩ && laidKept (boot_heap w.params) (hF w.params))) = fun _ => true := by
 rw [PySem.W.Fast.te5923862056798008813]
 kernel_rfl
theorem aHp (w : World) : (fun os : OsState => openSeen qv [] (importedModules pr.main.body) xt true ⟨hF w.params, ⟨[]⟩, boot_drawn, 656, os⟩) = fun _ => openGood qv [] := by
 rw [PySem.W.Fast.te4187177175401517315, PySem.W.Fast.te5923862056798008813]
 kernel_rfl
theorem aHu (w : World) : (fun os : OsState => hk.obs ⟨hF w.params, ⟨[]⟩, boot_drawn, 656, os⟩) = fun _ => hk.val w := by kernel_rfl
theorem left : LeftO pr qv [] xt hk.obs hk.val 6816 := LeftO.of_pieces (boot_open (by kernel_rfl) (by decide) (fun _ => by kernel_rfl)) aHt aIo (by decide) fun w => funext fun os => looks_pair (congrFun (aHg w) os) (looks_pair (congrFun (aHp w) os) (congrFun (aHu w) os))
theorem h1 (w : World) : FnAt (K w.params) "greatest_divisor" eA 168 (vs "creasecurve.fractions" 385) 167 := by constructor <;> kernel_rfl
theorem h2 (w : World) : FnAt (K w.params) "fraction" jF 175 (vs "creasecurve.fractions" 385) 174 := by constructor <;> kernel_rfl
theorem h3 (w : World) : FnAt (K w.params) "plus" tQ 182 (vs "creasecurve.fractions" 385) 181 := by constructor <;> kernel_rfl
theorem h4 (w : World) : FnAt (K w.params) "times" o7 189 (vs "creasecurve.fractions" 385) 188 := by constructor <;> kernel_rfl
theorem h5 (w : World) : FnAt (K w.params) "less" uH 196 (vs "creasecurve.fractions" 385) 195 := by constructor <;> kernel_rfl
theorem h6 (w : World) : FnAt (K w.params) "greatest" jD 203 (vs "creasecurve.fractions" 385) 202 := by constructor <;> kernel_rfl
theorem h7 (w : World) : FnAt (K w.params) "slope_of" jE 210 (vs "creasecurve.roofs" 440) 209 := by constructor <;> kernel_rfl
theorem h8 (w : World) : FnAt (K w.params) "plane_height" fO 217 (vs "creasecurve.roofs" 440) 216 := by constructor <;> kernel_rfl
theorem h9 (w : World) : FnAt (K w.params) "height_at" iH 222 (vs "creasecurve.roofs" 440) 221 := by constructor <;> kernel_rfl
theorem h10 (w : World) : FnAt (K w.params) "is_too_steep" fS 229 (vs "creasecurve.roofs" 440) 228 := by constructor <;> kernel_rfl
theorem h11 (w : World) : FnAt (K w.params) "highest_by_slope" eF 236 (vs "creasecurve.roofs" 440) 235 := by constructor <;> kernel_rfl
theorem h12 (w : World) : FnAt (K w.params) "roof_of" kA 241 (vs "creasecurve.roofs" 440) 240 := by constructor <;> kernel_rfl
theorem h13 (w : World) : FnAt (K w.params) "_law_cell_at" fN 248 (vs "law_creasecurve_k03_roofs_made" 492) 247 := by constructor <;> kernel_rfl
theorem h14 (w : World) : FnAt (K w.params) "_law_cells" gO 253 (vs "law_creasecurve_k03_roofs_made" 492) 252 := by constructor <;> kernel_rfl
theorem h15 (w : World) : FnAt (K w.params) "_law_whole" gS 260 (vs "law_creasecurve_k03_roofs_made" 492) 259 := by constructor <;> kernel_rfl
theorem h16 (w : World) : FnAt (K w.params) "_law_divisor" fQ 267 (vs "law_creasecurve_k03_roofs_made" 492) 266 := by constructor <;> kernel_rfl
theorem h17 (w : World) : FnAt (K w.params) "_law_fraction" fE 274 (vs "law_creasecurve_k03_roofs_made" 492) 273 := by constructor <;> kernel_rfl
theorem h18 (w : World) : FnAt (K w.params) "_law_is_fraction" eC 281 (vs "law_creasecurve_k03_roofs_made" 492) 280 := by constructor <;> kernel_rfl
theorem h19 (w : World) : FnAt (K w.params) "_law_sum" i9 288 (vs "law_creasecurve_k03_roofs_made" 492) 287 := by constructor <;> kernel_rfl
theorem h20 (w : World) : FnAt (K w.params) "_law_taken" gN 295 (vs "law_creasecurve_k03_roofs_made" 492) 294 := by constructor <;> kernel_rfl
theorem h21 (w : World) : FnAt (K w.params) "_law_below" gQ 302 (vs "law_creasecurve_k03_roofs_made" 492) 301 := by constructor <;> kernel_rfl
theorem h22 (w : World) : FnAt (K w.params) "_law_marks" gT 309 (vs "law_creasecurve_k03_roofs_made" 492) 308 := by constructor <;> kernel_rfl
theorem h23 (w : World) : FnAt (K w.params) "_law_only" iK 314 (vs "law_creasecurve_k03_roofs_made" 492) 313 := by constructor <;> kernel_rfl
theorem h24 (w : World) : FnAt (K w.params) "_law_number_by" eY 321 (vs "law_creasecurve_k03_roofs_made" 492) 320 := by constructor <;> kernel_rfl
theorem h25 (w : World) : FnAt (K w.params) "_law_planes" gE 328 (vs "law_creasecurve_k03_roofs_made" 492) 327 := by constructor <;> kernel_rfl
theorem h26 (w : World) : FnAt (K w.params) "_law_due" jC 333 (vs "law_creasecurve_k03_roofs_made" 492) 332 := by constructor <;> kernel_rfl
theorem h27 (w : World) : FnAt (K w.params) "_law_high" iJ 340 (vs "law_creasecurve_k03_roofs_made" 492) 339 := by constructor <;> kernel_rfl
theorem h28 (w : World) : FnAt (K w.params) "_law_is_roof" fM 347 (vs "law_creasecurve_k03_roofs_made" 492) 346 := by constructor <;> kernel_rfl
theorem h29 (w : World) : FnAt (K w.params) "_law_asked" gR 354 (vs "law_creasecurve_k03_roofs_made" 492) 353 := by constructor <;> kernel_rfl
theorem h30 (w : World) : FnAt (K w.params) "law" qD 361 (vs "law_creasecurve_k03_roofs_made" 492) 360 := by constructor <;> kernel_rfl
end Hd
open PySem PySem.W PyProof.Rows
theorem Hd.said : PySem.Challenge.rw_creasecurve_k03_roofs_made.wellSaid = true := by kernel_rfl
set_option maxRecDepth 100000 in
set_option maxHeartbeats 0 in
theorem PySem.Challenge.cw_creasecurve_k03_roofs_made_holds : PySem.Challenge.rw_creasecurve_k03_roofs_made.Holds := by
 refine holds_law Hd.said fun said => ?_
 refine holds_open (q := Hd.qv) (Xt := Hd.xt) (XP := XL Hd.qv []) (YP := Hd.hk.says) (N := 6816) Hd.left Hd.hk.of Hd.hk.keeps (fun s e => xl_of s (Bool.and_eq_true_iff.mp e).1) XL.keeps (by rfl) (by rfl) (by rfl) (fun s e => recFacts_of (Bool.and_eq_true_iff.mp e).2) (by rfl) said (by decide +kernel) ⟨rfl, rfl, rfl, rfl, rfl, by decide +kernel⟩ ?hw ?hc
 case hw => w_witness2
 refine My.walk (l := PySem.Challenge.rw_creasecurve_k03_roofs_made) rfl rfl (fun w h Y => PySem.W.kIn_of Y) (fun w => by kernel_rfl) ?F
 case F =>
  intro w mg fa h KX G hmg
  exact My.all_mk (CRoofError := 24) (CNoFraction := 37) (CNoRoof := 49) (CTooSteep := 61) (CTooMany := 73) (CNoNumber := 85) (CNoCorner := 97) (CNoDealing := 109) (CNoRow := 121) (CNoText := 140) (CNoName := 159) (tSTEEPEST := 442) (tMOST_PLANES := 444) KX G hmg (Hd.h1 w) (Hd.h2 w) (Hd.h3 w) (Hd.h4 w) (Hd.h5 w) (Hd.h6 w) (Hd.h7 w) (Hd.h8 w) (Hd.h9 w) (Hd.h10 w) (Hd.h11 w) (Hd.h12 w) (Hd.h13 w) (Hd.h14 w) (Hd.h15 w) (Hd.h16 w) (Hd.h17 w) (Hd.h18 w) (Hd.h19 w) (Hd.h20 w) (Hd.h21 w) (Hd.h22 w) (Hd.h23 w) (Hd.h24 w) (Hd.h25 w) (Hd.h26 w) (Hd.h27 w) (Hd.h28 w) (Hd.h29 w) (Hd.h30 w) (by kernel_rfl) (by kernel_rfl) (by kernel_rfl) (by kernel_rfl) (by kernel_rfl) (by kernel_rfl) (by kernel_rfl) (by kernel_rfl) (by kernel_rfl) (by kernel_rfl) (by kernel_rfl) (by kernel_rfl) (by kernel_rfl) (by kernel_rfl) (by kernel_rfl) (by kernel_rfl) (by kernel_rfl) (by kernel_rfl) (by kernel_rfl) (by kernel_rfl) (by kernel_rfl) (by kernel_rfl) (by kernel_rfl) (by kernel_rfl) (by kernel_rfl) (by kernel_rfl) (by kernel_rfl) (by kernel_rfl) (by kernel_rfl) (by kernel_rfl) (by kernel_rfl) (by kernel_rfl) (by kernel_rfl) (by kernel_rfl) (by kernel_rfl) (by kernel_rfl) (by kernel_rfl) (by kernel_rfl) (by kernel_rfl) (by kernel_rfl) (by kernel_rfl) (by kernel_rfl) (by kernel_rfl) (by kernel_rfl) (by kernel_rfl) (by kernel_rfl) (by kernel_rfl) (by kernel_rfl) (by kernel_rfl) (by kernel_rfl) (by kernel_rfl) (by kernel_rfl) (by kernel_rfl) (by kernel_rfl) (by kernel_rfl) (by kernel_rfl) (by kernel_rfl) (by kernel_rfl) (by kernel_rfl) (by kernel_rfl) (by kernel_rfl) (by kernel_rfl) (by kernel_rfl) (by kernel_rfl) (by kernel_rfl) (by kernel_rfl) (by kernel_rfl) (by kernel_rfl) (by kernel_rfl) (by kernel_rfl) (by kernel_rfl) (by kernel_rfl) (by kernel_rfl) (by kernel_rfl) (by kernel_rfl) (by kernel_rfl) (by kernel_rfl) (by kernel_rfl) (by kernel_rfl) (by kernel_rfl) (by kernel_rfl) (by kernel_rfl) (by kernel_rfl) (by kernel_rfl) (by kernel_rfl) (by kernel_rfl) (by kernel_rfl) (by kernel_rfl) (by decide) (by decide) (by decide) (by kernel_rfl) (by kernel_rfl) (by kernel_rfl) (by kernel_rfl) (by kernel_rfl)

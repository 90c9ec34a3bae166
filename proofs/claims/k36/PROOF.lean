import PyProof.Rows.All
import Wide.All
import OpenK.AllK
import Wide.FinOn
import Lean
import PyProof.EqAt
import PyProof.EqKinds
import PyProof.TupleCall
import PySem.Challenge.RW_creasecurve_k36_mixed_areas_known
set_option Elab.async false
set_option linter.all false
set_option maxRecDepth 100000
namespace L2
open PySem PySem.Spec PyProof.Rows
abbrev Key := Sum Int Str
def aF9 : Key -> Value -> Bool
 | .inl k, v => Value.isInt k v
 | .inr x, v => Value.isStrOf x v
def aI3 (w : World) : Key -> Int
 | .inl k => hashInt k
 | .inr x => hashStr w x
theorem bK : ∀ {k : Key} {v : Value}, aF9 k v = true -> (∃ i t, k = Sum.inl i /\ v = Value.int i t) \/ (∃ x t, k = Sum.inr x /\ v = Value.str x t)
 | .inl i, v, h => by
  obtain ⟨t, e⟩ := Value.isInt_shape (k := i) (v := v) h
  exact .inl ⟨i, t, rfl, e⟩
 | .inr x, v, h => by
  obtain ⟨t, e⟩ := Value.isStrOf_shape (x := x) (v := v) h
  exact .inr ⟨x, t, rfl, e⟩
theorem aHu (a b : Int) : decide ((Sum.inl a : Key) = Sum.inl b) = (a == b) := by
 by_cases e : a = b
 ·subst e; simp
 ·have h : ¬ (Sum.inl a : Key) = Sum.inl b := fun q => e (Sum.inl.inj q)
  rw [decide_eq_false h]
  exact (beq_eq_false_iff_ne.mpr e).symm
theorem aHv (a b : Str) : decide ((Sum.inr a : Key) = Sum.inr b) = decide (a = b) := by
 by_cases e : a = b
 ·subst e; simp
 ·have h : ¬ (Sum.inr a : Key) = Sum.inr b := fun q => e (Sum.inr.inj q)
  rw [decide_eq_false h, decide_eq_false e]
theorem aHn (a : Int) (b : Str) : decide ((Sum.inl a : Key) = Sum.inr b) = false := decide_eq_false (fun q => nomatch q)
theorem aFy (a : Str) (b : Int) : decide ((Sum.inr a : Key) = Sum.inl b) = false := decide_eq_false (fun q => nomatch q)
def xS (prog : Program) (w : World) : PySem.KeyKind prog w Key where
 is := aF9
 hash := aI3 w
 inj := fun v a b ha hb => by
  rcases bK ha with ⟨i, t, rfl, rfl⟩ | ⟨x, t, rfl, rfl⟩
  ·rcases bK hb with ⟨j, u, rfl, e⟩ | ⟨y, u, rfl, e⟩
   ·injection e with e1 _; rw [e1]
   ·exact nomatch e
  ·rcases bK hb with ⟨j, u, rfl, e⟩ | ⟨y, u, rfl, e⟩
   ·exact nomatch e
   ·injection e with e1 _; rw [e1]
 byValue := fun k v h => by
  rcases bK h with ⟨i, t, rfl, rfl⟩ | ⟨x, t, rfl, rfl⟩ <;> rfl
 pyHash := fun hv h => by
  rcases bK hv with ⟨i, t, rfl, rfl⟩ | ⟨x, t, rfl, rfl⟩
  ·exact wpAny_pyHash_int h
  ·exact wpAny_pyHash_str h
 eqBool := fun hu hv h => by
  rcases bK hu with ⟨i, t, rfl, rfl⟩ | ⟨x, t, rfl, rfl⟩
  ·rcases bK hv with ⟨j, u, rfl, rfl⟩ | ⟨y, u, rfl, rfl⟩
   ·rw [aHu] at h; exact wpAny_eqBool_int h
   ·rw [aHn] at h; exact SeqAt.EqAt.int_str i t y u _ _ _ _ h
  ·rcases bK hv with ⟨j, u, rfl, rfl⟩ | ⟨y, u, rfl, rfl⟩
   ·rw [aFy] at h; exact SeqAt.EqAt.str_int x t j u _ _ _ _ h
   ·rw [aHv] at h; exact wpAny_eqBool_str h
 «strs» := fun k x t v h => by
  rcases bK h with ⟨i, u, rfl, e⟩ | ⟨y, u, rfl, e⟩
  ·exact nomatch e
  ·injection e with e1 _
   subst e1
   cases v <;> rfl
inductive V where
 | non | bl (b : Bool) | int (i : Int) | str (x : Str) | byt (b : Array UInt8) | flt (b : UInt64) | ref (a : Addr) | ty (n : String)
 deriving DecidableEq
def RelV : V -> Value -> Prop
 | .non, u => u = Value.none
 | .bl b, u => u = Value.bool b
 | .int i, u => ∃ t, u = Value.int i t
 | .str x, u => ∃ t, u = Value.str x t
 | .byt b, u => ∃ t, u = Value.bytes b t
 | .flt b, u => ∃ t, u = Value.float b t
 | .ref a, u => u = Value.ref a
 | .ty n, u => u = Value.type n
abbrev Vals : List V -> List Value -> Prop := Paired RelV
theorem Vals.length {xs : List V} {us : List Value} (r : Vals xs us) : xs.length = us.length := Paired.length r
theorem Vals.get : ∀ {xs : List V} {us : List Value} {i : Nat} {x : V}, Vals xs us -> xs[i]? = some x -> ∃ u, us[i]? = some u /\ RelV x u
 | _, _, _, _, .nil, e => by simp at e
 | _, _, 0, _, .cons r _, e => by simp at e; subst e; exact ⟨_, rfl, r⟩
 | _, _, i + 1, x, .cons _ t, e => by
  obtain ⟨u, h1, h2⟩ := Vals.get (i := i) (x := x) t (by simpa using e)
  exact ⟨u, by simpa using h1, h2⟩
theorem Vals.append : ∀ {xs ys : List V} {us ws : List Value}, Vals xs us -> Vals ys ws -> Vals (xs ++ ys) (us ++ ws)
 | _, _, _, _, .nil, s => s
 | _, _, _, _, .cons r t, s => .cons r (Vals.append t s)
theorem Vals.take : ∀ {xs : List V} {us : List Value} (n : Nat), Vals xs us -> Vals (xs.take n) (us.take n)
 | _, _, 0, _ => .nil
 | _, _, _ + 1, .nil => .nil
 | _, _, n + 1, .cons r t => .cons r (Vals.take n t)
theorem Vals.drop : ∀ {xs : List V} {us : List Value} (n : Nat), Vals xs us -> Vals (xs.drop n) (us.drop n)
 | _, _, 0, r => r
 | _, _, _ + 1, .nil => .nil
 | _, _, n + 1, .cons _ t => Vals.drop n t
def aJl : Option V -> Option Value -> Prop
 | some v, some u => RelV v u
 | none, none => True
 | _, _ => False
def KV {κ : Type} : List (κ × V) -> List (κ × Value) -> Prop := Paired fun (p : κ × V) (q : κ × Value) => p.1 = q.1 /\ RelV p.2 q.2
def kV : Key -> V
 | .inl i => .int i
 | .inr x => .str x
inductive HO where
 /-- a list -/
 | lst (xs : List V)
 /-- a tuple (never changes) -/
 | tup (xs : List V)
 /-- a dict whose keys are ints and texts; one whose keys are tuples of ints and texts (the empty one is both) -/
 | dK (kvs : List (Key × V)) | dT (kvs : List (List Key × V))
 /-- a set of ints: its members, its size -/
 | set (S : Int -> Bool) (n : Nat)
 /-- an instance of the class at C, its dict at dx, its attributes -/
 | ins (C dx : Addr) (fs : List (Str × V))
 /-- the dict of the instance at x -/
 | own (x : Addr)
 /-- the dict of an exception -/
 | xd (fs : List (Str × V))
 /-- a bound method, f of x -/
 | met (f x : Addr)
 /-- a range object lo, lo + 1, .. below hi -/
 | rng (lo hi : Int)
 /-- a thing that is known to the object (the script; a dict while a loop walks it): read, never written while it is so -/
 | frz (o : Obj) (u : HO)
 /-- a code object's table -/
 | tbl (ps : Array Value)
 /-- any other thing, by what is true of its one object (a def of one's own: SetO a S n := HO.ext fun h => ..) -/
 | ext (φ : Heap -> Prop)
abbrev Hp := Addr -> Option HO
def upd (H : Hp) (a : Addr) (o : HO) : Hp := fun b => if b = a then some o else H b
theorem bB {H : Hp} {a : Addr} {o : HO} : upd H a o a = some o := by unfold upd; rw [if_pos rfl]
theorem a7 {H : Hp} {a b : Addr} {o : HO} (h : b ≠ a) : upd H a o b = H b := by unfold upd; rw [if_neg h]
theorem bO {H : Hp} {a b : Addr} {o : HO} (h : H a = some o) (h' : H b = none) : a ≠ b := by
 intro e; subst e; rw [h] at h'; cases h'
section
variable (P : Program) (w : World)
def ObjOk (H : Hp) (h : Heap) (a : Addr) : HO -> Prop
 | .lst xs => xs.length <= sizeLine /\ ∃ (its : List Value) (n : Nat), Vals xs its /\ h.get? a = some { cls := .type "list", data := .seq its.toArray n }
 | .tup xs => xs.length <= sizeLine /\ ∃ its : List Value, Vals xs its /\ IsTup h a its.toArray
 | .dK kvs => kvs.length <= sizeLine /\ (a == sysModules) = false /\ ∃ vs, KV kvs vs /\ h.DictOf (xS P w) a vs
 | .dT kvs => kvs.length <= sizeLine /\ (a == sysModules) = false /\ ∃ xs : List (List Key × Addr × Value),
   Paired (fun (p : List Key × V) (q : List Key × Addr × Value) => p.1 = q.1 /\ H q.2.1 = some (.tup (p.1.map kV)) /\ RelV p.2 q.2.2) kvs xs /\
   ∃ o es ep, h.get? a = some o /\ o.ExactDict /\ o.data = .dict es ep /\ es.toList = xs.map (entryOfKey (tupleKind (xS P w))) /\ (xs.map (·.1)).Nodup
 | .set S n => h.SetOf (intKind P w) a S n
 | .ins C dx fs => H dx = some (.own a) /\ fs.length <= 1000 /\ dx ≠ a /\ h.get? a = some (PySem.W.instObj C dx) /\
   ∃ mA, h.Ns1 dx mA /\ (∀ f, aJl (fs.lookup f) (mA f)) /\ PySem.Within mA (fs.map (·.1))
 | .own _ => ∃ o, h.get? a = some o
 | .xd fs => ∃ mA, h.Ns1 a mA /\ ∀ f, aJl (fs.lookup f) (mA f)
 | .rng lo hi => ∃ t u v, h.get? a = some { cls := .type "range", data := .fields #[.int lo t, .int hi u, .int 1 v] }
 | .frz o u => h.get? a = some o /\ ObjOk H h a u
 | .tbl ps => h.get? a = some { cls := .none, data := .fields ps }
 | .met f x => h.get? a = some (PySem.W.methodObj (.ref f) (.ref x))
 | .ext φ => φ h /\ (∃ o, h.get? a = some o) /\ ∀ h1 h2 : Heap, φ h1 -> (∀ o, h1.get? a = some o -> h2.get? a = some o) -> φ h2
def HOk (H : Hp) (h : Heap) : Prop := ∀ a o, H a = some o -> ObjOk P w H h a o
end
section
variable {P : Program} {w : World} {H H' : Hp} {h h' : Heap} {a : Addr} {o : HO}
theorem ObjOk.lt (x : ObjOk P w H h a o) : a < h.objs.size := by
 cases o with
 | lst xs => obtain ⟨_, _, _, _, e⟩ := x; exact Heap.lt_size e
 | tup xs => obtain ⟨_, _, _, p⟩ := x; exact p.lt
 | dK kvs => obtain ⟨_, _, _, _, o, _, _, e, _⟩ := x; exact Heap.lt_size e
 | dT kvs => obtain ⟨_, _, _, _, o, _, _, e, _⟩ := x; exact Heap.lt_size e
 | set S n => obtain ⟨o, _, _, _, e, _⟩ := x; exact Heap.lt_size e
 | ins C dx fs => obtain ⟨_, _, _, e, _⟩ := x; exact Heap.lt_size e
 | own y => obtain ⟨_, e⟩ := x; exact Heap.lt_size e
 | xd fs => obtain ⟨_, ⟨_, _, _, e, _⟩, _⟩ := x; exact Heap.lt_size e
 | rng lo hi => obtain ⟨_, _, _, e⟩ := x; exact Heap.lt_size e
 | frz ob u => obtain ⟨e, _⟩ := x; exact Heap.lt_size e
 | tbl ps => exact Heap.lt_size (show h.get? a = some _ from x)
 | met f y => exact Heap.lt_size (show h.get? a = some _ from x)
 | ext φ => obtain ⟨_, ⟨_, e⟩, _⟩ := x; exact Heap.lt_size e
theorem Paired.mapP {α β : Type} {F G : α -> β -> Prop} : ∀ {l₁ : List α} {l₂ : List β}, Paired F l₁ l₂ -> (∀ a b, F a b -> G a b) -> Paired G l₁ l₂
 | _, _, .nil, _ => .nil
 | _, _, .cons r t, f => .cons (f _ _ r) (Paired.mapP t f)
theorem ObjOk.stay (x : ObjOk P w H h a o) (k : ∀ b u, (b = a \/ H b = some (.own a)) -> h.get? b = some u -> h'.get? b = some u)
  (ho : ∀ b, H b = some (.own a) -> H' b = some (.own a)) (ht : ∀ b xs, H b = some (.tup xs) -> H' b = some (.tup xs)) : ObjOk P w H' h' a o := by
 induction o with
 | lst xs => obtain ⟨z, its, n, r, e⟩ := x; exact ⟨z, its, n, r, k _ _ (.inl rfl) e⟩
 | tup xs => obtain ⟨z, its, r, ob, e, c⟩ := x; exact ⟨z, its, r, ob, k _ _ (.inl rfl) e, c⟩
 | dK kvs => obtain ⟨z, y, vs, r, ob, es, ep, e, c⟩ := x; exact ⟨z, y, vs, r, ob, es, ep, k _ _ (.inl rfl) e, c⟩
 | dT kvs =>
  obtain ⟨z, y, xs, r, ob, es, ep, e, c⟩ := x
  exact ⟨z, y, xs, Paired.mapP r fun p q z => ⟨z.1, ht _ _ z.2.1, z.2.2⟩, ob, es, ep, k _ _ (.inl rfl) e, c⟩
 | set S n => obtain ⟨ob, es, ep, t, e, c⟩ := x; exact ⟨ob, es, ep, t, k _ _ (.inl rfl) e, c⟩
 | ins C dx fs =>
  obtain ⟨d, z, ne, e, mA, ⟨od, es, ep, e2, c⟩, r⟩ := x
  exact ⟨ho _ d, z, ne, k _ _ (.inl rfl) e, mA, ⟨od, es, ep, k _ _ (.inr d) e2, c⟩, r⟩
 | own y => obtain ⟨ob, e⟩ := x; exact ⟨ob, k _ _ (.inl rfl) e⟩
 | xd fs => obtain ⟨mA, ⟨od, es, ep, e, c⟩, r⟩ := x; exact ⟨mA, ⟨od, es, ep, k _ _ (.inl rfl) e, c⟩, r⟩
 | rng lo hi => obtain ⟨t, u, v, e⟩ := x; exact ⟨t, u, v, k _ _ (.inl rfl) e⟩
 | frz ob u ih => obtain ⟨e, q⟩ := x; exact ⟨k _ _ (.inl rfl) e, ih q⟩
 | tbl ps =>
  have e : h.get? a = some { cls := .none, data := .fields ps } := x
  show h'.get? a = some { cls := .none, data := .fields ps }
  exact k a _ (.inl rfl) e
 | met f y =>
  have e : h.get? a = some (PySem.W.methodObj (.ref f) (.ref y)) := x
  show h'.get? a = some (PySem.W.methodObj (.ref f) (.ref y))
  exact k a _ (.inl rfl) e
 | ext φ => obtain ⟨p, ⟨o, e⟩, st⟩ := x; exact ⟨st _ _ p fun o q => k _ _ (.inl rfl) q, ⟨o, k _ _ (.inl rfl) e⟩, st⟩
theorem HOk.lt (x : HOk P w H h) (e : H a = some o) : a < h.objs.size := (x a o e).lt
theorem HOk.fresh (x : HOk P w H h) (e : h.objs.size <= a) : H a = none := by
 cases q : H a with
 | none => rfl
 | some u => exact absurd (Nat.lt_of_lt_of_le (x.lt q) e) (Nat.lt_irrefl _)
theorem HOk.kept (x : HOk P w H h) (k : ∀ b u, h.get? b = some u -> h'.get? b = some u) : HOk P w H h' := fun a o e =>
 (x a o e).stay (fun b u _ q => k b u q) (fun _ q => q) fun _ _ q => q
theorem HOk.laid (x : HOk P w H h) (k : ∀ b u, h.get? b = some u -> h'.get? b = some u) (hp : h.objs.size <= a) (new : ObjOk P w (upd H a o) h' a o) : HOk P w (upd H a o) h' := fun b u e => by
 have hn := x.fresh hp
 by_cases hb : b = a
 ·subst hb; rw [bB] at e; cases e; exact new
 ·rw [a7 hb] at e
  exact (x b u e).stay (fun c v _ q => k c v q) (fun c q => by rw [a7 (bO q hn)]; exact q) fun c xs q => by rw [a7 (bO q hn)]; exact q
end
def Rd (H : Hp) (a : Addr) (u : HO) : Prop := H a = some u \/ ∃ o, H a = some (.frz o u)
theorem Rd.ok {P : Program} {w : World} {H : Hp} {h : Heap} {a : Addr} {u : HO} (r : Rd H a u) (x : HOk P w H h) : ObjOk P w H h a u := by
 rcases r with r | ⟨o, r⟩
 ·exact x a u r
 ·obtain ⟨_, q⟩ := x a _ r
  exact q
def Mut : Option HO -> Prop
 | some (.lst _) => True
 | some (.dK _) => True
 | some (.dT _) => True
 | some (.set _ _) => True
 | some (.ins _ _ _) => True
 | some (.ext _) => True
 | _ => False
section
variable {P : Program} {w : World} {H : Hp} {h h' : Heap} {x e : Addr} {o' : HO}
theorem HOk.write (ok : HOk P w H h) (mu : Mut (H x)) (he : e = x \/ H e = some (.own x)) (k : ∀ b u, b ≠ e -> h.get? b = some u -> h'.get? b = some u) (heo : ∃ u, h'.get? e = some u)
  (new : ObjOk P w (upd H x o') h' x o') : HOk P w (upd H x o') h' := fun b u q => by
 have nown : ∀ c y, H c = some (.own y) -> c ≠ x := fun c y r z => by subst z; rw [r] at mu; exact mu
 have ntup : ∀ c xs, H c = some (.tup xs) -> c ≠ x := fun c xs r z => by subst z; rw [r] at mu; exact mu
 by_cases hb : b = x
 ·subst hb; rw [bB] at q; cases q; exact new
 ·rw [a7 hb] at q
  by_cases hbe : b = e
  ·have q' : H b = some (.own x) := by
    rcases he with z | z
    ·exact absurd (hbe.trans z) hb
    ·rw [hbe]; exact z
   rw [q] at q'; cases q'
   obtain ⟨v, hv⟩ := heo
   exact ⟨v, by rw [hbe]; exact hv⟩
  ·refine (ok b u q).stay (fun c v hc r => k c v ?_ r) (fun c r => by rw [a7 (nown c b r)]; exact r) fun c xs r => by rw [a7 (ntup c xs r)]; exact r
   rcases hc with rfl | hc
   ·exact hbe
   ·rintro rfl
    rcases he with z | z
    ·exact nown c b hc z
    ·rw [hc] at z; cases z; exact hb rfl
end
structure Un (fs ex : List Addr) (H H' : Hp) (h h' : Heap) : Prop where
 keep : ∀ b o, h.get? b = some o -> H b = none -> b ∉ fs -> b ∉ ex -> h'.get? b = some o
 slot : ∀ b o, h.get? b = some o -> H b = none -> b ∈ fs -> b ∉ ex -> ∃ sl, h'.get? b = some { o with slots := sl }
 free : ∀ b o, h.get? b = some o -> H b = none -> b ∉ ex -> H' b = none
 there : ∀ b o, h.get? b = some o -> b ∉ ex -> ∃ o', h'.get? b = some o'
 tups : ∀ b xs, H b = some (.tup xs) -> H' b = some (.tup xs)
 frzs : ∀ b o u, H b = some (.frz o u) -> H' b = some (.frz o u)
 tbls : ∀ b ps, H b = some (.tbl ps) -> ∃ more, H' b = some (.tbl (ps ++ more))
section
variable {fs fs' ex ex' : List Addr} {H H1 H2 : Hp} {h h1 h2 h' : Heap} {a x e : Addr} {o : HO}
theorem Un.any (u : Un fs ex H H1 h h1) {b : Addr} {ob : Obj} (q : h.get? b = some ob) (n : H b = none) (hx : b ∉ ex) : ∃ sl, h1.get? b = some { ob with slots := sl } := by
 by_cases hb : b ∈ fs
 ·exact u.slot b ob q n hb hx
 ·exact ⟨ob.slots, u.keep b ob q n hb hx⟩
theorem Un.kept (k : ∀ b u, h.get? b = some u -> h'.get? b = some u) : Un fs ex H H h h' :=
 ⟨fun b ob q _ _ _ => k b ob q, fun b ob q _ _ _ => ⟨ob.slots, k b ob q⟩, fun _ _ _ n _ => n, fun b ob q _ => ⟨ob, k b ob q⟩, fun _ _ q => q, fun _ _ _ q => q, fun _ ps q => ⟨#[], by rw [q]; simp⟩⟩
theorem Un.refl : Un fs ex H H h h := Un.kept fun _ _ q => q
theorem Un.laid (k : ∀ b u, h.get? b = some u -> h'.get? b = some u) (hp : h.objs.size <= a) (hn : H a = none) : Un fs ex H (upd H a o) h h' where
 keep := fun b u q _ _ _ => k b u q
 slot := fun b u q _ _ _ => ⟨u.slots, k b u q⟩
 free := fun b u q n _ => by rw [a7 (Nat.ne_of_lt (Nat.lt_of_lt_of_le (Heap.lt_size q) hp))]; exact n
 there := fun b u q _ => ⟨u, k b u q⟩
 tups := fun b xs q => by rw [a7 (bO q hn)]; exact q
 frzs := fun b u xs q => by rw [a7 (bO q hn)]; exact q
 tbls := fun b ps q => ⟨#[], by rw [a7 (bO q hn), q]; simp⟩
theorem Un.write (mu : Mut (H x)) (he : e = x \/ H e = some (.own x)) (k : ∀ b u, b ≠ e -> h.get? b = some u -> h'.get? b = some u) (heo : ∃ u, h'.get? e = some u) : Un fs ex H (upd H x o) h h' := by
 have hx : ∀ b, H b = none -> b ≠ x := fun b n z => by subst z; rw [n] at mu; exact mu
 have hb : ∀ b, H b = none -> b ≠ e := fun b n z => by
  subst z
  rcases he with r | r
  ·exact hx b n r
  ·rw [n] at r; cases r
 have hm : ∀ b u, H b = some u -> ¬ Mut (some u) -> b ≠ x := fun b u q nm z => by subst z; rw [q] at mu; exact nm mu
 refine ⟨fun b u q n _ _ => k b u (hb b n) q, fun b u q n _ _ => ⟨u.slots, k b u (hb b n) q⟩, fun b u q n _ => by rw [a7 (hx b n)]; exact n, fun b u q _ => ?_,
  fun b xs q => by rw [a7 (hm b _ q fun z => z)]; exact q, fun b u xs q => by rw [a7 (hm b _ q fun z => z)]; exact q, fun b ps q => ⟨#[], by rw [a7 (hm b _ q fun z => z), q]; simp⟩⟩
 by_cases hbe : b = e
 ·subst hbe; exact heo
 ·exact ⟨u, k b u hbe q⟩
end
def trk (h : Heap) (H : Hp) : List Addr := (List.range h.objs.size).filter fun a => (H a).isSome
def xY (h : Heap) (H : Hp) : Heap := PySem.W.hideAll h (trk h H)
theorem vO (h : Heap) (H : Hp) : (xY h H).objs.size = h.objs.size := PySem.W.hideAll_size _ _
theorem zK {h : Heap} {H : Hp} {b : Addr} {o : Obj} (e : h.get? b = some o) (n : H b = none) : (xY h H).get? b = some o :=
 PySem.W.hideAll_get _ e fun hm => by
  have q : (H b).isSome = true := (List.mem_filter.mp hm).2
  rw [n] at q; simp at q
theorem aB8 {h : Heap} {H : Hp} {b : Addr} {o : Obj} (e : (xY h H).get? b = some o) : h.get? b = some o /\ H b = none := by
 have e' : h.get? b = some o := PySem.W.of_hideAll (trk h H) e
 refine ⟨e', ?_⟩
 cases q : H b with
 | none => rfl
 | some x =>
  have hm : b ∈ trk h H := List.mem_filter.mpr ⟨List.mem_range.mpr (Heap.lt_size e'), by simp [q]⟩
  have z : (xY h H).get? b = none := PySem.W.hideAll_none (trk h H) hm
  rw [z] at e; cases e
def aC4 (g h : Heap) (L : Addr) : List (Addr × Obj) := (List.range h.objs.size).filterMap fun a => if a = L \/ (g.get? a).isSome = true then none else (h.get? a).map fun o => (a, o)
def rest (g h : Heap) (L d : Addr) : List (Addr × Obj) := (aC4 g h L).filter fun p => decide (p.1 ≠ d)
structure Mod (K : PySem.W.Frag) (mg : Str -> Option Value) (base : Heap) : Prop where
 kin : K.In base
 glob : base.Ns mainGlobals mg
 blt : ∃ mb, base.Ns builtinsNs mb /\ ∀ x : Str, x ≠ "__name__" -> mb x = bootBuiltins x
 nolimit : base.NoLimit
structure Cx where
 prog : Program
 w : World
 K : PySem.W.Frag
 mg : Str -> Option Value
 base : Heap
 A : Around
 N : List Str
 s₀ : Shared
 H₀ : Hp
 env : Env
 outer : List Env
 stack : List Env
 ex : List Addr
 fn : Str -> Bool
 calm : Bool
 pn : List (Addr × Obj)
 xe : Value -> Shared -> Prop
def frs (l : List Env) : List Addr := l.filterMap (·.frame)
abbrev Cx.fs (X : Cx) : List Addr := frs X.outer
def Vis (sc : Scope) (x : Str) : Prop := sc.names.lookup x = some .local \/ sc.names.lookup x = some .cell \/ sc.names.lookup x = some .free
def Loc (sc : Scope) (x : Str) : Prop := sc.names.lookup x = some .local \/ sc.names.lookup x = some .cell
def Look (env : Env) (h : Heap) (m : Str -> Option Value) (x : Str) (u : Value) : Prop :=
 (env.kindOf x = some .local /\ m x = some u) \/ ((env.kindOf x = some .cell \/ env.kindOf x = some .free) /\ ∃ c, env.cells.lookup x = some c /\ h.IsCell c (some u))
structure Cx.Ok (X : Cx) : Prop where
 mod : Mod X.K X.mg X.base
 kind : X.env.scope.kind = .function
 glob : X.env.globals = mainGlobals
 blt : X.env.builtins = builtinsNs
 above : X.s₀.heap.objs.size <= X.env.locals
 inj : ∀ x y c, X.env.cells.lookup x = some c -> X.env.cells.lookup y = some c -> x = y
 has : ∀ x, (X.env.kindOf x = some .cell \/ X.env.kindOf x = some .free) -> ∃ c, X.env.cells.lookup x = some c
 cab : ∀ x c, X.fn x = true -> X.env.cells.lookup x = some c -> X.s₀.heap.objs.size <= c
 hd : X.calm = true -> X.A.handled = none
 frames : X.A.frames = some X.stack
 stk : X.stack = X.outer \/ (X.stack = X.env :: X.outer /\ X.env.frame = some X.env.locals)
 exf : ∀ b ∈ X.ex, b ≠ X.env.locals /\ ∀ x c, X.env.cells.lookup x = some c -> c ≠ b
 bs : ∀ b o, X.base.get? b = some o -> X.s₀.heap.get? b = some o /\ X.H₀ b = none
 bsz : X.base.objs.size <= X.s₀.heap.objs.size
 noex : ∀ b o, X.base.get? b = some o -> b ∉ X.ex
 exfs : ∀ b ∈ X.ex, b ∉ X.fs
 funs : X.s₀.heap.FunFrames X.base X.outer
 frf : ∀ b ∈ X.fs, X.H₀ b = none
structure Inv (X : Cx) (pins : List (Addr × Obj)) (σ : List (Option V)) (H : Hp) (s : Shared) : Prop where
 ok : X.Ok
 os : s.os = X.s₀.os
 bare : AllBare s.gens
 base : Un X.fs X.ex X.H₀ H X.s₀.heap s.heap
 loc : ∃ m, s.heap.Ns X.env.locals m /\ ∀ (i : Nat) (x : Str) (v : V), X.N[i]? = some x -> σ[i]? = some (some v) -> Vis X.env.scope x -> ∃ u, RelV v u /\ Look X.env s.heap m x u
 cell : ∀ x c, X.env.cells.lookup x = some c -> ∃ v, s.heap.IsCell c v
 free : H X.env.locals = none
 freeC : ∀ x c, X.env.cells.lookup x = some c -> H c = none
 pin : ∀ p ∈ X.pn ++ pins, s.heap.get? p.1 = some p.2 /\ H p.1 = none /\ p.1 ≠ X.env.locals /\ p.1 ∉ X.fs /\ ∀ v, p.2.data ≠ .cell v
 hok : HOk X.prog X.w H s.heap
 len : σ.length = X.N.length
section
variable {X : Cx} {pins : List (Addr × Obj)} {σ : List (Option V)} {H H' : Hp} {s : Shared} {h' : Heap}
theorem Cx.Ok.nofr (ok : X.Ok) {b : Addr} {o : Obj} (e : X.base.get? b = some o) : b ∉ X.fs := fun hb => by
 have := (ok.funs.mem hb).1
 rw [e] at this; cases this
theorem Inv.bs (I : Inv X pins σ H s) : ∀ b o, X.base.get? b = some o -> s.heap.get? b = some o /\ H b = none := fun b o e =>
 ⟨I.base.keep b o (I.ok.bs b o e).1 (I.ok.bs b o e).2 (I.ok.nofr e) (I.ok.noex b o e), I.base.free b o (I.ok.bs b o e).1 (I.ok.bs b o e).2 (I.ok.noex b o e)⟩
theorem Inv.bk (I : Inv X pins σ H s) : ∀ b o, X.base.get? b = some o -> s.heap.get? b = some o := fun b o e => (I.bs b o e).1
theorem Inv.mod (I : Inv X pins σ H s) : Mod X.K X.mg X.base := I.ok.mod
theorem Inv.kIn (I : Inv X pins σ H s) : X.K.In s.heap := I.ok.mod.kin.keeps I.bk
theorem Inv.lt (I : Inv X pins σ H s) : X.env.locals < s.heap.objs.size := let ⟨_, hn, _⟩ := I.loc; hn.lt
theorem Inv.sz (I : Inv X pins σ H s) : X.s₀.heap.objs.size <= s.heap.objs.size := Nat.le_trans I.ok.above (Nat.le_of_lt I.lt)
theorem Inv.nofs (I : Inv X pins σ H s) {a : Addr} (h : s.heap.objs.size <= a) : a ∉ X.fs := fun hb => by
 obtain ⟨_, o, ho, _⟩ := I.ok.funs.mem hb
 exact absurd (Nat.lt_of_lt_of_le (Heap.lt_size ho) (Nat.le_trans I.sz h)) (Nat.lt_irrefl _)
theorem Inv.cne (I : Inv X pins σ H s) : ∀ x c, X.env.cells.lookup x = some c -> c ≠ X.env.locals := fun x c e z => by
 obtain ⟨v, o, ho, hd⟩ := I.cell x c e
 obtain ⟨m, ⟨o', es, ep, ho', hd', _⟩, _⟩ := I.loc
 rw [z, ho'] at ho; cases ho; rw [hd'] at hd; cases hd
theorem Inv.funs (I : Inv X pins σ H s) : s.heap.FunFrames X.base X.outer := by
 have all : ∀ (l : List Env), (∀ b ∈ frs l, b ∈ X.fs) -> X.s₀.heap.FunFrames X.base l -> s.heap.FunFrames X.base l := by
  intro l
  induction l with
  | nil => intro _ _; trivial
  | cons env r ih =>
   intro hs hl
   obtain ⟨hk, ⟨L, o, hf, hn, ho, hd⟩, hr⟩ := hl
   have hL : L ∈ X.fs := hs L (by unfold frs; rw [List.filterMap_cons, hf]; exact List.mem_cons_self)
   obtain ⟨sl, e⟩ := I.base.slot L o ho (I.ok.frf L hL) hL fun z => I.ok.exfs L z hL
   exact ⟨hk, ⟨L, _, hf, hn, e, hd⟩, ih (fun b hb => hs b (by unfold frs; rw [List.filterMap_cons, hf]; exact List.mem_cons_of_mem _ hb)) hr⟩
 exact all X.outer (fun _ hb => hb) I.ok.funs
theorem Inv.stack (I : Inv X pins σ H s) : s.heap.FunFrames X.base X.stack := by
 rcases I.ok.stk with e | ⟨e, hf⟩
 ·rw [e]; exact I.funs
 ·rw [e]
  obtain ⟨m, hn, _⟩ := I.loc
  refine .cons (by rw [I.ok.kind]; decide) hf hn ?_ I.funs
  exact Heap.get?_none_of_le (Nat.le_trans I.ok.bsz I.ok.above)
theorem Inv.stkSub (I : Inv X pins σ H s) : ∀ b ∈ frs X.stack, b ∈ X.env.locals :: X.fs := fun b hb => by
 rcases I.ok.stk with e | ⟨e, hf⟩
 ·rw [e] at hb; exact List.mem_cons_of_mem _ hb
 ·rw [e] at hb
  unfold frs at hb
  rw [List.filterMap_cons, hf] at hb
  exact hb
theorem Inv.stkFree (I : Inv X pins σ H s) : ∀ b ∈ frs X.stack, H b = none := fun b hb => by
 rcases List.mem_cons.mp (I.stkSub b hb) with e | hb
 ·rw [e]; exact I.free
 ·obtain ⟨_, o, ho, _⟩ := I.ok.funs.mem hb
  exact I.base.free b o ho (I.ok.frf b hb) fun z => I.ok.exfs b z hb
theorem Inv.step {g' : Array GenState} {t' : Nat} {d' : Drawn} {ch : List Addr} (I : Inv X pins σ H s)
  (hch : ∀ b ∈ ch, (b ∈ X.ex \/ X.s₀.heap.objs.size <= b) /\ b ≠ X.env.locals /\ (∀ x c, X.env.cells.lookup x = some c -> c ≠ b) /\ ∀ p ∈ X.pn ++ pins, p.1 ≠ b)
  (keep : ∀ b o, b ≠ X.env.locals -> b ∉ X.fs -> b ∉ ch -> s.heap.get? b = some o -> H b = none -> h'.get? b = some o)
  (slot : ∀ b o, b ≠ X.env.locals -> b ∈ X.fs -> b ∉ ch -> s.heap.get? b = some o -> H b = none -> ∃ sl, h'.get? b = some { o with slots := sl }) (free : ∀ b o, b ∉ ch -> s.heap.get? b = some o -> H b = none -> H' b = none)
  (there : ∀ b o, b ∉ ch -> s.heap.get? b = some o -> ∃ o', h'.get? b = some o')
  (tups : ∀ b xs, H b = some (.tup xs) -> H' b = some (.tup xs)) (frzs : ∀ b o u, H b = some (.frz o u) -> H' b = some (.frz o u)) (tbls : ∀ b ps, H b = some (.tbl ps) -> ∃ more, H' b = some (.tbl (ps ++ more)))
  (ns : ∀ m, s.heap.Ns X.env.locals m -> h'.Ns X.env.locals m) (hok : HOk X.prog X.w H' h') (hg : AllBare g') :
  Inv X pins σ H' { s with heap := h', gens := g', drawn := d', toks := t' } := by
 have neL : ∀ b o, X.s₀.heap.get? b = some o -> b ≠ X.env.locals := fun b o e => Nat.ne_of_lt (Nat.lt_of_lt_of_le (Heap.lt_size e) I.ok.above)
 have neC : ∀ b o, X.s₀.heap.get? b = some o -> b ∉ X.ex -> b ∉ ch := fun b o e hx hb => by
  rcases (hch b hb).1 with z | z
  ·exact hx z
  ·exact absurd (Nat.lt_of_lt_of_le (Heap.lt_size e) z) (Nat.lt_irrefl _)
 have cellK : ∀ x c, X.env.cells.lookup x = some c -> ∀ v, s.heap.IsCell c v -> h'.IsCell c v := fun x c e v ⟨o, ho, hd⟩ => by
  have nch : c ∉ ch := fun z => (hch c z).2.2.1 x c e rfl
  by_cases hc : c ∈ X.fs
  ·obtain ⟨sl, q⟩ := slot c o (I.cne x c e) hc nch ho (I.freeC x c e)
   exact ⟨_, q, hd⟩
  ·exact ⟨o, keep c o (I.cne x c e) hc nch ho (I.freeC x c e), hd⟩
 refine ⟨I.ok, I.os, hg, ⟨fun b o e n hb hx => ?_, fun b o e n hb hx => ?_, fun b o e n hx => ?_, fun b o e hx => ?_, fun b xs e => tups b xs (I.base.tups b xs e), fun b o xs e => frzs b o xs (I.base.frzs b o xs e), fun b ps e => ?_⟩, ?_, fun x c e => ?_, ?_, fun x c e => ?_, fun p hp => ?_, hok, I.len⟩
 ·exact keep b o (neL b o e) hb (neC b o e hx) (I.base.keep b o e n hb hx) (I.base.free b o e n hx)
 ·obtain ⟨sl, e1⟩ := I.base.slot b o e n hb hx
  obtain ⟨sl', e2⟩ := slot b _ (neL b o e) hb (neC b o e hx) e1 (I.base.free b o e n hx)
  exact ⟨sl', e2⟩
 ·obtain ⟨o', e1⟩ := I.base.there b o e hx
  exact free b o' (neC b o e hx) e1 (I.base.free b o e n hx)
 ·obtain ⟨o', e1⟩ := I.base.there b o e hx
  exact there b o' (neC b o e hx) e1
 ·obtain ⟨m1, e1⟩ := I.base.tbls b ps e
  obtain ⟨m2, e2⟩ := tbls b _ e1
  exact ⟨m1 ++ m2, by rw [e2, Array.append_assoc]⟩
 ·obtain ⟨m, hn, hl⟩ := I.loc
  refine ⟨m, ns m hn, fun i x v e1 e2 e3 => ?_⟩
  obtain ⟨u, r, l⟩ := hl i x v e1 e2 e3
  refine ⟨u, r, ?_⟩
  rcases l with l | ⟨k, c, e, z⟩
  ·exact .inl l
  ·exact .inr ⟨k, c, e, cellK x c e _ z⟩
 ·obtain ⟨v, z⟩ := I.cell x c e
  exact ⟨v, cellK x c e v z⟩
 ·obtain ⟨m, ⟨o, _, _, ho, _⟩, _⟩ := I.loc
  exact free _ o (fun z => (hch _ z).2.1 rfl) ho I.free
 ·obtain ⟨v, o, ho, hd⟩ := I.cell x c e
  exact free c o (fun z => (hch c z).2.2.1 x c e rfl) ho (I.freeC x c e)
 ·obtain ⟨e, n, ne, nf, d⟩ := I.pin p hp
  have nch : p.1 ∉ ch := fun z => (hch p.1 z).2.2.2 p hp rfl
  exact ⟨keep p.1 p.2 ne nf nch e n, free p.1 p.2 nch e n, ne, nf, d⟩
theorem Inv.un {t' : Nat} (I : Inv X pins σ H s) (u : Un X.fs [] H H' s.heap h') (hok : HOk X.prog X.w H' h') : Inv X pins σ H' { s with heap := h', toks := t' } := by
 obtain ⟨m, ⟨o, es, ep, ho, r⟩, _⟩ := id I.loc
 obtain ⟨sl, hL⟩ := u.any ho I.free (by simp)
 exact I.step (g' := s.gens) (d' := s.drawn) (ch := []) (fun _ z => nomatch z) (fun b o _ hb _ e n => u.keep b o e n hb (by simp)) (fun b o _ hb _ e n => u.slot b o e n hb (by simp)) (fun b o _ e n => u.free b o e n (by simp)) (fun b o _ e => u.there b o e (by simp)) u.tups u.frzs u.tbls (fun m' hm => by
  obtain ⟨o', es', ep', ho', r'⟩ := hm
  rw [ho] at ho'; cases ho'
  exact ⟨_, es', ep', hL, r'⟩) hok I.bare
theorem Inv.call {g' : Array GenState} {t' : Nat} {d' : Drawn} {ch : List Addr} (I : Inv X pins σ H s) (u : Un (frs X.stack) ch H H' s.heap h') (hok : HOk X.prog X.w H' h') (hg : AllBare g')
  (hch : ∀ b ∈ ch, (b ∈ X.ex \/ X.s₀.heap.objs.size <= b) /\ b ≠ X.env.locals /\ (∀ x c, X.env.cells.lookup x = some c -> c ≠ b) /\ ∀ p ∈ X.pn ++ pins, p.1 ≠ b) :
  Inv X pins σ H' { s with heap := h', gens := g', drawn := d', toks := t' } := by
 obtain ⟨m, ⟨o, es, ep, ho, r⟩, _⟩ := id I.loc
 obtain ⟨sl, hL⟩ := u.any ho I.free fun z => (hch _ z).2.1 rfl
 exact I.step (ch := ch) hch (fun b o hL hb hc e n => u.keep b o e n (fun z => (List.mem_cons.mp (I.stkSub b z)).elim hL hb) hc) (fun b o _ _ hc e n => u.any e n hc) (fun b o hc e n => u.free b o e n hc) (fun b o hc e => u.there b o e hc) u.tups u.frzs u.tbls (fun m' hm => by
  obtain ⟨o', es', ep', ho', r'⟩ := hm
  rw [ho] at ho'; cases ho'
  exact ⟨_, es', ep', hL, r'⟩) hok hg
theorem Inv.turned {t' : Nat} {it : Addr} (I : Inv X pins σ H s) (k : ∀ b o, b ≠ it -> s.heap.get? b = some o -> h'.get? b = some o) (hn : H it = none) (hL : it ≠ X.env.locals)
  (h1 : it ∈ X.ex \/ X.s₀.heap.objs.size <= it) (h2 : ∀ x c, X.env.cells.lookup x = some c -> c ≠ it) (h3 : ∀ p ∈ X.pn ++ pins, p.1 ≠ it) : Inv X pins σ H { s with heap := h', toks := t' } := by
 have nit : ∀ b u, H b = some u -> b ≠ it := fun b u e z => by rw [z, hn] at e; cases e
 refine I.step (g' := s.gens) (d' := s.drawn) (ch := [it]) (fun b hb => ?_) (fun b o _ _ hc e _ => k b o (fun z => hc (by simp [z])) e) (fun b o _ _ hc e _ => ⟨o.slots, k b o (fun z => hc (by simp [z])) e⟩) (fun _ _ _ _ n => n)
  (fun b o hc e => ⟨o, k b o (fun z => hc (by simp [z])) e⟩) (fun _ _ e => e) (fun _ _ _ e => e) (fun b ps e => ⟨#[], by rw [e]; simp⟩) (fun m hm => ?_) (fun b u e => ?_) I.bare
 ·have e : b = it := by simpa using hb
  subst e
  exact ⟨h1, hL, h2, h3⟩
 ·obtain ⟨o, es, ep, ho, r⟩ := hm
  exact ⟨o, es, ep, k _ o (Ne.symm hL) ho, r⟩
 ·refine (I.hok b u e).stay (fun c v hc q => k c v ?_ q) (fun _ q => q) fun _ _ q => q
  rcases hc with z | z
  ·rw [z]; exact nit b u e
  ·exact nit c _ z
theorem Inv.tok (I : Inv X pins σ H s) (t : Nat) : Inv X pins σ H { s with toks := t } := I.un (h' := s.heap) (t' := t) Un.refl I.hok
theorem Inv.kept {t' : Nat} (I : Inv X pins σ H s) (k : ∀ b u, s.heap.get? b = some u -> h'.get? b = some u) : Inv X pins σ H { s with heap := h', toks := t' } := I.un (Un.kept k) (I.hok.kept k)
theorem Inv.laid {a : Addr} {o : HO} {t' : Nat} (I : Inv X pins σ H s) (k : ∀ b u, s.heap.get? b = some u -> h'.get? b = some u) (hp : s.heap.objs.size <= a) (new : ObjOk X.prog X.w (upd H a o) h' a o) :
  Inv X pins σ (upd H a o) { s with heap := h', toks := t' } := I.un (Un.laid k hp (I.hok.fresh hp)) (I.hok.laid k hp new)
theorem Inv.write {x e : Addr} {o : HO} {t' : Nat} (I : Inv X pins σ H s) (mu : Mut (H x)) (he : e = x \/ H e = some (.own x)) (k : ∀ b u, b ≠ e -> s.heap.get? b = some u -> h'.get? b = some u) (heo : ∃ u, h'.get? e = some u)
  (new : ObjOk X.prog X.w (upd H x o) h' x o) : Inv X pins σ (upd H x o) { s with heap := h', toks := t' } := I.un (Un.write mu he k heo) (I.hok.write mu he k heo new)
theorem Inv.weak {σ' : List (Option V)} (I : Inv X pins σ H s) (hl : σ'.length = σ.length) (w : ∀ (i : Nat) v, σ'[i]? = some (some v) -> σ[i]? = some (some v)) : Inv X pins σ' H s :=
 ⟨I.ok, I.os, I.bare, I.base, let ⟨m, hn, hl'⟩ := I.loc; ⟨m, hn, fun i x v e1 e2 e3 => hl' i x v e1 (w i v e2) e3⟩, I.cell, I.free, I.freeC, I.pin, I.hok, hl.trans I.len⟩
theorem Inv.pins_of {pins' : List (Addr × Obj)} (I : Inv X pins σ H s) (h : ∀ p ∈ pins', s.heap.get? p.1 = some p.2 /\ H p.1 = none /\ p.1 ≠ X.env.locals /\ p.1 ∉ X.fs /\ ∀ v, p.2.data ≠ .cell v) : Inv X pins' σ H s :=
 ⟨I.ok, I.os, I.bare, I.base, I.loc, I.cell, I.free, I.freeC, fun p hp => (List.mem_append.mp hp).elim (fun z => I.pin p (List.mem_append_left _ z)) (h p), I.hok, I.len⟩
theorem rN {N : List Str} (hN : N.Nodup) {i j : Nat} {x : Str} (a : N[i]? = some x) (b : N[j]? = some x) : i = j := by
 obtain ⟨h1, e1⟩ := List.getElem?_eq_some_iff.mp a
 obtain ⟨h2, e2⟩ := List.getElem?_eq_some_iff.mp b
 exact (List.getElem_inj hN).mp (e1.trans e2.symm)
theorem uA {M : Model} {A : Around} {E : Value -> Shared -> Prop} {i : Nat} {x : Str} {v : V} {u : Value} {Q : Unit -> Shared -> Prop} (I : Inv X pins σ H s) (hN : X.N.Nodup) (hi : X.N[i]? = some x) (hx : Loc X.env.scope x) (r : RelV v u)
  (h : ∀ s', Inv X pins (σ.set i (some v)) H s' -> (∃ a, Heap.SameBut a s.heap s'.heap /\ (a = X.env.locals \/ X.env.cells.lookup x = some a)) -> Q () s') (hf : X.fn x = true \/ X.env.scope.names.lookup x = some .local := by first | exact .inl rfl | exact .inr rfl | assumption) : wpAny M A (storeName X.env x u) Q E s := by
 obtain ⟨m, hn, hl⟩ := id I.loc
 have hcls : (X.env.scope.kind == .class || (X.env.scope.kind == .module && X.env.locals != X.env.globals)) = false := by rw [I.ok.kind]; rfl
 have hiσ : i < σ.length := by rw [I.len]; exact (List.getElem?_eq_some_iff.mp hi).1
 have cne := I.cne
 have tracked : ∀ {a : Addr} {h' : Heap}, (∃ o, s.heap.get? a = some o /\ H a = none) -> Heap.SameBut a s.heap h' -> HOk X.prog X.w H h' := fun {a h'} ha hs b ob e => by
  obtain ⟨_, _, hfree⟩ := ha
  refine (I.hok b ob e).stay (fun c w' hc q => (hs.2 c ?_).trans q) (fun _ q => q) fun _ _ q => q
  rintro rfl
  rcases hc with rfl | hc
  ·rw [hfree] at e; cases e
  ·rw [hfree] at hc; cases hc
 rcases hx with hk | hk
 ·refine wpAny_storeName_local hk hn (fun h' hn' hs => ?_) hcls
  obtain ⟨oL, _, _, hoL, _⟩ := id hn
  refine h _ ⟨I.ok, I.os, I.bare, ⟨fun b o e n hb hx => ?_, fun b o e n hb hx => ?_, I.base.free, fun b o e hx => ?_, I.base.tups, I.base.frzs, I.base.tbls⟩, ⟨_, hn', fun j y v' e1 e2 e3 => ?_⟩, fun y c e => ?_, I.free, I.freeC, fun p hp => ?_, tracked ⟨oL, hoL, I.free⟩ hs, by simpa using I.len⟩ ⟨_, hs, .inl rfl⟩
  ·exact (hs.2 b (Nat.ne_of_lt (Nat.lt_of_lt_of_le (Heap.lt_size e) I.ok.above))).trans (I.base.keep b o e n hb hx)
  ·obtain ⟨sl, e1⟩ := I.base.slot b o e n hb hx
   exact ⟨sl, (hs.2 b (Nat.ne_of_lt (Nat.lt_of_lt_of_le (Heap.lt_size e) I.ok.above))).trans e1⟩
  ·obtain ⟨o', e1⟩ := I.base.there b o e hx
   exact ⟨o', (hs.2 b (Nat.ne_of_lt (Nat.lt_of_lt_of_le (Heap.lt_size e) I.ok.above))).trans e1⟩
  ·by_cases hj : j = i
   ·subst hj
    rw [hi] at e1; cases e1
    rw [List.getElem?_set_self hiσ] at e2
    cases e2
    exact ⟨u, r, .inl ⟨hk, by simp⟩⟩
   ·rw [List.getElem?_set_ne (Ne.symm hj)] at e2
    obtain ⟨u', r', q⟩ := hl j y v' e1 e2 e3
    refine ⟨u', r', ?_⟩
    rcases q with ⟨k, e⟩ | ⟨k, c, e, z⟩
    ·refine .inl ⟨k, ?_⟩
     have : y ≠ x := fun e => hj (rN hN e1 (e ▸ hi))
     simp [this, e]
    ·exact .inr ⟨k, c, e, z.sameBut hs (cne y c e)⟩
  ·obtain ⟨w', z⟩ := I.cell y c e
   exact ⟨w', z.sameBut hs (cne y c e)⟩
  ·obtain ⟨e, n, ne, nf, d⟩ := I.pin p hp
   exact ⟨(hs.2 p.1 ne).trans e, n, ne, nf, d⟩
 ·have hfn : X.fn x = true := by
   rcases hf with z | z
   ·exact z
   ·rw [z] at hk; cases hk
  obtain ⟨c, hc⟩ := I.ok.has x (.inl hk)
  obtain ⟨w', z⟩ := I.cell x c hc
  refine wpAny_storeName_cell I.ok.kind hk hc z (fun h' hc' hs => ?_)
  obtain ⟨oc, hoc, hocd⟩ := id z
  refine h { s with heap := h' } ⟨I.ok, I.os, I.bare, ⟨fun b o e n hb hx => ?_, fun b o e n hb hx => ?_, I.base.free, fun b o e hx => ?_, I.base.tups, I.base.frzs, I.base.tbls⟩, ⟨m, hn.sameBut hs (Ne.symm (cne x c hc)), fun j y v' e1 e2 e3 => ?_⟩, fun y c' e => ?_, I.free, I.freeC, fun p hp => ?_, tracked ⟨oc, hoc, I.freeC x c hc⟩ hs, by simpa using I.len⟩ ⟨c, hs, .inr hc⟩
  ·exact (hs.2 b (Nat.ne_of_lt (Nat.lt_of_lt_of_le (Heap.lt_size e) (I.ok.cab x c hfn hc)))).trans (I.base.keep b o e n hb hx)
  ·obtain ⟨sl, e1⟩ := I.base.slot b o e n hb hx
   exact ⟨sl, (hs.2 b (Nat.ne_of_lt (Nat.lt_of_lt_of_le (Heap.lt_size e) (I.ok.cab x c hfn hc)))).trans e1⟩
  ·obtain ⟨o', e1⟩ := I.base.there b o e hx
   exact ⟨o', (hs.2 b (Nat.ne_of_lt (Nat.lt_of_lt_of_le (Heap.lt_size e) (I.ok.cab x c hfn hc)))).trans e1⟩
  ·by_cases hj : j = i
   ·subst hj
    rw [hi] at e1; cases e1
    rw [List.getElem?_set_self hiσ] at e2
    cases e2
    exact ⟨u, r, .inr ⟨.inl hk, c, hc, hc'⟩⟩
   ·rw [List.getElem?_set_ne (Ne.symm hj)] at e2
    obtain ⟨u', r', q⟩ := hl j y v' e1 e2 e3
    refine ⟨u', r', ?_⟩
    rcases q with q | ⟨k, c', e, z'⟩
    ·exact .inl q
    ·refine .inr ⟨k, c', e, z'.sameBut hs ?_⟩
     rintro rfl
     exact hj (rN hN e1 (I.ok.inj _ _ _ e hc ▸ hi))
  ·by_cases hcc : c' = c
   ·subst hcc; exact ⟨_, hc'⟩
   ·obtain ⟨w2, z2⟩ := I.cell y c' e
    exact ⟨w2, z2.sameBut hs hcc⟩
  ·obtain ⟨e, n, ne, nf, d⟩ := I.pin p hp
   refine ⟨(hs.2 p.1 ?_).trans e, n, ne, nf, d⟩
   intro q
   rw [q, hoc] at e
   have q' : oc = p.2 := Option.some.inj e
   exact d w' (by rw [<- q']; exact hocd)
theorem qS {M : Model} {A : Around} {E : Value -> Shared -> Prop} {i : Nat} {x : Str} {v : V} {u : Value} {Q : Unit -> Shared -> Prop} (I : Inv X pins σ H s) (hN : X.N.Nodup) (hi : X.N[i]? = some x) (hx : Loc X.env.scope x) (r : RelV v u)
  (h : ∀ s', Inv X pins (σ.set i (some v)) H s' -> Q () s') (hf : X.fn x = true \/ X.env.scope.names.lookup x = some .local := by first | exact .inl rfl | exact .inr rfl | assumption) : wpAny M A (storeName X.env x u) Q E s :=
 uA I hN hi hx r (fun s' I' _ => h s' I') hf
theorem Inv.call' {s' : Shared} {ch : List Addr} (I : Inv X pins σ H s) (ho : s'.os = s.os) (u : Un (frs X.stack) ch H H' s.heap s'.heap) (hok : HOk X.prog X.w H' s'.heap) (hg : AllBare s'.gens)
  (hch : ∀ b ∈ ch, (b ∈ X.ex \/ X.s₀.heap.objs.size <= b) /\ b ≠ X.env.locals /\ (∀ x c, X.env.cells.lookup x = some c -> c ≠ b) /\ ∀ p ∈ X.pn ++ pins, p.1 ≠ b) : Inv X pins σ H' s' := by
 obtain ⟨h', g', d', t', o'⟩ := s'
 have e : o' = s.os := ho
 subst e
 exact I.call (g' := g') (t' := t') (d' := d') u hok hg hch
end
abbrev XK := Value -> Option Addr -> Hp -> Prop
abbrev St := List (Option V)
abbrev VK := V -> Hp -> Prop
abbrev TE := St -> Hp -> VK -> Prop
abbrev TT := St -> Hp -> (Bool -> Hp -> Prop) -> Prop
abbrev TA := St -> Hp -> (List V -> Hp -> Prop) -> Prop
structure Ends where
 nx : St -> Hp -> Prop
 rt : VK
 bk : St -> Hp -> Prop := fun _ _ => False
 ct : St -> Hp -> Prop := fun _ _ => False
abbrev TS := Ends -> St -> Hp -> Prop
def EP (X : Cx) (pins : List (Addr × Obj)) (σ : St) (Q : VK) (u : Value) (s' : Shared) : Prop := ∃ v H', Inv X pins σ H' s' /\ RelV v u /\ Q v H'
def TP (X : Cx) (pins : List (Addr × Obj)) (σ : St) (Q : Bool -> Hp -> Prop) (b : Bool) (s' : Shared) : Prop := ∃ H', Inv X pins σ H' s' /\ Q b H'
def AP (X : Cx) (pins : List (Addr × Obj)) (σ : St) (Q : List V -> Hp -> Prop) (us : List Value) (s' : Shared) : Prop := ∃ vs H', Inv X pins σ H' s' /\ Vals vs us /\ Q vs H'
def SP (X : Cx) (pins : List (Addr × Obj)) (D : Ends) (f : Flow) (s' : Shared) : Prop :=
 match f with
 | .next => ∃ σ' H', Inv X pins σ' H' s' /\ D.nx σ' H'
 | .brk => ∃ σ' H', Inv X pins σ' H' s' /\ D.bk σ' H'
 | .cont => ∃ σ' H', Inv X pins σ' H' s' /\ D.ct σ' H'
 | .ret u => ∃ v σ' H', Inv X pins σ' H' s' /\ RelV v u /\ D.rt v H'
def PE (X : Cx) (e : Expr) (t : TE) : Prop :=
 ∀ (pins : List (Addr × Obj)) (s : Shared) (σ : St) (H : Hp) (Q : VK), Inv X pins σ H s -> t σ H Q -> wpAny (model X.prog X.w) X.A (eval e X.env) (EP X pins σ Q) X.xe s
def PT (X : Cx) (e : Expr) (t : TT) : Prop :=
 ∀ (pins : List (Addr × Obj)) (s : Shared) (σ : St) (H : Hp) (Q : Bool -> Hp -> Prop), Inv X pins σ H s -> t σ H Q -> wpAny (model X.prog X.w) X.A (isTrue e X.env (eval e X.env)) (TP X pins σ Q) X.xe s
def PW (X : Cx) (e : Expr) (t : TT) : Prop :=
 ∀ (whole : Sem Value) (pins : List (Addr × Obj)) (s : Shared) (σ : St) (H : Hp) (Q : Bool -> Hp -> Prop), Inv X pins σ H s -> t σ H Q -> wpAny (model X.prog X.w) X.A (isTrue e X.env whole) (TP X pins σ Q) X.xe s
def PA (X : Cx) (es : List Expr) (t : TA) : Prop :=
 ∀ (pos : Pos) (pins : List (Addr × Obj)) (s : Shared) (σ : St) (H : Hp) (Q : List V -> Hp -> Prop), Inv X pins σ H s -> t σ H Q -> wpAny (model X.prog X.w) X.A (spliced (backTo pos (starEach es X.env))) (AP X pins σ Q) X.xe s
def PS (X : Cx) (st : Stmt) (t : TS) : Prop :=
 ∀ (pins : List (Addr × Obj)) (s : Shared) (σ : St) (H : Hp) (D : Ends), Inv X pins σ H s -> t D σ H -> wpAny (model X.prog X.w) X.A (exec st X.env) (SP X pins D) X.xe s
def PSs (X : Cx) (st : List Stmt) (t : TS) : Prop :=
 ∀ (pins : List (Addr × Obj)) (s : Shared) (σ : St) (H : Hp) (D : Ends), Inv X pins σ H s -> t D σ H -> wpAny (model X.prog X.w) X.A (execs st X.env) (SP X pins D) X.xe s
theorem thn {α : Type} {t : Sem α} {Q Q' : α -> Shared -> Prop} {M : Model} {A : Around} {E : Value -> Shared -> Prop} {s : Shared} (h : wpAny M A t Q E s) (hQ : ∀ a s, Q a s -> Q' a s) : wpAny M A t Q' E s := wpAny_mono h hQ fun _ _ x => x
section
variable {X : Cx}
def aEp (i : Nat) : TE := fun σ H Q => ∃ v, σ[i]? = some (some v) /\ Q v H
def tC (v : V) : TE := fun _ H Q => Q v H
theorem aAp {i : Nat} {x : Str} {pos : Pos} (hN : X.N[i]? = some x) (hv : Vis X.env.scope x) (hd : (x == ("__debug__" : Str)) = false := by decide) (hcd : (x == ("__classdict__" : Str)) = false := by decide) : PE X (.Name x pos) (aEp i) := by
 intro pins s σ H Q I h
 obtain ⟨v, e, h⟩ := h
 obtain ⟨m, hn, hl⟩ := I.loc
 obtain ⟨u, r, l⟩ := hl i x v hN e hv
 have fin : EP X pins σ Q u s := ⟨v, H, I, r, h⟩
 rcases l with ⟨hk, hm⟩ | ⟨hk, c, hc, hcell⟩
 ·exact wpAny_Name (wpAny_loadName_local I.ok.kind hk hn hm fin) hd
 ·rcases hk with hk | hk
  ·exact wpAny_Name (wpAny_loadName_cell I.ok.kind hk hc hcell fin) hd
  ·exact wpAny_Name (wpAny_loadName_free I.ok.kind hk hc hcell fin hcd) hd
theorem aGw {i j pos} : PE X (.Constant (.int i) j pos) (tC (.int i)) := fun _ _ _ H _ I h => wpAny_Constant_int ⟨.int i, H, I.tok _, ⟨_, rfl⟩, h⟩
theorem aJk {b j pos} : PE X (.Constant (.bool b) j pos) (tC (.bl b)) := fun _ _ _ H _ I h => Constant_bool ⟨.bl b, H, I, rfl, h⟩
theorem aFm {x j pos} : PE X (.Constant (.str x) j pos) (tC (.str x)) := fun _ _ _ H _ I h => Calls.Constant_str ⟨.str x, H, I.tok _, ⟨_, rfl⟩, h⟩
def Gl (X : Cx) (x : Str) : Prop := X.env.kindOf x = some .globalImplicit
theorem aEc {E : Value -> Shared -> Prop} {pins : List (Addr × Obj)} {s : Shared} {σ : St} {H : Hp} {x : Str} {u : Value} {pos : Pos} {Q : Value -> Shared -> Prop} (I : Inv X pins σ H s) (hg : Gl X x) (hm : X.mg x = some u) (h : Q u s)
  (hd : (x == ("__debug__" : Str)) = false := by decide) : wpAny (model X.prog X.w) X.A (eval (.Name x pos) X.env) Q E s :=
 Calls.Name_function_global I.ok.kind hg (Calls.loadGlobal_global (by rw [I.ok.glob]; exact I.mod.glob.keeps I.bk) hm h) hd
theorem iH {E : Value -> Shared -> Prop} {pins : List (Addr × Obj)} {s : Shared} {σ : St} {H : Hp} {x : Str} {u : Value} {pos : Pos} {Q : Value -> Shared -> Prop} (I : Inv X pins σ H s) (hg : Gl X x) (hm : X.mg x = none) (hv : bootBuiltins x = some u) (h : Q u s)
  (hn : x ≠ "__name__" := by decide) (hd : (x == ("__debug__" : Str)) = false := by decide) : wpAny (model X.prog X.w) X.A (eval (.Name x pos) X.env) Q E s := by
 obtain ⟨mb, h1, h2⟩ := I.mod.blt
 exact Calls.Name_function_global I.ok.kind hg (Calls.loadGlobal_builtin (by rw [I.ok.glob]; exact I.mod.glob.keeps I.bk) hm (by rw [I.ok.blt]; exact h1.keeps I.bk) ((h2 x hn).trans hv) h) hd
theorem uD {x : Str} {v : V} {u : Value} {pos : Pos} (hg : Gl X x) (hm : X.mg x = none) (hv : bootBuiltins x = some u) (r : RelV v u) (hn : x ≠ "__name__" := by decide) (hd : (x == ("__debug__" : Str)) = false := by decide) : PE X (.Name x pos) (tC v) :=
 fun _ _ _ H _ I h => iH I hg hm hv ⟨v, H, I, r, h⟩ hn hd
variable {a b : Expr} {ta tb : TE} {pos : Pos}
def tB (t : TE) : TT := fun σ H Q => t σ H fun x H1 => ∃ c, x = .bl c /\ Q c H1
theorem aHp {e : Expr} {t : TE} (h : PE X e t) (he : ∀ whole, isTrue e X.env whole = (do let v <- whole; standAt e.pos; holding [v] (truthy v)) := by intro _; rfl) : PT X e (tB t) := by
 intro pins s σ H Q I hw
 refine isTrue_plain (thn (h pins s σ H _ I hw) fun v s1 ⟨x, H1, I1, r1, q1⟩ => ?_) (he _)
 obtain ⟨d, rfl, q⟩ := q1
 cases r1
 exact wpAny_truthy_bool ⟨H1, I1, q⟩
variable {tA tB' : TT} {rest : List Expr}
def aKi (t u : TT) : TT := fun σ H Q => t σ H fun c H1 => if c = true then u σ H1 Q else Q false H1
def tOr (t u : TT) : TT := fun σ H Q => t σ H fun c H1 => if c = true then Q true H1 else u σ H1 Q
def aKt (t : TT) : TT := fun σ H Q => t σ H fun c H1 => Q (!c) H1
theorem aDw (ha : PT X a tA) : PW X (.BoolOp .And [a] pos) tA := by
 intro wh pins s σ H Q I h
 refine isTrue_and (thn (ha pins s σ H Q I h) fun c s1 e => ?_)
 cases c with
 | true => exact isTrue_and_nil e
 | false => exact e
theorem aHr (ha : PT X a tA) : PW X (.BoolOp .Or [a] pos) tA := by
 intro wh pins s σ H Q I h
 refine isTrue_or (thn (ha pins s σ H Q I h) fun c s1 e => ?_)
 cases c with
 | false => exact isTrue_or_nil e
 | true => exact e
theorem aFp (ha : PT X a tA) (hb : PW X (.BoolOp .And (b :: rest) pos) tB') : PW X (.BoolOp .And (a :: b :: rest) pos) (aKi tA tB') := by
 intro wh pins s σ H Q I h
 refine isTrue_and (thn (ha pins s σ H _ I h) fun c s1 ⟨H1, I1, q1⟩ => ?_)
 cases c with
 | true => exact hb wh pins s1 σ H1 Q I1 q1
 | false => exact ⟨H1, I1, q1⟩
theorem aI6 (ha : PT X a tA) (hb : PW X (.BoolOp .Or (b :: rest) pos) tB') : PW X (.BoolOp .Or (a :: b :: rest) pos) (tOr tA tB') := by
 intro wh pins s σ H Q I h
 refine isTrue_or (thn (ha pins s σ H _ I h) fun c s1 ⟨H1, I1, q1⟩ => ?_)
 cases c with
 | true => exact ⟨H1, I1, q1⟩
 | false => exact hb wh pins s1 σ H1 Q I1 q1
theorem aEz (ha : PT X a tA) : PT X (.UnaryOp .Not a pos) (aKt tA) := by
 intro pins s σ H Q I h
 exact isTrue_not (ha pins s σ H (fun c H1 => Q (!c) H1) I h)
def aI1 (ta tb : TE) : TE := fun σ H Q => ta σ H fun x H1 => ∃ c, x = .bl c /\ if c = true then tb σ H1 Q else Q (.bl false) H1
def aIs (ta : TE) : TE := fun σ H Q => ta σ H fun x H1 => ∃ c, x = .bl c /\ Q (.bl (!c)) H1
theorem aHw {op} {t : TE} (h : PE X a t) : PE X (.BoolOp op [a] pos) t := fun pins s σ H Q I hw => BoolOp_one (h pins s σ H Q I hw)
theorem aGd (ha : PE X a ta) (hb : PE X (.BoolOp .And (b :: rest) pos) tb) : PE X (.BoolOp .And (a :: b :: rest) pos) (aI1 ta tb) := by
 intro pins s σ H Q I h
 refine BoolOp_and (thn (ha pins s σ H _ I h) fun v s1 ⟨x, H1, I1, r1, q1⟩ => ?_)
 obtain ⟨c, rfl, q1⟩ := q1
 cases r1
 refine wpAny_truthy_bool ?_
 cases c with
 | true => exact hb pins s1 σ H1 Q I1 q1
 | false => exact ⟨.bl false, H1, I1, rfl, q1⟩
theorem aGi (ha : PE X a ta) : PE X (.UnaryOp .Not a pos) (aIs ta) := by
 intro pins s σ H Q I h
 refine UnaryOp_ (thn (ha pins s σ H _ I h) fun v s1 ⟨x, H1, I1, r1, q1⟩ => ?_)
 obtain ⟨c, rfl, q1⟩ := q1
 cases r1
 exact not_of (wpAny_truthy_bool ⟨.bl (!c), H1, I1, rfl, q1⟩)
end
def SqL (K : PySem.W.Frag) (H : Hp) (a : Addr) (xs : List V) : Prop :=
 Rd H a (.lst xs) \/
  ∃ (o : Obj) (its : Array Value) (n : Nat), K.lookup a = some o /\ o.cls = .type "list" /\ o.dict = none /\ o.data = .seq its n /\ its.size <= sizeLine /\ Vals xs its.toList
def SqT (K : PySem.W.Frag) (H : Hp) (a : Addr) (xs : List V) : Prop :=
 Rd H a (.tup xs) \/
  ∃ (o : Obj) (its : Array Value) (n : Nat), K.lookup a = some o /\ o.cls = .type "tuple" /\ o.data = .seq its n /\ its.size <= sizeLine /\ Vals xs its.toList
def aKk : Value -> Option V
 | .none => some .non
 | .bool b => some (.bl b)
 | .int i _ => some (.int i)
 | .str x _ => some (.str x)
 | .bytes b _ => some (.byt b)
 | .float b _ => some (.flt b)
 | .ref a => some (.ref a)
 | .type n => some (.ty n)
 | _ => none
theorem RelV.abs {x : V} {u : Value} (r : RelV x u) : aKk u = some x := by
 cases x with
 | non => cases r; rfl
 | bl _ => cases r; rfl
 | int _ => obtain ⟨t, rfl⟩ := r; rfl
 | str _ => obtain ⟨t, rfl⟩ := r; rfl
 | byt _ => obtain ⟨t, rfl⟩ := r; rfl
 | flt _ => obtain ⟨t, rfl⟩ := r; rfl
 | ref _ => cases r; rfl
 | ty _ => cases r; rfl
theorem RelV.inj {x y : V} {u : Value} (r : RelV x u) (q : RelV y u) : x = y := Option.some.inj (r.abs.symm.trans q.abs)
theorem Vals.inj : ∀ {xs ys : List V} {us : List Value}, Vals xs us -> Vals ys us -> xs = ys
 | _, _, _, .nil, .nil => rfl
 | _, _, _, .cons r t, .cons r' t' => by rw [r.inj r', Vals.inj t t']
section
variable {X : Cx} {pins : List (Addr × Obj)} {σ : St} {H : Hp} {s : Shared} {a : Addr} {xs ys : List V}
theorem SqL.of {K : PySem.W.Frag} (h : H a = some (.lst xs)) : SqL K H a xs := .inl (.inl h)
theorem SqT.of {K : PySem.W.Frag} (h : H a = some (.tup xs)) : SqT K H a xs := .inl (.inl h)
theorem Inv.list (I : Inv X pins σ H s) (h : SqL X.K H a xs) : ∃ its : List Value, Vals xs its /\ PlainL s.heap a its.toArray /\ xs.length <= sizeLine := by
 rcases h with h | ⟨o, its, n, hk, hc, hd, hs, hz, r⟩
 ·obtain ⟨z, its, n, r, e⟩ := h.ok I.hok
  exact ⟨its, r, ⟨_, n, e, rfl, rfl, rfl⟩, z⟩
 ·refine ⟨its.toList, r, ⟨o, n, I.kIn a o hk, hc, hd, by simpa using hs⟩, ?_⟩
  have e := r.length
  simp only [Array.length_toList] at e
  omega
theorem Inv.tuple (I : Inv X pins σ H s) (h : SqT X.K H a xs) : ∃ its : List Value, Vals xs its /\ IsTup s.heap a its.toArray /\ xs.length <= sizeLine := by
 rcases h with h | ⟨o, its, n, hk, hc, hs, hz, r⟩
 ·obtain ⟨z, its, r, p⟩ := h.ok I.hok
  exact ⟨its, r, p, z⟩
 ·refine ⟨its.toList, r, ⟨o, I.kIn a o hk, hc, n, by simpa using hs⟩, ?_⟩
  have e := r.length
  simp only [Array.length_toList] at e
  omega
theorem Inv.list_inj (I : Inv X pins σ H s) (h : SqL X.K H a xs) (h' : SqL X.K H a ys) : xs = ys := by
 obtain ⟨its, r, ⟨o, n, e, _, _, d⟩, _⟩ := I.list h
 obtain ⟨its', r', ⟨o', n', e', _, _, d'⟩, _⟩ := I.list h'
 rw [e] at e'; cases e'
 rw [d] at d'
 injection d' with d1 _
 have : its = its' := by simpa using congrArg Array.toList d1
 subst this
 exact r.inj r'
end
section
variable {X : Cx} {pins : List (Addr × Obj)} {σ : St} {H : Hp} {s : Shared} {E : Value -> Shared -> Prop}
end
section
variable {X : Cx} {st : Stmt} {rest : List Stmt} {t u : TS} {e : Expr} {te : TE} {pos : Pos}
def aJn : TS := fun D σ H => D.nx σ H
def aKx (t u : TS) : TS := fun D σ H => t { D with nx := u D } σ H
theorem aEf : PSs X [] aJn := fun _ _ σ H _ I h => wpAny_execs_nil ⟨σ, H, I, h⟩
theorem zD (h1 : PS X st t) (h2 : PSs X rest u) : PSs X (st :: rest) (aKx t u) := by
 intro pins s σ H D I h
 refine wpAny_execs_cons (thn (h1 pins s σ H { D with nx := u D } I h) fun f s1 q => ?_)
 cases f with
 | next =>
  obtain ⟨σ', H', I', q⟩ := q
  exact h2 pins s1 σ' H' D I' q
 | ret v => exact q
 | brk => exact q
 | cont => exact q
theorem aC5 (h1 : PS X st t) : PSs X [st] t := by
 intro pins s σ H D I h
 refine wpAny_execs_cons (thn (h1 pins s σ H D I h) fun f s1 q => ?_)
 cases f with
 | next => exact wpAny_execs_nil q
 | ret v => exact q
 | brk => exact q
 | cont => exact q
theorem Inv.quiet {pins : List (Addr × Obj)} {σ : St} {H : Hp} {s : Shared} (I : Inv X pins σ H s) : interactive X.env = false := by simp [interactive, I.ok.kind]
def wQ (te : TE) : TS := fun D σ H => te σ H fun _ H1 => D.nx σ H1
theorem hV (he : PE X e te) (hs : swapsWith e none pos.line X.env = pure false := by rfl) : PS X (.Expr e pos) (wQ te) := by
 intro pins s σ H D I h
 exact wpAny_Expr_any (thn (he pins s σ H _ I h) fun v s1 ⟨x, H1, I1, r1, q1⟩ => ⟨σ, H1, I1, q1⟩) I.quiet hs
def aKo (te : TE) : TS := fun D σ H => te σ H D.rt
theorem aFs (he : PE X e te) : PS X (.Return (some e) pos) (aKo te) := by
 intro pins s σ H D I h
 exact wpAny_Return_some (thn (he pins s σ H _ I h) fun v s1 ⟨x, H1, I1, r1, q1⟩ => ⟨x, σ, H1, I1, r1, q1⟩)
def aKw (c : TT) (t u : TS) : TS := fun D σ H => c σ H fun b H1 => if b = true then t D σ H1 else u D σ H1
theorem aIz {c : Expr} {a b : List Stmt} {tc : TT} (hc : PT X c tc) (ha : PSs X a t) (hb : PSs X b u) : PS X (.If c a b pos) (aKw tc t u) := by
 intro pins s σ H D I h
 refine wpAny_If (thn (hc pins s σ H _ I h) fun d s1 ⟨H1, I1, q1⟩ => ?_)
 cases d with
 | true => exact ha pins s1 σ H1 D I1 q1
 | false => exact hb pins s1 σ H1 D I1 q1
end
abbrev TG := V -> St -> Hp -> (St -> Hp -> Prop) -> Prop
abbrev TGs := List V -> St -> Hp -> (St -> Hp -> Prop) -> Prop
def PG (X : Cx) (target : Expr) (t : TG) : Prop :=
 ∀ (pins : List (Addr × Obj)) (s : Shared) (σ : St) (H : Hp) (v : V) (u : Value) (Q : St -> Hp -> Prop), Inv X pins σ H s -> RelV v u -> t v σ H Q ->
  wpAny (model X.prog X.w) X.A (assign target X.env u) (fun _ s' => ∃ σ' H', Inv X pins σ' H' s' /\ Q σ' H') X.xe s
def PGs (X : Cx) (ts : List Expr) (t : TGs) : Prop :=
 ∀ (pins : List (Addr × Obj)) (s : Shared) (σ : St) (H : Hp) (vs : List V) (us : List Value) (Q : St -> Hp -> Prop), Inv X pins σ H s -> Vals vs us -> t vs σ H Q ->
  wpAny (model X.prog X.w) X.A (assignInOrder ((assignEach ts X.env).map (·.2)) us) (fun _ s' => ∃ σ' H', Inv X pins σ' H' s' /\ Q σ' H') X.xe s
section
variable {X : Cx} {pos : Pos}
def aDb (i : Nat) : TG := fun v σ H Q => Q (σ.set i (some v)) H
theorem wG {i : Nat} {x : Str} (hN : X.N.Nodup) (hi : X.N[i]? = some x) (hx : Loc X.env.scope x) (hf : X.fn x = true \/ X.env.scope.names.lookup x = some .local := by first | exact .inl rfl | exact .inr rfl | assumption) : PG X (.Name x pos) (aDb i) := by
 intro pins s σ H v u Q I r h
 exact wpAny_assign_Name (qS I hN hi hx r (fun s' I' => ⟨_, H, I', h⟩) hf)
def aKr : TGs := fun vs σ H Q => vs = [] /\ Q σ H
def aJq (t : TG) (u : TGs) : TGs := fun vs σ H Q => ∃ v r, vs = v :: r /\ t v σ H fun σ' H' => u r σ' H' Q
theorem aBu : PGs X [] aKr := by
 intro pins s σ H vs us Q I r h
 obtain ⟨e, h⟩ := h
 subst e
 cases r
 exact assignInOrder_nil ⟨σ, H, I, h⟩
theorem x8 {e : Expr} {es : List Expr} {t : TG} {u : TGs} (h1 : PG X e t) (h2 : PGs X es u)
  (hs : (assignEach (e :: es) X.env).map (·.2) = assign e X.env :: (assignEach es X.env).map (·.2) := by rfl) : PGs X (e :: es) (aJq t u) := by
 intro pins s σ H vs us Q I r h
 obtain ⟨v, vr, e1, h⟩ := h
 subst e1
 cases r with
 | cons r rr =>
  rw [hs]
  refine assignInOrder_cons (thn (h1 pins s σ H _ _ _ I r h) fun _ s1 ⟨σ1, H1, I1, q1⟩ => ?_)
  exact h2 pins s1 σ1 H1 _ _ Q I1 rr q1
def aKu (K : PySem.W.Frag) (n : Nat) (t : TGs) : TG := fun v σ H Q => ∃ a xs, v = .ref a /\ SqT K H a xs /\ xs.length = n /\ t xs σ H Q
theorem aFh {es : List Expr} {k : Nat} {t : TGs} {n : Nat} (hc : X.calm = true) (h : PGs X es t)
  (hn : (assignEach es X.env).length = n := by rfl) (hst : (assignEach es X.env).findIdx? (·.1) = none := by rfl) : PG X (.Tuple es k pos) (aKu X.K n t) := by
 intro pins s σ H v u Q I r hw
 obtain ⟨a, xs, e1, hq, hl, hw⟩ := hw
 subst e1
 cases r
 obtain ⟨its, rv, ht, hz⟩ := I.tuple hq
 refine assign_Tuple_tuple (I.ok.hd hc) ht (by simp [hn, <- hl, rv.length]) hst fun h' hx => ?_
 have I1 : Inv X pins σ H { s with heap := h' } := I.kept (t' := s.toks) fun b o e => hx b o (Nat.ne_of_lt (Heap.lt_size e)) e
 exact h pins _ σ H xs _ Q I1 (by simpa using rv) hw
def aJz (te : TE) (g : TG) : TS := fun D σ H => te σ H fun x H1 => g x σ H1 D.nx
theorem aFu {i : Nat} {x : Str} {e : Expr} {te : TE} {pos' : Pos} (hN : X.N.Nodup) (hi : X.N[i]? = some x) (hx : Loc X.env.scope x) (he : PE X e te) (hs : swapsWith e (some (.Name x pos')) pos.line X.env = pure false := by rfl) (hf : X.fn x = true \/ X.env.scope.names.lookup x = some .local := by first | exact .inl rfl | exact .inr rfl | assumption) :
  PS X (.Assign [.Name x pos'] e pos) (aJz te (aDb i)) := by
 intro pins s σ H D I h
 refine wpAny_Assign_Name (thn (he pins s σ H _ I h) fun v s1 ⟨y, H1, I1, r1, q1⟩ => ?_) hs
 exact qS I1 hN hi hx r1 (fun s2 I2 => ⟨_, H1, I2, q1⟩) hf
end
section
variable {X : Cx} {pos : Pos}
def aGm (c : TT) (tb : TS) : TS := fun D σ H => ∃ W : Nat -> St -> Hp -> Prop, (∃ m, W m σ H) /\ ∀ m σ H, W m σ H ->
 c σ H fun b H1 => if b = true then ∃ N : St -> Hp -> Prop, (∀ σ' H', N σ' H' -> ∃ m', m' < m /\ W m' σ' H') /\ tb { D with nx := N, ct := N, bk := D.nx } σ H1 else D.nx σ H1
theorem yP {c : Expr} {body : List Stmt} {tc : TT} {tb : TS} (hp : PassesOwn (model X.prog X.w) X.A X.env X.xe) (hc : PT X c tc) (hb : PSs X body tb) : PS X (.While c body [] pos) (aGm tc tb) := by
 intro pins s σ H D I h
 obtain ⟨W, ⟨m0, w0⟩, turn⟩ := h
 refine wpAny_While (codeAny_whileLoop (fun n s' => ∃ σ' H', Inv X pins σ' H' s' /\ W n σ' H') ?_ m0 ⟨σ, H, I, w0⟩)
 rintro n s1 ⟨σ1, H1, I1, w1⟩
 refine wpAny_passesOwn hp (thn (hc pins s1 σ1 H1 _ I1 (turn n σ1 H1 w1)) fun b s2 ⟨H2, I2, q2⟩ => ?_)
 cases b with
 | true =>
  obtain ⟨N, hN, q2⟩ := q2
  rw [if_pos rfl]
  refine wpAny_passesOwn hp (thn (hb pins s2 σ1 H2 _ I2 q2) fun f s3 q3 => ?_)
  cases f with
  | next =>
   obtain ⟨σ3, H3, I3, n3⟩ := q3
   obtain ⟨m', hm, w3⟩ := hN σ3 H3 n3
   exact ⟨m', hm, σ3, H3, I3, w3⟩
  | cont =>
   obtain ⟨σ3, H3, I3, n3⟩ := q3
   obtain ⟨m', hm, w3⟩ := hN σ3 H3 n3
   exact ⟨m', hm, σ3, H3, I3, w3⟩
  | brk => exact q3
  | ret v => exact q3
 | false =>
  rw [if_neg Bool.false_ne_true]
  exact wpAny_execs_nil ⟨σ1, H2, I2, q2⟩
end
structure It where
 go : Nat -> Hp -> Prop
 yld : Nat -> Hp -> V -> Hp -> Prop
 stop : Nat -> Hp -> Prop
def aAj (X : Cx) (pins : List (Addr × Obj)) (H : Hp) (b : Addr) : Prop :=
 H b = none /\ b ≠ X.env.locals /\ b ∉ X.fs /\ (b ∈ X.ex \/ X.s₀.heap.objs.size <= b) /\ (∀ x c, X.env.cells.lookup x = some c -> c ≠ b) /\ ∀ p ∈ X.pn ++ pins, p.1 ≠ b
theorem Inv.fpOk {X : Cx} {pins : List (Addr × Obj)} {σ : St} {H H' : Hp} {s : Shared} {b : Addr} (I : Inv X pins σ H s) (hb : s.heap.objs.size <= b) (hn : H' b = none) : aAj X pins H' b := by
 refine ⟨hn, Nat.ne_of_gt (Nat.lt_of_lt_of_le I.lt hb), I.nofs hb, .inr (Nat.le_trans I.sz hb), fun x c e z => ?_, fun p hp z => ?_⟩
 ·obtain ⟨v, q⟩ := I.cell x c e
  exact absurd (Nat.lt_of_lt_of_le q.lt (by rw [z]; exact hb)) (Nat.lt_irrefl _)
 ·exact absurd (Nat.lt_of_lt_of_le (Heap.lt_size (I.pin p hp).1) (by rw [z]; exact hb)) (Nat.lt_irrefl _)
structure Turn (P : Program) (w : World) (K : PySem.W.Frag) (tg : Expr) (J : It) (fp : List Addr) (it : Addr) (tn : Nat -> Heap -> Prop) : Prop where
 mem : it ∈ fp
 obj : ∀ i h, tn i h -> ∀ b ∈ fp, ∃ o, h.get? b = some o /\ ∀ v, o.data ≠ .cell v
 keep : ∀ i h h', tn i h -> (∀ b ∈ fp, ∀ o, h.get? b = some o -> h'.get? b = some o) -> tn i h'
 item : ∀ (X : Cx), X.prog = P -> X.w = w -> X.K = K -> X.calm = true -> ∀ (i : Nat) (pins : List (Addr × Obj)) (s : Shared) (σ : St) (H : Hp) (E : Value -> Shared -> Prop), Inv X pins σ H s -> (∀ b ∈ fp, aAj X pins H b) -> tn i s.heap -> J.go i H ->
  wpAny (model P w) X.A (pyNext (.ref it)) (fun r s1 => ∃ u, r = some u /\
   wpAny (model P w) X.A (letOwnedTupleGo tg (.ref it) u) (fun _ s2 => ∃ x H', Inv X pins σ H' s2 /\ RelV x u /\ J.yld i H x H' /\ tn (i + 1) s2.heap /\ ∀ b ∈ fp, H' b = none) E s1) E s
 done : ∀ (X : Cx), X.prog = P -> X.w = w -> X.K = K -> X.calm = true -> ∀ (i : Nat) (pins : List (Addr × Obj)) (s : Shared) (σ : St) (H : Hp) (E : Value -> Shared -> Prop), Inv X pins σ H s -> (∀ b ∈ fp, aAj X pins H b) -> tn i s.heap -> J.stop i H ->
  wpAny (model P w) X.A (pyNext (.ref it)) (fun r s1 => r = none /\ Inv X pins σ H s1) E s
 self : ∀ (A : Around) (i : Nat) (s : Shared) (Q : Value -> Shared -> Prop) (E : Value -> Shared -> Prop), tn i s.heap -> Q (.ref it) s -> wpAny (model P w) A (pyIter (.ref it)) Q E s
abbrev TI := St -> Hp -> (It -> Hp -> Prop) -> Prop
def PIE (X : Cx) (pins : List (Addr × Obj)) (σ : St) (tg : Expr) (R : It -> Hp -> Prop) (itv : Value) (s2 : Shared) : Prop :=
 ∃ (it : Addr) (fp : List Addr) (tn : Nat -> Heap -> Prop) (J : It) (H' : Hp), itv = .ref it /\ Inv X pins σ H' s2 /\ Turn X.prog X.w X.K tg J fp it tn /\ tn 0 s2.heap /\ (∀ b ∈ fp, aAj X pins H' b) /\ R J H'
def PI (X : Cx) (tg iter : Expr) (wi : TI) : Prop :=
 ∀ (pins : List (Addr × Obj)) (s : Shared) (σ : St) (H : Hp) (R : It -> Hp -> Prop), Inv X pins σ H s -> wi σ H R ->
  wpAny (model X.prog X.w) X.A (eval iter X.env) (fun v s1 => wpAny (model X.prog X.w) X.A (pyIter v) (PIE X pins σ tg R) X.xe s1) X.xe s
theorem aGu {M : Model} {A : Around} {E : Value -> Shared -> Prop} {s : Shared} {tg : Expr} {it : Addr} {u : Value} {o : Obj} {n : String} {vs : Array Value} {Q : Unit -> Shared -> Prop} (ho : s.heap.get? it = some o) (hc : o.cls = .type n) (hd : o.data = .fields vs)
  (hn : ["enumerate", "zip", "dict_itemiterator", "dict_reverseitemiterator", "odict_iterator", "itertools.zip_longest", "itertools.pairwise"].contains n = false) (hQ : Q () s) : wpAny M A (letOwnedTupleGo tg (.ref it) u) Q E s := by
 unfold letOwnedTupleGo
 cases tg <;> first
  | exact wpAny_pure hQ
  | (cases u <;> first
    | exact wpAny_pure hQ
    | (refine wpAny_bind (wpAny_load ho ?_)
       rw [hc, hd]
       show wpAny M A (if (["enumerate", "zip", "dict_itemiterator", "dict_reverseitemiterator", "odict_iterator", "itertools.zip_longest", "itertools.pairwise"].contains n && vs[0]? == some (rawInt _)) = true then _ else _) Q E s
       rw [if_neg (by intro h; rw [hn, Bool.false_and] at h; cases h)]
       exact wpAny_pure hQ))
def Itl (K : PySem.W.Frag) (a : Addr) : It :=
 ⟨fun i H => ∃ xs x, SqL K H a xs /\ xs[i]? = some x, fun i H x H' => H' = H /\ ∀ xs, SqL K H a xs -> xs[i]? = some x, fun i H => ∃ xs, SqL K H a xs /\ xs.length <= i⟩
def Itr (lo : Int) (n : Nat) : It := ⟨fun i _ => i < n, fun i H x H' => H' = H /\ x = .int (lo + i), fun i _ => n <= i⟩
theorem w6 {P : Program} {w : World} {K : PySem.W.Frag} {tg : Expr} (a it : Addr) : Turn P w K tg (Itl K a) [it] it (fun i h => h.IsListIter it a i) where
 mem := by simp
 obj := fun i h st b hb => by
  have e : b = it := by simpa using hb
  subst e
  obtain ⟨o, e, c, d⟩ := st
  exact ⟨o, e, fun v z => by rw [d] at z; cases z⟩
 keep := fun i h h' st k => st.at fun o e => k it (by simp) o e
 item := by
  intro X hP hw hK hc i pins s σ H E I hf st hg
  subst hP hw hK
  obtain ⟨xs, x, hq, hx⟩ := hg
  obtain ⟨its, rv, p, hz⟩ := I.list hq
  obtain ⟨u, hu, ru⟩ := rv.get hx
  obtain ⟨f0, f1, f2, f3, f4, f5⟩ := hf it (by simp)
  refine wpAny_pyNext_list_item st p.isList (x := u) (by simpa using hu) fun h' st' sb => ?_
  have I1 : Inv X pins σ H { s with heap := h' } := I.turned (t' := s.toks) (fun b o hb e => (sb.2 b hb).trans e) f0 f1 f3 f4 f5
  obtain ⟨o, e, c, d⟩ := id st'
  exact ⟨u, rfl, aGu (s := { s with heap := h' }) e c d (by decide) ⟨x, H, I1, ru, ⟨rfl, fun ys hy => by rw [I.list_inj hy hq]; exact hx⟩, st', fun b hb => (hf b hb).1⟩⟩
 done := by
  intro X hP hw hK hc i pins s σ H E I hf st hg
  subst hP hw hK
  obtain ⟨xs, hq, hx⟩ := hg
  obtain ⟨its, rv, p, hz⟩ := I.list hq
  obtain ⟨f0, f1, f2, f3, f4, f5⟩ := hf it (by simp)
  have hl := rv.length
  exact wpAny_pyNext_list_end (I.ok.hd hc) st p.isList (by simp; omega) fun h' eb => ⟨rfl, I.turned (t' := s.toks) (fun b o hb e => eb b o hb e) f0 f1 f3 f4 f5⟩
 self := fun _ _ _ _ _ st h => wpAny_pyIter_listiter st h
theorem sM {P : Program} {w : World} {K : PySem.W.Frag} {tg : Expr} (it : Addr) (lo : Int) (n : Nat) : Turn P w K tg (Itr lo n) [it] it (fun i h => IsRangeIter h it (lo + (i : Nat) * 1) ((n : Int) - (i : Nat)) 1) where
 mem := by simp
 obj := fun i h st b hb => by
  have e : b = it := by simpa using hb
  subst e
  exact ⟨_, st, fun v z => by
   have z' : Data.fields _ = Data.cell v := z
   cases z'⟩
 keep := fun i h h' st k => k it (by simp) _ st
 item := by
  intro X hP hw hK hc i pins s σ H E I hf st hg
  subst hP hw hK
  obtain ⟨f0, f1, f2, f3, f4, f5⟩ := hf it (by simp)
  have W := Walks.range (prog := X.prog) (w := X.w) (I.ok.hd hc) it lo 1 n
  refine W.item i s _ _ hg st fun v h' tk hv st' kk => ?_
  obtain ⟨t, rfl⟩ := hv
  have I1 : Inv X pins σ H { s with heap := h', toks := tk } := I.turned (fun b o hb e => kk b o (by simpa using hb) e) f0 f1 f3 f4 f5
  refine ⟨_, rfl, aGu (s := { s with heap := h', toks := tk }) (n := "range_iterator") st' rfl rfl (by decide) ⟨.int (lo + i), H, I1, ⟨t, ?_⟩, ⟨rfl, rfl⟩, st', fun b hb => (hf b hb).1⟩⟩
  rw [Int.mul_one]
 done := by
  intro X hP hw hK hc i pins s σ H E I hf st hg
  subst hP hw hK
  obtain ⟨f0, f1, f2, f3, f4, f5⟩ := hf it (by simp)
  exact wpAny_pyNext_range_end (I.ok.hd hc) st (by have : n <= i := hg; omega) fun h' eb => ⟨rfl, I.turned (t' := s.toks) (fun b o hb e => eb b o hb e) f0 f1 f3 f4 f5⟩
 self := fun _ _ _ _ _ st h => wpAny_pyIter_rangeiter st h
section
variable {X : Cx} {tg : Expr}
def aJs (K : PySem.W.Frag) (tl : TE) : TI := fun σ H R => tl σ H fun x H1 => ∃ a, x = .ref a /\ (∃ xs, SqL K H1 a xs) /\ R (Itl K a) H1
theorem aDi {l : Expr} {tl : TE} (hl : PE X l tl) : PI X tg l (aJs X.K tl) := by
 intro pins s σ H R I h
 refine thn (hl pins s σ H _ I h) fun v s1 ⟨x, H1, I1, r1, q1⟩ => ?_
 obtain ⟨a, e, ⟨xs, hq⟩, q⟩ := q1
 subst e
 cases r1
 obtain ⟨its, rv, p, hz⟩ := I1.list hq
 refine wpAny_pyIter_list p.isList ?_
 refine ⟨s1.heap.objs.size, [s1.heap.objs.size], _, _, H1, rfl, I1.kept (t' := s1.toks) fun b o e => Heap.get?_push_of_some _ e, w6 a _, ⟨_, Heap.get?_push_size _ rfl, rfl, rfl⟩, fun b hb => ?_, q⟩
 have e : b = s1.heap.objs.size := by simpa using hb
 subst e
 exact I1.fpOk (Nat.le_refl _) (I1.hok.fresh (Nat.le_refl _))
theorem x3 {pins : List (Addr × Obj)} {σ : St} {H : Hp} {s : Shared} {R : It -> Hp -> Prop} {E : Value -> Shared -> Prop} {lo hi : Int} {t u v : Tok} {tk : Nat} (I : Inv X pins σ H s) (h1 : -(2 ^ 62) <= lo) (h2 : lo < 2 ^ 62) (h3 : -(2 ^ 62) <= hi) (h4 : hi < 2 ^ 62)
  (q : R (Itr lo (hi - lo).toNat) H) : wpAny (model X.prog X.w) X.A (pyIter (.ref s.heap.objs.size)) (PIE X pins σ tg R) E { s with heap := s.heap.push { cls := .type "range", data := .fields #[.int lo t, .int hi u, .int 1 v] }, toks := tk } := by
 refine wpAny_pyIter_range (IsRange.new ..) (small_one h1 h2 h3 h4) ?_
 have I1 : Inv X pins σ H { s with heap := s.heap.push { cls := .type "range", data := .fields #[.int lo t, .int hi u, .int 1 v] }, toks := tk } := I.kept fun b o e => Heap.get?_push_of_some _ e
 refine ⟨(s.heap.push { cls := .type "range", data := .fields #[.int lo t, .int hi u, .int 1 v] }).objs.size, [(s.heap.push { cls := .type "range", data := .fields #[.int lo t, .int hi u, .int 1 v] }).objs.size], _, _, H, rfl,
  I1.kept (t' := tk) fun b o e => Heap.get?_push_of_some _ e, sM _ lo (hi - lo).toNat, ?_, fun b hb => ?_, q⟩
 ·have e1 : lo + ((0 : Nat) : Int) * 1 = lo := by simp
  have e2 : (((hi - lo).toNat : Nat) : Int) - ((0 : Nat) : Int) = Builtin.Range.rangeSize lo hi 1 := by rw [rangeSize_one]; split <;> omega
  show IsRangeIter _ _ (lo + ((0 : Nat) : Int) * 1) ((((hi - lo).toNat : Nat) : Int) - ((0 : Nat) : Int)) 1
  rw [e1, e2]
  exact Heap.get?_push_size _ rfl
 ·have e : b = (s.heap.push { cls := .type "range", data := .fields #[.int lo t, .int hi u, .int 1 v] }).objs.size := by simpa using hb
  subst e
  exact I1.fpOk (Nat.le_refl _) (I1.hok.fresh (Nat.le_refl _))
def aJi (ta : TA) : TI := fun σ H R => ta σ H fun vs H1 => ∃ j : Int, vs = [.int j] /\ -(2 ^ 62) <= j /\ j < 2 ^ 62 /\ R (Itr 0 j.toNat) H1
theorem wL {a : Expr} {ta : TA} {p pos : Pos} (hg : Gl X "range") (hm : X.mg "range" = none) (ha : PA X [a] ta) (hs : starEach [a] X.env = [(false, eval a X.env)] := by rfl) : PI X tg (.Call (.Name "range" p) [a] [] pos) (aJi ta) := by
 intro pins s σ H R I h
 refine Call_ (iH I hg hm boot_range (PyProof.Rows.callWith_type1 (thn (ha pos pins s σ H _ I h) fun us s1 ⟨vs, H1, I1, r1, q1⟩ => ?_) hs rfl))
 obtain ⟨j, e, q1, q2, q⟩ := q1
 subst e
 cases r1 with
 | cons r rr =>
  cases rr
  obtain ⟨t, rfl⟩ := r
  exact call_range_1 (x3 I1 (by omega) (by omega) q1 q2 (by simpa using q))
def aKs (wi : TI) (g : TG) (tb : TS) : TS := fun D σ H => wi σ H fun J H1 => ∃ W : Nat -> Nat -> St -> Hp -> Prop, (∃ m, W 0 m σ H1) /\ ∀ i m σ H, W i m σ H ->
 (J.stop i H /\ D.nx σ H) \/ (J.go i H /\ ∃ N : St -> Hp -> Prop, (∀ σ' H', N σ' H' -> ∃ m', m' < m /\ W (i + 1) m' σ' H') /\ ∀ x H', J.yld i H x H' -> g x σ H' fun σ2 H2 => tb { D with nx := N, ct := N, bk := D.nx } σ2 H2)
def qZ (fp : List Addr) (h : Heap) : List (Addr × Obj) := fp.filterMap fun b => (h.get? b).map fun o => (b, o)
theorem cO {fp : List Addr} {h : Heap} {b : Addr} {o : Obj} (hb : b ∈ fp) (e : h.get? b = some o) : (b, o) ∈ qZ fp h := List.mem_filterMap.mpr ⟨b, hb, by rw [e]; rfl⟩
theorem uO {fp : List Addr} {h : Heap} {p : Addr × Obj} (hp : p ∈ qZ fp h) : p.1 ∈ fp /\ h.get? p.1 = some p.2 := by
 obtain ⟨b, hb, e⟩ := List.mem_filterMap.mp hp
 cases q : h.get? b with
 | none => rw [q] at e; cases e
 | some o =>
  rw [q] at e
  have e' : (b, o) = p := Option.some.inj e
  subst e'
  exact ⟨hb, q⟩
theorem Inv.pinned {pins : List (Addr × Obj)} {σ : St} {H : Hp} {s : Shared} {fp : List Addr} (I : Inv X pins σ H s) (hf : ∀ b ∈ fp, aAj X pins H b) (ho : ∀ b ∈ fp, ∃ o, s.heap.get? b = some o /\ ∀ v, o.data ≠ .cell v) : Inv X (pins ++ qZ fp s.heap) σ H s :=
 I.pins_of fun p hp => (List.mem_append.mp hp).elim (fun z => I.pin p (List.mem_append_right _ z)) fun z => by
  obtain ⟨hb, e⟩ := uO z
  obtain ⟨f0, f1, f2, _⟩ := hf p.1 hb
  obtain ⟨o, e', d⟩ := ho p.1 hb
  rw [e] at e'; cases e'
  exact ⟨e, f0, f1, f2, d⟩
theorem Inv.unpinned {pins pl : List (Addr × Obj)} {σ : St} {H : Hp} {s : Shared} (I : Inv X (pins ++ pl) σ H s) : Inv X pins σ H s := I.pins_of fun p hp => I.pin p (List.mem_append_right _ (List.mem_append_left _ hp))
theorem aF7 {iter : Expr} {body : List Stmt} {wi : TI} {g : TG} {tb : TS} {pos : Pos} (hp : PassesOwn (model X.prog X.w) X.A X.env X.xe) (hc : X.calm = true) (hi : PI X tg iter wi) (hg : PG X tg g) (hb : PSs X body tb)
  (hs : ∀ x, foldedSetIterable iter X.env x = pure x := by intro _; rfl) : PS X (.For tg iter body [] pos) (aKs wi g tb) := by
 intro pins s σ H D I h
 refine wpAny_For (thn (hi pins s σ H _ I h) fun v s1 h1 => thn h1 fun itv s2 h2 => ?_) hs
 obtain ⟨it, fp, tn, J, H2, e, I2, T, st2, f2, W, ⟨m0, w0⟩, turn⟩ := h2
 subst e
 have stat : ∀ {H' : Hp}, (∀ b ∈ fp, H' b = none) -> ∀ b ∈ fp, aAj X pins H' b := fun hn b hb => ⟨hn b hb, (f2 b hb).2⟩
 refine codeAny_forLoop_any (fun n s' => ∃ i σ' H', Inv X pins σ' H' s' /\ tn i s'.heap /\ (∀ b ∈ fp, H' b = none) /\ W i n σ' H') ?_ m0 ⟨0, σ, H2, I2, st2, fun b hb => (f2 b hb).1, w0⟩
 rintro n s3 ⟨i, σ3, H3, I3, st3, fr3, w3⟩
 rcases turn i n σ3 H3 w3 with ⟨stop, qn⟩ | ⟨go, N, hN, step⟩
 ·refine wpAny_passesOwn hp (thn (T.done X rfl rfl rfl hc i pins s3 σ3 H3 X.xe I3 (stat fr3) st3 stop) fun r s4 ⟨hr, I4⟩ => ?_)
  subst hr
  exact wpAny_execs_nil ⟨σ3, H3, I4, qn⟩
 ·refine wpAny_passesOwn hp (thn (T.item X rfl rfl rfl hc i pins s3 σ3 H3 X.xe I3 (stat fr3) st3 go) fun r s4 ⟨u, hr, h4⟩ => ?_)
  subst hr
  refine wpAny_passesOwn hp (thn h4 fun _ s5 ⟨x, H5, I5, r5, y5, st5, fr5⟩ => ?_)
  have I5' := I5.pinned (stat fr5) (T.obj _ _ st5)
  refine wpAny_passesOwn hp (thn (hg _ s5 σ3 H5 x u _ I5' r5 (step x H5 y5)) fun _ s6 ⟨σ6, H6, I6, q6⟩ => ?_)
  refine wpAny_passesOwn hp (thn (hb _ s6 σ6 H6 _ I6 q6) fun f s7 q7 => ?_)
  have again : ∀ {σ7 : St} {H7 : Hp}, Inv X (pins ++ qZ fp s5.heap) σ7 H7 s7 -> N σ7 H7 -> ∃ m, m < n /\ ∃ i σ' H', Inv X pins σ' H' s7 /\ tn i s7.heap /\ (∀ b ∈ fp, H' b = none) /\ W i m σ' H' := fun {σ7 H7} I7 n7 => by
   obtain ⟨m', hm, w7⟩ := hN σ7 H7 n7
   refine ⟨m', hm, i + 1, σ7, H7, I7.unpinned, T.keep _ _ _ st5 fun b hb o e => (I7.pin (b, o) (List.mem_append_right _ (List.mem_append_right _ (cO hb e)))).1, fun b hb => ?_, w7⟩
   obtain ⟨o, e, d⟩ := T.obj _ _ st5 b hb
   exact (I7.pin (b, o) (List.mem_append_right _ (List.mem_append_right _ (cO hb e)))).2.1
  cases f with
  | next => obtain ⟨σ7, H7, I7, n7⟩ := q7; exact again I7 n7
  | cont => obtain ⟨σ7, H7, I7, n7⟩ := q7; exact again I7 n7
  | brk => obtain ⟨σ7, H7, I7, q7⟩ := q7; exact ⟨σ7, H7, I7.unpinned, q7⟩
  | ret v => obtain ⟨x7, σ7, H7, I7, r7, q7⟩ := q7; exact ⟨x7, σ7, H7, I7.unpinned, r7, q7⟩
end
abbrev R2 := V -> V -> Hp -> VK -> Prop
def OpR (X : Cx) (f : Value -> Value -> Sem Value) (r : R2) : Prop :=
 ∀ (pins : List (Addr × Obj)) (s : Shared) (σ : St) (H : Hp) (x y : V) (v u : Value) (Q : VK), Inv X pins σ H s -> RelV x v -> RelV y u -> r x y H Q ->
  wpAny (model X.prog X.w) X.A (f v u) (EP X pins σ Q) X.xe s
def UnR (X : Cx) (f : Value -> Sem Value) (r : V -> Hp -> VK -> Prop) : Prop :=
 ∀ (pins : List (Addr × Obj)) (s : Shared) (σ : St) (H : Hp) (x : V) (v : Value) (Q : VK), Inv X pins σ H s -> RelV x v -> r x H Q ->
  wpAny (model X.prog X.w) X.A (f v) (EP X pins σ Q) X.xe s
def jP (X : Cx) (f : Value) (r : List V -> Hp -> VK -> Prop) : Prop :=
 ∀ (pins : List (Addr × Obj)) (s : Shared) (σ : St) (H : Hp) (xs : List V) (us : List Value) (Q : VK), Inv X pins σ H s -> Vals xs us -> r xs H Q ->
  wpAny (model X.prog X.w) X.A (call f us) (EP X pins σ Q) X.xe s
def tOp (r : R2) (ta tb : TE) : TE := fun σ H Q => ta σ H fun x H1 => tb σ H1 fun y H2 => r x y H2 Q
def tUn (r : V -> Hp -> VK -> Prop) (ta : TE) : TE := fun σ H Q => ta σ H fun x H1 => r x H1 Q
def rI (C : Int -> Int -> Prop) (g : Int -> Int -> V) : R2 := fun x y H Q => ∃ i j, x = .int i /\ y = .int j /\ C i j /\ Q (g i j) H
def rI0 (g : Int -> Int -> V) : R2 := fun x y H Q => ∃ i j, x = .int i /\ y = .int j /\ Q (g i j) H
def rU (g : Int -> V) : V -> Hp -> VK -> Prop := fun x H Q => ∃ i, x = .int i /\ Q (g i) H
section
variable {X : Cx} {a b c : Expr} {ta tb tc : TE} {pos : Pos}
theorem aJo (ha : PE X a ta) (hb : PE X b tb) {pins : List (Addr × Obj)} {s : Shared} {σ : St} {H : Hp} {R : V -> V -> Hp -> Prop} (I : Inv X pins σ H s)
  (h : ta σ H fun x H1 => tb σ H1 fun y H2 => R x y H2) {Q : Value -> Shared -> Prop} {f : Value -> Value -> Sem Value}
  (hf : ∀ v u s2 x y H2, Inv X pins σ H2 s2 -> RelV x v -> RelV y u -> R x y H2 -> wpAny (model X.prog X.w) X.A (f v u) Q X.xe s2) :
  wpAny (model X.prog X.w) X.A (eval a X.env) (fun v s₁ => wpAny (model X.prog X.w) X.A (eval b X.env) (fun u s₂ => wpAny (model X.prog X.w) X.A (f v u) Q X.xe s₂) X.xe s₁) X.xe s := by
 refine thn (ha pins s σ H _ I h) fun v s1 ⟨x, H1, I1, r1, q1⟩ => ?_
 refine thn (hb pins s1 σ H1 _ I1 q1) fun u s2 ⟨y, H2, I2, r2, q2⟩ => ?_
 exact hf v u s2 x y H2 I2 r1 r2 q2
theorem aH7 {op : Operator} {r : R2} (ho : OpR X (binaryOp op) r) (ha : PE X a ta) (hb : PE X b tb) : PE X (.BinOp a op b pos) (tOp r ta tb) := by
 intro pins s σ H Q I h
 exact wpAny_BinOp (aJo ha hb I h fun v u s2 x y H2 I2 rx ry q => ho pins s2 σ H2 x y v u Q I2 rx ry q)
theorem aI2 {op : UnaryOp} {r : V -> Hp -> VK -> Prop} (ho : UnR X (unaryOp op) r) (ha : PE X a ta) : PE X (.UnaryOp op a pos) (tUn r ta) := by
 intro pins s σ H Q I h
 exact UnaryOp_ (thn (ha pins s σ H _ I h) fun v s1 ⟨x, H1, I1, r1, q1⟩ => ho pins s1 σ H1 x v Q I1 r1 q1)
theorem opI {f : Value -> Value -> Sem Value} {C : Int -> Int -> Prop} {g : Int -> Int -> Int}
  (rule : ∀ (i j : Int) (t u : Tok) (s : Shared) (Q : Value -> Shared -> Prop) (E : Value -> Shared -> Prop), C i j -> Q (.int (g i j) s.toks) { s with toks := s.toks + 1 } -> wpAny (model X.prog X.w) X.A (f (.int i t) (.int j u)) Q E s) :
  OpR X f (rI C fun i j => .int (g i j)) := by
 intro pins s σ H x y v u Q I rx ry h
 obtain ⟨i, j, rfl, rfl, hc, q⟩ := h
 obtain ⟨t, rfl⟩ := rx
 obtain ⟨t', rfl⟩ := ry
 exact rule i j t t' s _ _ hc ⟨.int (g i j), H, I.tok _, ⟨_, rfl⟩, q⟩
theorem aJ9 {f : Value -> Value -> Sem Value} {g : Int -> Int -> Int}
  (rule : ∀ (i j : Int) (t u : Tok) (s : Shared) (Q : Value -> Shared -> Prop) (E : Value -> Shared -> Prop), Q (.int (g i j) s.toks) { s with toks := s.toks + 1 } -> wpAny (model X.prog X.w) X.A (f (.int i t) (.int j u)) Q E s) :
  OpR X f (rI0 fun i j => .int (g i j)) := by
 intro pins s σ H x y v u Q I rx ry h
 obtain ⟨i, j, rfl, rfl, q⟩ := h
 obtain ⟨t, rfl⟩ := rx
 obtain ⟨t', rfl⟩ := ry
 exact rule i j t t' s _ _ ⟨.int (g i j), H, I.tok _, ⟨_, rfl⟩, q⟩
theorem aIj {f : Value -> Value -> Sem Value} {g : Int -> Int -> Bool}
  (rule : ∀ (i j : Int) (t u : Tok) (s : Shared) (Q : Value -> Shared -> Prop) (E : Value -> Shared -> Prop), Q (.bool (g i j)) s -> wpAny (model X.prog X.w) X.A (f (.int i t) (.int j u)) Q E s) :
  OpR X f (rI0 fun i j => .bl (g i j)) := by
 intro pins s σ H x y v u Q I rx ry h
 obtain ⟨i, j, rfl, rfl, q⟩ := h
 obtain ⟨t, rfl⟩ := rx
 obtain ⟨t', rfl⟩ := ry
 exact rule i j t t' s _ _ ⟨.bl (g i j), H, I, rfl, q⟩
def aBe (i j : Int) : Prop := 0 <= j /\ j <= 1000000 /\ i.natAbs < 2 ^ 64
def CMul (i j : Int) : Prop := (-(2 ^ 64) < i /\ i < 2 ^ 64) \/ (-(2 ^ 64) < j /\ j < 2 ^ 64)
theorem CMul.ok {i j : Int} (h : CMul i j) : IntMulOk i j := by
 rcases h with ⟨h1, h2⟩ | ⟨h1, h2⟩
 ·exact .of_left (intBits_le_64 h1 h2)
 ·exact .of_right (intBits_le_64 h1 h2)
theorem aFz : OpR X (binaryOp .Add) (rI0 fun i j => .int (i + j)) := aJ9 fun _ _ _ _ _ _ _ q => add_int q
theorem dW : OpR X (binaryOp .Sub) (rI0 fun i j => .int (i - j)) := aJ9 fun _ _ _ _ _ _ _ q => sub_int q
theorem bU : OpR X (binaryOp .Mod) (rI (fun _ j => j ≠ 0) fun i j => .int (i.fmod j)) := opI fun _ _ _ _ _ _ _ hc q => mod_int' hc q
theorem iG : OpR X (binaryOp .Pow) (rI aBe fun i j => .int (i ^ j.toNat)) := opI fun _ _ _ _ _ _ _ hc q => pow_int_small hc.1 hc.2.1 hc.2.2 q
theorem unI {f : Value -> Sem Value} {g : Int -> Int}
  (rule : ∀ (i : Int) (t : Tok) (s : Shared) (Q : Value -> Shared -> Prop) (E : Value -> Shared -> Prop), Q (.int (g i) s.toks) { s with toks := s.toks + 1 } -> wpAny (model X.prog X.w) X.A (f (.int i t)) Q E s) :
  UnR X f (rU fun i => .int (g i)) := by
 intro pins s σ H x v Q I rx h
 obtain ⟨i, rfl, q⟩ := h
 obtain ⟨t, rfl⟩ := rx
 exact rule i t s _ _ ⟨.int (g i), H, I.tok _, ⟨_, rfl⟩, q⟩
theorem aHt : UnR X (unaryOp .USub) (rU fun i => .int (-i)) := unI fun _ _ _ _ _ q => neg_int q
end
section
variable {X : Cx} {a b c : Expr} {ta tb tc : TE} {pos : Pos}
theorem aIw : OpR X (compareOp .Lt) (rI0 fun i j => .bl (decide (i < j))) := aIj fun _ _ _ _ _ _ _ q => lt_int q
theorem aG8 : OpR X (compareOp .LtE) (rI0 fun i j => .bl (decide (i <= j))) := aIj fun _ _ _ _ _ _ _ q => le_int q
theorem aIv : OpR X (compareOp .Gt) (rI0 fun i j => .bl (decide (j < i))) := aIj fun _ _ _ _ _ _ _ q => gt_int q
theorem OpR.or {f : Value -> Value -> Sem Value} {r r' : R2} (h : OpR X f r) (h' : OpR X f r') : OpR X f (fun x y H Q => r x y H Q \/ r' x y H Q) := by
 intro pins s σ H x y v u Q I rx ry q
 rcases q with q | q
 ·exact h pins s σ H x y v u Q I rx ry q
 ·exact h' pins s σ H x y v u Q I rx ry q
theorem bN (b : Expr) {op : CmpOp} (h : op ≠ .In := by decide) (h2 : op ≠ .NotIn := by decide) : behindInMarks op b = false := by
 have e1 : (op == CmpOp.In) = false := by cases op <;> first | rfl | exact absurd rfl h
 have e2 : (op == CmpOp.NotIn) = false := by cases op <;> first | rfl | exact absurd rfl h2
 cases b <;> simp [behindInMarks, e1, e2]
theorem aB3 {op : CmpOp} {r : R2} (ho : OpR X (compareOp op) r) (ha : PE X a ta) (hb : PE X b tb) (hm : behindInMarks op b = false) : PE X (.Compare a [op] [b] pos) (tOp r ta tb) := by
 intro pins s σ H Q I h
 exact wpAny_Compare1 (aJo ha hb I h fun v u s2 x y H2 I2 rx ry q => ho pins s2 σ H2 x y v u Q I2 rx ry q) hm
def aIq (t : TE) : TT := fun σ H Q => t σ H fun x H' => ∃ k, x = .bl k /\ Q k H'
theorem aD1 {op : CmpOp} {r : R2} (ho : OpR X (compareOp op) r) (ha : PE X a ta) (hb : PE X b tb) (hm : behindInMarks op b = false) : PT X (.Compare a [op] [b] pos) (aIq (tOp r ta tb)) := by
 intro pins s σ H Q I h
 refine wpAny_isTrue_Compare1 (thn (ha pins s σ H _ I h) fun v s1 ⟨x, H1, I1, r1, q1⟩ => thn (hb pins s1 σ H1 _ I1 q1) fun u s2 ⟨y, H2, I2, r2, q2⟩ =>
  thn (ho pins s2 σ H2 x y v u _ I2 r1 r2 q2) fun c s3 ⟨z, H3, I3, r3, k, e, q3⟩ => ?_) hm
 subst e
 cases r3
 exact wpAny_truthy_bool ⟨H3, I3, q3⟩
theorem v8 : (sizeLine : Nat) < 2 ^ 63 := by rw [sizeLine_eq]; decide
theorem rW : OpR X (binaryOp .Add) (fun x y H Q => ∃ i j, x = .str i /\ y = .str j /\ i.length + j.length <= sizeLine /\ Q (.str (i ++ j)) H) := by
 intro pins s σ H x y v u Q I rx ry h
 obtain ⟨i, j, rfl, rfl, hz, q⟩ := h
 obtain ⟨t, rfl⟩ := rx
 obtain ⟨t', rfl⟩ := ry
 exact add_str (fun t' tk => ⟨.str (i ++ j), H, I.tok _, ⟨_, rfl⟩, q⟩) hz
theorem vals1 {x : V} {us : List Value} (r : Vals [x] us) : ∃ u, us = [u] /\ RelV x u := by
 cases r with
 | cons r1 r2 => cases r2; exact ⟨_, rfl, r1⟩
theorem vals2 {x y : V} {us : List Value} (r : Vals [x, y] us) : ∃ u w', us = [u, w'] /\ RelV x u /\ RelV y w' := by
 cases r with
 | cons r1 r2 =>
  cases r2 with
  | cons r3 r4 => cases r4; exact ⟨_, _, rfl, r1, r3⟩
theorem lQ : jP X (.builtin "abs") (fun xs H Q => ∃ i, xs = [.int i] /\ Q (.int (if i < 0 then -i else i)) H) := by
 intro pins s σ H xs us Q I r h
 obtain ⟨i, rfl, q⟩ := h
 obtain ⟨u, rfl, t, rfl⟩ := vals1 r
 exact call_abs_int fun u tk => ⟨.int (if i < 0 then -i else i), H, I.tok _, ⟨_, rfl⟩, q⟩
end
structure ObjM (h : Heap) (x dx C : Addr) (mA : Str -> Option Value) : Prop where
 obj : h.get? x = some (PySem.W.instObj C dx)
 ns : h.Ns1 dx mA
 ne : dx ≠ x
theorem tM {h : Heap} {dx : Addr} {mA : Str -> Option Value} (n : h.Ns1 dx mA) : ∃ od, h.get? dx = some od /\ ∀ name, PySem.W.lookIn name od = some (mA name) := by
 obtain ⟨o, es, ep, ho, hd, hk, _, hm⟩ := n
 refine ⟨o, ho, fun name => ?_⟩
 have e := hm name
 unfold nsFind findBy at e
 rw [<- Array.find?_toList] at e
 unfold PySem.W.lookIn
 rw [hd]
 dsimp only
 split
 ·rename_i y q
  rw [q] at e
  exact congrArg some e
 ·rename_i q
  rw [q] at e
  have a : es.toList.any (·.refKey) = false := by
   rw [List.any_eq_false]
   intro y hy
   obtain ⟨z, t, hkey⟩ := hk y (Array.mem_toList_iff.mp hy)
   simp [DictEntry.refKey, hkey]
  have a' : ¬ es.toList.any (·.refKey) = true := by rw [a]; exact Bool.false_ne_true
  rw [if_neg a']
  exact congrArg some e
theorem ObjM.look {h : Heap} {x dx C : Addr} {mA : Str -> Option Value} (I : ObjM h x dx C mA) : ∃ od, PySem.W.InstAt h x (PySem.W.instObj C dx) C (some od) /\ ∀ name, PySem.W.lookIn name od = some (mA name) :=
 let ⟨od, ho, hl⟩ := tM I.ns
 ⟨od, ⟨I.obj, rfl, rfl, ho⟩, hl⟩
section
variable {prog : Program} {w : World} {A : Around} {E : Value -> Shared -> Prop} {s : Shared} {K : PySem.W.Frag} {x dx C f : Addr} {mA : Str -> Option Value} {name : Str} {v : Value}
end
section
variable {P : Program} {w : World} {H H' : Hp} {h h' : Heap} {a C dx : Addr} {fs fs' : List (Str × V)}
theorem aC0 (hok : HOk P w H h) (e : H a = some (.ins C dx fs)) : ∃ mA, ObjM h a dx C mA /\ (∀ f, aJl (fs.lookup f) (mA f)) /\ PySem.Within mA (fs.map (·.1)) /\ fs.length <= 1000 /\ H dx = some (.own a) := by
 obtain ⟨d, z, ne, ob, mA, n, r, q⟩ := (show ObjOk P w H h a (.ins C dx fs) from hok a _ e)
 exact ⟨mA, ⟨ob, n, ne⟩, r, q, z, d⟩
end
structure Cls (K : PySem.W.Frag) (C : Addr) : Prop where
 pg : PySem.W.plainGet K C Str.empty = true
 hd : PySem.W.hasDictIn K C = true
 po : PySem.W.plainOver K C = true
 sa : PySem.W.findIn K (.ref C) "__setattr__" = some (some (.builtin "object.__setattr__"))
theorem Cls.get {K : PySem.W.Frag} {C : Addr} (c : Cls K C) (f : Str) : PySem.W.plainGet K C f = true := c.pg
section
variable {X : Cx} {pins : List (Addr × Obj)} {σ : St} {H : Hp} {s : Shared} {a C dx : Addr} {fs : List (Str × V)} {f : Str} {v : V} {A : Around} {E : Value -> Shared -> Prop}
end
section
variable {X : Cx} {o e value : Expr} {f : Str} {pos pos' tpos : Pos} {ta tv : TE}
end
section
variable {X : Cx} {pins : List (Addr × Obj)} {σ : St} {H : Hp} {s : Shared} {A : Around} {E : Value -> Shared -> Prop} {Q : Value -> Shared -> Prop} {c : Value} {b : Bool}
inductive rB (K : PySem.W.Frag) (H : Hp) : V -> Value -> Prop where
 | non : rB K H .non (.type "NoneType")
 | bl (x : Bool) : rB K H (.bl x) (.type "bool")
 | int (i : Int) : rB K H (.int i) (.type "int")
 | str (x : Str) : rB K H (.str x) (.type "str")
 | flt (x : UInt64) : rB K H (.flt x) (.type "float")
 | lst {a : Addr} {xs : List V} (e : H a = some (.lst xs)) : rB K H (.ref a) (.type "list")
 | frz {a : Addr} {o : Obj} {xs : List V} (e : H a = some (.frz o (.lst xs))) : rB K H (.ref a) (.type "list")
 | tup {a : Addr} {xs : List V} (e : H a = some (.tup xs)) : rB K H (.ref a) (.type "tuple")
 | dK {a : Addr} {kvs : List (Key × V)} (e : H a = some (.dK kvs)) : rB K H (.ref a) (.type "dict")
 | dT {a : Addr} {kvs : List (List Key × V)} (e : H a = some (.dT kvs)) : rB K H (.ref a) (.type "dict")
 | ins {a C dx : Addr} {fs : List (Str × V)} (e : H a = some (.ins C dx fs)) (cl : Cls K C) (ha : PySem.W.findIn K (.ref C) "__class__" = some (some (.builtin "object.__class__")))
   (hn : PySem.W.specialIn K (.builtin "object.__class__") "__get__" = some (some (.builtin "getset_descriptor.__get__"))) (htk : PySem.W.takesIn K (.builtin "object.__class__") = some true)
   (hm : PySem.W.mroIn K C (.type "object") = some true) : rB K H (.ref a) (.ref C)
theorem xP {x : V} {u t : Value} (I : Inv X pins σ H s) (rx : RelV x u) (ty : rB X.K H x t) (e : PySem.W.kitOne X.K t c = some b) (h : ∀ tk, Q (.bool b) { s with toks := tk }) :
  wpAny (model X.prog X.w) A (call (.builtin "isinstance") [u, c]) Q E s := by
 cases ty with
 | non => cases (show u = Value.none from rx); exact PySem.W.kia_one PySem.W.kitx_none I.kIn True.intro e (fun z => nomatch z) h
 | bl y => cases (show u = Value.bool y from rx); exact PySem.W.kia_one PySem.W.kitx_bool I.kIn True.intro e (fun z => nomatch z) h
 | int i => obtain ⟨t, q⟩ := (show ∃ t, u = Value.int i t from rx); cases q; exact PySem.W.kia_one PySem.W.kitx_int I.kIn True.intro e (fun z => nomatch z) h
 | str y => obtain ⟨t, q⟩ := (show ∃ t, u = Value.str y t from rx); cases q; exact PySem.W.kia_one PySem.W.kitx_str I.kIn True.intro e (fun z => nomatch z) h
 | flt y => obtain ⟨t, q⟩ := (show ∃ t, u = Value.float y t from rx); cases q; exact PySem.W.kia_one PySem.W.kitx_float I.kIn True.intro e (fun z => nomatch z) h
 | @lst a xs ea =>
  cases (show u = Value.ref a from rx)
  obtain ⟨_, _, n, _, h1⟩ := (show ObjOk X.prog X.w H s.heap a (.lst xs) from I.hok a _ ea)
  exact PySem.W.kia_one PySem.W.kitx_list I.kIn ⟨_, h1, rfl⟩ e (fun z => nomatch z) h
 | @frz a ob xs ea =>
  cases (show u = Value.ref a from rx)
  obtain ⟨_, _, _, n, _, h1⟩ := (show ObjOk X.prog X.w H s.heap a (.frz ob (.lst xs)) from I.hok a _ ea)
  exact PySem.W.kia_one PySem.W.kitx_list I.kIn ⟨_, h1, rfl⟩ e (fun z => nomatch z) h
 | @tup a xs ea =>
  cases (show u = Value.ref a from rx)
  obtain ⟨_, _, _, p⟩ := (show ObjOk X.prog X.w H s.heap a (.tup xs) from I.hok a _ ea)
  obtain ⟨o, h1, h2, _⟩ := p
  exact PySem.W.kia_one PySem.W.kitx_tuple I.kIn ⟨o, h1, h2⟩ e (fun z => nomatch z) h
 | @dK a kvs ea =>
  cases (show u = Value.ref a from rx)
  obtain ⟨_, _, vs, _, p⟩ := (show ObjOk X.prog X.w H s.heap a (.dK kvs) from I.hok a _ ea)
  obtain ⟨o, es, ep, h1, h2, _⟩ := p
  exact PySem.W.kia_one PySem.W.kitx_dict I.kIn ⟨o, h1, h2.1⟩ e (fun z => nomatch z) h
 | @dT a kvs ea =>
  cases (show u = Value.ref a from rx)
  obtain ⟨_, _, xs, _, o, es, ep, h1, h2, _⟩ := (show ObjOk X.prog X.w H s.heap a (.dT kvs) from I.hok a _ ea)
  exact PySem.W.kia_one PySem.W.kitx_dict I.kIn ⟨o, h1, h2.1⟩ e (fun z => nomatch z) h
 | @ins a C dx fs ea cl ha hn htk hm =>
  cases (show u = Value.ref a from rx)
  obtain ⟨mA, O, _⟩ := aC0 I.hok ea
  obtain ⟨od, J, _⟩ := O.look
  exact PySem.W.kia_one (PySem.W.kitx_own (cl.get _) cl.hd ha hn htk hm) I.kIn J e (fun z => nomatch z) h
end
structure Room (k : Nat) (A : Around) : Prop where
 hd : A.handled = none
 dp : A.depth + 3 * k + 5 < recursionLimit
 un : A.units + 16 * k + 200 < cLine
theorem Room.mono {j k : Nat} {A : Around} (r : Room k A) (h : j <= k) : Room j A := ⟨r.hd, by have := r.dp; omega, by have := r.un; omega⟩
theorem Room.deeper {k : Nat} {A : Around} (r : Room (k + 1) A) (env : Env) : Room k (A.deeper env) :=
 ⟨r.hd, by have := r.dp; show A.depth + 1 + 3 * k + 5 < _; omega, by have := r.un; show A.units + 3 + 16 * k + 200 < _; omega⟩
theorem Room.depth {k : Nat} {A : Around} (r : Room k A) : A.depth < recursionLimit := by have := r.dp; omega
def aJb : TA := fun _ H Q => Q [] H
def aCm (ta : TE) (tr : TA) : TA := fun σ H Q => ta σ H fun x H1 => tr σ H1 fun xs H2 => Q (x :: xs) H2
section
variable {X : Cx} {e : Expr} {es : List Expr} {te : TE} {t : TA} {pos : Pos}
theorem jW : PA X [] aJb := fun _ _ _ _ H Q I h => Calls.spliced_nil ⟨[], H, I, .nil, h⟩
theorem fF (ha : PE X e te) (hr : PA X es t) (hs : starEach (e :: es) X.env = (false, eval e X.env) :: starEach es X.env := by rfl) : PA X (e :: es) (aCm te t) := by
 intro pos pins s σ H Q I h
 rw [hs]
 show wpAny _ _ (spliced ((false, eval e X.env) :: backTo pos (starEach es X.env))) _ _ s
 refine Calls.spliced_cons (thn (ha pins s σ H _ I h) fun u s1 ⟨x, H1, I1, r1, q1⟩ => ?_)
 exact thn (hr pos pins s1 σ H1 _ I1 q1) fun us s2 ⟨xs, H2, I2, r2, q2⟩ => ⟨x :: xs, H2, I2, .cons r1 r2, q2⟩
def aKv (t : TA) : TE := fun σ H Q => t σ H fun xs H1 => xs.length <= sizeLine /\ ∀ p, H1 p = none -> Q (.ref p) (upd H1 p (.tup xs))
def aKe (t : TA) : TE := fun σ H Q => t σ H fun xs H1 => xs.length <= sizeLine /\ ∀ p, H1 p = none -> Q (.ref p) (upd H1 p (.lst xs))
theorem aHa {x1} (h : PA X es t) : PE X (.Tuple es x1 pos) (aKv t) := by
 intro pins s σ H Q I hq
 refine wpAny_Tuple_spliced (thn (h pos pins s σ H _ I hq) fun us s1 ⟨xs, H1, I1, r, z, q⟩ => ⟨by rw [<- r.length]; exact z, ?_⟩)
 have hf : H1 s1.heap.objs.size = none := I1.hok.fresh (Nat.le_refl _)
 refine ⟨.ref s1.heap.objs.size, upd H1 s1.heap.objs.size (.tup xs), I1.laid (t' := s1.toks) (fun b u e => Heap.get?_push_of_some _ e) (Nat.le_refl _) ?_, rfl, q _ hf⟩
 exact ⟨z, us, r, ⟨_, Heap.get?_push_size _ rfl, rfl, _, rfl⟩⟩
theorem aG4 (h : PA X es t) : PE X (.List es pos) (aKe t) := by
 intro pins s σ H Q I hq
 refine wpAny_List_spliced (thn (h pos pins s σ H _ I hq) fun us s1 ⟨xs, H1, I1, r, z, q⟩ => ⟨by rw [<- r.length]; exact z, ?_⟩)
 have hf : H1 s1.heap.objs.size = none := I1.hok.fresh (Nat.le_refl _)
 refine ⟨.ref s1.heap.objs.size, upd H1 s1.heap.objs.size (.lst xs), I1.laid (t' := s1.toks) (fun b u e => Heap.get?_push_of_some _ e) (Nat.le_refl _) ?_, rfl, q _ hf⟩
 exact ⟨z, us, 0, r, Heap.get?_push_size _ rfl⟩
end
abbrev Sp := List V -> Hp -> VK -> XK -> Prop
abbrev CXT := List Env -> Hp -> Shared -> XK -> Value -> Shared -> Prop
structure aH4 (P : Program) (w : World) (K : PySem.W.Frag) (mg : Str -> Option Value) (base : Heap) (A : Around) (outer : List Env) (s : Shared) (H : Hp) : Prop where
 frames : A.frames = some outer
 mod : Mod K mg base
 bs : ∀ b o, base.get? b = some o -> s.heap.get? b = some o /\ H b = none
 bsz : base.objs.size <= s.heap.objs.size
 funs : s.heap.FunFrames base outer
 frf : ∀ b ∈ frs outer, H b = none
 hok : HOk P w H s.heap
 bare : AllBare s.gens
def CE (outer : List Env) (P : Program) (w : World) (H : Hp) (s : Shared) (Q : VK) (u : Value) (s' : Shared) : Prop :=
 ∃ v H', s'.os = s.os /\ AllBare s'.gens /\ Un (frs outer) [] H H' s.heap s'.heap /\ HOk P w H' s'.heap /\ RelV v u /\ Q v H'
def CR (CX : CXT) (outer : List Env) (P : Program) (w : World) (H : Hp) (s : Shared) (Q : VK) (E : XK) (r : Result) (s' : Shared) : Prop :=
 match r with
 | .ok (.ret u) => CE outer P w H s Q u s'
 | .ok _ => False
 | .error e => CX outer H s E e s'
structure FnOk (P : Program) (w : World) (K : PySem.W.Frag) (mg : Str -> Option Value) (base : Heap) (CX : CXT) (k : Nat) (f : Addr) (fd : FuncData) (ps : List Str) (sp : Sp) : Prop where
 len : ∀ vs H Q E, sp vs H Q E -> vs.length = ps.length
 run : ∀ (A : Around) (outer : List Env) (s : Shared) (H : Hp) (args : Args) (us : List Value) (vs : List V) (Q : VK) (E : XK), Room k A -> aH4 P w K mg base A outer s H -> BindsTo s fd args (ps.zip us) -> Vals vs us -> sp vs H Q E ->
  codeAny (model P w) A (.call (.ref f) args) (CR CX outer P w H s Q E) s
theorem FnOk.mono {P : Program} {w : World} {K : PySem.W.Frag} {mg : Str -> Option Value} {base : Heap} {CX : CXT} {j k : Nat} {f : Addr} {fd : FuncData} {ps : List Str} {sp : Sp} (F : FnOk P w K mg base CX j f fd ps sp) (h : j <= k) :
  FnOk P w K mg base CX k f fd ps sp := ⟨F.len, fun A outer s H args us vs Q E hr => F.run A outer s H args us vs Q E (hr.mono h)⟩
theorem FnOk.imp {P : Program} {w : World} {K : PySem.W.Frag} {mg : Str -> Option Value} {base : Heap} {CX : CXT} {k : Nat} {f : Addr} {fd : FuncData} {ps : List Str} {sp sp' : Sp} (F : FnOk P w K mg base CX k f fd ps sp)
  (h : ∀ vs H Q E, sp' vs H Q E -> sp vs H Q E) : FnOk P w K mg base CX k f fd ps sp' :=
 ⟨fun vs H Q E q => F.len vs H Q E (h _ _ _ _ q), fun A outer s H args us vs Q E hr he hb hv hs => F.run A outer s H args us vs Q E hr he hb hv (h _ _ _ _ hs)⟩
section
variable {X : Cx} {pins : List (Addr × Obj)} {σ : St} {H : Hp} {s s' : Shared}
theorem Inv.env0 (I : Inv X pins σ H s) : aH4 X.prog X.w X.K X.mg X.base X.A X.stack s H :=
 ⟨I.ok.frames, I.ok.mod, I.bs, Nat.le_trans I.ok.bsz I.sz, I.stack, I.stkFree, I.hok, I.bare⟩
theorem Inv.after {Q : VK} {u : Value} (I : Inv X pins σ H s) (h : CE X.stack X.prog X.w H s Q u s') : EP X pins σ Q u s' := by
 obtain ⟨v, H', os, bare, un, hok, r, q⟩ := h
 obtain ⟨hh, g, d, t, os'⟩ := s'
 obtain rfl : os' = s.os := os
 exact ⟨v, H', I.call (h' := hh) (g' := g) (d' := d) (t' := t) (ch := []) un hok bare (fun b z => absurd z (by simp)), r, q⟩
end
def Binds (K : PySem.W.Frag) (fd : FuncData) (ps : List Str) (ds : List Value) : Prop :=
 ∀ (s : Shared) (us : List Value), K.In s.heap -> (us ++ ds).length = ps.length -> BindsTo s fd ⟨us, []⟩ (ps.zip (us ++ ds))
theorem Binds.all {K : PySem.W.Frag} {fd : FuncData} {ps : List Str} (h : ∀ us : List Value, us.length = ps.length -> bindArgs fd ⟨us, []⟩ = pure (ps.zip us)) : Binds K fd ps [] := fun s us _ hl => by
 rw [List.append_nil] at hl ⊢
 exact .of_eq (h us hl)
def aHx (CX : CXT) (X : Cx) (E : XK) : Prop := ∀ (pins : List (Addr × Obj)) (σ : St) (H : Hp) (s : Shared) (e : Value) (s' : Shared), Inv X pins σ H s -> CX X.stack H s E e s' -> X.xe e s'
section
variable {X : Cx} {CX : CXT} {k : Nat} {f C : Addr} {fd : FuncData} {ps : List Str} {sp : Sp} {dvs : List V} {ds : List Value} {E : XK} {x m : Str} {p pos apos : Pos} {e o : Expr} {es : List Expr} {ta : TE} {t : TA}
end
section
variable {X : Cx} {CX : CXT} {k : Nat} {f C : Addr} {fd : FuncData} {ps ks : List Str} {sp : Sp} {E : XK} {x m : Str} {p pos apos kpos : Pos} {e o : Expr} {es : List Expr} {kws : List Keyword} {te ta : TE} {t tk : TA} {nm : Option Str}
variable {g : List Value -> List Value -> List Value} {gV : List V -> List V -> List V}
end
structure bJ (N P : List Str) (sc : Scope) : Prop where
 kind : sc.kind = .function
 co : sc.isCoroutine = false
 gen : sc.isGenerator = false
 nd : N.Nodup
 pre : N.take P.length = P
 par : ∀ x ∈ P, sc.names.lookup x = some .local \/ sc.names.lookup x = some .cell
 nofree : ∀ y ∈ sc.names, y.2 ≠ .free
theorem mS {kindOf : Str -> Option NameKind} {x : Str} : ∀ {binds : List (Str × Value)} {m : Str -> Option Value}, (∀ v, (x, v) ∉ binds) -> bindL kindOf binds m x = m x
 | [], _, _ => rfl
 | (n, v) :: r, m, h => by
  unfold bindL
  rw [mS fun w hw => h w (List.mem_cons_of_mem _ hw)]
  split
  ·have : x ≠ n := by rintro rfl; exact h v List.mem_cons_self
   simp [this]
  ·rfl
theorem n8 {kindOf : Str -> Option NameKind} {x : Str} : ∀ {binds : List (Str × Value)} {m : Str -> Option Value}, (∀ v, (x, v) ∉ binds) -> bindC kindOf binds m x = m x
 | [], _, _ => rfl
 | (n, v) :: r, m, h => by
  unfold bindC
  rw [n8 fun w hw => h w (List.mem_cons_of_mem _ hw)]
  split
  ·rfl
  ·have : x ≠ n := by rintro rfl; exact h v List.mem_cons_self
   simp [this]
theorem nX {kindOf : Str -> Option NameKind} {x : Str} {v : Value} : ∀ {P : List Str} {vs : List Value} {i : Nat} {m : Str -> Option Value}, P.Nodup -> P[i]? = some x -> vs[i]? = some v -> kindOf x = some .local ->
  bindL kindOf (P.zip vs) m x = some v
 | [], _, _, _, _, h, _, _ => by simp at h
 | _ :: _, [], _, _, _, _, h, _ => by simp at h
 | p :: P, w :: vs, 0, m, nd, h1, h2, hk => by
  simp at h1 h2; subst h1; subst h2
  show bindL kindOf ((p, w) :: P.zip vs) m p = _
  unfold bindL
  rw [mS fun v hv => (List.nodup_cons.mp nd).1 (List.of_mem_zip hv).1, if_pos hk]
  simp
 | p :: P, w :: vs, i + 1, m, nd, h1, h2, hk => by
  show bindL kindOf ((p, w) :: P.zip vs) m x = _
  unfold bindL
  exact nX (i := i) (List.nodup_cons.mp nd).2 (by simpa using h1) (by simpa using h2) hk
theorem nN {kindOf : Str -> Option NameKind} {x : Str} {v : Value} : ∀ {P : List Str} {vs : List Value} {i : Nat} {m : Str -> Option Value}, P.Nodup -> P[i]? = some x -> vs[i]? = some v -> kindOf x ≠ some .local ->
  bindC kindOf (P.zip vs) m x = some v
 | [], _, _, _, _, h, _, _ => by simp at h
 | _ :: _, [], _, _, _, _, h, _ => by simp at h
 | p :: P, w :: vs, 0, m, nd, h1, h2, hk => by
  simp at h1 h2; subst h1; subst h2
  show bindC kindOf ((p, w) :: P.zip vs) m p = _
  unfold bindC
  rw [n8 fun v hv => (List.nodup_cons.mp nd).1 (List.of_mem_zip hv).1, if_neg hk]
  simp
 | p :: P, w :: vs, i + 1, m, nd, h1, h2, hk => by
  show bindC kindOf ((p, w) :: P.zip vs) m x = _
  unfold bindC
  exact nN (i := i) (List.nodup_cons.mp nd).2 (by simpa using h1) (by simpa using h2) hk
def start (N : List Str) (vs : List V) : St := vs.map some ++ List.replicate (N.length - vs.length) none
def pU (CX : CXT) (P : Program) (w : World) (K : PySem.W.Frag) (mg : Str -> Option Value) (base : Heap) (N : List Str) (qual : Str) (scope : Scope) (f : Addr) (cd : Value) (A : Around) (outer : List Env) (s : Shared) (H : Hp) (E : XK) : Cx where
 prog := P
 w := w
 K := K
 mg := mg
 base := base
 A := A.deeper (envOfC qual scope s.heap.objs.size f cd)
 N := N
 s₀ := s
 H₀ := H
 env := envOfC qual scope s.heap.objs.size f cd
 outer := outer
 stack := envOfC qual scope s.heap.objs.size f cd :: outer
 ex := []
 calm := true
 fn := fun _ => true
 pn := []
 xe := fun e s' => wpAny (model P w) (A.deeper (envOfC qual scope s.heap.objs.size f cd)) (leaving (envOfC qual scope s.heap.objs.size f cd) e) (fun _ s'' => CX outer H s E e s'') (fun e' s'' => CX outer H s E e' s'') s'
theorem qQ {sc : Scope} {n : Nat} {x : Str} (h : sc.names.lookup x = some .cell) : ∃ c, (cellsFrom n sc.names []).lookup x = some c := by
 have q := PySem.W.cellsFrom_some sc.names n [] (.inl h)
 exact Option.isSome_iff_exists.mp q
theorem tX {CX : CXT} {P : Program} {w : World} {K : PySem.W.Frag} {mg : Str -> Option Value} {base : Heap} {N ps : List Str} {qual : Str} {scope : Scope} {f : Addr} {cd : Value} {A : Around} {outer : List Env} {s s1 : Shared} {H : Hp} {E : XK} {us : List Value} {vs : List V}
  (S : bJ N ps scope) (hd : A.handled = none) (e0 : aH4 P w K mg base A outer s H) (hl : vs.length = ps.length) (r : Vals vs us)
  (x : InCallC s s.heap.objs.size (bindL (envOfC qual scope s.heap.objs.size f cd).kindOf (ps.zip us) fun _ => none) (cellsFrom (s.heap.objs.size + 1) scope.names []) (bindC (envOfC qual scope s.heap.objs.size f cd).kindOf (ps.zip us) fun _ => none) s1) :
  Inv (pU CX P w K mg base N qual scope f cd A outer s H E) [] (start N vs) H s1 := by
 have hpl : ps.length <= N.length := by have := congrArg List.length S.pre; rw [List.length_take] at this; omega
 obtain ⟨h1, tk, rfl, hk⟩ := x.done
 have noA : ∀ b : Addr, b ∉ (pU CX P w K mg base N qual scope f cd A outer s H E).ex := fun b z => absurd (show b ∈ ([] : List Addr) from z) (by simp)
 refine ⟨⟨e0.mod, S.kind, rfl, rfl, Nat.le_refl _, fun y z c h1 h2 => ?_, fun y hy => ?_, fun y c _ h => ?_, fun _ => hd, Around.frames_deeper e0.frames, .inr ⟨rfl, rfl⟩, fun b z => absurd z (noA b), e0.bs, e0.bsz, fun b _ _ => noA b, fun b z => absurd z (noA b), e0.funs, e0.frf⟩,
  rfl, e0.bare, Un.kept hk, ⟨_, x.toInCall.ns, fun i y v h1 h2 h3 => ?_⟩, fun y c h => ⟨_, x.cell y c h⟩, e0.hok.fresh (Nat.le_refl _), fun y c h => ?_, fun p hp => absurd (show p ∈ ([] : List (Addr × Obj)) from hp) (by simp), e0.hok.kept hk, ?_⟩
 ·exact name_of_addr x.apart (PySem.mem_of_lookup h1) (PySem.mem_of_lookup h2)
 ·have hy : scope.names.lookup y = some .cell \/ scope.names.lookup y = some .free := hy
  rcases hy with hy | hy
  ·exact qQ hy
  ·exact absurd rfl (S.nofree _ (PySem.mem_of_lookup hy))
 ·exact Nat.le_of_lt (x.above y c (PySem.mem_of_lookup h))
 ·have hi : i < vs.length := by
   unfold start at h2
   by_cases hi : i < vs.length
   ·exact hi
   ·rw [List.getElem?_append_right (by simpa using hi)] at h2
    rw [List.getElem?_replicate] at h2
    split at h2 <;> cases h2
  have ha : vs[i]? = some v := by
   unfold start at h2
   rw [List.getElem?_append_left (by simpa using hi), List.getElem?_map] at h2
   cases e : vs[i]? with
   | none => rw [e] at h2; cases h2
   | some a => rw [e] at h2; cases h2; rfl
  obtain ⟨u, hu, rv⟩ := r.get ha
  have hp : ps[i]? = some y := by
   rw [<- S.pre, List.getElem?_take_of_lt (by omega)]; exact h1
  have ndP : ps.Nodup := by rw [<- S.pre]; exact S.nd.sublist (List.take_sublist _ _)
  refine ⟨u, rv, ?_⟩
  rcases S.par y (List.mem_of_getElem? hp) with k | k
  ·exact .inl ⟨k, nX ndP hp hu k⟩
  ·obtain ⟨c, e⟩ := qQ (n := s.heap.objs.size + 1) k
   refine .inr ⟨.inl k, c, e, ?_⟩
   have q := x.cell y c e
   rw [nN ndP hp hu (by show scope.names.lookup y ≠ _; rw [k]; decide)] at q
   exact q
 ·exact e0.hok.fresh (Nat.le_of_lt (x.above y c (PySem.mem_of_lookup h)))
 ·unfold start
  show _ = N.length
  rw [List.length_append, List.length_map, List.length_replicate]
  omega
theorem aJu {CX : CXT} {P : Program} {w : World} {K : PySem.W.Frag} {mg : Str -> Option Value} {base : Heap} {k : Nat} {f : Addr} {name qual : Str} {params : Arguments} {body : List Stmt} {scope : Scope} {dV kV doc pm cdv ct oc : Value} {an od : Option Addr}
  {osl : Array (Option Value)} {N ps : List Str} {sp : Sp} (lk : K.lookup f = some ⟨oc, od, .func (PySem.W.fnOf name qual params body scope dV kV doc pm an cdv ct), osl⟩) (hcd : PySem.W.codeIn K cdv qual = true) (S : bJ N ps scope)
  (len : ∀ vs H Q E, sp vs H Q E -> vs.length = ps.length)
  (hbody : ∀ (A : Around) (outer : List Env) (s : Shared) (H : Hp) (vs : List V) (Q : VK) (E : XK), Room k (A.deeper (envOfC qual scope s.heap.objs.size f cdv)) -> sp vs H Q E ->
   ∃ t, PSs (pU CX P w K mg base N qual scope f cdv A outer s H E) body t /\ t { nx := fun _ H' => Q .non H', rt := Q } (start N vs) H) :
  FnOk P w K mg base CX (k + 1) f (PySem.W.fnOf name qual params body scope dV kV doc pm an cdv ct) ps sp := by
 refine ⟨len, fun A outer s H args us vs Q E hr e0 hb r hsp => ?_⟩
 have hl := len _ _ _ _ hsp
 have KX : K.In s.heap := e0.mod.kin.keeps fun b o e => (e0.bs b o e).1
 have lim : s.heap.NoLimit := e0.mod.nolimit.keeps fun b o e => (e0.bs b o e).1
 have hkind : ∀ y ∈ ps.zip us, scope.names.lookup y.1 = some .local \/ (scope.names.lookup y.1 = some .cell /\ ((cellsFrom (s.heap.objs.size + 1) scope.names []).lookup y.1).isSome = true) := fun ⟨n, v⟩ hy => by
  rcases S.par n (List.of_mem_zip hy).1 with q | q
  ·exact .inl q
  ·exact .inr ⟨q, PySem.W.cellsFrom_some _ _ _ (.inl q)⟩
 refine codeAny_call_function hr.depth (KX _ _ lk) rfl S.co S.gen rfl (PySem.W.codeRec_of KX hcd) (hb _ _ _ _ ?_)
 refine wpAny_newFunctionEnv_cells S.kind hkind fun env he s1 x => ?_
 subst he
 refine ⟨lim.keeps x.toInCall.keep, codeAny_func ?_⟩
 obtain ⟨t, ht, hq⟩ := hbody A outer s H vs Q E (hr.deeper _) hsp
 have I : Inv (pU CX P w K mg base N qual scope f cdv A outer s H E) [] (start N vs) H s1 := tX S hr.hd e0 hl r x
 refine wpAny_mono (ht [] s1 (start N vs) H _ I hq) (fun fl s' hs => ?_) fun e s' hs => hs
 have fin : ∀ {σ' : St} {H' : Hp} {v : V} {u : Value}, Inv (pU CX P w K mg base N qual scope f cdv A outer s H E) [] σ' H' s' -> RelV v u -> Q v H' -> CE outer P w H s Q u s' :=
  fun {σ' H' v u} J rv q => ⟨v, H', J.os, J.bare, J.base, J.hok, rv, q⟩
 cases fl with
 | ret u =>
  obtain ⟨v, σ', H', J, rv, q⟩ := hs
  exact fin J rv q
 | next =>
  obtain ⟨σ', H', J, q⟩ := hs
  exact fin (v := V.non) (u := Value.none) J rfl q
 | brk =>
  obtain ⟨_, _, _, q⟩ := hs
  exact False.elim q
 | cont =>
  obtain ⟨_, _, _, q⟩ := hs
  exact False.elim q
section
variable {X : Cx} {x : Str} {p pos : Pos} {e : Expr} {es : List Expr} {t : TA} {id T : String} {r : List V -> Hp -> VK -> Prop}
def tCB (r : List V -> Hp -> VK -> Prop) (t : TA) : TE := fun σ H Q => t σ H fun vs H1 => r vs H1 Q
theorem qI (hc : jP X (.builtin id) r) (hg : Gl X x) (hm : X.mg x = none) (hv : bootBuiltins x = some (.builtin id)) (ha : PA X (e :: es) t) (hn : x ≠ "__name__" := by decide) (hdb : (x == ("__debug__" : Str)) = false := by decide)
  (he : starEach (e :: es) X.env = (false, eval e X.env) :: starEach es X.env := by rfl) (hpl : (backTo pos (starEach es X.env)).any (·.1) = false := by rfl) : PE X (.Call (.Name x p) (e :: es) [] pos) (tCB r t) := by
 intro pins s σ H Q I h
 refine wpAny_Call_Name_kw (iH I hg hm hv ?_ hn hdb)
 exact PyProof.Rows.callWith_builtin1 (thn (ha pos pins s σ H _ I h) fun us s1 ⟨vs, H1, I1, r1, q1⟩ => hc pins s1 σ H1 vs us Q I1 r1 q1) he hpl
theorem xC (hc : jP X (.type T) r) (hg : Gl X x) (hm : X.mg x = none) (hv : bootBuiltins x = some (.type T)) (ha : PA X (e :: es) t) (hn : x ≠ "__name__" := by decide) (hdb : (x == ("__debug__" : Str)) = false := by decide)
  (he : starEach (e :: es) X.env = (false, eval e X.env) :: starEach es X.env := by rfl) (hpl : (backTo pos (starEach es X.env)).any (·.1) = false := by rfl) : PE X (.Call (.Name x p) (e :: es) [] pos) (tCB r t) := by
 intro pins s σ H Q I h
 refine wpAny_Call_Name_kw (iH I hg hm hv ?_ hn hdb)
 exact PyProof.Rows.callWith_type1 (thn (ha pos pins s σ H _ I h) fun us s1 ⟨vs, H1, I1, r1, q1⟩ => hc pins s1 σ H1 vs us Q I1 r1 q1) he hpl
end
end L2
namespace HT
open PySem PyProof.Rows
def lexLt : List Int -> List Int -> Bool
 | [], [] => false
 | [], _ :: _ => true
 | _ :: _, [] => false
 | x :: xs, y :: ys => if x = y then lexLt xs ys else decide (x < y)
theorem dE (x y : Int) (xs ys : List Int) : lexLt (x :: xs) (y :: ys) = if x = y then lexLt xs ys else decide (x < y) := rfl
theorem mP : lexLt [] [] = false := rfl
section
open PySem.SeqAt
open PySem.AutoSeq1 (wpAny_loadPart')
open PySem.MeetsSeq PySem.MeetsSeq2 PySem.MeetsSeq3
end
section
variable {prog : Program} {w : World} {A : Around} {E : Value -> Shared -> Prop} {s : Shared}
def sIx (n d : Nat) : Option Int -> Nat
 | none => d
 | some v => if v < 0 then (v + (n : Int)).toNat else min v.toNat n
theorem yR (n d : Nat) : sIx n d none = d := rfl
end
end HT
namespace L2
open PySem PySem.Spec PyProof.Rows
abbrev TO := St -> Hp -> (Option Int -> Hp -> Prop) -> Prop
def PO (X : Cx) (e : Option Expr) (t : TO) : Prop :=
 ∀ (pins : List (Addr × Obj)) (s : Shared) (σ : St) (H : Hp) (Q : Option Int -> Hp -> Prop), Inv X pins σ H s -> t σ H Q ->
  wpAny (model X.prog X.w) X.A (evalPart e X.env) (fun u s' => ∃ o H', Inv X pins σ H' s' /\ IsPart u o /\ Q o H') X.xe s
def aDs : TO := fun _ H Q => Q none H
def aI8 (t : TE) : TO := fun σ H Q => t σ H fun x H1 => ∃ i, x = .int i /\ Q (some i) H1
theorem intsAre_of {ns : List Int} : ∀ {us : List Value}, Vals (ns.map V.int) us -> IntsAre us ns := by
 induction ns with
 | nil => intro us r; rw [List.map_nil] at r; cases r; exact .nil
 | cons n ns ih =>
  intro us r
  rw [List.map_cons] at r
  cases r with
  | cons r1 r2 =>
   obtain ⟨t, e⟩ := r1
   subst e
   exact .cons n t (ih r2)
section
variable {X : Cx} {e : Expr} {te : TE} {lo hi : Option Expr} {tl th : TO} {pos p2 : Pos}
theorem aD7 : PO X none aDs := by
 intro pins s σ H Q I h
 rw [evalPart_none]
 exact wpAny_pure ⟨none, H, I, .none, h⟩
theorem aCc (h : PE X e te) : PO X (some e) (aI8 te) := by
 intro pins s σ H Q I hw
 rw [evalPart_some]
 refine thn (h pins s σ H _ I hw) fun u s1 ⟨x, H1, I1, r1, q1⟩ => ?_
 obtain ⟨i, rfl, q⟩ := q1
 obtain ⟨t, rfl⟩ := r1
 exact ⟨some i, H1, I1, .int i t, q⟩
def SlR (X : Cx) (r : V -> Option Int -> Option Int -> Hp -> VK -> Prop) : Prop :=
 ∀ (pins : List (Addr × Obj)) (s : Shared) (σ : St) (H : Hp) (x : V) (v vl vu : Value) (lo hi : Option Int) (sl : Addr) (Q : VK), Inv X pins σ H s -> RelV x v -> s.heap.IsSliceOf sl vl vu .none -> IsPart vl lo -> IsPart vu hi -> r x lo hi H Q ->
  ∃ T id, typeLookup (.type T) "__getitem__" = pure (some (.builtin id)) /\ s.TypeIs v T /\ wpAny (model X.prog X.w) X.A (getItem v (.ref sl)) (EP X pins σ Q) X.xe s
def tSl (r : V -> Option Int -> Option Int -> Hp -> VK -> Prop) (te : TE) (tl th : TO) : TE := fun σ H Q => te σ H fun x H1 => tl σ H1 fun l H2 => th σ H2 fun u H3 => r x l u H3 Q
theorem aAe {r : V -> Option Int -> Option Int -> Hp -> VK -> Prop} (hr : SlR X r) (he : PE X e te) (hl : PO X lo tl) (hu : PO X hi th) : PE X (.Subscript e (.Slice lo hi none p2) pos) (tSl r te tl th) := by
 intro pins s σ H Q I h
 refine Subscript_ (thn (he pins s σ H _ I h) fun v s1 ⟨x, H1, I1, r1, q1⟩ => ?_)
 refine wpAny_Slice (thn (hl pins s1 σ H1 _ I1 q1) fun vl s2 ⟨l, H2, I2, pl, q2⟩ => thn (hu pins s2 σ H2 _ I2 q2) fun vu s3 ⟨u, H3, I3, pu, q3⟩ => ?_)
 rw [evalPart_none]
 refine wpAny_pure ?_
 have I4 : Inv X pins σ H3 { s3 with heap := s3.heap.push { cls := .type "slice", data := .fields #[vl, vu, .none] } } := I3.kept (t' := s3.toks) fun b ob q => Heap.get?_push_of_some _ q
 obtain ⟨T, id, hT, ht, hg⟩ := hr pins { s3 with heap := s3.heap.push { cls := .type "slice", data := .fields #[vl, vu, .none] } } σ H3 x v vl vu l u s3.heap.objs.size Q I4 r1 (Heap.IsSliceOf.new ..) pl pu q3
 show wpAny (model X.prog X.w) X.A (subscriptTail e (.Slice lo hi none p2) v (.ref s3.heap.objs.size)) (EP X pins σ Q) X.xe { s3 with heap := s3.heap.push { cls := .type "slice", data := .fields #[vl, vu, .none] } }
 exact tail_any (ops := [.ref s3.heap.objs.size, v]) ht hT hg (by with_unfolding_all rfl)
def aEv (xs : List V) (lo hi : Option Int) : List V := (xs.drop (HT.sIx xs.length 0 lo)).take (HT.sIx xs.length xs.length hi - HT.sIx xs.length 0 lo)
theorem oY (xs : List V) (lo hi : Option Int) : (aEv xs lo hi).length <= xs.length := by
 unfold aEv
 rw [List.length_take, List.length_drop]
 omega
end
def ixN (n : Nat) (i : Int) : Option Nat := if 0 <= i then (if i < n then some i.toNat else none) else if -(n : Int) <= i then some (i + n).toNat else none
def atI {α : Type} (xs : List α) (i : Int) : Option α := (ixN xs.length i).bind fun j => xs[j]?
theorem aDu {n : Nat} {i : Int} {j : Nat} (h : ixN n i = some j) : seqIndex? i n = some j /\ j < n /\ -(n : Int) <= i /\ i < n := by
 unfold ixN at h
 by_cases h0 : 0 <= i
 ·rw [if_pos h0] at h
  by_cases h1 : i < n
  ·rw [if_pos h1] at h
   have e : i.toNat = j := Option.some.inj h
   exact ⟨by rw [seqIndex_of h0 h1, e], by omega, by omega, h1⟩
  ·rw [if_neg h1] at h; cases h
 ·rw [if_neg h0] at h
  by_cases h1 : -(n : Int) <= i
  ·rw [if_pos h1] at h
   have e : (i + n).toNat = j := Option.some.inj h
   exact ⟨by rw [seqIndex_neg (by omega) h1, e], by omega, h1, by omega⟩
  ·rw [if_neg h1] at h; cases h
theorem wY {α : Type} {xs : List α} {i : Int} {v : α} (h : atI xs i = some v) : ∃ j, seqIndex? i xs.length = some j /\ xs[j]? = some v /\ j < xs.length /\ -(xs.length : Int) <= i /\ i < xs.length := by
 unfold atI at h
 cases e : ixN xs.length i with
 | none => rw [e] at h; cases h
 | some j =>
  rw [e] at h
  obtain ⟨h1, h2, h3, h4⟩ := aDu e
  exact ⟨j, h1, h, h2, h3, h4⟩
theorem mK {α : Type} {xs : List α} {j : Nat} {v : α} (h : xs[j]? = some v) : atI xs (j : Int) = some v := by
 have hj : j < xs.length := (List.getElem?_eq_some_iff.mp h).1
 have e : ixN xs.length (j : Int) = some j := by
  unfold ixN
  rw [if_pos (by omega), if_pos (by omega)]; simp
 unfold atI; rw [e]; exact h
theorem xW {α : Type} (xs : List α) (v : α) : atI (xs ++ [v]) (-1) = some v := by
 have hl : (xs ++ [v]).length = xs.length + 1 := by simp
 have e : ixN (xs ++ [v]).length (-1) = some xs.length := by
  unfold ixN
  rw [hl, if_neg (by decide), if_pos (by omega)]
  congr 1
  omega
 unfold atI
 rw [e]
 show (xs ++ [v])[xs.length]? = some v
 simp
def xN (b : Expr) : Prop := ∀ o i, subscripted b false o i = operate [o, i] (getItem o i)
def IxR (X : Cx) (r : R2) : Prop :=
 ∀ (value slice : Expr) (pins : List (Addr × Obj)) (s : Shared) (σ : St) (H : Hp) (x y : V) (v u : Value) (Q : VK), Inv X pins σ H s -> RelV x v -> RelV y u -> r x y H Q ->
  subscripted slice false v u = operate [v, u] (getItem v u) -> wpAny (model X.prog X.w) X.A (subscriptTail value slice v u) (EP X pins σ Q) X.xe s
def MtR (X : Cx) (id : String) (r : V -> List V -> Hp -> VK -> Prop) : Prop :=
 ∀ (pins : List (Addr × Obj)) (s : Shared) (σ : St) (H : Hp) (x : V) (xs : List V) (v : Value) (us : List Value) (Q : VK), Inv X pins σ H s -> RelV x v -> Vals xs us -> r x xs H Q ->
  wpAny (model X.prog X.w) X.A (call (.builtin id) (v :: us)) (EP X pins σ Q) X.xe s
section
variable {X : Cx} {a b : Expr} {ta tb : TE} {pos : Pos}
theorem IxR.or {r r' : R2} (h : IxR X r) (h' : IxR X r') : IxR X (fun x y H Q => r x y H Q \/ r' x y H Q) := by
 intro value slice pins s σ H x y v u Q I rx ry q hs
 rcases q with q | q
 ·exact h value slice pins s σ H x y v u Q I rx ry q hs
 ·exact h' value slice pins s σ H x y v u Q I rx ry q hs
theorem aI4 {r : R2} (hr : IxR X r) (ha : PE X a ta) (hb : PE X b tb) (hs : xN b) : PE X (.Subscript a b pos) (tOp r ta tb) := by
 intro pins s σ H Q I h
 exact Subscript_ (aJo ha hb I h fun v u s2 x y H2 I2 rx ry q => hr a b pins s2 σ H2 x y v u Q I2 rx ry q (hs _ _))
def aJw (K : PySem.W.Frag) : R2 := fun x y H Q => ∃ p xs i v, x = .ref p /\ y = .int i /\ SqL K H p xs /\ atI xs i = some v /\ Q v H
def aKb (K : PySem.W.Frag) : R2 := fun x y H Q => ∃ p xs i v, x = .ref p /\ y = .int i /\ SqT K H p xs /\ atI xs i = some v /\ Q v H
theorem ix_list : IxR X (aJw X.K) := by
 intro value slice pins s σ H x y v u Q I rx ry h hs
 obtain ⟨p, xs, i, z, rfl, rfl, hq, he, q⟩ := h
 cases rx
 obtain ⟨t, rfl⟩ := ry
 obtain ⟨its, r, pl, hz⟩ := I.list hq
 obtain ⟨j, h1, h2, h3, h4, h5⟩ := wY he
 obtain ⟨w, ew, rw'⟩ := r.get h2
 have hl := r.length
 have hn := v8
 have fin : EP X pins σ Q w s := ⟨z, H, I, rw', q⟩
 by_cases h0 : 0 <= i
 ·have hj : i.toNat = j := by
   rw [seqIndex_of h0 h5] at h1
   exact Option.some.inj h1
  exact item_listR pl.isList h0 (by omega) (by rw [hj]; simpa using ew) fin hs
 ·have hj : (i + (its.toArray.size : Int)).toNat = j := by
   rw [seqIndex_neg (by omega) h4] at h1
   rw [List.size_toArray, <- hl]
   exact Option.some.inj h1
  exact subscriptTail_builtinR (x := w) pl.isList.typeIs slot_list_getitem.lookup
   (wpAny_getItem_list_neg (Q := fun r s' => r = w /\ EP X pins σ Q r s') pl.isList (by omega) (by rw [List.size_toArray] <;> omega) (by omega) (by rw [hj]; simpa using ew) ⟨rfl, fin⟩) hs
theorem aGt : IxR X (aKb X.K) := by
 intro value slice pins s σ H x y v u Q I rx ry h hs
 obtain ⟨p, xs, i, z, rfl, rfl, hq, he, q⟩ := h
 cases rx
 obtain ⟨t, rfl⟩ := ry
 obtain ⟨its, r, pl, hz⟩ := I.tuple hq
 obtain ⟨j, h1, h2, h3, h4, h5⟩ := wY he
 obtain ⟨w, ew, rw'⟩ := r.get h2
 have hl := r.length
 have hn := v8
 have fin : EP X pins σ Q w s := ⟨z, H, I, rw', q⟩
 exact subscriptTail_builtinR (x := w) pl.typeIs slot_tuple_getitem.lookup
  (getItem_tuple (j := j) (Q := fun r s' => r = w /\ EP X pins σ Q r s') pl (by omega) (by omega) (by rw [List.size_toArray, <- hl]; exact h1) (by simpa using ew) ⟨rfl, fin⟩) hs
theorem nO (lo hi : Option Int) (n : Nat) : (sliceBounds lo hi none n).1 = ((HT.sIx n 0 lo : Nat) : Int) /\ (sliceBounds lo hi none n).2.1 = ((HT.sIx n n hi : Nat) : Int) /\ (sliceBounds lo hi none n).2.2 = 1 := by
 refine ⟨?_, ?_, rfl⟩
 ·cases lo with
  | none => simp [sliceBounds, HT.sIx]
  | some i =>
   simp only [sliceBounds, HT.sIx, Option.getD_none, show (1 : Int) > 0 by decide, if_true]
   by_cases h : i < 0
   ·simp only [h, if_true] <;> omega
   ·simp only [h, if_false] <;> omega
 ·cases hi with
  | none => simp [sliceBounds, HT.sIx]
  | some i =>
   simp only [sliceBounds, HT.sIx, Option.getD_none, show (1 : Int) > 0 by decide, if_true]
   by_cases h : i < 0
   ·simp only [h, if_true] <;> omega
   ·simp only [h, if_false] <;> omega
theorem lK (its : List Value) (lo hi : Option Int) : slicePick its.toArray lo hi none = ((its.drop (HT.sIx its.length 0 lo)).take (HT.sIx its.length its.length hi - HT.sIx its.length 0 lo)).toArray := by
 obtain ⟨h1, h2, h3⟩ := nO lo hi its.toArray.size
 unfold slicePick
 rw [h1, h2, h3]
 simp only [sliceRange_one, pick_run, List.size_toArray] <;> rfl
def aKn (K : PySem.W.Frag) : V -> Option Int -> Option Int -> Hp -> VK -> Prop := fun x lo hi H Q => ∃ a xs, x = .ref a /\ SqL K H a xs /\ ∀ p, H p = none -> Q (.ref p) (upd H p (.lst (aEv xs lo hi)))
theorem aCt : SlR X (aKn X.K) := by
 intro pins s σ H x v vl vu lo hi sl Q I rx hs pl pu h
 obtain ⟨a, xs, rfl, hx, q⟩ := h
 cases rx
 obtain ⟨its, r, ht, hz⟩ := I.list hx
 have hlen := r.length
 refine ⟨"list", _, slot_list_getitem.lookup, ht.isList.typeIs, ?_⟩
 refine wpAny_getItem_list_slice ht.isList hs pl pu .none (by simp) ?_ (by rw [List.size_toArray] <;> omega)
 rw [lK, <- hlen]
 refine ⟨.ref s.heap.objs.size, _, I.laid (t' := s.toks) (o := .lst (aEv xs lo hi)) (fun b ob q => Heap.get?_push_of_some _ q) (Nat.le_refl _) ?_, rfl, q _ (I.hok.fresh (Nat.le_refl _))⟩
 exact ⟨Nat.le_trans (oY xs lo hi) hz, _, 0, (r.drop (HT.sIx xs.length 0 lo)).take (HT.sIx xs.length xs.length hi - HT.sIx xs.length 0 lo), Heap.get?_push_size _ rfl⟩
theorem dU : jP X (.builtin "len") (fun xs H Q => ∃ p ys, xs = [.ref p] /\ (SqL X.K H p ys \/ SqT X.K H p ys) /\ Q (.int ys.length) H) := by
 intro pins s σ H xs us Q I r h
 obtain ⟨p, ys, rfl, hq, q⟩ := h
 obtain ⟨u, rfl, rx⟩ := vals1 r
 cases rx
 have hn := v8
 rcases hq with hq | hq
 ·obtain ⟨its, r', pl, hz⟩ := I.list hq
  have hlen := r'.length
  exact Calls.call_len_list pl.isList (by simp only [List.size_toArray] <;> omega) ⟨.int ys.length, H, I.tok _, ⟨s.toks + 1, by rw [List.size_toArray, hlen]⟩, q⟩
 ·obtain ⟨its, r', pl, hz⟩ := I.tuple hq
  have hlen := r'.length
  exact len_tuple pl (by simp only [List.size_toArray] <;> omega) ⟨.int ys.length, H, I.tok _, ⟨s.toks + 1, by rw [List.size_toArray, hlen]⟩, q⟩
theorem nT : jP X (.type "list") (fun xs H Q => ∃ p ys, xs = [.ref p] /\ (SqL X.K H p ys \/ SqT X.K H p ys) /\ ∀ l, H l = none -> Q (.ref l) (upd H l (.lst ys))) := by
 intro pins s σ H xs us Q I r h
 obtain ⟨p, ys, rfl, hq, q⟩ := h
 obtain ⟨u, rfl, rx⟩ := vals1 r
 cases rx
 have fin : ∀ (its : List Value), Vals ys its -> ys.length <= sizeLine -> ∀ (h' : Heap) (c' : Nat), (∀ b o', s.heap.get? b = some o' -> h'.get? b = some o') ->
   h'.get? s.heap.objs.size = some { cls := .type "list", dict := none, data := .seq its.toArray c', slots := #[] } -> EP X pins σ Q (.ref s.heap.objs.size) { s with heap := h' } := fun its r' hz h' c' kp e =>
  ⟨.ref s.heap.objs.size, _, I.laid (t' := s.toks) kp (Nat.le_refl _) (show ObjOk X.prog X.w _ h' _ (.lst ys) from ⟨hz, its, c', r', e⟩), rfl, q _ (I.hok.fresh (Nat.le_refl _))⟩
 rcases hq with hq | hq
 ·obtain ⟨its, r', pl, hz⟩ := I.list hq
  have hlen := r'.length
  obtain ⟨o, ho, hc, n, hd⟩ := pl.isList
  exact call_list_seq p (.inl rfl) ho hc hd (fun h' c' kp e => fin its r' hz h' c' kp e) (by simp only [List.size_toArray] <;> omega)
 ·obtain ⟨its, r', pl, hz⟩ := I.tuple hq
  have hlen := r'.length
  obtain ⟨o, ho, hc, n, hd⟩ := pl
  exact call_list_seq p (.inr rfl) ho hc hd (fun h' c' kp e => fin its r' hz h' c' kp e) (by simp only [List.size_toArray] <;> omega)
def tyV (K : PySem.W.Frag) (T : String) (x : V) (H : Hp) : Prop := match x with
 | .str _ => T = "str"
 | .int _ => T = "int"
 | .ref p => (T = "list" /\ ∃ xs, SqL K H p xs) \/ (T = "tuple" /\ ∃ o, K.lookup p = some o /\ o.cls = .type "tuple" /\ o.dict = none) \/
   (T = "dict" /\ ((∃ kvs, H p = some (.dK kvs)) \/ ∃ kvs, H p = some (.dT kvs))) \/ (T = "set" /\ ∃ S n, H p = some (.set S n))
 | _ => False
theorem aBl {pins : List (Addr × Obj)} {σ : St} {H : Hp} {s : Shared} {T : String} {x : V} {v : Value} (I : Inv X pins σ H s) (r : RelV x v) (ty : tyV X.K T x H) :
  s.TypeIs v T /\ ∀ a, v = .ref a -> ∃ ob, s.heap.get? a = some ob /\ ob.dict = none := by
 cases x with
 | str z =>
  obtain ⟨t, rfl⟩ := r
  cases (show T = "str" from ty)
  exact ⟨typeIs_str s z t, fun _ e => nomatch e⟩
 | int i =>
  obtain ⟨t, rfl⟩ := r
  cases (show T = "int" from ty)
  exact ⟨typeIs_int s i t, fun _ e => nomatch e⟩
 | ref p =>
  cases r
  rcases ty with ⟨rfl, xs, hq⟩ | ⟨rfl, o, hk, hc, hd⟩ | ⟨rfl, hk⟩ | ⟨rfl, S, n, hk⟩
  ·obtain ⟨its, _, pl, _⟩ := I.list hq
   refine ⟨pl.isList.typeIs, fun a e => ?_⟩
   cases e
   obtain ⟨o, n, e, c, hd, _⟩ := pl
   exact ⟨o, e, hd⟩
  ·refine ⟨⟨o, I.kIn p o hk, hc⟩, fun a e => ?_⟩
   cases e
   exact ⟨o, I.kIn _ o hk, hd⟩
  ·have z : ∃ o, s.heap.get? p = some o /\ o.ExactDict := by
    rcases hk with ⟨kvs, hk⟩ | ⟨kvs, hk⟩
    ·obtain ⟨_, _, _, _, o, _, _, e, ex, _⟩ := I.hok p _ hk
     exact ⟨o, e, ex⟩
    ·obtain ⟨_, _, _, _, o, _, _, e, ex, _⟩ := I.hok p _ hk
     exact ⟨o, e, ex⟩
   obtain ⟨o, e, ex⟩ := z
   refine ⟨⟨o, e, ex.1⟩, fun a e2 => ?_⟩
   cases e2
   exact ⟨o, e, ex.2.1⟩
  ·obtain ⟨o, _, _, _, e, ex, _⟩ := I.hok p _ hk
   refine ⟨⟨o, e, ex.1⟩, fun a e2 => ?_⟩
   cases e2
   exact ⟨o, e, ex.2.1⟩
 | _ => exact False.elim ty
def aIx (K : PySem.W.Frag) (T : String) (r : V -> List V -> Hp -> VK -> Prop) (to : TE) : TE := fun σ H Q => to σ H fun x H1 => tyV K T x H1 /\ r x [] H1 Q
def tBM (K : PySem.W.Frag) (T : String) (r : V -> List V -> Hp -> VK -> Prop) (to : TE) (t : TA) : TE := fun σ H Q => to σ H fun x H1 => tyV K T x H1 /\ t σ H1 fun xs H2 => r x xs H2 Q
variable {o e : Expr} {es : List Expr} {to : TE} {t : TA} {name : Str} {apos cpos : Pos} {T id : String} {r : V -> List V -> Hp -> VK -> Prop}
theorem aFx (pa : PlainAttrs T) (slot : Slot T name id) (hty : typeOf (.builtin id) = pure (.type "method_descriptor")) (hm : MtR X id r) (ho : PE X o to)
  (hbase : attributeBase o name X.env (eval o X.env) = eval o X.env := by rfl) (hline : (apos.endLine == cpos.line) = true := by rfl) : PE X (.Call (.Attribute o name apos) [] [] cpos) (aIx X.K T r to) := by
 intro pins s σ H Q I h
 refine wpAny_Call_method0_late hbase hline (thn (ho pins s σ H _ I h) fun v s1 ⟨x, H1, I1, r1, ty, q1⟩ => ?_)
 obtain ⟨h1, h2⟩ := aBl I1 r1 ty
 exact ⟨T, id, pa, slot, hty, h1, h2, Calls.callWith_builtin rfl (PySem.evalArgs_none (hm pins s1 σ H1 x [] v [] Q I1 r1 .nil q1))⟩
theorem u4 (pa : PlainAttrs T) (slot : Slot T name id) (hty : typeOf (.builtin id) = pure (.type "method_descriptor")) (hm : MtR X id r) (ho : PE X o to) (ha : PA X (e :: es) t)
  (hbase : attributeBase o name X.env (eval o X.env) = eval o X.env := by rfl)
  (hfew : ((backTo cpos (starEach (e :: es) X.env)).all (fun x => !x.1) && (backToKw cpos (keywordEach [] X.env)).all (fun x => x.1.isSome)
   && decide ((e :: es).length + ([] : List Keyword).length + (if ([] : List Keyword).isEmpty then 0 else 1) < 30)) = true := by rfl)
  (hline : (apos.endLine == cpos.line) = true := by rfl) (hs : starEach (e :: es) X.env = (false, eval e X.env) :: starEach es X.env := by rfl) (hplain : (backTo cpos (starEach es X.env)).any (·.1) = false := by rfl) :
  PE X (.Call (.Attribute o name apos) (e :: es) [] cpos) (tBM X.K T r to t) := by
 intro pins s σ H Q I h
 refine wpAny_Call_method_late hbase hfew hline rfl (thn (ho pins s σ H _ I h) fun v s1 ⟨x, H1, I1, r1, ty, q1⟩ => ?_)
 obtain ⟨h1, h2⟩ := aBl I1 r1 ty
 refine ⟨T, id, pa, slot, hty, h1, h2, ?_⟩
 have hA := ha cpos pins s1 σ H1 _ I1 q1
 rw [hs] at hA ⊢
 refine Calls.callWith_builtin (by show (false || (backTo cpos (starEach es X.env)).any (·.1)) = false; rw [hplain] <;> rfl) (Calls.evalArgs_plain ?_)
 exact thn hA fun us s2 ⟨vs, H2, I2, r2, q2⟩ => hm pins s2 σ H2 x vs v us Q I2 r1 r2 q2
end
def MtM (X : Cx) (id : String) (r : V -> List V -> Hp -> VK -> Prop) : Prop :=
 ∀ (pins : List (Addr × Obj)) (s : Shared) (σ : St) (H : Hp) (x : V) (xs : List V) (v : Value) (us : List Value) (Q : VK), Inv X pins σ H s -> RelV x v -> Vals xs us -> r x xs H Q ->
  wpAny (model X.prog X.w) X.A (call (.builtin id) (v :: us)) (EP X pins σ Q) X.xe s
theorem Vals.one : ∀ {x : V} {us : List Value}, Vals [x] us -> ∃ u, us = [u] /\ RelV x u
 | _, _, .cons r .nil => ⟨_, rfl, r⟩
theorem Vals.zero : ∀ {us : List Value}, Vals [] us -> us = []
 | _, .nil => rfl
theorem Vals.dropLast {xs : List V} {us : List Value} (h : Vals xs us) : Vals xs.dropLast us.dropLast := by
 induction h with
 | nil => exact .nil
 | cons r t ih =>
  cases t with
  | nil => exact .nil
  | cons q t' => exact .cons r ih
theorem sR {α : Type} (l : List α) : l.eraseIdx (l.length - 1) = l.dropLast := by
 induction l with
 | nil => rfl
 | cons a r ih =>
  cases r with
  | nil => rfl
  | cons b r =>
   have e : (a :: b :: r).length - 1 = ((b :: r).length - 1) + 1 := by
    have h1 : (a :: b :: r).length = r.length + 2 := rfl
    have h2 : (b :: r).length = r.length + 1 := rfl
    omega
   rw [e, List.eraseIdx_cons_succ, ih]
   all_goals rfl
section
variable {X : Cx} {pins : List (Addr × Obj)} {σ : St} {H : Hp} {s : Shared} {l b : Addr} {xs ys zs : List V}
theorem Inv.lset {its its' : List Value} {n : Nat} {f : Array Value -> Array Value} {t' : Nat} (I : Inv X pins σ H s) (hH : H l = some (.lst xs))
  (e : s.heap.get? l = some { cls := .type "list", data := .seq its.toArray n }) (hf : f its.toArray = its'.toArray) (hv : Vals ys its') (hz : ys.length <= sizeLine) :
  Inv X pins σ (upd H l (.lst ys)) { s with heap := s.heap.update l (Obj.mapSeq f), toks := t' } := by
 have q := PySem.IsL.update e f
 rw [hf] at q
 refine I.write (x := l) (e := l) (by rw [hH]; exact trivial) (.inl rfl) (fun b' u hb hu => (Heap.get?_update_other s.heap (Obj.mapSeq f) (Ne.symm hb)).trans hu) ⟨_, q⟩ ?_
 exact ⟨hz, its', _, hv, q⟩
theorem Inv.lnew {its : List Value} {t' : Nat} (I : Inv X pins σ H s) (hv : Vals ys its) (hz : ys.length <= sizeLine) :
  Inv X pins σ (upd H s.heap.objs.size (.lst ys)) { s with heap := s.heap.push { cls := .type "list", data := .seq its.toArray }, toks := t' } :=
 I.laid (fun _ _ q => Heap.get?_push_of_some _ q) (Nat.le_refl _) ⟨hz, its, 0, hv, Heap.get?_push_size _ rfl⟩
theorem Inv.fresh (I : Inv X pins σ H s) : H s.heap.objs.size = none := I.hok.fresh (Nat.le_refl _)
theorem Inv.lstM (I : Inv X pins σ H s) (hH : H l = some (.lst xs)) : xs.length <= sizeLine /\ ∃ (its : List Value) (n : Nat), Vals xs its /\ xs.length = its.length /\ s.heap.get? l = some { cls := .type "list", data := .seq its.toArray n } := by
 obtain ⟨z, its, n, r, e⟩ := I.hok l _ hH
 exact ⟨z, its, n, r, r.length, e⟩
theorem zZ {n : Nat} (h : n <= sizeLine) : Builtin.List.listTooLong n = false := by
 unfold Builtin.List.listTooLong
 exact decide_eq_false (by omega)
end
section
variable {X : Cx}
def xH : V -> List V -> Hp -> VK -> Prop := fun x vs H Q => ∃ l xs y, x = .ref l /\ vs = [y] /\ H l = some (.lst xs) /\ xs.length < sizeLine /\ Q .non (upd H l (.lst (xs ++ [y])))
theorem gA : MtM X "list.append" xH := by
 intro pins s σ H x vs v us Q I rx rv h
 obtain ⟨l, xs, y, rfl, rfl, hH, hz, q⟩ := h
 cases rx
 obtain ⟨u, rfl, ru⟩ := rv.one
 obtain ⟨z, its, n, r, hl, e⟩ := I.lstM hH
 refine call_meets F.slot_list_append ⟨_, e, rfl⟩ F.entry_list_append (F.args_list_append_2 _ _) (PySem.list_append l its.toArray n u (by rw [List.size_toArray]; omega)) ⟨e, ?_⟩
 refine ⟨.non, _, I.lset (its' := its ++ [u]) hH e (by simp) (r.append (.cons ru .nil)) ?_, rfl, q⟩
 rw [List.length_append, List.length_singleton]
 omega
def uN : V -> List V -> Hp -> VK -> Prop := fun x vs H Q => ∃ l b xs zs, x = .ref l /\ vs = [.ref b] /\ H l = some (.lst xs) /\ H b = some (.lst zs) /\ xs.length + zs.length <= sizeLine /\ Q .non (upd H l (.lst (xs ++ zs)))
theorem vI : MtM X "list.extend" uN := by
 intro pins s σ H x vs v us Q I rx rv h
 obtain ⟨l, b, xs, zs, rfl, rfl, hH, hB, hz, q⟩ := h
 cases rx
 obtain ⟨u, rfl, ru⟩ := rv.one
 cases ru
 obtain ⟨z, its, n, r, hl, e⟩ := I.lstM hH
 obtain ⟨z2, its2, n2, r2, hl2, e2⟩ := I.lstM hB
 have hsz : its.toArray.size + its2.toArray.size <= sizeLine := by rw [List.size_toArray, List.size_toArray]; omega
 have hlong : ¬ (!its.toArray.isEmpty && Builtin.List.listTooLong (its.toArray.size + its2.toArray.size)) = true := by
  rw [zZ hsz, Bool.and_false]
  exact Bool.false_ne_true
 refine call_meets F.slot_list_extend ⟨_, e, rfl⟩ F.entry_list_extend (F.args_list_extend_2 _ _)
  (AutoSeq1.list_extend_list_list_0 l its.toArray n b its2.toArray n2 hlong (by rw [List.size_toArray]; omega) (by omega)) ⟨e, e2, ?_⟩
 refine ⟨.non, _, I.lset (its' := its ++ its2) hH e (by simp) (r.append r2) ?_, rfl, q⟩
 rw [List.length_append]
 omega
def aKa : V -> List V -> Hp -> VK -> Prop := fun x vs H Q => ∃ l xs y, x = .ref l /\ vs = [] /\ H l = some (.lst xs) /\ xs[xs.length - 1]? = some y /\ Q y (upd H l (.lst xs.dropLast))
theorem aGn : MtM X "list.pop" aKa := by
 intro pins s σ H x vs v us Q I rx rv h
 obtain ⟨l, xs, y, rfl, rfl, hH, hy, q⟩ := h
 cases rx
 have hus := rv.zero
 subst hus
 obtain ⟨z, its, n, r, hl, e⟩ := I.lstM hH
 obtain ⟨u, hu, ru⟩ := r.get hy
 have hy' : its.toArray[its.toArray.size - 1]? = some u := by
  show its.toArray[its.length - 1]? = some u
  rw [<- Array.getElem?_toList, <- hl]
  exact hu
 refine call_meets F.slot_list_pop ⟨_, e, rfl⟩ F.entry_list_pop (F.args_list_pop_1 _) (MeetsSeq.list_pop_last l its.toArray n u hy' (by rw [List.size_toArray]; omega)) ⟨e, ?_⟩
 refine ⟨y, _, I.lset (its' := its.dropLast) hH e ?_ r.dropLast ?_, ru, q⟩
 ·show its.toArray.eraseIdxIfInBounds (its.toArray.size - 1) = its.dropLast.toArray
  rw [List.size_toArray, List.eraseIdxIfInBounds_toArray, sR]
 ·rw [List.length_dropLast]
  omega
end
section
variable {prog : Program} {w : World} {A : Around} {E : Value -> Shared -> Prop} {s : Shared}
set_option maxRecDepth 100000 in
end
section
variable {X : Cx}
end
section
variable {κ : Type} [DecidableEq κ]
end
section
variable {P : Program} {w : World} {H : Hp} {h : Heap} {a : Addr}
end
section
variable {X : Cx} {pins : List (Addr × Obj)} {σ : St} {H : Hp} {s : Shared} {a : Addr} {y v : V} {u r : Value} {o : Option V} {A : Around} {E : Value -> Shared -> Prop}
end
section
variable {X : Cx} {pins : List (Addr × Obj)} {σ : St} {H : Hp} {s : Shared} {a : Addr} {kvs : List (Key × V)} {k : Key} {u : Value} {A : Around} {E : Value -> Shared -> Prop}
end
section
variable {X : Cx} {o i e value : Expr} {pos pos' tpos : Pos} {td ty tv : TE}
end
section
variable {X : Cx} {pos : Pos}
end
section
variable {X : Cx} {pins : List (Addr × Obj)} {σ : St} {H : Hp} {s : Shared} {a : Addr} {y d : V} {u r : Value} {o : Option V} {A : Around} {E : Value -> Shared -> Prop}
end
section
variable {X : Cx} {o e f : Expr} {apos cpos : Pos} {td ty tx : TE}
end
section
variable {X : Cx} {pins : List (Addr × Obj)} {σ : St} {H : Hp} {s : Shared} {a : Addr} {kvs : List (Key × V)} {A : Around} {E : Value -> Shared -> Prop}
end
section
variable {X : Cx} {pins : List (Addr × Obj)} {σ : St} {H : Hp} {s : Shared} {a : Addr} {y : V} {u : Value} {A : Around} {E : Value -> Shared -> Prop}
end
end L2
namespace Att
open PySem PySem.W PySem.Calls PyProof.Rows
theorem jA {P : Params} {h : Heap} : ∀ (ns : List Int) (vs : List Value), WellAll P h vs (ns.map WData.int) -> IntsAre vs ns := by
 intro ns
 induction ns with
 | nil =>
  intro vs w
  rw [List.map_nil] at w
  cases w
  exact .nil
 | cons n ns ih =>
  intro vs w
  rw [List.map_cons] at w
  cases w with
  | cons a b =>
   cases a
   exact .cons _ _ (ih _ b)
theorem xT {l : OpenLaw} {n : Nat} (hn : l.most = some n) {P : Params} {h : Heap} {args : List WData} {vals : List Value}
  (aEu : l.row.toRowW.claim.pre args = true) (hwl : WellAll P h vals args) :
  ∃ a vs ns, vals = [Value.ref a] /\ args = [WData.list (ns.map WData.int)] /\ h.get? a = some { cls := .type "list", data := .seq vs.toArray } /\ IntsAre vs ns /\ ns.length <= n := by
 have hsh : WShape.hasAll [] args [.list .int] = true := (pre_splitW aEu).1
 have hc : l.pre.holds [] { args := args } = true := (pre_splitW aEu).2
 obtain ⟨d, r, rfl, h1, h2⟩ := hasAllW_cons hsh
 obtain rfl := hasAllW_nil h2
 obtain ⟨xs, rfl, h3⟩ := hasW_list h1
 obtain ⟨ns, rfl⟩ := items_int h3
 have hlen : ns.length <= n := by
  unfold OpenLaw.pre at hc
  have h4 : (WTm.not (.lt (.lit (.int (n : Int))) (.len (.arg 0)))).holds [] { args := [.list (ns.map .int)] } = true := by
   have h4 := (holds_andW hc).1
   rw [hn] at h4
   exact h4
  have h5 := condW_of h4 (w_not (w_lt w_lit (w_len_list (w_arg rfl))))
  rw [List.length_map] at h5
  refine Nat.le_of_not_lt fun q => ?_
  have q' : (n : Int) < ((ns.length : Nat) : Int) := by omega
  first
   | (rw [decide_eq_true q'] at h5; exact absurd h5 (by decide))
   | (simp at h5; omega)
 cases hwl with
 | cons w1 w2 =>
  cases w2
  cases w1 with
  | list ho hall => exact ⟨_, _, ns, rfl, rfl, ho, jA ns _ hall, hlen⟩
theorem tD (l : OpenLaw) (args : List WData) : l.row.toRowW.claim.post args (.bool true) args = true :=
 postW_of (r := l.row.toRowW) (X := (true == true))
  (show WShape.has [] (.bool true) .bool = true by first | rfl | decide | simp [WShape.has, WShape.arms, WShape.armsAll])
  (show (WTm.eq .res (.lit (.bool true))).value [] { args := args, res := some (.bool true), after := args } = some (.bool (true == true)) from w_eq_bool (w_res rfl) w_lit) rfl
theorem pT {l : OpenLaw} {n : Nat} {q : Program} {loose : List Str} {XP : (Str -> Option Value) -> Heap -> Prop} {YP : World -> Heap -> Prop} {d : DefRec}
  (hn : l.most = some n) (hdf : d.params.defaults = [])
  (call : ∀ (w : World) (s₀ s₁ : Shared) (mg mb : Str -> Option Value) (fa : Addr) (o : Obj) (pm cd doc : Value) (a : Addr) (vs : List Value) (ns : List Int),
   Ground q loose [] XP w s₀ mg mb s₁.heap -> YP w s₁.heap ->
   s₁.heap.get? fa = some o -> o.data = .func (docDef d.name d.params d.body d.scope pm cd doc) -> s₁.heap.CodeRec cd d.name -> mg d.name = some (.ref fa) ->
   s₁.heap.get? a = some { cls := .type "list", data := .seq vs.toArray } -> IntsAre vs ns -> ns.length <= n -> s₁.gens = #[] ->
   codeAny (model l.prog w) callerA (.call (.ref fa) ⟨[.ref a], []⟩) (fun r s' => r = .ok (.ret (.bool true)) /\ OldK s₁.heap s'.heap /\ s'.os = s₁.os /\ AllBare s'.gens) s₁) :
  WalkO q loose XP YP l.row.toRowW d [] (fun f vs => PySem.call f vs) := by
 intro w s₀ s₁ mg mb G Y fa o pm cd doc dV kV ho hd hcd hD hmg hg args vals as aEu hlay hrd hwl hlo
 obtain rfl : dV = .none := Dflts.none hD hdf
 obtain rfl : kV = .none := Dflts.noKw hD
 obtain ⟨a, vs, ns, rfl, rfl, hobj, hints, hlen⟩ := xT hn aEu hwl
 refine enter_call (codeAny_mono (call w s₀ s₁ mg mb fa o pm cd doc a vs ns G Y ho (fd_plain hd) hcd hmg hobj hints hlen hg) fun r s' hq => ?_)
 obtain ⟨rfl, h2, h3, h4⟩ := hq
 exact ⟨.inl ⟨.bool true, .bool true, [], rfl, fun _ => rfl, .bool true, tD l _, fun _ => ⟨List.Pairwise.nil, fun _ hm => (nomatch hm)⟩⟩, h2, h3, h4⟩
section
variable {prog : Program} {w : World} {A : Around} {E : Value -> Shared -> Prop} {s : Shared} {K : Frag}
end
end Att
namespace L2
open PySem PySem.Spec PyProof.Rows
theorem oH : ∀ {vs : List Value} {ns : List Int}, IntsAre vs ns -> Vals (ns.map V.int) vs
 | _, _, .nil => .nil
 | _, _, .cons n t h => .cons ⟨t, rfl⟩ (oH h)
def aIy (H : Hp) : Prop := ∀ b, H b = none \/ ∃ o xs, H b = some (.frz o (.lst xs))
theorem yW {P : Program} {w : World} {K : PySem.W.Frag} {mg mb : Str -> Option Value} {CX : CXT} {k : Nat} {fa a : Addr} {fd : FuncData} {x : Str} {sp : Sp} {s₁ : Shared} {vs : List Value} {ns : List Int}
  (KX : K.In s₁.heap) (hns : s₁.heap.Ns mainGlobals mg) (hb : s₁.heap.Ns builtinsNs mb) (hbb : ∀ x : Str, x ≠ "__name__" -> mb x = bootBuiltins x) (hlim : s₁.heap.NoLimit) (hg : s₁.gens = #[])
  (ha : s₁.heap.get? a = some { cls := .type "list", data := .seq vs.toArray }) (hi : IntsAre vs ns) (hl : ns.length <= sizeLine) (hr : Room k callerA)
  (F : ∀ base : Heap, K.In base -> base.Ns mainGlobals mg -> FnOk P w K mg base CX k fa fd [x] sp) (hbind : ∀ (s : Shared) (u : Value), BindsTo s fd ⟨[u], []⟩ [(x, u)])
  (hsp : ∀ H : Hp, aIy H -> SqL K H a (ns.map V.int) -> sp [.ref a] H (fun v _ => v = .bl true) fun _ _ _ => False)
  (hCX : ∀ H e s', CX [] H s₁ (fun _ _ _ => False) e s' -> False) :
  codeAny (model P w) callerA (.call (.ref fa) ⟨[.ref a], []⟩) (fun r s' => r = .ok (.ret (.bool true)) /\ OldK s₁.heap s'.heap /\ s'.os = s₁.os /\ AllBare s'.gens) s₁ := by
 have rv := oH hi
 have lenV := hi.length
 have core : ∀ H : Hp, aIy H -> SqL K H a (ns.map V.int) -> HOk P w H s₁.heap -> (∀ b, H b ≠ none -> b = a) -> (H a ≠ none -> K.lookup a = none) ->
   codeAny (model P w) callerA (.call (.ref fa) ⟨[.ref a], []⟩) (fun r s' => r = .ok (.ret (.bool true)) /\ OldK s₁.heap s'.heap /\ s'.os = s₁.os /\ AllBare s'.gens) s₁ := by
  intro H hO hS hok hA hK
  have base_of : ∀ {b : Addr} {o : Obj}, s₁.heap.get? b = some o -> H b = none -> (xY s₁.heap H).get? b = some o := fun e n => zK e n
  have noA : ∀ {b : Addr} {o : Obj} {es : Array DictEntry} {ep : Nat}, s₁.heap.get? b = some o -> o.data = .dict es ep -> H b = none := fun {b o es ep} e d => by
   cases q : H b with
   | none => rfl
   | some u =>
    have e' : b = a := hA b (by rw [q]; simp)
    subst e'
    rw [ha] at e; cases e
    have d' : Data.seq vs.toArray _ = Data.dict es ep := d
    cases d'
  have nsK : ∀ {b : Addr} {m : Str -> Option Value}, s₁.heap.Ns b m -> (xY s₁.heap H).Ns b m := fun {b m} ⟨o, es, ep, e, d, r⟩ => ⟨o, es, ep, base_of e (noA e d), d, r⟩
  have hKb : K.In (xY s₁.heap H) := fun b o e => base_of (KX b o e) (by
   cases q : H b with
   | none => rfl
   | some u =>
    have e' : b = a := hA b (by rw [q]; simp)
    subst e'
    rw [hK (by rw [q]; simp)] at e; cases e)
  have hM : Mod K mg (xY s₁.heap H) := ⟨hKb, nsK hns, ⟨mb, nsK hb, hbb⟩, let ⟨mc, h1, h2⟩ := hlim; ⟨mc, nsK h1, h2⟩⟩
  have e0 : aH4 P w K mg (xY s₁.heap H) callerA [] s₁ H := ⟨rfl, hM, fun b o e => aB8 e, Nat.le_of_eq (vO _ _), trivial, fun b hb => absurd (show b ∈ ([] : List Addr) from hb) (by simp), hok, .of_eq hg⟩
  refine codeAny_mono ((F _ hKb (nsK hns)).run callerA [] s₁ H ⟨[.ref a], []⟩ [.ref a] [.ref a] _ _ hr e0 (hbind s₁ (.ref a)) (.cons rfl .nil) (hsp H hO hS)) fun r s' h => ?_
  cases r with
  | error e => exact (hCX H e s' h).elim
  | ok fl =>
   cases fl with
   | next => exact False.elim h
   | brk => exact False.elim h
   | cont => exact False.elim h
   | ret u =>
    obtain ⟨v, H', os, bare, un, hok', r', q⟩ := h
    have q' : v = .bl true := q
    subst q'
    obtain rfl : u = Value.bool true := r'
    refine ⟨rfl, OldK.of_keep fun b o e => ?_, os, bare⟩
    cases q : H b with
    | none => exact un.keep b o e q (by intro z; exact absurd (show b ∈ ([] : List Addr) from z) (by simp)) (by simp)
    | some u =>
     rcases hO b with z | ⟨ob, xs, z⟩
     ·rw [q] at z; cases z
     ·have z2 := un.frzs b ob _ z
      obtain ⟨e1, _⟩ := hok b _ z
      obtain ⟨e2, _⟩ := hok' b _ z2
      rw [e] at e1; cases e1
      exact e2
 cases hk : K.lookup a with
 | some o =>
  have e := KX a o hk
  rw [ha] at e
  cases e
  refine core (fun _ => none) (fun _ => .inl rfl) (.inr ⟨_, vs.toArray, _, hk, rfl, rfl, rfl, by rw [List.size_toArray, lenV]; exact hl, by simpa using rv⟩) (fun b u z => by have z' : (none : Option HO) = some u := z; cases z') (fun b z => absurd rfl z) fun z => absurd rfl z
 | none =>
  refine core (fun b => if b = a then some (.frz { cls := .type "list", data := .seq vs.toArray } (.lst (ns.map V.int))) else none) (fun b => ?_) (.inl (.inr ⟨{ cls := .type "list", data := .seq vs.toArray }, if_pos rfl⟩)) (fun b u z => ?_) (fun b z => ?_) fun _ => hk
  ·by_cases hb : b = a
   ·exact .inr ⟨_, _, if_pos hb⟩
   ·exact .inl (if_neg hb)
  ·by_cases hb : b = a
   ·have z' := (if_pos hb).symm.trans z
    cases z'
    subst hb
    exact ⟨ha, by rw [List.length_map]; exact hl, vs, _, rv, ha⟩
   ·have z' := (if_neg hb).symm.trans z
    cases z'
  ·by_cases hb : b = a
   ·exact hb
   ·exact absurd (if_neg hb) z
theorem aDk {l : PySem.W.OpenLaw} {n k : Nat} {q : Program} {loose : List Str} {XP : (Str -> Option Value) -> Heap -> Prop} {YP : World -> Heap -> Prop} {d : DefRec} {K : Params -> PySem.W.Frag} {CX : World -> CXT} {sp : World -> Sp} {x : Str}
  (hn : l.most = some n) (hn2 : n <= sizeLine) (hdf : d.params.defaults = []) (hr : Room k callerA)
  (hY : ∀ (w : World) (h : Heap), YP w h -> (K w.params).In h)
  (F : ∀ (w : World) (mg : Str -> Option Value) (fa : Addr) (h : Heap), (K w.params).In h -> h.Ns mainGlobals mg -> mg d.name = some (.ref fa) ->
   ∃ fd : FuncData, (∀ (s : Shared) (u : Value), BindsTo s fd ⟨[u], []⟩ [(x, u)]) /\
    ∀ base : Heap, (K w.params).In base -> base.Ns mainGlobals mg -> FnOk l.prog w (K w.params) mg base (CX w) k fa fd [x] (sp w))
  (hsp : ∀ (w : World) (H : Hp) (a : Addr) (ns : List Int), ns.length <= n -> aIy H -> SqL (K w.params) H a (ns.map V.int) -> sp w [.ref a] H (fun v _ => v = .bl true) fun _ _ _ => False)
  (hCX : ∀ (w : World) (H : Hp) (s : Shared) (e : Value) (s' : Shared), CX w [] H s (fun _ _ _ => False) e s' -> False) :
  PySem.W.WalkO q loose XP YP l.row.toRowW d [] (fun f vs => PySem.call f vs) := by
 refine Att.pT hn hdf fun w s₀ s₁ mg mb fa o pm cd doc a vs ns G Y ho hd hcd hmg hobj hints hlen hg => ?_
 have KX := hY w _ Y
 obtain ⟨fd, hb, hF⟩ := F w mg fa _ KX G.T.g hmg
 exact yW KX G.T.g G.T.b G.T.builtins G.T.nolimit hg hobj hints (Nat.le_trans hlen hn2) hr hF hb (fun H hO hS => hsp w H a ns hlen hO hS) fun H e s' => hCX w H s₁ e s'
def fA (s : Stmt) : Arguments := match s with
 | .FunctionDef _ a _ _ _ _ _ _ _ _ => a
 | _ => { posonlyargs := [], args := [], vararg := none, kwonlyargs := [], kw_defaults := [], kwarg := none, defaults := [] }
def dH (s : Stmt) : List Stmt := match s with
 | .FunctionDef _ _ b _ _ _ _ _ _ _ => b
 | _ => []
def aP (s : Stmt) : Scope := match s with
 | .FunctionDef _ _ _ _ _ _ sc _ _ _ => sc
 | _ => { kind := .function, names := [], isGenerator := false, isCoroutine := false }
abbrev E0 : XK := fun _ _ _ => False
structure Fun (K : PySem.W.Frag) (x qual : Str) (st : Stmt) (f : Addr) (fd : FuncData) : Prop where
 ex : ∃ (oc : Value) (od : Option Addr) (kV doc pm : Value) (an : Option Addr) (cdv ct : Value) (osl : Array (Option Value)),
  fd = PySem.W.fnOf x qual (fA st) (dH st) (aP st) .none kV doc pm an cdv ct /\ K.lookup f = some ⟨oc, od, .func fd, osl⟩ /\ PySem.W.codeIn K cdv qual = true
 kp : PySem.W.keepIn K (.ref f) = true
section
variable {P : Program} {w : World} {K : PySem.W.Frag} {mg : Str -> Option Value} {base : Heap}
theorem Fun.binds {x qual : Str} {st : Stmt} {f : Addr} {fd : FuncData} {ps : List Str} (F : Fun K x qual st f fd)
  (h : ∀ (kV doc pm : Value) (an : Option Addr) (cdv ct : Value) (us : List Value), us.length = ps.length -> bindArgs (PySem.W.fnOf x qual (fA st) (dH st) (aP st) .none kV doc pm an cdv ct) ⟨us, []⟩ = pure (ps.zip us)) : Binds K fd ps [] := by
 obtain ⟨oc, od, kV, doc, pm, an, cdv, ct, osl, rfl, lk, hcd⟩ := F.ex
 exact .all (h kV doc pm an cdv ct)
theorem aBm {x qual : Str} {st : Stmt} {f : Addr} {oc : Value} {od an : Option Addr} {osl : Array (Option Value)} {kV doc pm cdv ct : Value} (l : K.lookup f = some ⟨oc, od, .func (PySem.W.fnOf x qual (fA st) (dH st) (aP st) .none kV doc pm an cdv ct), osl⟩)
  (c : PySem.W.codeIn K cdv qual = true) (k : PySem.W.keepIn K (.ref f) = true) : Fun K x qual st f (PySem.W.fnOf x qual (fA st) (dH st) (aP st) .none kV doc pm an cdv ct) := ⟨⟨oc, od, kV, doc, pm, an, cdv, ct, osl, rfl, l, c⟩, k⟩
end
section
variable {X : Cx}
theorem pv (i : Nat) {x : Str} {pos : Pos} (hN : X.N[i]? = some x := by rfl) (hv : Vis X.env.scope x := by first | exact Or.inl rfl | exact Or.inr (Or.inl rfl) | exact Or.inr (Or.inr rfl)) (hd : (x == ("__debug__" : Str)) = false := by decide)
  (hcd : (x == ("__classdict__" : Str)) = false := by decide) : PE X (.Name x pos) (aEp i) := aAp hN hv hd hcd
end
def Same (H H' : Hp) : Prop := ∀ b o, H b = some o -> H' b = some o
theorem Same.refl (H : Hp) : Same H H := fun _ _ h => h
theorem Same.trans {H H1 H2 : Hp} (a : Same H H1) (b : Same H1 H2) : Same H H2 := fun c o h => b c o (a c o h)
theorem Same.free {H H' : Hp} (e : Same H H') {l : Addr} (h : H' l = Option.none) : H l = Option.none := by
 cases q : H l with
 | none => rfl
 | some o =>
  rw [e l o q] at h
  cases h
theorem Same.seq {K : PySem.W.Frag} {H H' : Hp} {a : Addr} {xs : List V} (e : Same H H') (h : SqL K H a xs) : SqL K H' a xs := by
 rcases h with (h | ⟨o, h⟩) | h
 ·exact .inl (.inl (e _ _ h))
 ·exact .inl (.inr ⟨o, e _ _ h⟩)
 ·exact .inr h
section
variable {X : Cx}
end
section
variable {κ : Type} [DecidableEq κ]
end
end L2
set_option maxHeartbeats 4000000
namespace PySem.W
open PySem PySem.Spec PySem.Calls PyProof.Rows Builtin Builtin.ObjectAttr Builtin.Getset_descriptor
section
variable {prog : Program} {w : World} {A : Around} {E : Value -> Shared -> Prop} {K : Frag} {h : Heap} {g : Array GenState} {d : Drawn} {t : Nat} {os : OsState} {a C : Addr}
structure ExcK (K : Frag) (C : Addr) : Prop where
 ga : findIn K (.ref C) "__getattribute__" = some (some (.builtin "BaseException.__getattribute__"))
 gt : findIn K (.ref C) "__getattr__" = some none
 cl : findIn K (.ref C) "__class__" = some (some (.builtin "object.__class__"))
 mo : mroIn K C (.type "object") = some true
 mb : mroIn K C (.type "BaseException") = some true
 ic : (clsIn K C).isSome = true
def ExcAt (a : Addr) (cls : Value) (h : Heap) : Prop := ∃ o, h.get? a = some o /\ o.cls = cls /\ ∃ vs, o.data = .fields vs
theorem ExcAt.ty {cls : Value} (p : ExcAt a cls h) (M : Model) : Looks M h (typeOf (.ref a)) cls := by
 obtain ⟨o, h1, h2, _⟩ := p
 exact h2 ▸ (Looks.ld h1).andThen .now
theorem aFv {tp : Value} {R : Result -> Shared -> Prop} (X : K.In h) (T : ExcK K C) (p : ExcAt a (.ref C) h) (hq : R (.ok (.ret (.ref C))) ⟨h, g, d, t, os⟩) :
  codeAny (model prog w) A (.call (.builtin "getset_descriptor.__get__") ⟨[.builtin "object.__class__", .ref a, tp], []⟩) R ⟨h, g, d, t, os⟩ := by
 have La := p.ty (model prog w)
 have Lb := looks_mroIn (M := model prog w) X T.mo
 refine codeAny_call_builtin KF.slot_gs.plain KF.entry_gs (KF.slot_gs.check _ _ _ _ _ _ _ _ KF.type_class (KF.args_gs _ _ _) ?_)
 unfold Builtin.«getset_descriptor.__get__» descrGet
 rw [dga_obj]
 refine wpAny_bind (wpAny_pure ?_)
 unfold descrGetter descrCheckInstance descrNameAndClass isInstance
 simp only [KF.owner_class]
 repeat lk
 refine ⟨Code.quiet_builtin _ (by decide +kernel), codeAny_builtin KF.entry_class ?_⟩
 unfold Builtin.«object.__class__» shownTypeOf
 repeat lk
 exact hq
theorem yU {tk : Tok} {Q : Fin -> Shared -> Prop} (X : K.In h) (T : ExcK K C) (p : ExcAt a (.ref C) h) (hq : Q (.done (.ret (.ref C))) ⟨h, g, d, t, os⟩) :
  wpAny (model prog w) A (Builtin.«object.__getattribute__» ⟨[.ref a, .str "__class__" tk], []⟩) Q E ⟨h, g, d, t, os⟩ := by
 have La := p.ty (model prog w)
 have Lc := looks_findIn (M := model prog w) X T.cl
 have hT5 : (⟨h, g, d, t, os⟩ : Shared).TypeIs (.builtin "object.__class__") "getset_descriptor" := F.typeOf_object_class
 have e5 := F.typeOf_object_class
 have e6 := F.slot_gs_get.lookup
 have e7 := F.slot_gs_set.lookup
 repeat (any_goals (first | assumption | with_reducible refine Looks.at (by assumption) ?_ | wp_step))
 refine aFv X T p ?_
 repeat (any_goals (first | assumption | wp_step))
theorem yF {M : Model} {nameV : Value} {Q : Unit -> Shared -> Prop} (X : K.In h) (T : ExcK K C) (p : ExcAt a (.ref C) h) (hq : Q () ⟨h, g, d, t, os⟩) :
  wpAny M A (checkBuiltinCall "BaseException.__getattribute__" ⟨[.ref a, nameV], []⟩) Q E ⟨h, g, d, t, os⟩ := by
 have hk : builtinKind "BaseException.__getattribute__" = some .slot := by decide +kernel
 have hsp : splitId "BaseException.__getattribute__" = some ("BaseException", "__getattribute__") := by decide +kernel
 have La := p.ty M
 have Lb := looks_mroIn (M := M) X T.mb
 have ha := F.args_bexc_ga (.ref a) nameV
 simp only [checkBuiltinCall, hk, hsp]
 refine wpAny_bind ?_
 unfold isInstance
 repeat (any_goals (first | assumption | with_reducible refine Looks.at (by assumption) ?_ | wp_step))
theorem aDn {tk : Tok} {R : Result -> Shared -> Prop} (X : K.In h) (T : ExcK K C) (p : ExcAt a (.ref C) h) (hq : R (.ok (.ret (.ref C))) ⟨h, g, d, t, os⟩) :
  codeAny (model prog w) A (.call (.builtin "BaseException.__getattribute__") ⟨[.ref a, .str "__class__" tk], []⟩) R ⟨h, g, d, t, os⟩ :=
 codeAny_call_builtin F.attr_ValueError.ga.plain F.entry_bexc_ga (yF X T p (yU X T p hq))
theorem aJd {tk : Tok} {Q : Value -> Shared -> Prop} (X : K.In h) (T : ExcK K C) (p : ExcAt a (.ref C) h) (hq : Q (.ref C) ⟨h, g, d, t, os⟩) : wpAny (model prog w) A (getAttrBy (.ref a) (.str "__class__" tk) false) Q E ⟨h, g, d, t, os⟩ := by
 have La := p.ty (model prog w)
 have Lg := looks_findIn (M := model prog w) X T.ga
 have Lt := looks_findIn (M := model prog w) X T.gt
 have f3 := F.attr_ValueError.ga.bind (.ref a)
 have hx0 : (false && onTheHeap (Value.builtin "BaseException.__getattribute__")) = false := rfl
 have hx2 : (Value.builtin "BaseException.__getattribute__" == Value.builtin "object.__getattribute__") = false := by decide +kernel
 have hx1 : (onTheHeap (Value.ref C) && Value.builtin "BaseException.__getattribute__" == Value.builtin "object.__getattribute__") = false := by rw [hx2]; rfl
 repeat (any_goals (first | assumption | with_reducible refine Looks.at (by assumption) ?_ | wp_step))
 refine aDn X T p ?_
 repeat (any_goals (first | assumption | wp_step))
theorem aCw {Q : Option Value -> Shared -> Prop} (X : K.In h) (T : ExcK K C) (p : ExcAt a (.ref C) h) (hq : Q (some (.ref C)) ⟨h, g, d, t + 1, os⟩) : wpAny (model prog w) A (getAttr? (.ref a) "__class__") Q E ⟨h, g, d, t, os⟩ := by
 unfold getAttr? getAttrBy?
 repeat (any_goals (first | assumption | with_reducible apply aJd X T p | wp_step))
theorem kitx_exc (T : ExcK K C) : KitX K (.ref a) (.ref C) (ExcAt a (.ref C)) where
 ty := fun M _ _ p => p.ty M
 it := fun _ _ X _ => by
  have hs := T.ic
  unfold clsIn at hs
  split at hs
  ·rename_i ho
   intro A' Q' E' s' k q
   unfold isType loadHead
   exact wpAny_bind (wpAny_loadPart (k _ _ (X _ _ ho)) (wpAny_pure q))
  ·cases hs
 ne := fun h tp dd its n sl X htp => by
  refine Bool.eq_false_iff.mpr fun q => ?_
  have e : C = tp := Value.ref.inj (beq_iff_eq.mp q)
  have hs := T.ic
  unfold clsIn at hs
  split at hs
  ·rename_i ho
   have z := X _ _ ho
   rw [e, htp] at z
   cases z
  ·cases hs
 ca := fun {_ _ _ _ _ s} X p k => by
  obtain ⟨hh, gg, dd, tt, oo⟩ := s
  exact aCw X T p k
end
end PySem.W
namespace L2
open PySem PySem.Spec PyProof.Rows
structure aG9 (P : Program) (w : World) (outer : List Env) (H : Hp) (s : Shared) (ea : Addr) (cls : Value) (H' : Hp) (B : Heap) (a0 : Value) (s' : Shared) : Prop where
 os : s'.os = s.os
 bare : AllBare s'.gens
 un : Un (frs outer) [] H H' s.heap s'.heap
 hok : HOk P w H' s'.heap
 fly : Heap.FlyingW B outer ea cls a0 s'.heap
 inB : ∀ b o, s'.heap.get? b = some o -> (H' b ≠ none \/ ((∃ u, s.heap.get? b = some u) /\ b ∉ frs outer)) -> B.get? b = some o
 new : s.heap.get? ea = none
 nt : H' ea = none
def CXr (P : Program) (w : World) : CXT := fun outer H s E e s' =>
 ∃ (ea : Addr) (cls : Value) (H' : Hp) (B : Heap) (a0 : Value), e = .ref ea /\ aG9 P w outer H s ea cls H' B a0 s' /\ E cls none H'
theorem qU {P : Program} {w : World} {H : Hp} {h h' : Heap} (ok : HOk P w H h) (k : ∀ b o, H b ≠ none -> h.get? b = some o -> h'.get? b = some o) : HOk P w H h' := fun a o e =>
 (ok a o e).stay (fun b u hb q => k b u (by
  rcases hb with z | z
  ·rw [z, e]; exact fun q => nomatch q
  ·rw [z]; exact fun q => nomatch q) q) (fun _ q => q) fun _ _ q => q
theorem pM {P : Program} {w : World} {H : Hp} {h : Heap} {a : Addr} {o : HO} (x : ObjOk P w H h a o) : ∃ ob, h.get? a = some ob := by
 cases o with
 | lst xs => obtain ⟨_, _, _, _, e⟩ := x; exact ⟨_, e⟩
 | tup xs => obtain ⟨_, _, _, ob, e, _⟩ := x; exact ⟨_, e⟩
 | dK kvs => obtain ⟨_, _, _, _, o, _, _, e, _⟩ := x; exact ⟨_, e⟩
 | dT kvs => obtain ⟨_, _, _, _, o, _, _, e, _⟩ := x; exact ⟨_, e⟩
 | set S n => obtain ⟨o, _, _, _, e, _⟩ := x; exact ⟨_, e⟩
 | ins C dx fs => obtain ⟨_, _, _, e, _⟩ := x; exact ⟨_, e⟩
 | own y => exact x
 | xd fs => obtain ⟨_, ⟨_, _, _, e, _⟩, _⟩ := x; exact ⟨_, e⟩
 | rng lo hi => obtain ⟨_, _, _, e⟩ := x; exact ⟨_, e⟩
 | frz ob u => obtain ⟨e, _⟩ := x; exact ⟨_, e⟩
 | tbl ps => exact ⟨_, (show h.get? a = some _ from x)⟩
 | met f y => exact ⟨_, (show h.get? a = some _ from x)⟩
 | ext φ => obtain ⟨_, e, _⟩ := x; exact e
theorem HOk.there {P : Program} {w : World} {H : Hp} {h : Heap} {a : Addr} (x : HOk P w H h) (n : H a ≠ none) : ∃ ob, h.get? a = some ob := by
 cases q : H a with
 | none => exact absurd q n
 | some u => exact pM (x a u q)
section
variable {P : Program} {w : World} {K : PySem.W.Frag} {mg : Str -> Option Value} {base : Heap} {N : List Str} {qual : Str} {scope : Scope} {f : Addr} {cd : Value} {A : Around} {outer : List Env} {s : Shared} {H : Hp} {E : XK}
theorem zO {env : Env} {l : List Env} {L : Addr} (h : env.frame = some L) : frs (env :: l) = L :: frs l := by
 unfold frs
 rw [List.filterMap_cons, h]
theorem yM {X : Cx} {pins : List (Addr × Obj)} {σ : St} {H1 H' : Hp} {s1 : Shared} {B h'' : Heap} {ea : Addr} {cls a0 : Value} {g' : Array GenState} {d' : Drawn} {t' : Nat} {os' : OsState}
  (I : Inv X pins σ H1 s1) (hx : X.ex = []) (hs : X.env.locals ∉ frs X.outer)
  (ho : os' = X.s₀.os) (hg : AllBare g')
  (fly : Heap.FlyingW B X.outer ea cls a0 h'')
  (kp : ∀ b o, s1.heap.get? b = some o -> H1 b = none -> b ∉ frs X.outer -> b ≠ X.env.locals -> B.get? b = some o)
  (sl : ∀ b o, s1.heap.get? b = some o -> b ∈ frs X.outer -> ∃ sl, h''.get? b = some { o with slots := sl })
  (fr : ∀ b o, s1.heap.get? b = some o -> H1 b = none -> H' b = none)
  (tups : ∀ b xs, H1 b = some (.tup xs) -> H' b = some (.tup xs)) (frzs : ∀ b o u, H1 b = some (.frz o u) -> H' b = some (.frz o u)) (tbls : ∀ b ps, H1 b = some (.tbl ps) -> ∃ more, H' b = some (.tbl (ps ++ more)))
  (hok : HOk X.prog X.w H' h'') (inH : ∀ b o, h''.get? b = some o -> H' b ≠ none -> B.get? b = some o)
  (th : ∀ b o, s1.heap.get? b = some o -> H1 b ≠ none -> ∃ o', h''.get? b = some o')
  (inB : ∀ b o, s1.heap.get? b = some o -> b ∉ frs X.outer -> b ≠ X.env.locals -> ∃ o', B.get? b = some o')
  (new : s1.heap.get? ea = none) (nt : H' ea = none) :
  aG9 X.prog X.w X.outer X.H₀ X.s₀ ea cls H' B a0 ⟨h'', g', d', t', os'⟩ := by
 have hxn : ∀ b : Addr, b ∉ X.ex := fun b z => by rw [hx] at z; cases z
 have neL : ∀ b o, X.s₀.heap.get? b = some o -> b ≠ X.env.locals := fun b o e => Nat.ne_of_lt (Nat.lt_of_lt_of_le (Heap.lt_size e) I.ok.above)
 have st := fly.1
 refine ⟨ho, hg, ⟨fun b o e n hb _ => ?_, fun b o e n hb _ => ?_, fun b o e n _ => ?_, fun b o e _ => ?_, fun b xs e => tups b xs (I.base.tups b xs e), fun b o u e => frzs b o u (I.base.frzs b o u e), fun b ps e => ?_⟩, hok, fly, fun b o e hb => ?_, ?_, nt⟩
 ·exact st b o (kp b o (I.base.keep b o e n hb (hxn b)) (I.base.free b o e n (hxn b)) hb (neL b o e))
 ·obtain ⟨l1, e1⟩ := I.base.slot b o e n hb (hxn b)
  obtain ⟨l2, e2⟩ := sl b _ e1 hb
  exact ⟨l2, e2⟩
 ·obtain ⟨o1, e1⟩ := I.base.there b o e (hxn b)
  exact fr b o1 e1 (I.base.free b o e n (hxn b))
 ·obtain ⟨o1, e1⟩ := I.base.there b o e (hxn b)
  by_cases hb : b ∈ frs X.outer
  ·obtain ⟨l2, e2⟩ := sl b o1 e1 hb
   exact ⟨_, e2⟩
  ·obtain ⟨o2, e2⟩ := inB b o1 e1 hb (neL b o e)
   exact ⟨o2, st b o2 e2⟩
 ·obtain ⟨m1, e1⟩ := I.base.tbls b ps e
  obtain ⟨m2, e2⟩ := tbls b _ e1
  exact ⟨m1 ++ m2, by rw [e2, Array.append_assoc]⟩
 ·rcases hb with hb | ⟨⟨u, hu⟩, hb⟩
  ·exact inH b o e hb
  ·obtain ⟨o1, e1⟩ := I.base.there b u hu (hxn b)
   obtain ⟨o2, e2⟩ := inB b o1 e1 hb (neL b u hu)
   have e3 := st b o2 e2
   have e4 : h''.get? b = some o := e
   rw [e3] at e4
   cases e4
   exact e2
 ·cases q : X.s₀.heap.get? ea with
  | none => rfl
  | some o =>
   obtain ⟨o', e'⟩ := I.base.there ea o q (hxn ea)
   rw [new] at e'
   cases e'
theorem aIe : aHx (CXr P w) (pU (CXr P w) P w K mg base N qual scope f cd A outer s H E) E := by
 intro pins σ H1 s1 e s1' I h
 obtain ⟨ea, cls, H', B, a0, rfl, F, want⟩ := h
 have hfr : (pU (CXr P w) P w K mg base N qual scope f cd A outer s H E).A.frames = some (envOfC qual scope s.heap.objs.size f cd :: outer) := I.ok.frames
 have hstk : frs (pU (CXr P w) P w K mg base N qual scope f cd A outer s H E).stack = s.heap.objs.size :: frs outer := zO rfl
 have hLo : s.heap.objs.size ∉ frs outer := fun z => by
  obtain ⟨_, o, ho, _⟩ := I.ok.funs.mem z
  exact absurd (Heap.lt_size ho) (Nat.lt_irrefl _)
 have nst : ∀ {b : Addr}, b ∉ frs outer -> b ≠ s.heap.objs.size -> b ∉ frs (pU (CXr P w) P w K mg base N qual scope f cd A outer s H E).stack := fun h1 h2 z => by
  rw [hstk] at z
  rcases List.mem_cons.mp z with z | z
  ·exact h2 z
  ·exact h1 z
 show wpAny (model P w) _ (leaving _ (.ref ea)) _ _ s1'
 refine wpAny_leaves_onW hfr rfl F.fly fun h'' fl' up => ?_
 have inB' : ∀ b o, s1'.heap.get? b = some o -> H' b ≠ none -> h''.get? b = some o := fun b o e n => fl'.1 b o (F.inB b o e (.inl n))
 refine ⟨ea, cls, H', B, a0, rfl, yM (X := pU (CXr P w) P w K mg base N qual scope f cd A outer s H E) I rfl hLo (F.os.trans I.os) F.bare fl' (fun b o e n hb hL => ?_) (fun b o e hb => ?_) (fun b o e n => F.un.free b o e n (by simp)) F.un.tups F.un.frzs F.un.tbls
  (qU F.hok fun b o n e => inB' b o e n) (fun b o e n => ?_) (fun b o e n => ?_) (fun b o e hb hL => ?_) F.new F.nt, want⟩
 ·exact F.inB b o (F.un.keep b o e n (nst hb hL) (by simp)) (.inr ⟨⟨o, e⟩, nst hb hL⟩)
 ·have hb' : b ∈ frs outer := hb
  have n : H1 b = none := by
   have := I.stkFree b (by rw [hstk]; exact List.mem_cons_of_mem _ hb')
   exact this
  obtain ⟨l1, e1⟩ := F.un.slot b o e n (by rw [hstk]; exact List.mem_cons_of_mem _ hb') (by simp)
  obtain ⟨_, o', ho', hd'⟩ := F.fly.2.2.1.mem (b := b) (by
   have : b ∈ frs (pU (CXr P w) P w K mg base N qual scope f cd A outer s H E).stack := by rw [hstk]; exact List.mem_cons_of_mem _ hb'
   exact this)
  rw [e1] at ho'
  cases ho'
  obtain ⟨l2, e2⟩ := up b _ e1 hd'
  exact ⟨l2, e2⟩
 ·obtain ⟨o1, e1⟩ := F.hok.there n
  have e2 := F.inB b o1 e1 (.inl n)
  have e3 := fl'.1 b o1 e2
  rw [e] at e3
  cases e3
  exact e2
 ·obtain ⟨o1, e1⟩ := F.un.there b o e (by simp)
  by_cases hb : b ∈ frs outer
  ·have hz : H1 b = none := I.stkFree b (by rw [hstk]; exact List.mem_cons_of_mem _ hb)
   exact absurd hz n
  ·by_cases hL : b = s.heap.objs.size
   ·have hz : H1 b = none := I.stkFree b (by rw [hstk, hL]; exact List.mem_cons_self)
    exact absurd hz n
   ·exact ⟨o1, fl'.1 b o1 (F.inB b o1 e1 (.inr ⟨⟨o, e⟩, nst hb hL⟩))⟩
 ·obtain ⟨o1, e1⟩ := F.un.there b o e (by simp)
  exact ⟨o1, F.inB b o1 e1 (.inr ⟨⟨o, e⟩, nst hb hL⟩)⟩
end
section
variable {X : Cx} {E : XK}
end
def jB (CX : CXT) (X : Cx) (E : St -> XK) : Prop := ∀ (pins : List (Addr × Obj)) (σ : St) (H : Hp) (s : Shared) (e : Value) (s' : Shared), Inv X pins σ H s -> CX X.stack H s (E σ) e s' -> X.xe e s'
def aE3 (sp : Sp) (E : St -> XK) (t : TA) : TE := fun σ H Q => t σ H fun vs H1 => sp vs H1 Q (E σ)
section
variable {X : Cx} {CX : CXT} {k : Nat} {f : Addr} {fd : FuncData} {ps : List Str} {sp : Sp} {E : St -> XK} {x : Str} {p pos : Pos} {e : Expr} {es : List Expr} {t : TA}
theorem zM (F : FnOk X.prog X.w X.K X.mg X.base CX k f fd ps sp) (hr : Room k X.A) (hg : Gl X x) (hm : X.mg x = some (.ref f)) (hk : PySem.W.keepIn X.K (.ref f) = true) (hb : Binds X.K fd ps []) (hx : jB CX X E)
  (ha : PA X (e :: es) t) (hdb : (x == ("__debug__" : Str)) = false := by decide) (he : starEach (e :: es) X.env = (false, eval e X.env) :: starEach es X.env := by rfl) (hpl : (backTo pos (starEach es X.env)).any (·.1) = false := by rfl) :
  PE X (.Call (.Name x p) (e :: es) [] pos) (aE3 sp E t) := by
 intro pins s σ H Q I h
 refine wpAny_Call_Name_kw (aEc I hg hm ?_ hdb)
 refine PySem.W.callWith_K (h₀ := X.base) I.ok.mod.kin hk (thn (ha pos pins s σ H _ I h) fun us s1 ⟨vs, H1, I1, r, q⟩ => ⟨I1.kIn, ?_⟩) he hpl
 have hl : us.length = ps.length := by rw [<- r.length]; exact F.len _ _ _ _ q
 have hb' := hb s1 us I1.kIn (by rw [List.append_nil]; exact hl)
 rw [List.append_nil] at hb'
 refine wpAny_call (codeAny_mono (F.run X.A X.stack s1 H1 ⟨us, []⟩ us vs Q (E σ) hr I1.env0 hb' r q) fun rr s' hq => ?_)
 cases rr with
 | error e' => exact hx pins σ H1 s1 e' s' I1 hq
 | ok fl =>
  cases fl with
  | ret u => exact I1.after hq
  | next => exact False.elim hq
  | brk => exact False.elim hq
  | cont => exact False.elim hq
end
section
variable {X : Cx} {k : Nat} {f : Addr} {fd : FuncData} {ps : List Str} {sp : Sp} {x : Str} {p pos : Pos} {e : Expr} {es : List Expr} {t : TA}
end
def aEq (e : Addr) (cls : Value) : HO := .ext fun h => ∃ o, h.get? e = some o /\ o.cls = cls /\ ∃ vs, o.data = .fields vs
abbrev aZ (X : Cx) (scope : Scope) (cl : List (Str × Addr)) (C : Addr) (N : List Str) (s₀ : Shared) (H₀ : Hp) (ex : List Addr) (pn : List (Addr × Obj)) : Cx :=
 { X with env := compEnvC scope cl C X.env, N := N, s₀ := s₀, H₀ := H₀, outer := X.stack, stack := X.stack, ex := ex, fn := fun _ => false, pn := pn, xe := fun _ _ => False }
structure aB0 (X : Cx) (scope : Scope) (cl : List (Str × Addr)) : Prop where
 clos : closureFor scope X.env = pure cl
 sub : ∀ y c, cl.lookup y = some c -> X.env.cells.lookup y = some c
 has : ∀ y, (relabel scope X.env).names.lookup y = some .cell \/ (relabel scope X.env).names.lookup y = some .free -> ∃ c, cl.lookup y = some c
def qV (js : List Nat) (σ : St) : St := js.map fun j => (σ[j]?).getD none
structure j6 (X : Cx) (scope : Scope) (cl : List (Str × Addr)) (ys : List Str) (js : List Nat) : Prop where
 len : ys.length = js.length
 at_ : ∀ (i : Nat) (y : Str) (j : Nat), ys[i]? = some y -> js[i]? = some j -> X.N[j]? = some y /\ (X.env.kindOf y = some .cell \/ X.env.kindOf y = some .free) /\ ((relabel scope X.env).names.lookup y = some .cell \/ (relabel scope X.env).names.lookup y = some .free) /\ (X.env.cells.lookup y).isSome = true /\ cl.lookup y = X.env.cells.lookup y
section
variable {X : Cx}
end
def Sz (n : Nat) (x : Int) : Prop := x.natAbs < 2 ^ n
theorem Sz.mono {m n : Nat} {x : Int} (h : Sz m x) (l : m <= n) : Sz n x := Nat.lt_of_lt_of_le h (Nat.pow_le_pow_right (by decide) l)
theorem Sz.mul {m n : Nat} {x y : Int} (hx : Sz m x) (hy : Sz n y) : Sz (m + n) (x * y) := by
 unfold Sz at *
 rw [Int.natAbs_mul, Nat.pow_add]
 exact Nat.mul_lt_mul'' hx hy
theorem Sz.add {n : Nat} {x y : Int} (hx : Sz n x) (hy : Sz n y) : Sz (n + 1) (x + y) := by
 unfold Sz at *
 have := Int.natAbs_add_le x y
 rw [Nat.pow_succ]
 omega
theorem Sz.neg {n : Nat} {x : Int} (hx : Sz n x) : Sz n (-x) := by
 unfold Sz at *
 rw [Int.natAbs_neg]
 exact hx
theorem Sz.sub {n : Nat} {x y : Int} (hx : Sz n x) (hy : Sz n y) : Sz (n + 1) (x - y) := by
 have := Sz.add hx hy.neg
 rwa [Int.sub_eq_add_neg]
def CMulW (i j : Int) : Prop := Sz 60000 i /\ Sz 60000 j
theorem CMulW.ok {i j : Int} (h : CMulW i j) : IntMulOk i j := .of_le (intBits_le_iff.mpr h.1) (intBits_le_iff.mpr h.2) (by decide)
def mL (i j : Int) : Prop := j ≠ 0 /\ Sz 8000 j
section
variable {X : Cx}
theorem bQ : OpR X (binaryOp .Mult) (rI CMulW fun i j => .int (i * j)) := opI fun _ _ _ _ _ _ _ hc q => mul_int q hc.ok
theorem log2_small {n : Nat} (h : n < 2 ^ 8000) : n.log2 < 9000 := by
 by_cases z : n = 0
 ·rw [z]; decide
 ·have : n.log2 < 8000 := (Nat.log2_lt z).mpr h
  omega
theorem fY : OpR X (binaryOp .FloorDiv) (rI mL fun i j => .int (i.fdiv j)) := opI fun _ _ _ _ _ _ _ hc q => floordiv_int hc.1 q (.inl (PyProof.noPylong_of_log2 (log2_small hc.2)))
inductive TyX (K : PySem.W.Frag) (H : Hp) : V -> Value -> Prop where
 | plain {x : V} {t : Value} (h : rB K H x t) : TyX K H x t
 | exc {a C : Addr} (e : H a = some (aEq a (.ref C))) (T : PySem.W.ExcK K C) : TyX K H (.ref a) (.ref C)
theorem RelV.tyOrRef {y : V} {c u : Value} (h : (∃ n, y = .ty n) \/ ∃ a, y = .ref a) (r : RelV y c) (r' : RelV y u) : u = c := by
 rcases h with ⟨n, rfl⟩ | ⟨n, rfl⟩
 ·cases r; cases r'; rfl
 ·cases r; cases r'; rfl
def aHi (K : PySem.W.Frag) : List V -> Hp -> VK -> Prop := fun xs H Q => ∃ x y t c b, xs = [x, y] /\ ((∃ n, y = .ty n) \/ ∃ a, y = .ref a) /\ TyX K H x t /\ RelV y c /\ PySem.W.kitOne K t c = some b /\ Q (.bl b) H
theorem zN : jP X (.builtin "isinstance") (aHi X.K) := by
 intro pins s σ H xs us Q I r h
 obtain ⟨x, y, t, c, b, rfl, hy, ty, rc, e, q⟩ := h
 obtain ⟨u, w', rfl, r1, r2⟩ := vals2 r
 have ec := RelV.tyOrRef hy rc r2
 subst ec
 cases ty with
 | plain ty => exact xP I r1 ty e fun tk => ⟨.bl b, H, I.tok _, rfl, q⟩
 | @exc a C ea T =>
  cases (show u = Value.ref a from r1)
  obtain ⟨p, _, _⟩ := (show ObjOk X.prog X.w H s.heap a (aEq a (.ref C)) from I.hok a _ ea)
  exact PySem.W.kia_one (PySem.W.kitx_exc T) I.kIn p e (fun z => nomatch z) fun tk => ⟨.bl b, H, I.tok _, rfl, q⟩
end
def aKm (K : PySem.W.Frag) (te : TE) (v : V) : TE := fun σ H Q => te σ H fun x H1 => aHi K [x, v] H1 Q
theorem aFf {X : Cx} {e c : Expr} {te : TE} {v : V} {p pos : Pos} (hg : Gl X "isinstance") (hm : X.mg "isinstance" = none) (he : PE X e te) (hc : PE X c (tC v)) (h1 : starEach [e, c] X.env = (false, eval e X.env) :: starEach [c] X.env := by rfl)
  (h2 : (backTo pos (starEach [c] X.env)).any (·.1) = false := by rfl) (h3 : starEach [c] X.env = (false, eval c X.env) :: starEach [] X.env := by rfl) : PE X (.Call (.Name "isinstance" p) [e, c] [] pos) (aKm X.K te v) := fun pins s σ H Q I h =>
 qI zN hg hm (by decide +kernel) (fF he (fF hc jW h3) h1) (by decide) (by decide) h1 h2 pins s σ H Q I h
theorem Fun.okX {P : Program} {w : World} {K : PySem.W.Frag} {mg : Str -> Option Value} {base : Heap} {x qual : Str} {st : Stmt} {f : Addr} {fd : FuncData} {N ps : List Str} {k : Nat} {sp : Sp} (F : Fun K x qual st f fd) (S : bJ N ps (aP st)) (len : ∀ vs H Q E, sp vs H Q E -> vs.length = ps.length)
  (hbody : ∀ (cdv : Value) (A : Around) (outer : List Env) (s : Shared) (H : Hp) (vs : List V) (Q : VK) (E : XK), Room k (A.deeper (envOfC qual (aP st) s.heap.objs.size f cdv)) -> sp vs H Q E ->
   ∃ t, PSs (pU (CXr P w) P w K mg base N qual (aP st) f cdv A outer s H E) (dH st) t /\ t { nx := fun _ H' => Q .non H', rt := Q } (start N vs) H) : FnOk P w K mg base (CXr P w) (k + 1) f fd ps sp := by
 obtain ⟨oc, od, kV, doc, pm, an, cdv, ct, osl, rfl, lk, hcd⟩ := F.ex
 exact aJu lk hcd S len fun A outer s H vs Q E hr hsp => hbody cdv A outer s H vs Q E hr hsp
theorem Same.upd {H H' : Hp} {p : Addr} (h : Same H H') (hp : H' p = none) (o : HO) : Same H (upd H' p o) := fun b u q => by
 have := h b u q
 rw [a7 (bO this hp)]
 exact this
end L2
namespace FR
end FR
namespace L2
open PySem PySem.Spec PyProof.Rows
section
variable {X : Cx}
end
open PySem.W (Dat kqdP kqdPs kqdOk kqd_lay kqd_eqv)
mutual
inductive HasD (H : Hp) : V -> Dat -> Prop
 | int (i : Int) : HasD H (.int i) (.int i)
 | tup {a : Addr} {xs : List V} {ds : List Dat} : H a = some (.tup xs) -> HasDs H xs ds -> HasD H (.ref a) (.tuple ds)
 | lst {a : Addr} {xs : List V} {ds : List Dat} : H a = some (.lst xs) -> HasDs H xs ds -> HasD H (.ref a) (.list ds)
inductive HasDs (H : Hp) : List V -> List Dat -> Prop
 | nil : HasDs H [] []
 | cons {x : V} {xs : List V} {d : Dat} {ds : List Dat} : HasD H x d -> HasDs H xs ds -> HasDs H (x :: xs) (d :: ds)
end
mutual
theorem HasD.keep {H H' : Hp} (k : ∀ a o, H a = some o -> H' a = some o) : ∀ {v : V} {d : Dat}, HasD H v d -> HasD H' v d
 | _, _, .int i => .int i
 | _, _, .tup h r => .tup (k _ _ h) (HasDs.keep k r)
 | _, _, .lst h r => .lst (k _ _ h) (HasDs.keep k r)
theorem HasDs.keep {H H' : Hp} (k : ∀ a o, H a = some o -> H' a = some o) : ∀ {v : List V} {d : List Dat}, HasDs H v d -> HasDs H' v d
 | _, _, .nil => .nil
 | _, _, .cons h r => .cons (HasD.keep k h) (HasDs.keep k r)
end
mutual
theorem HasD.reads {P : Program} {w : World} {H : Hp} {h : Heap} (ok : HOk P w H h) : ∀ {v : V} {d : Dat}, HasD H v d -> ∀ {u : Value}, RelV v u -> ∃ as, Reads h u (kqdP d) as
 | _, _, .int i, _, ⟨t, e⟩ => by subst e; exact ⟨_, Reads.int i t⟩
 | _, _, .tup hh r, _, e => by
  have e : _ = Value.ref _ := e
  subst e
  obtain ⟨_, its, rv, o, ho, hc, n, hd⟩ := (show ObjOk P w H h _ _ from ok _ _ hh)
  obtain ⟨as, q⟩ := HasDs.reads ok r rv
  rw [kqdP]
  exact ⟨as, reads_tuple_at ho hc hd (by simpa using q)⟩
 | _, _, .lst hh r, _, e => by
  have e : _ = Value.ref _ := e
  subst e
  obtain ⟨_, its, n, rv, ho⟩ := (show ObjOk P w H h _ _ from ok _ _ hh)
  obtain ⟨as, q⟩ := HasDs.reads ok r rv
  rw [kqdP]
  exact ⟨_, reads_list_at ho rfl rfl (by simpa using q)⟩
theorem HasDs.reads {P : Program} {w : World} {H : Hp} {h : Heap} (ok : HOk P w H h) : ∀ {vs : List V} {ds : List Dat}, HasDs H vs ds -> ∀ {us : List Value}, Vals vs us -> ∃ as, ReadsAll h us (kqdPs ds) as
 | _, _, .nil, _, .nil => ⟨_, ReadsAll.nil⟩
 | _, _, .cons hd r, _, .cons rv rt => by
  obtain ⟨as, q⟩ := HasD.reads ok hd rv
  obtain ⟨bs, p⟩ := HasDs.reads ok r rt
  rw [kqdPs]
  exact ⟨_, ReadsAll.cons q p⟩
end
section
variable {X : Cx}
end
section
variable {prog : Program} {w : World} {A : Around} {E : Value -> Shared -> Prop} {s : Shared} {d it : Addr} {es : Array DictEntry} {ep i : Nat}
end
section
variable {prog : Program} {w : World} {A : Around} {R : Result -> Shared -> Prop} {s : Shared}
abbrev vU (ifs : List Expr) (env : Env) : Sem Bool := forIn ifs true fun c r => if r = true then do let ok <- isTrue c env (eval c env); pure (ForInStep.yield ok) else pure (ForInStep.yield r)
theorem vK {elt target iter : Expr} {ifs : List Expr} {scope : Scope} {pos : Pos} {it acc : Value} {env : Env} (I : Nat -> Shared -> Prop)
  (turn : ∀ n s, I n s -> wpAny (model prog w) A (pyNext it) (fun r s₁ => match r with
   | none => R (.ok .next) s₁
   | some v => wpAny (model prog w) A (letOwnedTupleGo target it v) (fun _ s₀ => wpAny (model prog w) A (assign target env v) (fun _ s₂ =>
     wpAny (model prog w) A (vU ifs env) (fun ok s₃ =>
      if ok = true then wpAny (model prog w) A (eval elt env) (fun x s₄ =>
       wpAny (model prog w) A (call (.builtin "list.append") [acc, x]) (fun _ s₅ => ∃ m, m < n /\ I m s₅) (fun _ _ => False) s₄) (fun _ _ => False) s₃
      else ∃ m, m < n /\ I m s₃) (fun _ _ => False) s₂) (fun _ _ => False) s₀) (fun _ _ => False) s₁) (fun _ _ => False) s)
  (n : Nat) (h : I n s) : codeAny (model prog w) A (.compLoop (.ListComp elt [⟨target, iter, ifs, 0⟩] scope pos) 0 it acc env) R s := by
 refine codeAny_loop rfl I (fun n s hI => ?_) n h
 show wpAny _ A ((compTurn (.ListComp elt [⟨target, iter, ifs, 0⟩] scope pos) 0 it acc env).onRaise (fun x => do noteFrame x env; theTreesLotGoes x)) _ _ s
 refine wpAny_noted ?_
 rw [compTurn_list]
 refine wpAny_bind (wpAny_standAt (wpAny_bind (wpAny_mono (turn n s hI) (fun r s₁ h₁ => ?_) fun _ _ z => z.elim)))
 cases r with
 | none => exact wpAny_pure h₁
 | some v =>
  refine wpAny_bind (wpAny_mono h₁ (fun _ s₀ h₀ => ?_) fun _ _ z => z.elim)
  refine wpAny_bind (wpAny_mono h₀ (fun _ s₂ h₂ => wpAny_bind (wpAny_mono h₂ (fun ok s₃ h₃ => ?_) fun _ _ z => z.elim)) fun _ _ z => z.elim)
  cases ok with
  | false => exact wpAny_pure ⟨rfl, h₃⟩
  | true =>
   exact wpAny_bind (wpAny_bind (wpAny_mono h₃ (fun x s₄ h₄ => wpAny_bind (wpAny_mono h₄ (fun _ s₅ h₅ => wpAny_pure (wpAny_pure ⟨rfl, h₅⟩)) fun _ _ z => z.elim)) fun _ _ z => z.elim))
end
def PTs (X : Cx) (ifs : List Expr) (t : TT) : Prop :=
 ∀ (pins : List (Addr × Obj)) (s : Shared) (σ : St) (H : Hp) (Q : Bool -> Hp -> Prop), Inv X pins σ H s -> t σ H Q -> wpAny (model X.prog X.w) X.A (vU ifs X.env) (TP X pins σ Q) X.xe s
def aKj : TT := fun _ H Q => Q true H
theorem aD8 {X : Cx} : PTs X [] aKj := fun _ _ _ H _ I h => wpAny_tests_nil ⟨H, I, h⟩
theorem aDj {X : Cx} {c : Expr} {t : TT} (h : PT X c t) : PTs X [c] t := fun pins s σ H Q I hw => wpAny_tests_one (h pins s σ H Q I hw)
def qF (wi : TI) (g : TG) (tt : TT) (te : TE) (n : Nat) (js : List Nat) : TE := fun σ H Q => wi σ H fun J H1 => ∀ D, H1 D = none -> ∃ (N : Nat) (W : Nat -> List V -> Hp -> Prop), W 0 [] (upd H1 D (.lst [])) /\ ∀ i ys H2, W i ys H2 ->
 (J.stop i H2 /\ Q (.ref D) H2) \/ (i < N /\ J.go i H2 /\ ∀ v H3, J.yld i H2 v H3 -> g v (List.replicate n none ++ qV js σ) H3 fun σ2 H4 => (σ2.length = n + js.length /\ σ2.drop n = qV js σ) /\ tt σ2 H4 fun b H5 =>
  if b = true then te σ2 H5 fun y H6 => H6 D = some (.lst ys) /\ ys.length < sizeLine /\ W (i + 1) (ys ++ [y]) (upd H6 D (.lst (ys ++ [y]))) else W (i + 1) ys H5)
section
variable {X : Cx}
theorem Inv.but {pins : List (Addr × Obj)} {σ : St} {H : Hp} {s : Shared} {C : Addr} {h' : Heap} (I : Inv X pins σ H s) (f : aAj X pins H C) (hs : Heap.SameBut C s.heap h') : Inv X pins σ H { s with heap := h' } := by
 have ne : ∀ b, b ∉ [C] -> b ≠ C := fun b hb z => hb (by rw [z]; exact .head _)
 refine I.call' (s' := { s with heap := h' }) (ch := [C]) rfl ⟨fun b o e n hb hx => (hs.2 b (ne b hx)).trans e, fun b o e n hb hx => ⟨o.slots, (hs.2 b (ne b hx)).trans e⟩, fun b o e n hx => n, fun b o e hx => ⟨o, (hs.2 b (ne b hx)).trans e⟩, fun b xs e => e, fun b o u e => e, fun b ps e => ⟨#[], by rw [Array.append_empty]; exact e⟩⟩ (qU I.hok fun b o nn e => (hs.2 b (fun z => nn (by rw [z]; exact f.1))).trans e) I.bare fun b hb => ?_
 rw [List.mem_singleton.mp hb]
 exact ⟨f.2.2.2.1, f.2.1, f.2.2.2.2.1, f.2.2.2.2.2⟩
set_option maxHeartbeats 8000000 in
theorem nW {elt iter tg : Expr} {pos : Pos} {scope : Scope} {ifs : List Expr} {wi : TI} {g : TG} {tt : TT} {te : TE} {xs ys : List Str} {js : List Nat} {cl : List (Str × Addr)} (hc : X.calm = true) (hi : PI X tg iter wi)
  (hcl : aB0 X scope cl) (hcap : j6 X scope cl ys js) (hcell : ∀ y ∈ scope.names, y.2 ≠ .cell) (hkind : scope.kind = .function) (hnames : ∀ y ∈ scope.names, y.2 = .local -> scope.names.lookup y.1 = some .local)
  (hg : ∀ C s₀ H₀ ex pn, PG (aZ X scope cl C (xs ++ ys) s₀ H₀ ex pn) tg g) (ht : ∀ C s₀ H₀ ex pn, PTs (aZ X scope cl C (xs ++ ys) s₀ H₀ ex pn) ifs tt) (hb : ∀ C s₀ H₀ ex pn, PE (aZ X scope cl C (xs ++ ys) s₀ H₀ ex pn) elt te)
  (hs : ∀ x, foldedSetIterable iter X.env x = pure x) {use : Option (Value -> Sem Unit)} {QQ : Value -> Shared -> Prop} {Q : VK} {pins : List (Addr × Obj)} {s : Shared} {σ : St} {H : Hp} {cp : Pos} (I : Inv X pins σ H s)
  (aJp : ∀ (C D : Addr) (s' : Shared) (H' : Hp), Inv X pins σ H' s' -> aAj X pins H' C -> (∃ m, s'.heap.Ns C m) -> Q (.ref D) H' -> compPost (model X.prog X.w) X.A X.xe use QQ (.ref D) C (.ok .next) s')
  (h : qF wi g tt te xs.length js σ H Q) :
  wpAny (model X.prog X.w) X.A (comprehension (.ListComp elt [⟨tg, iter, ifs, 0⟩] scope pos) scope X.env cp (newList []) false (eval iter X.env) use) QQ X.xe s := by
 refine wpAny_comprehension_free rfl hs hcl.clos hkind hnames (thn (hi pins s σ H _ I h) fun v s1 h1 => thn h1 fun itv s2 h2 => ?_)
 obtain ⟨it, fp, tn, J, H2, e, I2, T, st2, f2, q2⟩ := h2
 subst e
 obtain ⟨n, W, w0, turn⟩ := q2 s2.heap.objs.size I2.fresh
 refine wpAny_newObj_type (wpAny_newFunctionEnv hcell (by intro y hy; simp at hy) (fun h₁ hns₁ hsb₁ => ?_) hkind)
 dsimp only at hns₁ hsb₁ ⊢
 have I3 := I2.lnew (ys := []) (its := []) (t' := s2.toks) .nil (Nat.zero_le _)
 generalize hg3 : s2.heap.push { cls := .type "list", dict := none, data := .seq ([] : List Value).toArray } = g3 at hns₁ hsb₁ I3 ⊢
 have sz3 : g3.objs.size = s2.heap.objs.size + 1 := by rw [<- hg3, Heap.size_push]
 generalize hC : g3.objs.size = C at hns₁ hsb₁ ⊢
 have old3 : ∀ b o, g3.get? b = some o -> h₁.get? b = some o := fun b o q => hsb₁.extBut b o (by rw [<- hC]; exact Nat.ne_of_lt (Heap.lt_size q)) (Heap.get?_push_of_some _ q)
 have old2 : ∀ b o, s2.heap.get? b = some o -> g3.get? b = some o := fun b o q => by rw [<- hg3]; exact Heap.get?_push_of_some _ q
 have fpl : ∀ b ∈ fp, ∃ o, s2.heap.get? b = some o /\ ∀ v, o.data ≠ .cell v := T.obj _ _ st2
 have fplt : ∀ b ∈ fp, b < s2.heap.objs.size := fun b hb => let ⟨o, q, _⟩ := fpl b hb; Heap.lt_size q
 have H3n : ∀ b, b ≠ s2.heap.objs.size -> upd H2 s2.heap.objs.size (.lst []) b = H2 b := fun b hb => a7 hb
 have fp3 : ∀ b ∈ fp, upd H2 s2.heap.objs.size (.lst []) b = none := fun b hb => by rw [H3n b (Nat.ne_of_lt (fplt b hb))]; exact (f2 b hb).1
 have okX := I3.ok
 have inj : ∀ y z c, cl.lookup y = some c -> cl.lookup z = some c -> y = z := fun y z c h1 h2 => okX.inj y z c (hcl.sub y c h1) (hcl.sub z c h2)
 have cellE : ∀ y c, cl.lookup y = some c -> ∃ v, g3.IsCell c v := fun y c q => I3.cell y c (hcl.sub y c q)
 have st3 : g3.FunFrames X.base X.stack := I3.stack
 have exlt : ∀ b ∈ fp, b ≠ C := fun b hb => by rw [<- hC, sz3]; exact Nat.ne_of_lt (Nat.lt_succ_of_lt (fplt b hb))
 have frlt : ∀ b ∈ frs X.stack, b < g3.objs.size := fun b hb => let ⟨_, o, q, _⟩ := st3.mem hb; Heap.lt_size q
 have okB : (aZ X scope cl C (xs ++ ys) { s2 with heap := g3 } (upd H2 s2.heap.objs.size (.lst [])) fp (X.pn ++ pins)).Ok := by
  refine ⟨okX.mod, hkind, okX.glob, okX.blt, Nat.le_of_eq hC, inj, fun y hy => hcl.has y hy, (fun y c hf _ => nomatch hf), okX.hd, okX.frames, .inl rfl, fun b hb => ⟨exlt b hb, fun y c q z => ?_⟩, I3.bs, Nat.le_trans okX.bsz I3.sz, fun b o q hb => ?_, fun b hb => ?_, st3, I3.stkFree⟩
  ·subst z
   exact (f2 c hb).2.2.2.2.1 y c (hcl.sub y c q) rfl
  ·rcases (f2 b hb).2.2.2.1 with z | z
   ·exact okX.noex b o q z
   ·have := Heap.lt_size (okX.bs b o q).1
    exact absurd (Nat.lt_of_lt_of_le this z) (Nat.lt_irrefl _)
  ·intro hz
   rcases List.mem_cons.mp (I3.stkSub b hz) with z | z
   ·exact (f2 b hb).2.1 z
   ·exact (f2 b hb).2.2.1 z
 have tot : ∀ tk : Nat, Inv (aZ X scope cl C (xs ++ ys) { s2 with heap := g3 } (upd H2 s2.heap.objs.size (.lst [])) fp (X.pn ++ pins)) [] (List.replicate xs.length none ++ qV js σ) (upd H2 s2.heap.objs.size (.lst [])) { s2 with heap := h₁, toks := tk } := fun tk => by
  refine ⟨okB, rfl, I3.bare, Un.kept old3, ⟨_, hns₁, fun i y v' e1 e2 e3 => ?_⟩, fun y c q => ?_, I3.hok.fresh (Nat.le_of_eq hC), fun y c q => ?_, fun p hp => ?_, I3.hok.kept old3, ?_⟩
  ·by_cases hix : i < xs.length
   ·rw [List.getElem?_append_left (by rw [List.length_replicate]; exact hix), List.getElem?_replicate] at e2
    split at e2 <;> cases e2
   ·have hix' : xs.length <= i := by omega
    obtain ⟨k, rfl⟩ : ∃ k, i = xs.length + k := ⟨i - xs.length, by omega⟩
    have e1' : ys[k]? = some y := by
     rw [List.getElem?_append_right (by omega)] at e1
     simpa using e1
    have e2' : (qV js σ)[k]? = some (some v') := by
     rw [List.getElem?_append_right (by rw [List.length_replicate]; omega), List.length_replicate] at e2
     simpa using e2
    unfold qV at e2'
    rw [List.getElem?_map] at e2'
    cases ej : js[k]? with
    | none => rw [ej] at e2'; cases e2'
    | some j =>
     rw [ej] at e2'
     have e2'' : (σ[j]?).getD none = some v' := Option.some.inj e2'
     have eσ : σ[j]? = some (some v') := by
      cases es : σ[j]? with
      | none => rw [es] at e2''; cases e2''
      | some z => rw [es] at e2''; have : z = some v' := e2''; rw [this]
     obtain ⟨c1, c2, c3, c4, c5⟩ := hcap.at_ k y j e1' ej
     obtain ⟨m0, hn0, hl0⟩ := I3.loc
     obtain ⟨u, r, l⟩ := hl0 j y v' c1 eσ (c2.elim (fun z => .inr (.inl z)) fun z => .inr (.inr z))
     refine ⟨u, r, .inr ⟨c3, ?_⟩⟩
     rcases l with ⟨l, _⟩ | ⟨_, c, hcc, z⟩
     ·rcases c2 with c2 | c2
      ·rw [c2] at l; cases l
      ·rw [c2] at l; cases l
     ·obtain ⟨o, ho, hd⟩ := z
      exact ⟨c, c5.trans hcc, o, old3 c o ho, hd⟩
  ·obtain ⟨v0, o, ho, hd⟩ := cellE y c q
   exact ⟨v0, o, old3 c o ho, hd⟩
  ·exact I3.freeC y c (hcl.sub y c q)
  ·have hp' : p ∈ X.pn ++ pins := by simpa using hp
   obtain ⟨p1, p2, p3, p4, p5⟩ := I3.pin p hp'
   refine ⟨old3 _ _ p1, p2, ?_, fun hz => ?_, p5⟩
   ·show p.1 ≠ C
    rw [<- hC]
    exact Nat.ne_of_lt (Heap.lt_size p1)
   ·rcases List.mem_cons.mp (I3.stkSub p.1 hz) with z | z
    ·exact p3 z
    ·exact p4 z
  ·show (List.replicate xs.length none ++ qV js σ).length = (xs ++ ys).length
   unfold qV
   simp [hcap.len]
 have fpB : ∀ {H' : Hp}, (∀ b ∈ fp, H' b = none) -> ∀ b ∈ fp, aAj (aZ X scope cl C (xs ++ ys) { s2 with heap := g3 } (upd H2 s2.heap.objs.size (.lst [])) fp (X.pn ++ pins)) [] H' b := fun hn b hb =>
  ⟨hn b hb, exlt b hb, okB.exfs b hb, .inl hb, (okB.exf b hb).2, fun p hp => (f2 b hb).2.2.2.2.2 p (by simpa using hp)⟩
 have fin : ∀ s' : Shared, (∃ i zs σ' H', Inv (aZ X scope cl C (xs ++ ys) { s2 with heap := g3 } (upd H2 s2.heap.objs.size (.lst [])) fp (X.pn ++ pins)) [] σ' H' s' /\ W i zs H' /\ J.stop i H' /\ Q (.ref s2.heap.objs.size) H') ->
   compPost (model X.prog X.w) X.A X.xe use QQ (.ref s2.heap.objs.size) C (.ok .next) s' := by
  rintro s' ⟨i, zs, σ', H', Ib, w, stop, q⟩
  obtain ⟨m', hn', _⟩ := Ib.loc
  have ub := Ib.base
  have un : Un (frs X.stack) fp (upd H2 s2.heap.objs.size (.lst [])) H' g3 s'.heap := ub
  have IX : Inv X pins σ H' s' := I3.call' (s' := s') (ch := fp) Ib.os un Ib.hok Ib.bare fun b hb => ⟨(f2 b hb).2.2.2.1, (f2 b hb).2.1, (f2 b hb).2.2.2.2.1, (f2 b hb).2.2.2.2.2⟩
  exact aJp C _ s' H' IX (I3.fpOk (Nat.le_of_eq hC) Ib.free) ⟨m', hn'⟩ q
 have loop : ∀ s₃ : Shared, (∃ tk, s₃ = { s2 with heap := h₁, toks := tk }) ->
   codeAny (model X.prog X.w) X.A (.compLoop (.ListComp elt [⟨tg, iter, ifs, 0⟩] scope pos) 0 (.ref it) (.ref s2.heap.objs.size) (compEnvC scope cl C X.env)) (compPost (model X.prog X.w) X.A X.xe use QQ (.ref s2.heap.objs.size) C) s₃ := by
  rintro s₃ ⟨tk, rfl⟩
  refine vK (fun k s' => ∃ i zs H', k = n + 1 - i /\ i <= n /\ Inv (aZ X scope cl C (xs ++ ys) { s2 with heap := g3 } (upd H2 s2.heap.objs.size (.lst [])) fp (X.pn ++ pins)) [] (List.replicate xs.length none ++ qV js σ) H' s' /\ tn i s'.heap /\ (∀ b ∈ fp, H' b = none) /\ W i zs H')
   ?_ (n + 1) ⟨0, [], _, rfl, Nat.zero_le _, tot tk, T.keep _ _ _ st2 fun b hb o q => old3 b o (old2 b o q), fp3, w0⟩
  rintro k s' ⟨i, zs, H', rfl, hin, Ib, st, fr, w⟩
  rcases turn i zs H' w with ⟨stop, qq⟩ | ⟨hlt, go, step⟩
  ·refine wpAny_mono (T.done (aZ X scope cl C (xs ++ ys) { s2 with heap := g3 } (upd H2 s2.heap.objs.size (.lst [])) fp (X.pn ++ pins)) rfl rfl rfl hc i [] s' _ H' (fun _ _ => False) Ib (fpB fr) st stop) (fun r s4 ⟨hr, I4⟩ => ?_) fun _ _ z => z.elim
   subst hr
   exact fin s4 ⟨i, zs, _, H', I4, w, stop, qq⟩
  ·refine wpAny_mono (T.item (aZ X scope cl C (xs ++ ys) { s2 with heap := g3 } (upd H2 s2.heap.objs.size (.lst [])) fp (X.pn ++ pins)) rfl rfl rfl hc i [] s' _ H' (fun _ _ => False) Ib (fpB fr) st go) (fun r s4 ⟨u, hr, h4⟩ => ?_) fun _ _ z => z.elim
   subst hr
   refine wpAny_mono h4 (fun _ s5 ⟨v5, H5, I5, r5, y5, st5, fr5⟩ => ?_) fun _ _ z => z.elim
   have I5' := I5.pinned (fpB fr5) (T.obj _ _ st5)
   have hw5 := step v5 H5 y5
   refine wpAny_mono (hg C _ _ fp (X.pn ++ pins) _ s5 _ H5 v5 u _ I5' r5 hw5) (fun _ s6 ⟨σ6, H6, I6, ⟨hl6, hd6⟩, e6⟩ => ?_) fun _ _ z => z.elim
   have back : ∀ {H' : Hp} {s' : Shared} {pins' : List (Addr × Obj)}, Inv (aZ X scope cl C (xs ++ ys) { s2 with heap := g3 } (upd H2 s2.heap.objs.size (.lst [])) fp (X.pn ++ pins)) pins' σ6 H' s' -> Inv (aZ X scope cl C (xs ++ ys) { s2 with heap := g3 } (upd H2 s2.heap.objs.size (.lst [])) fp (X.pn ++ pins)) pins' (List.replicate xs.length none ++ qV js σ) H' s' := fun I' => by
    refine I'.weak ?_ fun j v' e => ?_
    ·rw [hl6]; unfold qV; simp
    ·by_cases hj : j < xs.length
     ·rw [List.getElem?_append_left (by rw [List.length_replicate]; exact hj), List.getElem?_replicate] at e
      split at e <;> cases e
     ·rw [List.getElem?_append_right (by rw [List.length_replicate]; omega), List.length_replicate, <- hd6, List.getElem?_drop] at e
      rw [<- e]
      congr 1
      omega
   refine wpAny_mono (ht C _ _ fp (X.pn ++ pins) _ s6 _ _ _ I6 e6) (fun ok s6b ⟨H6b, I6b, e6b⟩ => ?_) fun _ _ z => z.elim
   cases ok with
   | false =>
    rw [if_neg Bool.false_ne_true]
    have e6c : W (i + 1) zs H6b := by simpa using e6b
    have I8 := back I6b
    refine ⟨n + 1 - (i + 1), by omega, i + 1, zs, _, rfl, hlt, I8.unpinned (pins := []), ?_, fun b hb => ?_, e6c⟩
    ·exact T.keep _ _ _ st5 fun b hb o q => (I8.pin (b, o) (List.mem_append_right _ (List.mem_append_right _ (cO hb q)))).1
    ·obtain ⟨o, q, d⟩ := T.obj _ _ st5 b hb
     exact (I8.pin (b, o) (List.mem_append_right _ (List.mem_append_right _ (cO hb q)))).2.1
   | true =>
    rw [if_pos rfl]
    have e6c := e6b
    rw [if_pos rfl] at e6c
    refine wpAny_mono (hb C _ _ fp (X.pn ++ pins) _ s6b _ _ _ I6b e6c) (fun y s7 ⟨yv, H7, I7, r7, hD, hz, w7⟩ => ?_) fun _ _ z => z.elim
    obtain ⟨z7, its, n7, rv7, hl7, e7⟩ := I7.lstM hD
    refine append_at (n := n7) (its := its.toArray) e7 (fun h₈ sb8 eD8 => ?_) (by rw [List.size_toArray, <- hl7]; exact Nat.le_of_lt hz)
    have I8 : Inv _ _ _ (upd H7 s2.heap.objs.size (.lst (zs ++ [yv]))) { s7 with heap := h₈, toks := s7.toks } := I7.write (x := s2.heap.objs.size) (e := s2.heap.objs.size) (by rw [hD]; exact trivial) (.inl rfl) (fun b u hb q => (sb8.2 b hb).trans q) ⟨_, eD8⟩
     ⟨by rw [List.length_append]; exact hz, its ++ [y], n7 + 1, rv7.append (.cons r7 .nil), by rw [eD8, List.push_toArray]⟩
    have I9 := back I8
    refine ⟨n + 1 - (i + 1), by omega, i + 1, zs ++ [yv], _, rfl, hlt, I9.unpinned (pins := []), ?_, fun b hb => ?_, w7⟩
    ·exact T.keep _ _ _ st5 fun b hb o q => (I8.pin (b, o) (List.mem_append_right _ (List.mem_append_right _ (cO hb q)))).1
    ·obtain ⟨o, q, d⟩ := T.obj _ _ st5 b hb
     exact (I8.pin (b, o) (List.mem_append_right _ (List.mem_append_right _ (cO hb q)))).2.1
 exact codeAny_compStart_list (loop _ ⟨_, rfl⟩) (T.self _ 0 _ _ _ (T.keep _ _ _ st2 fun b hb o q => old3 b o (old2 b o q)) (loop _ ⟨_, rfl⟩))
theorem yL {elt iter tg : Expr} {pos : Pos} {scope : Scope} {ifs : List Expr} {wi : TI} {g : TG} {tt : TT} {te : TE} {xs ys : List Str} {js : List Nat} {cl : List (Str × Addr)} (hc : X.calm = true) (hi : PI X tg iter wi)
  (hcl : aB0 X scope cl) (hcap : j6 X scope cl ys js) (hcell : ∀ y ∈ scope.names, y.2 ≠ .cell) (hkind : scope.kind = .function) (hnames : ∀ y ∈ scope.names, y.2 = .local -> scope.names.lookup y.1 = some .local)
  (hg : ∀ C s₀ H₀ ex pn, PG (aZ X scope cl C (xs ++ ys) s₀ H₀ ex pn) tg g) (ht : ∀ C s₀ H₀ ex pn, PTs (aZ X scope cl C (xs ++ ys) s₀ H₀ ex pn) ifs tt) (hb : ∀ C s₀ H₀ ex pn, PE (aZ X scope cl C (xs ++ ys) s₀ H₀ ex pn) elt te)
  (hs : ∀ x, foldedSetIterable iter X.env x = pure x := by intro _; rfl) :
  PE X (.ListComp elt [⟨tg, iter, ifs, 0⟩] scope pos) (qF wi g tt te xs.length js) := by
 intro pins s σ H Q I h
 rw [eval_ListComp]
 exact nW hc hi hcl hcap hcell hkind hnames hg ht hb hs (use := none) (QQ := EP X pins σ Q) (Q := Q) I (fun C D s' H' IX f ⟨m, hn⟩ q => ⟨m, hn, fun h' hs' => ⟨.ref D, H', IX.but f hs', rfl, q⟩⟩) h
theorem zU {elt iter tg : Expr} {pos py spos : Pos} {scope : Scope} {ifs : List Expr} {wi : TI} {g : TG} {tt : TT} {te : TE} {xs ys : List Str} {js : List Nat} {cl : List (Str × Addr)} {i : Nat} {y : Str} (hN : X.N.Nodup) (hiN : X.N[i]? = some y) (hx : Loc X.env.scope y) (hc : X.calm = true) (hi : PI X tg iter wi)
  (hcl : aB0 X scope cl) (hcap : j6 X scope cl ys js) (hcell : ∀ y ∈ scope.names, y.2 ≠ .cell) (hkind : scope.kind = .function) (hnames : ∀ y ∈ scope.names, y.2 = .local -> scope.names.lookup y.1 = some .local)
  (hg : ∀ C s₀ H₀ ex pn, PG (aZ X scope cl C (xs ++ ys) s₀ H₀ ex pn) tg g) (ht : ∀ C s₀ H₀ ex pn, PTs (aZ X scope cl C (xs ++ ys) s₀ H₀ ex pn) ifs tt) (hb : ∀ C s₀ H₀ ex pn, PE (aZ X scope cl C (xs ++ ys) s₀ H₀ ex pn) elt te)
  (hsw : swapsWith (.ListComp elt [⟨tg, iter, ifs, 0⟩] scope pos) (some (.Name y py)) spos.line X.env = pure true) (hs : ∀ x, foldedSetIterable iter X.env x = pure x := by intro _; rfl)
  (hf : X.fn y = true \/ X.env.scope.names.lookup y = some .local := by first | exact .inl rfl | exact .inr rfl | assumption) :
  PS X (.Assign [.Name y py] (.ListComp elt [⟨tg, iter, ifs, 0⟩] scope pos) spos) (aJz (qF wi g tt te xs.length js) (aDb i)) := by
 intro pins s σ H D I h
 rw [exec_Assign_Name_used _ _ _ _ hsw]
 refine wpAny_bind (wpAny_standAt (wpAny_bind ?_))
 show wpAny _ X.A (do let _ <- comprehension (.ListComp elt [⟨tg, iter, ifs, 0⟩] scope pos) scope X.env _ (newList []) false (eval iter X.env) (some (assign (.Name y py) X.env))) _ _ s
 refine wpAny_bind (wpAny_mono (nW hc hi hcl hcap hcell hkind hnames hg ht hb hs (use := some (assign (.Name y py) X.env)) (QQ := fun _ s' => ∃ σ' H', Inv X pins σ' H' s' /\ D.nx σ' H') I (fun C L s' H' IX f ⟨m, hn⟩ q => ?_) h) (fun _ s' hq => wpAny_pure (wpAny_pure hq)) fun _ _ e => e)
 obtain ⟨o, es, ep, ho, hd, hr⟩ := id hn
 have IP := IX.pinned (fp := [C]) (fun b hb => by rw [List.mem_singleton.mp hb]; exact f) (fun b hb => by rw [List.mem_singleton.mp hb]; exact ⟨o, ho, fun v z => by rw [hd] at z; cases z⟩)
 refine wpAny_mono (wG (pos := py) hN hiN hx hf _ s' σ H' (.ref L) (.ref L) _ IP rfl q) (fun _ s2 ⟨σ2, H2, I2, q2⟩ => ?_) fun _ _ e => e
 have pc := I2.pin (C, o) (List.mem_append_right _ (List.mem_append_right _ (cO (.head _) ho)))
 exact ⟨m, ⟨o, es, ep, pc.1, hd, hr⟩, fun h' hs' => ⟨σ2, H2, (I2.unpinned (pins := pins)).but ⟨pc.2.1, f.2⟩ hs', q2⟩⟩
end
end L2
namespace M
open PySem PySem.Spec PyProof.Rows L2
abbrev D := PyData
inductive Res (α : Type) where
 | ok (a : α)
 | exc (C : Addr)
 | bad
def Res.bind {α β : Type} (r : Res α) (f : α -> Res β) : Res β := match r with
 | .ok a => f a
 | .exc C => .exc C
 | .bad => .bad
def wpR {α : Type} (r : Res α) (Q : α -> Prop) (E : Addr -> Prop) : Prop := match r with
 | .ok a => Q a
 | .exc C => E C
 | .bad => False
theorem a8 {α β : Type} {r : Res α} {f : α -> Res β} {Q : β -> Prop} {E : Addr -> Prop} : wpR (r.bind f) Q E = wpR r (fun a => wpR (f a) Q E) E := by cases r <;> rfl
theorem aU {α : Type} {r : Res α} {Q Q' : α -> Prop} {E E' : Addr -> Prop} (h : wpR r Q E) (hQ : ∀ a, Q a -> Q' a) (hE : ∀ C, E C -> E' C) : wpR r Q' E' := by
 cases r with
 | ok a => exact hQ a h
 | exc C => exact hE C h
 | bad => exact h
inductive L where
 | p (d : D)
 | o (d : D)
 | x (C : Addr)
 | h (a : Addr)
inductive Ev where
 | p (d : D)
 | f (d : D)
 | b (d : D)
 | x (C : Addr)
def Ev.c : Ev -> Ev
 | .f d => .p d
 | r => r
abbrev En := List (Option L)
def kD : Key -> D
 | .inl i => .int i
 | .inr x => .str x
def tkD (ks : List Key) : D := .tuple (ks.map kD)
mutual
inductive Rep (K : PySem.W.Frag) (G : Hp) : V -> D -> Prop
 | non : Rep K G .non .none
 | bl (b : Bool) : Rep K G (.bl b) (.bool b)
 | int (i : Int) : Rep K G (.int i) (.int i)
 | str (x : Str) : Rep K G (.str x) (.str x)
 | tup {a : Addr} {xs : List V} {ds : List D} : G a = some (.tup xs) -> Reps K G xs ds -> Rep K G (.ref a) (.tuple ds)
 | lst {a : Addr} {xs : List V} {ds : List D} : Rd G a (.lst xs) -> Reps K G xs ds -> Rep K G (.ref a) (.list ds)
 | dT {a : Addr} {kv : List (List Key × V)} {kvs : List (D × D)} : G a = some (.dT kv) -> RepT K G kv kvs -> Rep K G (.ref a) (.dict kvs)
 | dK {a : Addr} {kv : List (Key × V)} {kvs : List (D × D)} : G a = some (.dK kv) -> RepK K G kv kvs -> Rep K G (.ref a) (.dict ((.none, .none) :: kvs))
inductive Reps (K : PySem.W.Frag) (G : Hp) : List V -> List D -> Prop
 | nil : Reps K G [] []
 | cons {x : V} {xs : List V} {d : D} {ds : List D} : Rep K G x d -> Reps K G xs ds -> Reps K G (x :: xs) (d :: ds)
inductive RepT (K : PySem.W.Frag) (G : Hp) : List (List Key × V) -> List (D × D) -> Prop
 | nil : RepT K G [] []
 | cons {k : List Key} {x : V} {d : D} {kv : List (List Key × V)} {kvs : List (D × D)} : Rep K G x d -> RepT K G kv kvs -> RepT K G ((k, x) :: kv) ((tkD k, d) :: kvs)
inductive RepK (K : PySem.W.Frag) (G : Hp) : List (Key × V) -> List (D × D) -> Prop
 | nil : RepK K G [] []
 | cons {k : Key} {x : V} {d : D} {kv : List (Key × V)} {kvs : List (D × D)} : Rep K G x d -> RepK K G kv kvs -> RepK K G ((k, x) :: kv) ((kD k, d) :: kvs)
end
inductive Cont (K : PySem.W.Frag) (G : Hp) : HO -> D -> Prop
 | lst {xs : List V} {ds : List D} : Reps K G xs ds -> Cont K G (.lst xs) (.list ds)
 | dT {kv : List (List Key × V)} {kvs : List (D × D)} : RepT K G kv kvs -> Cont K G (.dT kv) (.dict kvs)
 | dK {kv : List (Key × V)} {kvs : List (D × D)} : RepK K G kv kvs -> Cont K G (.dK kv) (.dict ((.none, .none) :: kvs))
section
variable {K : PySem.W.Frag} {G G' H H' : Hp}
theorem jN {a : Addr} {u : HO} (s : Same G G') (h : Rd G a u) : Rd G' a u := by
 rcases h with h | ⟨o, h⟩
 ·exact .inl (s _ _ h)
 ·exact .inr ⟨o, s _ _ h⟩
mutual
theorem Rep.mono (s : Same G G') : ∀ {v : V} {d : D}, Rep K G v d -> Rep K G' v d
 | _, _, .non => .non
 | _, _, .bl b => .bl b
 | _, _, .int i => .int i
 | _, _, .str x => .str x
 | _, _, .tup h r => .tup (s _ _ h) (Reps.mono s r)
 | _, _, .lst h r => .lst (jN s h) (Reps.mono s r)
 | _, _, .dT h r => .dT (s _ _ h) (RepT.mono s r)
 | _, _, .dK h r => .dK (s _ _ h) (RepK.mono s r)
theorem Reps.mono (s : Same G G') : ∀ {v : List V} {d : List D}, Reps K G v d -> Reps K G' v d
 | _, _, .nil => .nil
 | _, _, .cons h r => .cons (Rep.mono s h) (Reps.mono s r)
theorem RepT.mono (s : Same G G') : ∀ {v : List (List Key × V)} {d : List (D × D)}, RepT K G v d -> RepT K G' v d
 | _, _, .nil => .nil
 | _, _, .cons h r => .cons (Rep.mono s h) (RepT.mono s r)
theorem RepK.mono (s : Same G G') : ∀ {v : List (Key × V)} {d : List (D × D)}, RepK K G v d -> RepK K G' v d
 | _, _, .nil => .nil
 | _, _, .cons h r => .cons (Rep.mono s h) (RepK.mono s r)
end
theorem Cont.mono (s : Same G G') {o : HO} {d : D} (h : Cont K G o d) : Cont K G' o d := by
 cases h with
 | lst r => exact .lst (r.mono s)
 | dT r => exact .dT (r.mono s)
 | dK r => exact .dK (r.mono s)
theorem Cont.rep {a : Addr} {o : HO} {d : D} (h : Cont K G o d) (e : G a = some o) : Rep K G (.ref a) d := by
 cases h with
 | lst r => exact .lst (.inl e) r
 | dT r => exact .dT e r
 | dK r => exact .dK e r
theorem Reps.length : ∀ {xs : List V} {ds : List D}, Reps K G xs ds -> xs.length = ds.length
 | _, _, .nil => rfl
 | _, _, .cons _ r => by rw [List.length_cons, List.length_cons, Reps.length r]
theorem Reps.get : ∀ {xs : List V} {ds : List D} {i : Nat} {x : V}, Reps K G xs ds -> xs[i]? = some x -> ∃ d, ds[i]? = some d /\ Rep K G x d
 | _, _, _, _, .nil, e => by simp at e
 | _, _, 0, _, .cons h _, e => by simp at e; subst e; exact ⟨_, rfl, h⟩
 | _, _, i + 1, _, .cons _ r, e => by
  have := Reps.get (i := i) r (by simpa using e)
  simpa using this
theorem Reps.get' : ∀ {xs : List V} {ds : List D} {i : Nat} {d : D}, Reps K G xs ds -> ds[i]? = some d -> ∃ x, xs[i]? = some x /\ Rep K G x d
 | _, _, _, _, .nil, e => by simp at e
 | _, _, 0, _, .cons h _, e => by simp at e; subst e; exact ⟨_, rfl, h⟩
 | _, _, i + 1, _, .cons _ r, e => by
  have := Reps.get' (i := i) r (by simpa using e)
  simpa using this
theorem Reps.append : ∀ {xs ys : List V} {ds es : List D}, Reps K G xs ds -> Reps K G ys es -> Reps K G (xs ++ ys) (ds ++ es)
 | _, _, _, _, .nil, r => r
 | _, _, _, _, .cons h t, r => .cons h (Reps.append t r)
theorem Reps.take : ∀ {xs : List V} {ds : List D} (n : Nat), Reps K G xs ds -> Reps K G (xs.take n) (ds.take n)
 | _, _, 0, _ => .nil
 | _, _, _ + 1, .nil => .nil
 | _, _, n + 1, .cons h t => .cons h (Reps.take n t)
theorem Reps.drop : ∀ {xs : List V} {ds : List D} (n : Nat), Reps K G xs ds -> Reps K G (xs.drop n) (ds.drop n)
 | _, _, 0, r => r
 | _, _, _ + 1, .nil => .nil
 | _, _, n + 1, .cons _ t => Reps.drop n t
end
structure Step (G H G' H' : Hp) : Prop where
 g : Same G G'
 h : Same H H'
 gh : Same G' H'
 new : ∀ b, H b ≠ none -> G b = none -> G' b = none \/ ∃ xs, H b = some (.tup xs)
theorem Step.off {G H G' H' : Hp} (s : Step G H G' H') {b : Addr} {o : HO} (h : H b = some o) (n : ∀ xs, o ≠ .tup xs) (g : G b = none) : G' b = none := by
 rcases s.new b (by rw [h]; exact fun z => nomatch z) g with z | ⟨xs, z⟩
 ·exact z
 ·rw [h] at z; exact absurd (Option.some.inj z) (n xs)
theorem tJ {H H' : Hp} (s : Same H H') {b : Addr} (h : H b ≠ none) : H' b ≠ none := by
 cases e : H b with
 | none => exact absurd e h
 | some o => rw [s b o e]; exact fun z => nomatch z
theorem Step.refl {G H : Hp} (s : Same G H) : Step G H G H := ⟨Same.refl _, Same.refl _, s, fun _ _ h => .inl h⟩
theorem Step.trans {G H G1 H1 G2 H2 : Hp} (a : Step G H G1 H1) (b : Step G1 H1 G2 H2) : Step G H G2 H2 :=
 ⟨a.g.trans b.g, a.h.trans b.h, b.gh, fun c hc hg => by
  rcases a.new c hc hg with z | z
  ·rcases b.new c (tJ a.h hc) z with y | ⟨xs, y⟩
   ·exact .inl y
   ·cases e : H c with
    | none => exact absurd e hc
    | some o =>
     rw [a.h _ _ e] at y
     exact .inr ⟨xs, y⟩
  ·exact .inr z⟩
theorem Step.put {G H : Hp} {a : Addr} {o : HO} (s : Same G H) (e : H a = none) : Step G H (upd G a o) (upd H a o) :=
 ⟨Same.upd (Same.refl _) (s.free e) o, Same.upd (Same.refl _) e o, fun b u q => by
  by_cases z : b = a
  ·subst z; rw [bB] at q ⊢; exact q
  ·rw [a7 z] at q ⊢; exact s b u q, fun b hb hg => by
  have z : b ≠ a := fun z => hb (z ▸ e)
  rw [a7 z]; exact .inl hg⟩
theorem Step.lay {G H : Hp} {a : Addr} {o : HO} (s : Same G H) (e : H a = none) : Step G H G (upd H a o) :=
 ⟨Same.refl _, Same.upd (Same.refl _) e o, Same.upd s e o, fun _ _ h => .inl h⟩
def EOk (K : PySem.W.Frag) (W : Addr -> Option Nat) (Hs G H : Hp) (v : V) : Ev -> Prop
 | .p d => Rep K G v d
 | .f d => ∃ a o, v = .ref a /\ Hs a = none /\ G a = none /\ H a = some o /\ Cont K G o d
 | .b d => ∃ a i o, v = .ref a /\ W a = some i /\ H a = some o /\ Cont K G o d
 | .x C => ∃ e, v = .ref e /\ G e = some (aEq e (.ref C))
theorem EOk.step {K : PySem.W.Frag} {W : Addr -> Option Nat} {Hs Hs' G H G' H' : Hp} {v : V} {r : Ev} (h : EOk K W Hs G H v r.c) (s : Step G H G' H') : EOk K W Hs' G' H' v r.c := by
 cases r with
 | p d => exact Rep.mono s.g h
 | f d => exact Rep.mono s.g h
 | b d =>
  obtain ⟨a, i, o, h1, h2, h3, h4⟩ := h
  exact ⟨a, i, o, h1, h2, s.h _ _ h3, h4.mono s.g⟩
 | x C =>
  obtain ⟨e, h1, h2⟩ := h
  exact ⟨e, h1, s.g _ _ h2⟩
theorem EOk.c {K : PySem.W.Frag} {W : Addr -> Option Nat} {G H G1 H1 : Hp} {v : V} {r : Ev} (s : Step G H G1 H1) (h : EOk K W H G1 H1 v r) : ∃ G2, Step G H G2 H1 /\ EOk K W H G2 H1 v r.c := by
 cases r with
 | p d => exact ⟨G1, s, h⟩
 | b d => exact ⟨G1, s, h⟩
 | x d => exact ⟨G1, s, h⟩
 | f d =>
  obtain ⟨a, o, rfl, h1, h2, h3, h4⟩ := h
  refine ⟨upd G1 a o, ⟨s.g.trans (Same.upd (Same.refl _) h2 o), s.h, fun b u q => ?_, fun b hb hg => ?_⟩, (h4.mono (Same.upd (Same.refl _) h2 o)).rep bB⟩
  ·by_cases z : b = a
   ·subst z; rw [bB] at q; rw [h3]; exact q
   ·rw [a7 z] at q; exact s.gh b u q
  ·have z : b ≠ a := fun z => hb (z ▸ h1)
   rw [a7 z]; exact s.new b hb hg
structure SimH (B G0 G : Hp) (W : Addr -> Option Nat) (H : Hp) : Prop where
 gh : Same G H
 bh : Same B H
 g0 : Same G0 G
 gb : ∀ b, G b ≠ none -> G0 b ≠ none \/ B b = none \/ ∃ xs, B b = some (.tup xs)
 wf : ∀ a i, W a = some i -> G a = none /\ B a = none /\ ∃ o, H a = some o /\ ∀ xs, o ≠ .tup xs
theorem SimH.step {B G0 G H G' H' : Hp} {W : Addr -> Option Nat} (s : SimH B G0 G W H) (t : Step G H G' H') : SimH B G0 G' W H' := by
 refine ⟨t.gh, s.bh.trans t.h, s.g0.trans t.g, fun b hb => ?_, fun a i e => ?_⟩
 ·by_cases z : G b = none
  ·refine .inr ?_
   by_cases y : H b = none
   ·exact .inl (s.bh.free y)
   ·rcases t.new b y z with q | ⟨xs, q⟩
    ·exact absurd q hb
    ·cases e : B b with
     | none => exact .inl rfl
     | some o => rw [s.bh _ _ e] at q; exact .inr ⟨xs, q⟩
  ·exact s.gb b z
 ·obtain ⟨h1, h2, o, h3, h4⟩ := s.wf a i e
  exact ⟨t.off h3 h4 h1, h2, o, t.h _ _ h3, h4⟩
theorem Cont.mut {K : PySem.W.Frag} {G : Hp} {o : HO} {d : D} (h : Cont K G o d) : ∀ xs, o ≠ .tup xs := by
 intro xs z
 subst z
 cases h
def Slot (K : PySem.W.Frag) (W : Addr -> Option Nat) (G H : Hp) (i : Nat) (v : V) : L -> Prop
 | .p d => Rep K G v d
 | .o d => ∃ a o, v = .ref a /\ W a = some i /\ H a = some o /\ Cont K G o d
 | .x C => ∃ e, v = .ref e /\ G e = some (aEq e (.ref C))
 | .h a => v = .ref a
def SimS (K : PySem.W.Frag) (W : Addr -> Option Nat) (G H : Hp) (σ : L2.St) (en : En) : Prop := σ.length = en.length /\ ∀ i l, en[i]? = some (some l) -> ∃ v, σ[i]? = some (some v) /\ Slot K W G H i v l
theorem Slot.step {K : PySem.W.Frag} {W : Addr -> Option Nat} {G H G' H' : Hp} {i : Nat} {v : V} {l : L} (h : Slot K W G H i v l) (s : Step G H G' H') : Slot K W G' H' i v l := by
 cases l with
 | p d => exact Rep.mono s.g h
 | o d =>
  obtain ⟨a, o, h1, h2, h3, h4⟩ := h
  exact ⟨a, o, h1, h2, s.h _ _ h3, h4.mono s.g⟩
 | x C =>
  obtain ⟨e, h1, h2⟩ := h
  exact ⟨e, h1, s.g _ _ h2⟩
 | h a => exact h
theorem SimS.step {K : PySem.W.Frag} {W : Addr -> Option Nat} {G H G' H' : Hp} {σ : L2.St} {en : En} (h : SimS K W G H σ en) (s : Step G H G' H') : SimS K W G' H' σ en :=
 ⟨h.1, fun i l e => let ⟨v, e1, e2⟩ := h.2 i l e; ⟨v, e1, e2.step s⟩⟩
def PostE (K : PySem.W.Frag) (W : Addr -> Option Nat) (G H : Hp) (Q : VK) (r : Ev) : Prop := ∀ G' H' v, Step G H G' H' -> EOk K W H G' H' v r -> Q v H'
def PostB (G H : Hp) (Q : Bool -> Hp -> Prop) (b : Bool) : Prop := ∀ G' H', Step G H G' H' -> Q b H'
def aB5 (K : PySem.W.Frag) (W : Addr -> Option Nat) (Hs G H : Hp) : List V -> List Ev -> Prop
 | [], [] => True
 | v :: vs, r :: rs => EOk K W Hs G H v r /\ aB5 K W Hs G H vs rs
 | _, _ => False
def aAl (K : PySem.W.Frag) (W : Addr -> Option Nat) (G H : Hp) (Q : List V -> Hp -> Prop) (rs : List Ev) : Prop := ∀ G' H' vs, Step G H G' H' -> aB5 K W H G' H' vs rs -> Q vs H'
def PostX (E : XK) (G H : Hp) (C : Addr) : Prop := ∀ G' H', Step G H G' H' -> E (.ref C) none H'
theorem PostE.step {K : PySem.W.Frag} {W : Addr -> Option Nat} {G H G' H' : Hp} {Q : VK} {r : Ev} (h : PostE K W G H Q r) (s : Step G H G' H') : PostE K W G' H' Q r := fun G2 H2 v s2 e => h G2 H2 v (s.trans s2) (by
 cases r with
 | p d => exact e
 | b d => exact e
 | x d => exact e
 | f d =>
  obtain ⟨a, o, h1, h2, h3, h4, h5⟩ := e
  exact ⟨a, o, h1, s.h.free h2, h3, h4, h5⟩)
theorem PostX.step {E : XK} {G H G' H' : Hp} {C : Addr} (h : PostX E G H C) (s : Step G H G' H') : PostX E G' H' C := fun G2 H2 s2 => h G2 H2 (s.trans s2)
theorem PostB.step {G H G' H' : Hp} {Q : Bool -> Hp -> Prop} {b : Bool} (h : PostB G H Q b) (s : Step G H G' H') : PostB G' H' Q b := fun G2 H2 s2 => h G2 H2 (s.trans s2)
def tE (K : PySem.W.Frag) (E : L2.St -> XK) (f : En -> Res Ev) : TE := fun σ H Q => ∃ B G0 G W en, SimH B G0 G W H /\ SimS K W G H σ en /\ wpR (f en) (PostE K W G H Q) (PostX (E σ) G H)
def DE (X : Cx) (E : L2.St -> XK) (e : Expr) (f : En -> Res Ev) : Prop := PE X e (tE X.K E f)
theorem DE.out {X : Cx} {E : L2.St -> XK} {e : Expr} {f : En -> Res Ev} (h : DE X E e f) : ∃ t, PE X e t /\ ∀ B G0 G W H σ en Q, SimH B G0 G W H -> SimS X.K W G H σ en -> wpR (f en) (PostE X.K W G H Q) (PostX (E σ) G H) -> t σ H Q :=
 ⟨_, h, fun B G0 G W H σ en Q h1 h2 h3 => ⟨B, G0, G, W, en, h1, h2, h3⟩⟩
theorem DE.in {X : Cx} {E : L2.St -> XK} {e : Expr} {f : En -> Res Ev} (h : ∃ t, PE X e t /\ ∀ B G0 G W H σ en Q, SimH B G0 G W H -> SimS X.K W G H σ en -> wpR (f en) (PostE X.K W G H Q) (PostX (E σ) G H) -> t σ H Q) : DE X E e f :=
 fun pins s σ H Q I ⟨B, G0, G, W, en, h1, h2, h3⟩ => let ⟨_, p, m⟩ := h; p pins s σ H Q I (m B G0 G W H σ en Q h1 h2 h3)
def tT (K : PySem.W.Frag) (E : L2.St -> XK) (f : En -> Res Bool) : TT := fun σ H Q => ∃ B G0 G W en, SimH B G0 G W H /\ SimS K W G H σ en /\ wpR (f en) (PostB G H Q) (PostX (E σ) G H)
def tA (K : PySem.W.Frag) (E : L2.St -> XK) (f : En -> Res (List Ev)) : TA := fun σ H Q => ∃ B G0 G W en, SimH B G0 G W H /\ SimS K W G H σ en /\ wpR (f en) (aAl K W G H Q) (PostX (E σ) G H)
def DT (X : Cx) (E : L2.St -> XK) (e : Expr) (f : En -> Res Bool) : Prop := PT X e (tT X.K E f)
def DW (X : Cx) (E : L2.St -> XK) (e : Expr) (f : En -> Res Bool) : Prop := PW X e (tT X.K E f)
def DA (X : Cx) (E : L2.St -> XK) (es : List Expr) (f : En -> Res (List Ev)) : Prop := PA X es (tA X.K E f)
section
variable {X : Cx} {E : L2.St -> XK} {e : Expr} {es : List Expr} {f : En -> Res Bool} {fr : En -> Res (List Ev)}
theorem DT.out (h : DT X E e f) : ∃ t, PT X e t /\ ∀ B G0 G W H σ en Q, SimH B G0 G W H -> SimS X.K W G H σ en -> wpR (f en) (PostB G H Q) (PostX (E σ) G H) -> t σ H Q :=
 ⟨_, h, fun B G0 G W H σ en Q h1 h2 h3 => ⟨B, G0, G, W, en, h1, h2, h3⟩⟩
theorem DT.in (h : ∃ t, PT X e t /\ ∀ B G0 G W H σ en Q, SimH B G0 G W H -> SimS X.K W G H σ en -> wpR (f en) (PostB G H Q) (PostX (E σ) G H) -> t σ H Q) : DT X E e f :=
 fun pins s σ H Q I ⟨B, G0, G, W, en, h1, h2, h3⟩ => let ⟨_, p, m⟩ := h; p pins s σ H Q I (m B G0 G W H σ en Q h1 h2 h3)
theorem DW.out (h : DW X E e f) : ∃ t, PW X e t /\ ∀ B G0 G W H σ en Q, SimH B G0 G W H -> SimS X.K W G H σ en -> wpR (f en) (PostB G H Q) (PostX (E σ) G H) -> t σ H Q :=
 ⟨_, h, fun B G0 G W H σ en Q h1 h2 h3 => ⟨B, G0, G, W, en, h1, h2, h3⟩⟩
theorem DW.in (h : ∃ t, PW X e t /\ ∀ B G0 G W H σ en Q, SimH B G0 G W H -> SimS X.K W G H σ en -> wpR (f en) (PostB G H Q) (PostX (E σ) G H) -> t σ H Q) : DW X E e f :=
 fun wh pins s σ H Q I ⟨B, G0, G, W, en, h1, h2, h3⟩ => let ⟨_, p, m⟩ := h; p wh pins s σ H Q I (m B G0 G W H σ en Q h1 h2 h3)
theorem DA.out (h : DA X E es fr) : ∃ t, PA X es t /\ ∀ B G0 G W H σ en Q, SimH B G0 G W H -> SimS X.K W G H σ en -> wpR (fr en) (aAl X.K W G H Q) (PostX (E σ) G H) -> t σ H Q :=
 ⟨_, h, fun B G0 G W H σ en Q h1 h2 h3 => ⟨B, G0, G, W, en, h1, h2, h3⟩⟩
theorem DA.in (h : ∃ t, PA X es t /\ ∀ B G0 G W H σ en Q, SimH B G0 G W H -> SimS X.K W G H σ en -> wpR (fr en) (aAl X.K W G H Q) (PostX (E σ) G H) -> t σ H Q) : DA X E es fr :=
 fun pos pins s σ H Q I ⟨B, G0, G, W, en, h1, h2, h3⟩ => let ⟨_, p, m⟩ := h; p pos pins s σ H Q I (m B G0 G W H σ en Q h1 h2 h3)
end
theorem DW.t {X : Cx} {E : L2.St -> XK} {e : Expr} {f : En -> Res Bool} (h : DW X E e f) : DT X E e f := h _
section
variable {X : Cx} {E : L2.St -> XK} {a b c e : Expr} {es : List Expr} {fa fb : En -> Res Ev} {fr : En -> Res (List Ev)} {pos : Pos}
theorem DE.go {K : PySem.W.Frag} {W : Addr -> Option Nat} {G H : Hp} {EE : XK} {Q : VK} {r : Res Ev} {k : Ev -> Res Ev} {Q' : VK} (hw : wpR (r.bind k) (PostE K W G H Q) (PostX EE G H))
  (h : ∀ (x : Ev) G1 H1 v, Step G H G1 H1 -> EOk K W H G1 H1 v x.c -> wpR (k x) (PostE K W G1 H1 Q) (PostX EE G1 H1) -> Q' v H1) : wpR r (PostE K W G H Q') (PostX EE G H) := by
 rw [a8] at hw
 refine aU hw (fun x hx G1 H1 v s e => ?_) fun C h => h
 obtain ⟨G2, s2, e2⟩ := e.c s
 exact h x G2 H1 v s2 e2 (aU hx (fun r h => h.step s2) fun C h => h.step s2)
theorem DE.goB {K : PySem.W.Frag} {W : Addr -> Option Nat} {G H : Hp} {EE : XK} {Q : Bool -> Hp -> Prop} {r : Res Ev} {k : Ev -> Res Bool} {Q' : VK} (hw : wpR (r.bind k) (PostB G H Q) (PostX EE G H))
  (h : ∀ (x : Ev) G1 H1 v, Step G H G1 H1 -> EOk K W H G1 H1 v x.c -> wpR (k x) (PostB G1 H1 Q) (PostX EE G1 H1) -> Q' v H1) : wpR r (PostE K W G H Q') (PostX EE G H) := by
 rw [a8] at hw
 refine aU hw (fun x hx G1 H1 v s e => ?_) fun C h => h
 obtain ⟨G2, s2, e2⟩ := e.c s
 exact h x G2 H1 v s2 e2 (aU hx (fun r h => h.step s2) fun C h => h.step s2)
def OpM (K : PySem.W.Frag) (r : R2) (op : Ev -> Ev -> Res Ev) : Prop := ∀ (W : Addr -> Option Nat) (G H : Hp) (v u : V) (x y : Ev) (Q : VK), Same G H -> EOk K W H G H v x.c -> EOk K W H G H u y.c -> wpR (op x.c y.c) (PostE K W G H Q) (fun _ => False) -> r v u H Q
def aE (op : Ev -> Ev -> Res Ev) (fa fb : En -> Res Ev) : En -> Res Ev := fun en => (fa en).bind fun x => (fb en).bind fun y => op x.c y.c
def NoX (op : Ev -> Ev -> Res Ev) : Prop := ∀ x y C, op x y ≠ .exc C
theorem noX {α : Type} {r : Res α} {Q : α -> Prop} {E E' : Addr -> Prop} (h : wpR r Q E) (n : ∀ C, r ≠ .exc C) : wpR r Q E' := by
 cases r with
 | ok a => exact h
 | exc C => exact absurd rfl (n C)
 | bad => exact h
theorem lE {ta tb : TE} {r : R2} {op : Ev -> Ev -> Res Ev} (ma : ∀ B G0 G W H σ en Q, SimH B G0 G W H -> SimS X.K W G H σ en -> wpR (fa en) (PostE X.K W G H Q) (PostX (E σ) G H) -> ta σ H Q)
  (mb : ∀ B G0 G W H σ en Q, SimH B G0 G W H -> SimS X.K W G H σ en -> wpR (fb en) (PostE X.K W G H Q) (PostX (E σ) G H) -> tb σ H Q) (hm : OpM X.K r op) (hn : NoX op) :
  ∀ B G0 G W H σ en Q, SimH B G0 G W H -> SimS X.K W G H σ en -> wpR (aE op fa fb en) (PostE X.K W G H Q) (PostX (E σ) G H) -> tOp r ta tb σ H Q := by
 intro B G0 G W H σ en Q hh hs hw
 refine ma B G0 G W H σ en _ hh hs (DE.go hw fun x G1 H1 v s1 e1 h1 => ?_)
 refine mb B G0 G1 W H1 σ en _ (hh.step s1) (hs.step s1) (DE.go h1 fun y G2 H2 u s2 e2 h2 => ?_)
 exact hm W G2 H2 v u x y Q s2.gh (e1.step s2) (by cases y <;> exact e2) (noX h2 (hn _ _))
theorem aN {op : Operator} {r : R2} {f : Ev -> Ev -> Res Ev} (ho : OpR X (binaryOp op) r) (hm : OpM X.K r f) (hn : NoX f) (ha : DE X E a fa) (hb : DE X E b fb) : DE X E (.BinOp a op b pos) (aE f fa fb) := by
 obtain ⟨ta, pa, ma⟩ := ha.out
 obtain ⟨tb, pb, mb⟩ := hb.out
 refine DE.in ?_
 exact ⟨_, aH7 ho pa pb, lE ma mb hm hn⟩
theorem aAo {op : CmpOp} {r : R2} {f : Ev -> Ev -> Res Ev} (ho : OpR X (compareOp op) r) (hm : OpM X.K r f) (hn : NoX f) (ha : DE X E a fa) (hb : DE X E b fb) (hk : behindInMarks op b = false) : DE X E (.Compare a [op] [b] pos) (aE f fa fb) := by
 obtain ⟨ta, pa, ma⟩ := ha.out
 obtain ⟨tb, pb, mb⟩ := hb.out
 refine DE.in ?_
 exact ⟨_, aB3 ho pa pb hk, lE ma mb hm hn⟩
def gM (r : Ev) : Res Bool := match r with
 | .p (.bool b) => .ok b
 | _ => .bad
def cH (f : En -> Res Ev) : En -> Res Bool := fun en => (f en).bind gM
theorem qH {t : TE} (m : ∀ B G0 G W H σ en Q, SimH B G0 G W H -> SimS X.K W G H σ en -> wpR (fa en) (PostE X.K W G H Q) (PostX (E σ) G H) -> t σ H Q) :
  ∀ B G0 G W H σ en Q, SimH B G0 G W H -> SimS X.K W G H σ en -> wpR (cH fa en) (PostB G H Q) (PostX (E σ) G H) -> t σ H fun x H1 => ∃ k, x = .bl k /\ Q k H1 := by
 intro B G0 G W H σ en Q hh hs hw
 refine m B G0 G W H σ en _ hh hs (DE.goB hw fun x G1 H1 v s1 e1 h1 => ?_)
 cases x with
 | p d =>
  cases d with
  | bool k => cases e1; exact ⟨k, rfl, h1 G1 H1 (Step.refl s1.gh)⟩
  | _ => exact False.elim h1
 | _ => exact False.elim h1
theorem bT {op : CmpOp} {r : R2} {f : Ev -> Ev -> Res Ev} (ho : OpR X (compareOp op) r) (hm : OpM X.K r f) (hn : NoX f) (ha : DE X E a fa) (hb : DE X E b fb) (hk : behindInMarks op b = false) : DT X E (.Compare a [op] [b] pos) (cH (aE f fa fb)) := by
 obtain ⟨ta, pa, ma⟩ := ha.out
 obtain ⟨tb, pb, mb⟩ := hb.out
 refine DT.in ?_
 exact ⟨_, aD1 ho pa pb hk, qH (lE ma mb hm hn)⟩
theorem aBc (h : DE X E e fa) (he : ∀ whole, isTrue e X.env whole = (do let v <- whole; standAt e.pos; holding [v] (truthy v)) := by intro _; rfl) : DT X E e (cH fa) := by
 obtain ⟨t, p, m⟩ := h.out
 refine DT.in ?_
 exact ⟨_, aHp p he, qH m⟩
def aI (i : Nat) : En -> Res Ev := fun en => match en[i]? with
 | some (some (.p d)) => .ok (.p d)
 | some (some (.o d)) => .ok (.b d)
 | some (some (.x C)) => .ok (.x C)
 | _ => .bad
theorem aG5 {i : Nat} {x : Str} (hN : X.N[i]? = some x) (hv : Vis X.env.scope x) (hd : (x == ("__debug__" : Str)) = false := by decide) (hcd : (x == ("__classdict__" : Str)) = false := by decide) : DE X E (.Name x pos) (aI i) := by
 refine DE.in ?_
 refine ⟨_, aAp hN hv hd hcd, fun B G0 G W H σ en Q hh hs hw => ?_⟩
 unfold aI at hw
 split at hw
 ·rename_i d e
  obtain ⟨v, e1, e2⟩ := hs.2 i _ e
  exact ⟨v, e1, hw G H v (Step.refl hh.gh) e2⟩
 ·rename_i d e
  obtain ⟨v, e1, a, o, e2, e3, e4, e5⟩ := hs.2 i _ e
  exact ⟨v, e1, hw G H v (Step.refl hh.gh) ⟨a, i, o, e2, e3, e4, e5⟩⟩
 ·rename_i C e
  obtain ⟨v, e1, e2⟩ := hs.2 i _ e
  exact ⟨v, e1, hw G H v (Step.refl hh.gh) e2⟩
 ·exact hw.elim
def mC (d : D) : En -> Res Ev := fun _ => .ok (.p d)
theorem g9 {v : V} {d : D} (h : ∀ G, Rep X.K G v d) : ∀ B G0 G W H σ en Q, SimH B G0 G W H -> SimS X.K W G H σ en -> wpR (mC d en) (PostE X.K W G H Q) (PostX (E σ) G H) -> tC v σ H Q :=
 fun B G0 G W H σ en Q hh hs hw => hw G H v (Step.refl hh.gh) (h G)
theorem aC {i j} : DE X E (.Constant (.int i) j pos) (mC (.int i)) := DE.in ⟨_, aGw, g9 fun _ => .int i⟩
theorem aI7 {b j} : DE X E (.Constant (.bool b) j pos) (mC (.bool b)) := DE.in ⟨_, aJk, g9 fun _ => .bl b⟩
theorem cJ {x j} : DE X E (.Constant (.str x) j pos) (mC (.str x)) := DE.in ⟨_, aFm, g9 fun _ => .str x⟩
variable {ga gb : En -> Res Bool} {rest : List Expr}
def sW (f g : En -> Res Bool) : En -> Res Bool := fun en => (f en).bind fun c => if c = true then g en else .ok false
def mOr (f g : En -> Res Bool) : En -> Res Bool := fun en => (f en).bind fun c => if c = true then .ok true else g en
def aCj (f : En -> Res Bool) : En -> Res Bool := fun en => (f en).bind fun c => .ok (!c)
theorem uX (ha : DT X E a ga) : DW X E (.BoolOp .And [a] pos) ga := let ⟨t, p, m⟩ := ha.out; DW.in ⟨t, aDw p, m⟩
theorem aBj (ha : DT X E a ga) : DW X E (.BoolOp .Or [a] pos) ga := let ⟨t, p, m⟩ := ha.out; DW.in ⟨t, aHr p, m⟩
theorem aA6 (ha : DT X E a ga) (hb : DW X E (.BoolOp .And (b :: rest) pos) gb) : DW X E (.BoolOp .And (a :: b :: rest) pos) (sW ga gb) := by
 obtain ⟨ta, pa, ma⟩ := ha.out
 obtain ⟨tb, pb, mb⟩ := hb.out
 refine DW.in ?_
 refine ⟨_, aFp pa pb, fun B G0 G W H σ en Q hh hs hw => ma B G0 G W H σ en _ hh hs ?_⟩
 have hw : wpR ((ga en).bind _) _ _ := hw
 rw [a8] at hw
 refine aU hw (fun c hc G1 H1 s => ?_) fun C h => h
 cases c with
 | true => exact mb B G0 G1 W H1 σ en Q (hh.step s) (hs.step s) (aU hc (fun _ h => h.step s) fun _ h => h.step s)
 | false => exact hc G1 H1 s
theorem aFr (ha : DT X E a ga) (hb : DW X E (.BoolOp .Or (b :: rest) pos) gb) : DW X E (.BoolOp .Or (a :: b :: rest) pos) (mOr ga gb) := by
 obtain ⟨ta, pa, ma⟩ := ha.out
 obtain ⟨tb, pb, mb⟩ := hb.out
 refine DW.in ?_
 refine ⟨_, aI6 pa pb, fun B G0 G W H σ en Q hh hs hw => ma B G0 G W H σ en _ hh hs ?_⟩
 have hw : wpR ((ga en).bind _) _ _ := hw
 rw [a8] at hw
 refine aU hw (fun c hc G1 H1 s => ?_) fun C h => h
 cases c with
 | false => exact mb B G0 G1 W H1 σ en Q (hh.step s) (hs.step s) (aU hc (fun _ h => h.step s) fun _ h => h.step s)
 | true => exact hc G1 H1 s
theorem aFn (ha : DT X E a ga) : DT X E (.UnaryOp .Not a pos) (aCj ga) := by
 obtain ⟨ta, pa, ma⟩ := ha.out
 refine DT.in ?_
 refine ⟨_, aEz pa, fun B G0 G W H σ en Q hh hs hw => ma B G0 G W H σ en _ hh hs ?_⟩
 have hw : wpR ((ga en).bind _) _ _ := hw
 rw [a8] at hw
 exact aU hw (fun c hc => hc) fun C h => h
def wA (f g : En -> Res Ev) : En -> Res Ev := fun en => (f en).bind fun c => match c with
 | .p (.bool true) => g en
 | .p (.bool false) => .ok (.p (.bool false))
 | _ => .bad
def aIg (f g : En -> Res Ev) : En -> Res Ev := fun en => (f en).bind fun c => match c with
 | .p (.bool false) => g en
 | .p (.bool true) => .ok (.p (.bool true))
 | _ => .bad
def w8 (f : En -> Res Ev) : En -> Res Ev := fun en => (f en).bind fun c => match c with
 | .p (.bool k) => .ok (.p (.bool (!k)))
 | _ => .bad
theorem aEy {op} (h : DE X E a fa) : DE X E (.BoolOp op [a] pos) fa := let ⟨t, p, m⟩ := h.out; DE.in ⟨t, aHw p, m⟩
theorem aGp (ha : DE X E a fa) (hb : DE X E (.BoolOp .And (b :: rest) pos) fb) : DE X E (.BoolOp .And (a :: b :: rest) pos) (wA fa fb) := by
 obtain ⟨ta, pa, ma⟩ := ha.out
 obtain ⟨tb, pb, mb⟩ := hb.out
 refine DE.in ?_
 refine ⟨_, aGd pa pb, fun B G0 G W H σ en Q hh hs hw => ma B G0 G W H σ en _ hh hs (DE.go hw fun x G1 H1 v s1 e1 h1 => ?_)⟩
 cases x with
 | p d =>
  cases d with
  | bool k =>
   cases e1
   cases k with
   | true => exact ⟨true, rfl, mb B G0 G1 W H1 σ en Q (hh.step s1) (hs.step s1) h1⟩
   | false => exact ⟨false, rfl, h1 G1 H1 _ (Step.refl s1.gh) (.bl false)⟩
  | _ => exact False.elim h1
 | _ => exact False.elim h1
theorem aFc (ha : DE X E a fa) : DE X E (.UnaryOp .Not a pos) (w8 fa) := by
 obtain ⟨ta, pa, ma⟩ := ha.out
 refine DE.in ?_
 refine ⟨_, aGi pa, fun B G0 G W H σ en Q hh hs hw => ma B G0 G W H σ en _ hh hs (DE.go hw fun x G1 H1 v s1 e1 h1 => ?_)⟩
 cases x with
 | p d =>
  cases d with
  | bool k =>
   cases e1
   exact ⟨k, rfl, h1 G1 H1 _ (Step.refl s1.gh) (.bl _)⟩
  | _ => exact False.elim h1
 | _ => exact False.elim h1
def aW : En -> Res (List Ev) := fun _ => .ok []
def aD (f : En -> Res Ev) (g : En -> Res (List Ev)) : En -> Res (List Ev) := fun en => (f en).bind fun x => (g en).bind fun xs => .ok (x.c :: xs)
theorem aK : DA X E [] aW := DA.in ⟨_, jW, fun B G0 G W H σ en Q hh hs hw => hw G H [] (Step.refl hh.gh) trivial⟩
theorem aB (ha : DE X E e fa) (hr : DA X E es fr) (hst : starEach (e :: es) X.env = (false, eval e X.env) :: starEach es X.env := by rfl) : DA X E (e :: es) (aD fa fr) := by
 obtain ⟨ta, pa, ma⟩ := ha.out
 obtain ⟨tr, pr, mr⟩ := hr.out
 refine DA.in ?_
 refine ⟨_, fF pa pr hst, fun B G0 G W H σ en Q hh hs hw => ma B G0 G W H σ en _ hh hs ?_⟩
 have hw : wpR ((fa en).bind _) _ _ := hw
 rw [a8] at hw
 refine aU hw (fun x hx G1 H1 v s e1 => ?_) fun C h => h
 obtain ⟨G2, s2, e2⟩ := e1.c s
 refine mr B G0 G2 W H1 σ en _ (hh.step s2) (hs.step s2) ?_
 rw [a8] at hx
 refine aU hx (fun xs hxs G3 H3 vs s3 e3 => ?_) fun C h => h.step s2
 refine hxs G3 H3 (v :: vs) (s2.trans s3) ⟨e2.step s3, ?_⟩
 clear hxs hx hw
 induction xs generalizing vs with
 | nil => cases vs <;> exact e3
 | cons y ys ih =>
  cases vs with
  | nil => exact e3
  | cons u us =>
   refine ⟨?_, ih us e3.2⟩
   have z := e3.1
   cases y with
   | p d => exact z
   | b d => exact z
   | x d => exact z
   | f d =>
    obtain ⟨a, o, h1, h2, h3⟩ := z
    exact ⟨a, o, h1, s2.h.free h2, h3⟩
end
inductive Out where
 | nx (en : En)
 | rt (l : L)
 | bk (en : En)
 | ct (en : En)
 | ex (C : Addr) (en : En)
abbrev MS := En -> Option Out
def aCz (K : PySem.W.Frag) (B G H : Hp) (v : V) : L -> Prop
 | .p d => Rep K G v d
 | .o d => ∃ a o, v = .ref a /\ G a = none /\ B a = none /\ H a = some o /\ Cont K G o d
 | .x C => ∃ e, v = .ref e /\ G e = some (aEq e (.ref C))
 | .h _ => False
def PostS (K : PySem.W.Frag) (B G0 : Hp) (E : L2.St -> XK) (Dn : Ends) : Out -> Prop
 | .nx en => ∀ G W H σ, SimH B G0 G W H -> SimS K W G H σ en -> Dn.nx σ H
 | .bk en => ∀ G W H σ, SimH B G0 G W H -> SimS K W G H σ en -> Dn.bk σ H
 | .ct en => ∀ G W H σ, SimH B G0 G W H -> SimS K W G H σ en -> Dn.ct σ H
 | .rt l => ∀ G W H v, SimH B G0 G W H -> aCz K B G H v l -> Dn.rt v H
 | .ex C en => ∀ G W H σ, SimH B G0 G W H -> SimS K W G H σ en -> E σ (.ref C) none H
def wpO (o : Option Out) (P : Out -> Prop) : Prop := match o with
 | some r => P r
 | none => False
def tS (K : PySem.W.Frag) (E : L2.St -> XK) (f : MS) : TS := fun Dn σ H => ∃ B G0 G W en, SimH B G0 G W H /\ SimS K W G H σ en /\ wpO (f en) (PostS K B G0 E Dn)
def DS (X : Cx) (E : L2.St -> XK) (st : Stmt) (f : MS) : Prop := PS X st (tS X.K E f)
def DSs (X : Cx) (E : L2.St -> XK) (st : List Stmt) (f : MS) : Prop := PSs X st (tS X.K E f)
section
variable {X : Cx} {E : L2.St -> XK} {st : Stmt} {sts : List Stmt} {f g : MS} {fe : En -> Res Ev} {fc : En -> Res Bool} {e c : Expr} {pos : Pos}
theorem DS.in (h : ∃ t, PS X st t /\ ∀ B G0 G W H σ en Dn, SimH B G0 G W H -> SimS X.K W G H σ en -> wpO (f en) (PostS X.K B G0 E Dn) -> t Dn σ H) : DS X E st f :=
 fun pins s σ H Dn I ⟨B, G0, G, W, en, h1, h2, h3⟩ => let ⟨_, p, m⟩ := h; p pins s σ H Dn I (m B G0 G W H σ en Dn h1 h2 h3)
theorem DSs.in (h : ∃ t, PSs X sts t /\ ∀ B G0 G W H σ en Dn, SimH B G0 G W H -> SimS X.K W G H σ en -> wpO (f en) (PostS X.K B G0 E Dn) -> t Dn σ H) : DSs X E sts f :=
 fun pins s σ H Dn I ⟨B, G0, G, W, en, h1, h2, h3⟩ => let ⟨_, p, m⟩ := h; p pins s σ H Dn I (m B G0 G W H σ en Dn h1 h2 h3)
theorem DS.out (h : DS X E st f) : ∃ t, PS X st t /\ ∀ B G0 G W H σ en Dn, SimH B G0 G W H -> SimS X.K W G H σ en -> wpO (f en) (PostS X.K B G0 E Dn) -> t Dn σ H :=
 ⟨_, h, fun B G0 G W H σ en Dn h1 h2 h3 => ⟨B, G0, G, W, en, h1, h2, h3⟩⟩
theorem DSs.out (h : DSs X E sts f) : ∃ t, PSs X sts t /\ ∀ B G0 G W H σ en Dn, SimH B G0 G W H -> SimS X.K W G H σ en -> wpO (f en) (PostS X.K B G0 E Dn) -> t Dn σ H :=
 ⟨_, h, fun B G0 G W H σ en Dn h1 h2 h3 => ⟨B, G0, G, W, en, h1, h2, h3⟩⟩
def cU : MS := fun en => some (.nx en)
def b8 (f g : MS) : MS := fun en => match f en with
 | some (.nx e) => g e
 | r => r
theorem bL : DSs X E [] cU := DSs.in ⟨_, aEf, fun B G0 G W H σ en Dn hh hs hw => hw G W H σ hh hs⟩
theorem aO (h : DS X E st f) : DSs X E [st] f := let ⟨t, p, m⟩ := h.out; DSs.in ⟨t, aC5 p, m⟩
theorem aH (h1 : DS X E st f) (h2 : DSs X E sts g) : DSs X E (st :: sts) (b8 f g) := by
 obtain ⟨t, p, m⟩ := h1.out
 obtain ⟨u, q, n⟩ := h2.out
 refine DSs.in ⟨_, zD p q, fun B G0 G W H σ en Dn hh hs hw => m B G0 G W H σ en _ hh hs ?_⟩
 unfold b8 at hw
 cases ef : f en with
 | none => rw [ef] at hw; exact hw
 | some r =>
  rw [ef] at hw
  cases r with
  | nx e => exact fun G1 W1 H1 σ1 hh1 hs1 => n B G0 G1 W1 H1 σ1 e Dn hh1 hs1 hw
  | rt l => exact hw
  | bk e => exact hw
  | ct e => exact hw
  | ex C e => exact hw
theorem SimS.set {K : PySem.W.Frag} {W : Addr -> Option Nat} {G H : Hp} {σ : L2.St} {en : En} {i : Nat} {v : V} {l : L} (h : SimS K W G H σ en) (hl : Slot K W G H i v l) : SimS K W G H (σ.set i (some v)) (en.set i (some l)) := by
 refine ⟨by rw [List.length_set, List.length_set]; exact h.1, fun j m e => ?_⟩
 rw [List.getElem?_set] at e
 rw [List.getElem?_set]
 by_cases hj : i = j
 ·subst hj
  rw [if_pos rfl] at e
  split at e
  ·rename_i hlt
   cases e
   rw [if_pos rfl, if_pos (by rw [h.1]; exact hlt)]
   exact ⟨v, rfl, hl⟩
  ·cases e
 ·rw [if_neg hj] at e ⊢
  exact h.2 j m e
def owner (W : Addr -> Option Nat) (a : Addr) (i : Nat) : Addr -> Option Nat := fun b => if b = a then some i else W b
theorem aAb {K : PySem.W.Frag} {B G0 G H : Hp} {W : Addr -> Option Nat} {σ : L2.St} {en : En} {i : Nat} {a : Addr} {o : HO} {d : D} (hh : SimH B G0 G W H) (hs : SimS K W G H σ en) (hW : W a = none) (hG : G a = none) (hB : B a = none) (hH : H a = some o) (hc : Cont K G o d) :
  SimH B G0 G (owner W a i) H /\ SimS K (owner W a i) G H (σ.set i (some (.ref a))) (en.set i (some (.o d))) := by
 refine ⟨⟨hh.gh, hh.bh, hh.g0, hh.gb, fun b j e => ?_⟩, SimS.set ⟨hs.1, fun j l e => ?_⟩ ⟨a, o, rfl, if_pos rfl, hH, hc⟩⟩
 ·unfold owner at e
  split at e
  ·rename_i z
   subst z
   exact ⟨hG, hB, o, hH, hc.mut⟩
  ·exact hh.wf b j e
 ·obtain ⟨v, e1, e2⟩ := hs.2 j l e
  refine ⟨v, e1, ?_⟩
  cases l with
  | p d => exact e2
  | x C => exact e2
  | h a => exact e2
  | o d =>
   obtain ⟨b, ob, h1, h2, h3, h4⟩ := e2
   refine ⟨b, ob, h1, ?_, h3, h4⟩
   unfold owner
   rw [if_neg (fun z => by rw [z, hW] at h2; cases h2)]
   exact h2
def eE (i : Nat) (fe : En -> Res Ev) : MS := fun en => match fe en with
 | .ok (.p d) => some (.nx (en.set i (some (.p d))))
 | .ok (.f d) => some (.nx (en.set i (some (.o d))))
 | .ok (.x C) => some (.nx (en.set i (some (.x C))))
 | .ok (.b _) => none
 | .exc C => some (.ex C en)
 | .bad => none
theorem SimH.lone {B G0 G H : Hp} {W : Addr -> Option Nat} (hh : SimH B G0 G W H) {a : Addr} (h : H a = none) : W a = none := by
 cases e : W a with
 | none => rfl
 | some i =>
  obtain ⟨_, _, o, q, _⟩ := hh.wf a i e
  rw [h] at q; cases q
theorem rO {te : TE} {i : Nat} (m : ∀ B G0 G W H σ en Q, SimH B G0 G W H -> SimS X.K W G H σ en -> wpR (fe en) (PostE X.K W G H Q) (PostX (E σ) G H) -> te σ H Q) :
  ∀ B G0 G W H σ en Dn, SimH B G0 G W H -> SimS X.K W G H σ en -> wpO (eE i fe en) (PostS X.K B G0 E Dn) -> te σ H fun x H1 => Dn.nx (σ.set i (some x)) H1 := by
 intro B G0 G W H σ en Dn hh hs hw
 refine m B G0 G W H σ en _ hh hs ?_
 unfold eE at hw
 cases ef : fe en with
 | bad => rw [ef] at hw; exact hw
 | exc C => rw [ef] at hw; exact fun G1 H1 s => hw G1 W H1 σ (hh.step s) (hs.step s)
 | ok r =>
  rw [ef] at hw
  cases r with
  | b d => exact hw.elim
  | p d => exact fun G1 H1 v s e => hw G1 W H1 _ (hh.step s) ((hs.step s).set e)
  | x C => exact fun G1 H1 v s e => hw G1 W H1 _ (hh.step s) ((hs.step s).set e)
  | f d =>
   rintro G1 H1 v s ⟨a, o, rfl, h1, h2, h3, h4⟩
   obtain ⟨q1, q2⟩ := aAb (i := i) (hh.step s) (hs.step s) (hh.lone h1) h2 (hh.bh.free h1) h3 h4
   exact hw G1 _ H1 _ q1 q2
theorem bM {i : Nat} {x : Str} {pos' : Pos} (hN : X.N.Nodup) (hi : X.N[i]? = some x) (hx : Loc X.env.scope x) (he : DE X E e fe) (hs : swapsWith e (some (.Name x pos')) pos.line X.env = pure false := by rfl) (hf : X.fn x = true \/ X.env.scope.names.lookup x = some .local := by first | exact .inl rfl | exact .inr rfl | assumption) :
  DS X E (.Assign [.Name x pos'] e pos) (eE i fe) := by
 obtain ⟨t, p, m⟩ := he.out
 exact DS.in ⟨_, aFu hN hi hx p hs hf, rO m⟩
def aE1 : Ev -> L
 | .p d => .p d
 | .f d => .o d
 | .b d => .o d
 | .x C => .x C
def dI (fe : En -> Res Ev) : MS := fun en => match fe en with
 | .ok r => some (.rt (aE1 r))
 | .exc C => some (.ex C en)
 | .bad => none
theorem bA (he : DE X E e fe) : DS X E (.Return (some e) pos) (dI fe) := by
 obtain ⟨t, p, m⟩ := he.out
 refine DS.in ⟨_, aFs p, fun B G0 G W H σ en Dn hh hs hw => m B G0 G W H σ en _ hh hs ?_⟩
 unfold dI at hw
 cases ef : fe en with
 | bad => rw [ef] at hw; exact hw
 | exc C => rw [ef] at hw; exact fun G1 H1 s => hw G1 W H1 σ (hh.step s) (hs.step s)
 | ok r =>
  rw [ef] at hw
  intro G1 H1 v s e
  refine hw G1 W H1 v (hh.step s) ?_
  cases r with
  | p d => exact e
  | x C => exact e
  | f d =>
   obtain ⟨a, o, h0, h1, h2, h3, h4⟩ := e
   exact ⟨a, o, h0, h2, hh.bh.free h1, h3, h4⟩
  | b d =>
   obtain ⟨a, i, o, h0, h1, h3, h4⟩ := e
   have z := (hh.step s).wf a i h1
   exact ⟨a, o, h0, z.1, z.2.1, h3, h4⟩
def fR (c : En -> Res Bool) (f g : MS) : MS := fun en => match c en with
 | .ok k => if k = true then f en else g en
 | .exc C => some (.ex C en)
 | .bad => none
theorem eN {A B : List Stmt} (hc : DT X E c fc) (ha : DSs X E A f) (hb : DSs X E B g) : DS X E (.If c A B pos) (fR fc f g) := by
 obtain ⟨tc, pc, mc⟩ := hc.out
 obtain ⟨t, p, m⟩ := ha.out
 obtain ⟨u, q, n⟩ := hb.out
 refine DS.in ⟨_, aIz pc p q, fun B G0 G W H σ en Dn hh hs hw => mc B G0 G W H σ en _ hh hs ?_⟩
 unfold fR at hw
 cases ef : fc en with
 | bad => rw [ef] at hw; exact hw
 | exc C => rw [ef] at hw; exact fun G1 H1 s => hw G1 W H1 σ (hh.step s) (hs.step s)
 | ok k =>
  rw [ef] at hw
  intro G1 H1 s
  cases k with
  | true => exact m B G0 G1 W H1 σ en Dn (hh.step s) (hs.step s) hw
  | false => exact n B G0 G1 W H1 σ en Dn (hh.step s) (hs.step s) hw
def frz (i : Nat) (en : En) : En := match en[i]? with
 | some (some (.o d)) => en.set i (some (.p d))
 | _ => en
theorem aE0 {K : PySem.W.Frag} {B G0 G H : Hp} {W : Addr -> Option Nat} {σ : L2.St} {en : En} (i : Nat) (hh : SimH B G0 G W H) (hs : SimS K W G H σ en) : ∃ G' W', SimH B G0 G' W' H /\ SimS K W' G' H σ (frz i en) := by
 unfold frz
 split
 ·rename_i d e
  obtain ⟨v, e1, a, o, rfl, e2, e3, e4⟩ := hs.2 i _ e
  obtain ⟨w1, w2, w3⟩ := hh.wf a i e2
  have sg : Same G (upd G a o) := Same.upd (Same.refl _) w1 o
  refine ⟨upd G a o, fun b => if b = a then none else W b, ⟨fun b u q => ?_, hh.bh, hh.g0.trans sg, fun b hb => ?_, fun b j e => ?_⟩, by rw [List.length_set]; exact hs.1, fun j l e5 => ?_⟩
  ·by_cases z : b = a
   ·subst z; rw [bB] at q; rw [e3]; exact q
   ·rw [a7 z] at q; exact hh.gh b u q
  ·by_cases z : b = a
   ·subst z; exact .inr (.inl w2)
   ·rw [a7 z] at hb; exact hh.gb b hb
  ·split at e
   ·cases e
   ·rename_i z
    rw [a7 z]; exact hh.wf b j e
  ·rw [List.getElem?_set] at e5
   by_cases hj : i = j
   ·subst hj
    rw [if_pos rfl] at e5
    split at e5
    ·cases e5
     exact ⟨_, e1, (e4.mono sg).rep bB⟩
    ·cases e5
   ·rw [if_neg hj] at e5
    obtain ⟨v, f1, f2⟩ := hs.2 j l e5
    refine ⟨v, f1, ?_⟩
    cases l with
    | p d => exact f2.mono sg
    | x C => obtain ⟨ea, g1, g2⟩ := f2; exact ⟨ea, g1, sg _ _ g2⟩
    | h a => exact f2
    | o d =>
     obtain ⟨b, ob, g1, g2, g3, g4⟩ := f2
     refine ⟨b, ob, g1, ?_, g3, g4.mono sg⟩
     show (if b = a then none else W b) = some j
     rw [if_neg (fun z => by rw [z, e2] at g2; exact hj (Option.some.inj g2))]
     exact g2
 ·exact ⟨G, W, hh, hs⟩
theorem eV (i : Nat) (h : DSs X E sts f) : DSs X E sts (fun en => f (frz i en)) := by
 obtain ⟨t, p, m⟩ := h.out
 refine DSs.in ⟨t, p, fun B G0 G W H σ en Dn hh hs hw => ?_⟩
 obtain ⟨G', W', h1, h2⟩ := aE0 i hh hs
 exact m B G0 G' W' H σ _ Dn h1 h2 hw
end
def mWh (c : En -> Res Bool) (f : MS) : Nat -> MS
 | 0, _ => none
 | n + 1, en => match c en with
  | .bad => none
  | .exc C => some (.ex C en)
  | .ok false => some (.nx en)
  | .ok true => match f en with
   | some (.nx e) => mWh c f n e
   | some (.ct e) => mWh c f n e
   | some (.bk e) => some (.nx e)
   | r => r
theorem mO {c : En -> Res Bool} {f : MS} : ∀ {n : Nat} {en : En} {r : Out}, mWh c f n en = some r -> mWh c f (n + 1) en = some r
 | 0, _, _, h => by cases h
 | n + 1, en, r, h => by
  unfold mWh at h ⊢
  cases ec : c en with
  | bad => rw [ec] at h; exact h
  | exc C => rw [ec] at h; exact h
  | ok k =>
   rw [ec] at h
   cases k with
   | false => exact h
   | true =>
    dsimp only at h ⊢
    cases ef : f en with
    | none => rw [ef] at h; exact h
    | some o =>
     rw [ef] at h
     cases o with
     | nx e => exact mO (n := n) h
     | ct e => exact mO (n := n) h
     | bk e => exact h
     | rt l => exact h
     | ex C e => exact h
theorem aA4 {c : En -> Res Bool} {f : MS} {n m : Nat} {en : En} {r : Out} (h : mWh c f n en = some r) (l : n <= m) : mWh c f m en = some r := by
 induction l with
 | refl => exact h
 | step _ ih => exact mO ih
open Classical in
noncomputable def kG (c : En -> Res Bool) (f : MS) : MS := fun en => if h : ∃ n r, mWh c f n en = some r then mWh c f h.choose en else none
theorem vJ {c : En -> Res Bool} {f : MS} {n : Nat} {en : En} {r : Out} (h : mWh c f n en = some r) : kG c f en = some r := by
 unfold kG
 have hx : ∃ n r, mWh c f n en = some r := ⟨n, r, h⟩
 rw [dif_pos hx]
 obtain ⟨r', h'⟩ := hx.choose_spec
 rcases Nat.le_total n hx.choose with l | l
 ·exact aA4 h l
 ·have := aA4 h' l
  rw [h] at this
  rw [h']; exact this.symm
theorem oR {c : En -> Res Bool} {f : MS} {en : En} {P : Out -> Prop} (h : wpO (kG c f en) P) : ∃ n, wpO (mWh c f n en) P := by
 unfold kG at h
 split at h
 ·exact ⟨_, h⟩
 ·exact h.elim
section
variable {X : Cx} {E : L2.St -> XK} {st : Stmt} {sts : List Stmt} {f g : MS} {fe : En -> Res Ev} {fc : En -> Res Bool} {e c : Expr} {pos : Pos}
theorem zY (hp : PassesOwn (model X.prog X.w) X.A X.env X.xe) (hc : DT X E c fc) (hb : DSs X E sts f) : DS X E (.While c sts [] pos) (kG fc f) := by
 obtain ⟨tc, pc, mc⟩ := hc.out
 obtain ⟨t, p, m⟩ := hb.out
 refine DS.in ⟨_, yP hp pc p, fun B G0 G W H σ en Dn hh hs hw => ?_⟩
 obtain ⟨n0, hw⟩ := oR hw
 refine ⟨fun n σ H => ∃ G W en, SimH B G0 G W H /\ SimS X.K W G H σ en /\ wpO (mWh fc f n en) (PostS X.K B G0 E Dn), ⟨n0, G, W, en, hh, hs, hw⟩, ?_⟩
 rintro n σ H ⟨G, W, en, hh, hs, hw⟩
 cases n with
 | zero => exact hw.elim
 | succ n =>
  refine mc B G0 G W H σ en _ hh hs ?_
  unfold mWh at hw
  cases ec : fc en with
  | bad => rw [ec] at hw; exact hw
  | exc C => rw [ec] at hw; exact fun G1 H1 s => hw G1 W H1 σ (hh.step s) (hs.step s)
  | ok k =>
   rw [ec] at hw
   intro G1 H1 s
   cases k with
   | false => exact hw G1 W H1 σ (hh.step s) (hs.step s)
   | true =>
    refine ⟨fun σ' H' => ∃ G W en, SimH B G0 G W H' /\ SimS X.K W G H' σ' en /\ wpO (mWh fc f n en) (PostS X.K B G0 E Dn), fun σ' H' q => ⟨n, Nat.lt_succ_self n, q⟩, ?_⟩
    refine m B G0 G1 W H1 σ en _ (hh.step s) (hs.step s) ?_
    dsimp only at hw
    cases ef : f en with
    | none => rw [ef] at hw; exact hw
    | some o =>
     rw [ef] at hw
     cases o with
     | nx e => exact fun G2 W2 H2 σ2 h2 s2 => ⟨G2, W2, e, h2, s2, hw⟩
     | ct e => exact fun G2 W2 H2 σ2 h2 s2 => ⟨G2, W2, e, h2, s2, hw⟩
     | bk e => exact hw
     | rt l => exact hw
     | ex C e => exact hw
end
def tO (K : PySem.W.Frag) (ds : List D) (G1 : Hp) (J : It) : Prop := ∀ G H, Same G1 G -> Same G H ->
 (∀ i d, ds[i]? = some d -> J.go i H /\ ∀ v H', J.yld i H v H' -> ∃ G', Step G H G' H' /\ Rep K G' v d) /\ J.stop ds.length H
def tI (K : PySem.W.Frag) (E : L2.St -> XK) (f : En -> Res (List D)) : TI := fun σ H R => ∃ B G0 G W en, SimH B G0 G W H /\ SimS K W G H σ en /\ wpR (f en) (fun ds => ∀ G' H' J, Step G H G' H' -> tO K ds G' J -> R J H') (PostX (E σ) G H)
def DI (X : Cx) (E : L2.St -> XK) (tg e : Expr) (f : En -> Res (List D)) : Prop := PI X tg e (tI X.K E f)
def Kept (ks : List Nat) (σ σ' : L2.St) : Prop := σ'.length = σ.length /\ ∀ j, j ∉ ks -> σ'[j]? = σ[j]?
def tG (K : PySem.W.Frag) (ks : List Nat) (f : D -> En -> Option En) : TG := fun v σ H Q => ∃ G W en d en', Same G H /\ SimS K W G H σ en /\ Rep K G v d /\ f d en = some en' /\ ∀ σ', SimS K W G H σ' en' -> Kept ks σ σ' -> Q σ' H
def tGs (K : PySem.W.Frag) (ks : List Nat) (f : List D -> En -> Option En) : TGs := fun vs σ H Q => ∃ G W en ds en', Same G H /\ SimS K W G H σ en /\ Reps K G vs ds /\ f ds en = some en' /\ ∀ σ', SimS K W G H σ' en' -> Kept ks σ σ' -> Q σ' H
def DG (X : Cx) (tg : Expr) (ks : List Nat) (f : D -> En -> Option En) : Prop := PG X tg (tG X.K ks f)
def DGs (X : Cx) (tg : List Expr) (ks : List Nat) (f : List D -> En -> Option En) : Prop := PGs X tg (tGs X.K ks f)
theorem Kept.trans {ks ls : List Nat} {σ σ1 σ2 : L2.St} (a : Kept ks σ σ1) (b : Kept ls σ1 σ2) : Kept (ks ++ ls) σ σ2 :=
 ⟨b.1.trans a.1, fun j hj => (b.2 j fun z => hj (List.mem_append_right _ z)).trans (a.2 j fun z => hj (List.mem_append_left _ z))⟩
def bE (i : Nat) : D -> En -> Option En := fun d en => some (en.set i (some (.p d)))
def zH : List D -> En -> Option En := fun ds en => match ds with
 | [] => some en
 | _ => none
def kO (f : D -> En -> Option En) (g : List D -> En -> Option En) : List D -> En -> Option En := fun ds en => match ds with
 | [] => none
 | d :: r => match f d en with
  | none => none
  | some e => g r e
def zC (n : Nat) (f : List D -> En -> Option En) : D -> En -> Option En := fun d en => match d with
 | .tuple ds => if ds.length = n then f ds en else none
 | _ => none
section
variable {X : Cx} {E : L2.St -> XK} {pos : Pos}
theorem DI.in {tg e : Expr} {f : En -> Res (List D)} (h : ∃ t, PI X tg e t /\ ∀ B G0 G W H σ en R, SimH B G0 G W H -> SimS X.K W G H σ en -> wpR (f en) (fun ds => ∀ G' H' J, Step G H G' H' -> tO X.K ds G' J -> R J H') (PostX (E σ) G H) -> t σ H R) : DI X E tg e f :=
 fun pins s σ H R I ⟨B, G0, G, W, en, h1, h2, h3⟩ => let ⟨_, p, m⟩ := h; p pins s σ H R I (m B G0 G W H σ en R h1 h2 h3)
theorem cG {i : Nat} {x : Str} (hN : X.N.Nodup) (hi : X.N[i]? = some x) (hx : Loc X.env.scope x) (hf : X.fn x = true \/ X.env.scope.names.lookup x = some .local := by first | exact .inl rfl | exact .inr rfl | assumption) : DG X (.Name x pos) [i] (bE i) := by
 intro pins s σ H v u Q I r ⟨G, W, en, d, en', h1, h2, h3, h4, h5⟩
 refine wG hN hi hx hf pins s σ H v u Q I r ?_
 cases h4
 exact h5 _ (h2.set h3) ⟨List.length_set .., fun j hj => List.getElem?_set_ne (fun z => hj (by rw [z]; exact .head _))⟩
theorem aD2 : DGs X [] [] zH := by
 intro pins s σ H vs us Q I r ⟨G, W, en, ds, en', h1, h2, h3, h4, h5⟩
 refine aBu pins s σ H vs us Q I r ?_
 unfold zH at h4
 split at h4
 ·cases h4; cases h3; exact ⟨rfl, h5 _ h2 ⟨rfl, fun _ _ => rfl⟩⟩
 ·cases h4
theorem qK {e : Expr} {es : List Expr} {ks ls : List Nat} {f : D -> En -> Option En} {g : List D -> En -> Option En} (h1 : DG X e ks f) (h2 : DGs X es ls g)
  (hs : (assignEach (e :: es) X.env).map (·.2) = assign e X.env :: (assignEach es X.env).map (·.2) := by rfl) : DGs X (e :: es) (ks ++ ls) (kO f g) := by
 intro pins s σ H vs us Q I r ⟨G, W, en, ds, en', k1, k2, k3, k4, k5⟩
 refine x8 h1 h2 hs pins s σ H vs us Q I r ?_
 unfold kO at k4
 cases k3 with
 | nil => cases k4
 | @cons x xs d ds hx hr =>
  dsimp only at k4
  split at k4
  ·cases k4
  ·rename_i e1 q1
   exact ⟨x, xs, rfl, G, W, en, d, e1, k1, k2, hx, q1, fun σ' hσ hk => ⟨G, W, e1, ds, en', k1, hσ, hr, k4, fun σ2 q1 q2 => k5 σ2 q1 (hk.trans q2)⟩⟩
theorem aG2 {es : List Expr} {k : Nat} {ks : List Nat} {f : List D -> En -> Option En} {n : Nat} (hc : X.calm = true) (h : DGs X es ks f) (hn : (assignEach es X.env).length = n := by rfl) (hst : (assignEach es X.env).findIdx? (·.1) = none := by rfl) : DG X (.Tuple es k pos) ks (zC n f) := by
 intro pins s σ H v u Q I r ⟨G, W, en, d, en', k1, k2, k3, k4, k5⟩
 refine aFh hc h hn hst pins s σ H v u Q I r ?_
 unfold zC at k4
 split at k4
 ·rename_i ds
  split at k4
  ·rename_i hl
   cases k3 with
   | @tup a xs _ ha hr => exact ⟨a, xs, rfl, SqT.of (k1 _ _ ha), by rw [hr.length]; exact hl, G, W, en, ds, en', k1, k2, hr, k4, k5⟩
  ·cases k4
 ·cases k4
def fQ (tg : D -> En -> Option En) (f : MS) : List D -> MS
 | [], en => some (.nx en)
 | d :: ds, en => match tg d en with
  | none => none
  | some e1 => match f e1 with
   | some (.nx e2) => fQ tg f ds e2
   | some (.ct e2) => fQ tg f ds e2
   | some (.bk e2) => some (.nx e2)
   | r => r
def v7 (fi : En -> Res (List D)) (tg : D -> En -> Option En) (f : MS) : MS := fun en => match fi en with
 | .ok ds => fQ tg f ds en
 | .exc C => some (.ex C en)
 | .bad => none
theorem SimH.lower {B G0 G1 G H H1 : Hp} {W W1 : Addr -> Option Nat} (h : SimH B G1 G W H) (h1 : SimH B G0 G1 W1 H1) : SimH B G0 G W H :=
 ⟨h.gh, h.bh, h1.g0.trans h.g0, fun b hb => (h.gb b hb).elim (fun z => h1.gb b z) .inr, h.wf⟩
theorem SimH.raise {B G0 G H : Hp} {W : Addr -> Option Nat} (h : SimH B G0 G W H) : SimH B G G W H := ⟨h.gh, h.bh, Same.refl _, fun _ hb => .inl hb, h.wf⟩
theorem PostS.lower {K : PySem.W.Frag} {B G0 G1 H1 : Hp} {W1 : Addr -> Option Nat} {Dn : Ends} {r : Out} (h : PostS K B G0 E Dn r) (h1 : SimH B G0 G1 W1 H1) : PostS K B G1 E Dn r := by
 cases r with
 | nx en => exact fun G W H σ a b => h G W H σ (a.lower h1) b
 | bk en => exact fun G W H σ a b => h G W H σ (a.lower h1) b
 | ct en => exact fun G W H σ a b => h G W H σ (a.lower h1) b
 | rt l => exact fun G W H σ a b => h G W H σ (a.lower h1) b
 | ex C en => exact fun G W H σ a b => h G W H σ (a.lower h1) b
theorem i9 {tg iter : Expr} {body : List Stmt} {fi : En -> Res (List D)} {ks : List Nat} {g : D -> En -> Option En} {f : MS} (hp : PassesOwn (model X.prog X.w) X.A X.env X.xe) (hc : X.calm = true) (hi : DI X E tg iter fi) (hg : DG X tg ks g) (hb : DSs X E body f)
  (hs : ∀ x, foldedSetIterable iter X.env x = pure x := by intro _; rfl) : DS X E (.For tg iter body [] pos) (v7 fi g f) := by
 obtain ⟨t, p, m⟩ := hb.out
 refine DS.in ⟨_, aF7 hp hc hi hg p hs, fun B G0 G W H σ en Dn hh hs hw => ⟨B, G0, G, W, en, hh, hs, ?_⟩⟩
 unfold v7 at hw
 cases ef : fi en with
 | bad => rw [ef] at hw; exact hw
 | exc C => rw [ef] at hw; exact fun G1 H1 s => hw G1 W H1 σ (hh.step s) (hs.step s)
 | ok ds =>
  rw [ef] at hw
  intro G1 H1 J s1 hJ
  have hh1 := hh.step s1
  refine ⟨fun i n σ H => n = ds.length - i /\ i <= ds.length /\ ∃ G W en, SimH B G1 G W H /\ SimS X.K W G H σ en /\ wpO (fQ g f (ds.drop i) en) (PostS X.K B G0 E Dn),
   ⟨ds.length, rfl, Nat.zero_le _, G1, W, en, hh1.raise, hs.step s1, hw⟩, ?_⟩
  rintro i n σ H ⟨rfl, hi, G, W, en, hh, hs, hw⟩
  obtain ⟨j1, j2⟩ := hJ G H hh.g0 hh.gh
  by_cases hlt : i < ds.length
  ·refine .inr ?_
   obtain ⟨jg, jy⟩ := j1 i ds[i] (List.getElem?_eq_getElem hlt)
   rw [List.drop_eq_getElem_cons hlt] at hw
   unfold fQ at hw
   refine ⟨jg, fun σ' H' => ∃ G W en, SimH B G1 G W H' /\ SimS X.K W G H' σ' en /\ wpO (fQ g f (ds.drop (i + 1)) en) (PostS X.K B G0 E Dn), fun σ' H' q => ⟨ds.length - (i + 1), by omega, rfl, hlt, q⟩, fun v H' hy => ?_⟩
   obtain ⟨G2, s2, rv⟩ := jy v H' hy
   cases eg : g ds[i] en with
   | none => rw [eg] at hw; exact hw.elim
   | some e1 =>
    rw [eg] at hw
    dsimp only at hw
    refine ⟨G2, W, en, ds[i], e1, s2.gh, hs.step s2, rv, eg, fun σ' hσ _ => ?_⟩
    refine m B G1 G2 W H' σ' e1 _ (hh.step s2) hσ ?_
    cases ef2 : f e1 with
    | none => rw [ef2] at hw; exact hw
    | some o =>
     rw [ef2] at hw
     cases o with
     | nx e => exact fun G2 W2 H2 σ2 h2 s2 => ⟨G2, W2, e, h2, s2, hw⟩
     | ct e => exact fun G2 W2 H2 σ2 h2 s2 => ⟨G2, W2, e, h2, s2, hw⟩
     | bk e => exact PostS.lower (E := E) (Dn := Dn) (r := .nx e) hw hh1
     | rt l => exact PostS.lower (E := E) (Dn := Dn) (r := .rt l) hw hh1
     | ex C e => exact PostS.lower (E := E) (Dn := Dn) (r := .ex C e) hw hh1
  ·have e : i = ds.length := by omega
   subst e
   rw [List.drop_length] at hw
   exact .inl ⟨j2, hw G W H σ (hh.lower hh1) hs⟩
def aGr (r : Ev) : Res (List D) := match r with
 | .p (.list ds) => .ok ds
 | _ => .bad
def o4 (fe : En -> Res Ev) : En -> Res (List D) := fun en => (fe en).bind fun r => aGr r.c
theorem fS {tg e : Expr} {fe : En -> Res Ev} (he : DE X E e fe) : DI X E tg e (o4 fe) := by
 obtain ⟨t, p, m⟩ := he.out
 refine DI.in ⟨_, aDi p, fun B G0 G W H σ en R hh hs hw => m B G0 G W H σ en _ hh hs ?_⟩
 have hw : wpR ((fe en).bind _) _ _ := hw
 rw [a8] at hw
 refine aU hw (fun r hr G1 H1 v s e => ?_) fun C h => h
 obtain ⟨G2, s2, e2⟩ := e.c s
 cases er : r.c with
 | p d =>
  rw [er] at hr e2
  cases d with
  | list ds =>
   cases e2 with
   | @lst a xs _ ha hrs =>
    refine ⟨a, rfl, ⟨xs, s2.gh.seq (.inl ha)⟩, hr G2 H1 _ s2 fun G3 H3 k1 k2 => ⟨fun i d ed => ?_, xs, (k1.trans k2).seq (.inl ha), Nat.le_of_eq hrs.length⟩⟩
    obtain ⟨x, ex, rx⟩ := hrs.get' ed
    refine ⟨⟨xs, x, (k1.trans k2).seq (.inl ha), ex⟩, fun v H' hy => ?_⟩
    obtain ⟨rfl, hy⟩ := hy
    have := hy xs ((k1.trans k2).seq (.inl ha))
    rw [ex] at this
    cases this
    exact ⟨G3, Step.refl k2, rx.mono k1⟩
  | _ => exact False.elim hr
 | f d => rw [er] at hr; exact False.elim hr
 | b d => rw [er] at hr; exact False.elim hr
 | x C => rw [er] at hr; exact False.elim hr
def aAq (lo : Int) (n : Nat) : List D := (List.range n).map fun (k : Nat) => PyData.int (lo + (k : Int))
def fX (rs : List Ev) : Res (List D) := match rs with
 | [.p (.int j)] => if -(2 ^ 62) <= j /\ j < 2 ^ 62 then .ok (aAq 0 j.toNat) else .bad
 | _ => .bad
theorem sD (K : PySem.W.Frag) (lo : Int) (n : Nat) (G1 : Hp) : tO K (aAq lo n) G1 (Itr lo n) := fun G H _ k2 => by
 refine ⟨fun i d ed => ?_, by show n <= _; unfold aAq; rw [List.length_map, List.length_range]; exact Nat.le_refl _⟩
 unfold aAq at ed
 rw [List.getElem?_map] at ed
 by_cases hi : i < n
 ·rw [List.getElem?_range hi] at ed
  cases ed
  refine ⟨hi, fun v H' hy => ?_⟩
  obtain ⟨rfl, rfl⟩ := hy
  exact ⟨G, Step.refl k2, .int _⟩
 ·rw [List.getElem?_eq_none (by rw [List.length_range]; omega)] at ed
  cases ed
def sA (r : List Ev -> Res (List D)) (fr : En -> Res (List Ev)) : En -> Res (List D) := fun en => (fr en).bind r
theorem eC {tg a : Expr} {fr : En -> Res (List Ev)} {p : Pos} (hg : Gl X "range") (hm : X.mg "range" = none) (ha : DA X E [a] fr) (hs : starEach [a] X.env = [(false, eval a X.env)] := by rfl) : DI X E tg (.Call (.Name "range" p) [a] [] pos) (sA fX fr) := by
 obtain ⟨t, q, m⟩ := ha.out
 refine DI.in ⟨_, wL hg hm q hs, fun B G0 G W H σ en R hh hs hw => m B G0 G W H σ en _ hh hs ?_⟩
 have hw : wpR ((fr en).bind _) _ _ := hw
 rw [a8] at hw
 refine aU hw (fun rs hr G1 H1 vs s e => ?_) fun C h => h
 unfold fX at hr
 split at hr
 ·rename_i j
  split at hr
  ·rename_i hj
   match vs, e with
   | [v], ⟨e1, _⟩ =>
    cases e1
    exact ⟨j, rfl, hj.1, hj.2, hr G1 H1 _ s (sD _ _ _ _)⟩
  ·exact False.elim hr
 ·exact False.elim hr
end
def pC : Ev -> Option L
 | .p d => some (.p d)
 | .x C => some (.x C)
 | .b _ => none
 | .f _ => none
def aA0 : Ev -> Option L
 | .p d => some (.p d)
 | .b d => some (.p d)
 | .x _ => none
 | .f _ => none
def dM (g : Ev -> Option L) : List Ev -> Option (List L)
 | [] => some []
 | r :: rs => match g r with
  | none => none
  | some l => match dM g rs with
   | none => none
   | some ls => some (l :: ls)
def qN : L -> Ev
 | .p d => .p d
 | .o d => .f d
 | .x C => .x C
 | .h a => .x a
mutual
def lfD : D -> Bool
 | .list _ => false
 | .dict _ => false
 | .tuple ds => lfA ds
 | _ => true
def lfA : List D -> Bool
 | [] => true
 | d :: ds => lfD d && lfA ds
end
def lfP : List (D × D) -> Bool
 | [] => true
 | p :: r => lfD p.2 && lfP r
def wB : L -> Bool
 | .p d => lfD d
 | .o (.list ds) => lfA ds
 | .o (.dict kvs) => lfP kvs
 | _ => false
def gF (n : Nat) (m : List L -> Res L) (rs : List Ev) : Res Ev := match dM pC rs with
 | some ls => if ls.length = n then (m ls).bind fun l => .ok (qN l) else .bad
 | none => match dM aA0 rs with
  | some ls => if ls.length = n then (m ls).bind fun l => if wB l = true then .ok (qN l) else .bad else .bad
  | none => .bad
def a9 (n : Nat) (m : List L -> Res L) (fr : En -> Res (List Ev)) : En -> Res Ev := fun en => (fr en).bind (gF n m)
def aIb (K : PySem.W.Frag) (G : Hp) (v : V) : L -> Prop
 | .p d => Rep K G v d
 | .o _ => False
 | .x C => ∃ e, v = .ref e /\ G e = some (aEq e (.ref C))
 | .h _ => False
def ArgsOk (K : PySem.W.Frag) (G : Hp) : List V -> List L -> Prop
 | [], [] => True
 | v :: vs, l :: ls => aIb K G v l /\ ArgsOk K G vs ls
 | _, _ => False
theorem ArgsOk.length {K : PySem.W.Frag} {G : Hp} : ∀ {vs : List V} {ls : List L}, ArgsOk K G vs ls -> vs.length = ls.length
 | [], [], _ => rfl
 | _ :: _, _ :: _, h => by rw [List.length_cons, List.length_cons, ArgsOk.length h.2]
def spM (K : PySem.W.Frag) (n : Nat) (m : List L -> Res L) : Sp := fun vs H Q E => vs.length = n /\ ∃ G ls, Same G H /\ ArgsOk K G vs ls /\
 wpR (m ls) (fun l => ∀ G' H' v, Step G H G' H' -> aCz K H G' H' v l -> Q v H') (fun C => ∀ G' H', Step G H G' H' -> E (.ref C) none H')
theorem wF {K : PySem.W.Frag} {W : Addr -> Option Nat} {Hs G H : Hp} : ∀ {rs : List Ev} {ls : List L} {vs : List V}, dM pC rs = some ls -> aB5 K W Hs G H vs rs -> ArgsOk K G vs ls
 | [], _, [], h, _ => by cases h; exact trivial
 | [], _, _ :: _, _, e => e.elim
 | _ :: _, _, [], _, e => e.elim
 | r :: rs, ls, v :: vs, h, e => by
  unfold dM at h
  cases r with
  | p d =>
   cases er : dM pC rs with
   | none => rw [er] at h; cases h
   | some ls' => rw [er] at h; cases h; exact ⟨e.1, wF er e.2⟩
  | x C =>
   cases er : dM pC rs with
   | none => rw [er] at h; cases h
   | some ls' => rw [er] at h; cases h; exact ⟨e.1, wF er e.2⟩
  | b d => cases h
  | f d => cases h
def both (W : Addr -> Option Nat) (G H : Hp) : Hp := fun b => match W b with
 | some _ => H b
 | none => G b
theorem iX {W : Addr -> Option Nat} {B G0 G H : Hp} (hh : SimH B G0 G W H) : Same G (both W G H) /\ Same (both W G H) H := by
 refine ⟨fun b o e => ?_, fun b o e => ?_⟩
 ·unfold both
  cases ew : W b with
  | none => exact e
  | some i => rw [(hh.wf b i ew).1] at e; cases e
 ·unfold both at e
  cases ew : W b with
  | none => rw [ew] at e; exact hh.gh b o e
  | some i => rw [ew] at e; exact e
theorem wD {K : PySem.W.Frag} {W : Addr -> Option Nat} {Hs B G0 G H : Hp} (hh : SimH B G0 G W H) : ∀ {rs : List Ev} {ls : List L} {vs : List V}, dM aA0 rs = some ls -> aB5 K W Hs G H vs rs -> ArgsOk K (both W G H) vs ls
 | [], _, [], h, _ => by cases h; exact trivial
 | [], _, _ :: _, _, e => e.elim
 | _ :: _, _, [], _, e => e.elim
 | r :: rs, ls, v :: vs, h, e => by
  unfold dM at h
  cases r with
  | p d =>
   cases er : dM aA0 rs with
   | none => rw [er] at h; cases h
   | some ls' => rw [er] at h; cases h; exact ⟨Rep.mono (iX hh).1 e.1, wD hh er e.2⟩
  | b d =>
   cases er : dM aA0 rs with
   | none => rw [er] at h; cases h
   | some ls' =>
    rw [er] at h; cases h
    refine ⟨?_, wD hh er e.2⟩
    obtain ⟨a, i, o, rfl, h1, h2, h3⟩ := e.1
    exact (h3.mono (iX hh).1).rep (by unfold both; rw [h1]; exact h2)
  | x d => cases h
  | f d => cases h
mutual
theorem qM {K : PySem.W.Frag} {G G' : Hp} (k : ∀ b xs, G b = some (.tup xs) -> G' b = some (.tup xs)) : ∀ {v : V} {d : D}, lfD d = true -> Rep K G v d -> Rep K G' v d
 | _, _, _, .non => .non
 | _, _, _, .bl b => .bl b
 | _, _, _, .int i => .int i
 | _, _, _, .str x => .str x
 | _, _, hf, .tup h r => .tup (k _ _ h) (pP k (by unfold lfD at hf; exact hf) r)
 | _, _, hf, .lst _ _ => by unfold lfD at hf; cases hf
 | _, _, hf, .dT _ _ => by unfold lfD at hf; cases hf
 | _, _, hf, .dK _ _ => by unfold lfD at hf; cases hf
theorem pP {K : PySem.W.Frag} {G G' : Hp} (k : ∀ b xs, G b = some (.tup xs) -> G' b = some (.tup xs)) : ∀ {vs : List V} {ds : List D}, lfA ds = true -> Reps K G vs ds -> Reps K G' vs ds
 | _, _, _, .nil => .nil
 | _, _, hf, .cons h r => by
  unfold lfA at hf
  have hf := Bool.and_eq_true_iff.mp hf
  exact .cons (qM k hf.1 h) (pP k hf.2 r)
end
theorem vF {K : PySem.W.Frag} {G G' : Hp} (k : ∀ b xs, G b = some (.tup xs) -> G' b = some (.tup xs)) : ∀ {kv : List (List Key × V)} {kvs : List (D × D)}, lfP kvs = true -> RepT K G kv kvs -> RepT K G' kv kvs
 | _, _, _, .nil => .nil
 | _, _, hf, .cons h r => by
  unfold lfP at hf
  have hf := Bool.and_eq_true_iff.mp hf
  exact .cons (qM k hf.1 h) (vF k hf.2 r)
theorem xE {K : PySem.W.Frag} {G G' : Hp} (k : ∀ b xs, G b = some (.tup xs) -> G' b = some (.tup xs)) : ∀ {kv : List (Key × V)} {kvs : List (D × D)}, lfP kvs = true -> RepK K G kv kvs -> RepK K G' kv kvs
 | _, _, _, .nil => .nil
 | _, _, hf, .cons h r => by
  unfold lfP at hf
  have hf := Bool.and_eq_true_iff.mp hf
  exact .cons (qM k hf.1 h) (xE k hf.2 r)
def kE (W : Addr -> Option Nat) (G : Hp) : Hp := fun b => match W b with
 | some _ => none
 | none => G b
theorem zQ {K : PySem.W.Frag} {W : Addr -> Option Nat} {H1 G H Hs : Hp} {v : V} {l : L} (hf : wB l = true) (hH : Hs = Hs) (hs : ∀ b, H1 b = none -> Hs b = none) (k : ∀ b xs, G b = some (.tup xs) -> kE W G b = some (.tup xs)) (h : aCz K H1 G H v l) : EOk K W Hs (kE W G) H v (qN l) := by
 have n0 : ∀ b, G b = none -> kE W G b = none := fun b e => by
  unfold kE
  cases W b with
  | none => exact e
  | some _ => rfl
 cases l with
 | x C => cases hf
 | h a => cases hf
 | p d => exact qM k hf h
 | o d =>
  obtain ⟨a, o, rfl, h1, h2, h3, h4⟩ := h
  refine ⟨a, o, rfl, hs _ h2, n0 _ h1, h3, ?_⟩
  cases h4 with
  | lst r => exact .lst (pP k hf r)
  | dT r => exact .dT (vF k hf r)
  | dK r => exact .dK (xE k (by unfold wB at hf; unfold lfP at hf; exact (Bool.and_eq_true_iff.mp hf).2) r)
theorem vC {K : PySem.W.Frag} {W : Addr -> Option Nat} {B G0 G H G1 H1 : Hp} {n : Nat} {m : List L -> Res L} {rs : List Ev} {vs : List V} {Q : VK} {EE : XK} (hh : SimH B G0 G W H) (s : Step G H G1 H1) (e : aB5 K W H G1 H1 vs rs)
  (hr : wpR (gF n m rs) (PostE K W G H Q) (PostX EE G H)) : spM K n m vs H1 Q EE := by
 unfold gF at hr
 split at hr
 ·rename_i ls el
  split at hr
  ·rename_i hn
   have ha := wF el e
   refine ⟨by rw [ha.length]; exact hn, G1, ls, s.gh, ha, ?_⟩
   rw [a8] at hr
   refine aU hr (fun l hl G2 H2 v s2 rv => hl G2 H2 v (s.trans s2) ?_) fun C h G2 H2 s2 => h G2 H2 (s.trans s2)
   cases l with
   | p d => exact rv
   | x C => exact rv
   | h a => exact rv.elim
   | o d =>
    obtain ⟨a, o, h1, h2, h3, h4, h5⟩ := rv
    exact ⟨a, o, h1, s.h.free h3, h2, h4, h5⟩
  ·exact hr.elim
 ·split at hr
  ·rename_i ls el
   split at hr
   ·rename_i hn
    have hh1 := hh.step s
    have ha := wD hh1 el e
    obtain ⟨k1, k2⟩ := iX hh1
    refine ⟨by rw [ha.length]; exact hn, both W G1 H1, ls, k2, ha, ?_⟩
    rw [a8] at hr
    refine aU hr (fun l hl G2 H2 v s2 rv => ?_) fun C h G2 H2 s2 => h G1 H2 (s.trans ⟨Same.refl _, s2.h, s.gh.trans s2.h, fun _ _ q => .inl q⟩)
    split at hl
    ·rename_i hf
     have kt : ∀ b xs, G2 b = some (.tup xs) -> kE W G2 b = some (.tup xs) := fun b xs eb => by
      unfold kE
      cases ew : W b with
      | none => exact eb
      | some i =>
       obtain ⟨_, _, o, e1, e2⟩ := hh1.wf b i ew
       have e3 := s2.gh _ _ eb
       rw [s2.h _ _ e1] at e3
       exact absurd (Option.some.inj e3) (e2 xs)
     refine hl (kE W G2) H2 v ⟨fun b o eb => ?_, s.h.trans s2.h, fun b o eb => ?_, fun b hb hg => ?_⟩ (zQ hf rfl (fun b e => s.h.free e) kt rv)
     ·have e1 := s.g _ _ eb
      unfold kE
      cases ew : W b with
      | none => exact s2.g _ _ (k1 _ _ e1)
      | some i => rw [(hh1.wf b i ew).1] at e1; cases e1
     ·unfold kE at eb
      cases ew : W b with
      | none => rw [ew] at eb; exact s2.gh _ _ eb
      | some i => rw [ew] at eb; cases eb
     ·unfold kE
      cases ew : W b with
      | some i => exact .inl rfl
      | none =>
       rcases s.new b hb hg with z | z
       ·have z2 : both W G1 H1 b = none := by unfold both; rw [ew]; exact z
        rcases s2.new b (tJ s.h hb) z2 with y | ⟨xs, y⟩
        ·exact .inl y
        ·cases e : H b with
         | none => exact absurd e hb
         | some o => rw [s.h _ _ e] at y; exact .inr ⟨xs, y⟩
       ·exact .inr z
    ·exact hl.elim
   ·exact hr.elim
  ·exact hr.elim
section
variable {X : Cx} {E : L2.St -> XK} {k : Nat} {f : Addr} {fd : FuncData} {ps : List Str} {x : Str} {p pos : Pos} {e : Expr} {es : List Expr} {fr : En -> Res (List Ev)} {n : Nat} {m : List L -> Res L}
theorem aBt (F : FnOk X.prog X.w X.K X.mg X.base (CXr X.prog X.w) k f fd ps (spM X.K n m)) (hr : Room k X.A) (hg : Gl X x) (hm : X.mg x = some (.ref f)) (hk : PySem.W.keepIn X.K (.ref f) = true) (hb : Binds X.K fd ps []) (hx : jB (CXr X.prog X.w) X E)
  (ha : DA X E (e :: es) fr) (hdb : (x == ("__debug__" : Str)) = false := by decide) (he : starEach (e :: es) X.env = (false, eval e X.env) :: starEach es X.env := by rfl) (hpl : (backTo pos (starEach es X.env)).any (·.1) = false := by rfl) :
  DE X E (.Call (.Name x p) (e :: es) [] pos) (a9 n m fr) := by
 obtain ⟨t, q, mm⟩ := ha.out
 refine DE.in ⟨_, zM F hr hg hm hk hb hx q hdb he hpl, fun B G0 G W H σ en Q hh hs hw => mm B G0 G W H σ en _ hh hs ?_⟩
 have hw : wpR ((fr en).bind _) _ _ := hw
 rw [a8] at hw
 exact aU hw (fun rs hr G1 H1 vs s e => vC hh s e hr) fun C h => h
def k7 (K : PySem.W.Frag) (r : List V -> Hp -> VK -> Prop) (f : List Ev -> Res Ev) : Prop := ∀ (W : Addr -> Option Nat) (Hs G H : Hp) (vs : List V) (rs : List Ev) (Q : VK), Same G H -> aB5 K W Hs G H vs rs -> wpR (f rs) (PostE K W G H Q) (fun _ => False) -> r vs H Q
def aAh (f : List Ev -> Res Ev) : Prop := ∀ rs C, f rs ≠ .exc C
def aM (f : List Ev -> Res Ev) (fr : En -> Res (List Ev)) : En -> Res Ev := fun en => (fr en).bind f
theorem kN {r : List V -> Hp -> VK -> Prop} {f : List Ev -> Res Ev} {t : TA} (hm : k7 X.K r f) (hn : aAh f) (mm : ∀ B G0 G W H σ en Q, SimH B G0 G W H -> SimS X.K W G H σ en -> wpR (fr en) (aAl X.K W G H Q) (PostX (E σ) G H) -> t σ H Q) :
  ∀ B G0 G W H σ en Q, SimH B G0 G W H -> SimS X.K W G H σ en -> wpR (aM f fr en) (PostE X.K W G H Q) (PostX (E σ) G H) -> tCB r t σ H Q := by
 intro B G0 G W H σ en Q hh hs hw
 refine mm B G0 G W H σ en _ hh hs ?_
 have hw : wpR ((fr en).bind _) _ _ := hw
 rw [a8] at hw
 exact aU hw (fun rs hr G1 H1 vs s e => hm W H G1 H1 vs rs Q s.gh e (noX (aU hr (fun _ h => h.step s) fun _ h => h) (hn rs))) fun C h => h
theorem cR {id : String} {r : List V -> Hp -> VK -> Prop} {f : List Ev -> Res Ev} (hc : jP X (.builtin id) r) (hM : k7 X.K r f) (hn : aAh f) (hg : Gl X x) (hm : X.mg x = none) (hv : bootBuiltins x = some (.builtin id)) (ha : DA X E (e :: es) fr) (hnn : x ≠ "__name__" := by decide) (hdb : (x == ("__debug__" : Str)) = false := by decide)
  (he : starEach (e :: es) X.env = (false, eval e X.env) :: starEach es X.env := by rfl) (hpl : (backTo pos (starEach es X.env)).any (·.1) = false := by rfl) : DE X E (.Call (.Name x p) (e :: es) [] pos) (aM f fr) := by
 obtain ⟨t, q, mm⟩ := ha.out
 exact DE.in ⟨_, qI hc hg hm hv q hnn hdb he hpl, kN hM hn mm⟩
theorem vW {T : String} {r : List V -> Hp -> VK -> Prop} {f : List Ev -> Res Ev} (hc : jP X (.type T) r) (hM : k7 X.K r f) (hn : aAh f) (hg : Gl X x) (hm : X.mg x = none) (hv : bootBuiltins x = some (.type T)) (ha : DA X E (e :: es) fr) (hnn : x ≠ "__name__" := by decide) (hdb : (x == ("__debug__" : Str)) = false := by decide)
  (he : starEach (e :: es) X.env = (false, eval e X.env) :: starEach es X.env := by rfl) (hpl : (backTo pos (starEach es X.env)).any (·.1) = false := by rfl) : DE X E (.Call (.Name x p) (e :: es) [] pos) (aM f fr) := by
 obtain ⟨t, q, mm⟩ := ha.out
 exact DE.in ⟨_, xC hc hg hm hv q hnn hdb he hpl, kN hM hn mm⟩
end
def bZ (n : Nat) (ls : List L) : En := ls.map some ++ List.replicate (n - ls.length) none
def fM (n : Nat) (f : MS) (ls : List L) : Res L := match f (bZ n ls) with
 | some (.nx _) => .ok (.p .none)
 | some (.rt l) => .ok l
 | some (.ex C _) => .exc C
 | _ => .bad
theorem kM {K : PySem.W.Frag} {W : Addr -> Option Nat} {G H : Hp} : ∀ {vs : List V} {ls : List L} (i : Nat) (l : L), ArgsOk K G vs ls -> ls[i]? = some l -> ∃ v, vs[i]? = some v /\ ∀ j, Slot K W G H j v l
 | [], [], _, _, _, e => by simp at e
 | v :: vs, l :: ls, 0, m, h, e => by
  simp at e; subst e
  refine ⟨v, rfl, fun j => ?_⟩
  have z := h.1
  cases l with
  | p d => exact z
  | x C => exact z
  | h a => exact z.elim
  | o d => exact z.elim
 | v :: vs, l :: ls, i + 1, m, h, e => by
  have := kM (W := W) (H := H) i m h.2 (by simpa using e)
  simpa using this
theorem xR {K : PySem.W.Frag} {W : Addr -> Option Nat} {G H : Hp} {N : List Str} {vs : List V} {ls : List L} (h : ArgsOk K G vs ls) : SimS K W G H (L2.start N vs) (bZ N.length ls) := by
 have hl := h.length
 refine ⟨by unfold L2.start bZ; simp [hl], fun i l e => ?_⟩
 unfold bZ at e
 by_cases hi : i < ls.length
 ·rw [List.getElem?_append_left (by rw [List.length_map]; exact hi), List.getElem?_map] at e
  cases e2 : ls[i]? with
  | none => rw [e2] at e; cases e
  | some l' =>
   rw [e2] at e
   cases e
   obtain ⟨v, e3, e4⟩ := kM (W := W) (H := H) i l h e2
   refine ⟨v, ?_, e4 i⟩
   unfold L2.start
   rw [List.getElem?_append_left (by rw [List.length_map, hl]; exact hi), List.getElem?_map, e3]
   rfl
 ·rw [List.getElem?_append_right (by rw [List.length_map]; omega), List.getElem?_replicate] at e
  split at e <;> cases e
theorem pA {G H G' H' : Hp} {W : Addr -> Option Nat} (h : SimH H G G' W H') : Step G H G' H' := ⟨h.g0, h.bh, h.gh, fun b hb hg => by
 cases e : G' b with
 | none => exact .inl rfl
 | some o =>
  rcases h.gb b (by rw [e]; exact fun z => nomatch z) with z | z | z
  ·exact absurd hg z
  ·exact absurd z hb
  ·exact .inr z⟩
theorem tZ {K : PySem.W.Frag} {N : List Str} {n : Nat} {m : List L -> Res L} {fm : MS} {vs : List V} {H : Hp} {Q : VK} {E : XK} (h : spM K n m vs H Q E) (hm : ∀ ls, m ls = .bad \/ fM N.length fm ls = m ls) :
  tS K (fun _ => E) fm { nx := fun _ H' => Q .non H', rt := Q } (L2.start N vs) H := by
 obtain ⟨hl, G, ls, gh, ha, hw⟩ := h
 refine ⟨H, G, G, fun _ => none, bZ N.length ls, ⟨gh, Same.refl _, Same.refl _, fun _ hb => .inl hb, fun a i e => nomatch e⟩, xR ha, ?_⟩
 rcases hm ls with e | e
 ·rw [e] at hw; exact hw.elim
 ·rw [<- e] at hw
  unfold fM at hw
  cases ef : fm (bZ N.length ls) with
  | none => rw [ef] at hw; exact hw
  | some o =>
   rw [ef] at hw
   cases o with
   | nx en => exact fun G' W' H' σ' h1 _ => hw G' H' .non (pA h1) .non
   | rt l => exact fun G' W' H' v h1 h2 => hw G' H' v (pA h1) h2
   | bk en => exact hw.elim
   | ct en => exact hw.elim
   | ex C en => exact fun G' W' H' σ' h1 _ => hw G' H' (pA h1)
section
variable {P : Program} {w : World} {K : PySem.W.Frag} {mg : Str -> Option Value} {base : Heap}
theorem cM {N : List Str} {qual : Str} {scope : Scope} {f : Addr} {cd : Value} {A : Around} {outer : List Env} {s : Shared} {H : Hp} {E : XK} : jB (CXr P w) (pU (CXr P w) P w K mg base N qual scope f cd A outer s H E) (fun _ => E) :=
 fun pins σ H s e s' I h => aIe pins σ H s e s' I h
theorem aIr {X : Cx} : jB (CXr P w) X (fun _ => E0) := fun _ _ _ _ _ _ _ ⟨_, _, _, _, _, _, _, z⟩ => z.elim
theorem fnM {x qual : Str} {st : Stmt} {f : Addr} {fd : FuncData} {N ps : List Str} {k n : Nat} {m : List L -> Res L} (F : Fun K x qual st f fd) (S : bJ N ps (aP st)) (hn : n = ps.length)
  (hbody : ∀ (cdv : Value) (A : Around) (outer : List Env) (s : Shared) (H : Hp) (E : XK), Room k (A.deeper (envOfC qual (aP st) s.heap.objs.size f cdv)) ->
   ∃ fm, DSs (pU (CXr P w) P w K mg base N qual (aP st) f cdv A outer s H E) (fun _ => E) (dH st) fm /\ ∀ ls, m ls = .bad \/ fM N.length fm ls = m ls) : FnOk P w K mg base (CXr P w) (k + 1) f fd ps (spM K n m) := by
 refine F.okX S (fun vs H Q E h => ?_) (fun cdv A outer s H vs Q E hr h => ?_)
 ·rw [<- hn]; exact h.1
 ·obtain ⟨fm, hd, hm⟩ := hbody cdv A outer s H E hr
  exact ⟨_, hd, tZ h hm⟩
end
def s9 (C : Addr) (fr : En -> Res (List Ev)) : MS := fun en => match fr en with
 | .ok rs => if rs.length <= 1000 then some (.ex C en) else none
 | .exc C => some (.ex C en)
 | .bad => none
section
variable {X : Cx}
end
def jK : List Ev -> Option (List D)
 | [] => some []
 | r :: rs => match r with
  | .p d => match jK rs with
   | some ds => some (d :: ds)
   | none => none
  | _ => none
theorem iV {K : PySem.W.Frag} {W : Addr -> Option Nat} {Hs G H : Hp} : ∀ {rs : List Ev} {ds : List D} {vs : List V}, jK rs = some ds -> aB5 K W Hs G H vs rs -> Reps K G vs ds
 | [], _, [], h, _ => by cases h; exact .nil
 | [], _, _ :: _, _, e => e.elim
 | _ :: _, _, [], _, e => e.elim
 | r :: rs, ds, v :: vs, h, e => by
  unfold jK at h
  cases r with
  | p d =>
   dsimp only at h
   cases er : jK rs with
   | none => rw [er] at h; cases h
   | some ds' => rw [er] at h; cases h; exact .cons e.1 (iV er e.2)
  | x C => cases h
  | b d => cases h
  | f d => cases h
def cF (rs : List Ev) : Res Ev := match jK rs with
 | some ds => if ds.length <= 1000 then .ok (.p (.tuple ds)) else .bad
 | none => .bad
def gC (rs : List Ev) : Res Ev := match jK rs with
 | some ds => if ds.length <= 1000 then .ok (.f (.list ds)) else .bad
 | none => .bad
section
variable {X : Cx} {E : L2.St -> XK} {es : List Expr} {fr : En -> Res (List Ev)} {pos : Pos}
theorem dF {x1} (h : DA X E es fr) : DE X E (.Tuple es x1 pos) (aM cF fr) := by
 obtain ⟨t, q, m⟩ := h.out
 refine DE.in ⟨_, aHa q, fun B G0 G W H σ en Q hh hs hw => m B G0 G W H σ en _ hh hs ?_⟩
 have hw : wpR ((fr en).bind _) _ _ := hw
 rw [a8] at hw
 refine aU hw (fun rs hr G1 H1 vs s e => ?_) fun C h => h
 unfold cF at hr
 split at hr
 ·rename_i ds el
  have rp := iV el e
  split at hr
  ·rename_i hl
   refine ⟨by rw [rp.length]; exact Nat.le_trans hl (by decide), fun p hp => ?_⟩
   have st := Step.put (o := .tup vs) s.gh hp
   exact hr _ _ _ (s.trans st) (.tup bB (rp.mono st.g))
  ·exact False.elim hr
 ·exact False.elim hr
theorem iJ (h : DA X E es fr) : DE X E (.List es pos) (aM gC fr) := by
 obtain ⟨t, q, m⟩ := h.out
 refine DE.in ⟨_, aG4 q, fun B G0 G W H σ en Q hh hs hw => m B G0 G W H σ en _ hh hs ?_⟩
 have hw : wpR ((fr en).bind _) _ _ := hw
 rw [a8] at hw
 refine aU hw (fun rs hr G1 H1 vs s e => ?_) fun C h => h
 unfold gC at hr
 split at hr
 ·rename_i ds el
  have rp := iV el e
  split at hr
  ·rename_i hl
   refine ⟨by rw [rp.length]; exact Nat.le_trans hl (by decide), fun p hp => ?_⟩
   have st := Step.lay (o := .lst vs) s.gh hp
   exact hr _ _ _ (s.trans st) ⟨p, _, rfl, s.h.free hp, s.gh.free hp, bB, .lst rp⟩
  ·exact False.elim hr
 ·exact False.elim hr
end
def sX (g : D -> Option (Option D)) : List D -> Option (List D)
 | [] => some []
 | d :: ds => match g d with
  | none => none
  | some o => match sX g ds with
   | none => none
   | some r => some (match o with
    | some y => y :: r
    | none => r)
def aEt (o : Option (Option L)) : Option L := match o with
 | some (some (.p d)) => some (.p d)
 | some (some (.x C)) => some (.x C)
 | _ => none
def zJ (js : List Nat) (en : En) : En := js.map fun j => aEt en[j]?
def oK : En -> Res Bool := fun _ => .ok true
def bX (n : Nat) (js : List Nat) (tg : D -> En -> Option En) (ft : En -> Res Bool) (fe : En -> Res Ev) (en : En) (d : D) : Option (Option D) := match tg d (List.replicate n none ++ zJ js en) with
 | none => none
 | some e => match ft e with
  | .ok true => match fe e with
   | .ok r => match r.c with
    | .p y => some (some y)
    | _ => none
   | _ => none
  | .ok false => some none
  | _ => none
def aCa (g : D -> Option (Option D)) (ds : List D) : Res Ev := if ds.length <= 100000 then match sX g ds with
  | some r => .ok (.f (.list r))
  | none => .bad
 else .bad
def gN (n : Nat) (js : List Nat) (fi : En -> Res (List D)) (tg : D -> En -> Option En) (ft : En -> Res Bool) (fe : En -> Res Ev) : En -> Res Ev := fun en => (fi en).bind fun ds => aCa (bX n js tg ft fe en) ds
def DTs (X : Cx) (ifs : List Expr) (f : En -> Res Bool) : Prop := PTs X ifs (tT X.K (fun _ => E0) f)
theorem aJ1 {G H : Hp} (h : Same G H) : SimH H G G (fun _ => none) H := ⟨h, Same.refl _, Same.refl _, fun _ hb => .inl hb, fun a i e => nomatch e⟩
theorem yS {K : PySem.W.Frag} {W : Addr -> Option Nat} {G H : Hp} {σ : L2.St} {en : En} (n : Nat) (js : List Nat) (h : SimS K W G H σ en) : SimS K (fun _ => none) G H (List.replicate n none ++ qV js σ) (List.replicate n none ++ zJ js en) := by
 refine ⟨by unfold qV zJ; simp, fun i l e => ?_⟩
 by_cases hi : i < n
 ·rw [List.getElem?_append_left (by rw [List.length_replicate]; exact hi), List.getElem?_replicate] at e
  split at e <;> cases e
 ·rw [List.getElem?_append_right (by rw [List.length_replicate]; omega), List.length_replicate] at e ⊢
  unfold zJ at e
  unfold qV
  rw [List.getElem?_map] at e ⊢
  cases ej : js[i - n]? with
  | none => rw [ej] at e; cases e
  | some j =>
   rw [ej] at e
   have e' : aEt en[j]? = some l := Option.some.inj e
   unfold aEt at e'
   split at e'
   ·rename_i d q
    cases e'
    obtain ⟨v, h1, h2⟩ := h.2 j _ q
    exact ⟨v, by show some ((σ[j]?).getD none) = _; rw [h1]; rfl, h2⟩
   ·rename_i d q
    cases e'
    obtain ⟨v, h1, h2⟩ := h.2 j _ q
    exact ⟨v, by show some ((σ[j]?).getD none) = _; rw [h1]; rfl, h2⟩
   ·cases e'
section
variable {X : Cx} {E : L2.St -> XK} {pos : Pos}
theorem iW : DTs X [] oK := fun pins s σ H Q I ⟨B, G0, G, W, en, h1, h2, h3⟩ => aD8 pins s σ H Q I (h3 G H (Step.refl h1.gh))
theorem aCh {c : Expr} {f : En -> Res Bool} (h : DT X (fun _ => E0) c f) : DTs X [c] f := aDj h
theorem p9 {elt iter tg : Expr} {scope : Scope} {ifs : List Expr} {n : Nat} {js ks : List Nat} {fi : En -> Res (List D)} {g : D -> En -> Option En} {ft : En -> Res Bool} {fe : En -> Res Ev} {xs ys : List Str} {cl : List (Str × Addr)} (hc : X.calm = true) (hi : DI X E tg iter fi)
  (hcl : aB0 X scope cl) (hcap : j6 X scope cl ys js) (hcell : ∀ y ∈ scope.names, y.2 ≠ .cell) (hkind : scope.kind = .function) (hnames : ∀ y ∈ scope.names, y.2 = .local -> scope.names.lookup y.1 = some .local) (hn : xs.length = n) (hks : ∀ j ∈ ks, j < n)
  (hg : ∀ C s₀ H₀ ex pn, DG (aZ X scope cl C (xs ++ ys) s₀ H₀ ex pn) tg ks g) (ht : ∀ C s₀ H₀ ex pn, DTs (aZ X scope cl C (xs ++ ys) s₀ H₀ ex pn) ifs ft) (hb : ∀ C s₀ H₀ ex pn, DE (aZ X scope cl C (xs ++ ys) s₀ H₀ ex pn) (fun _ => E0) elt fe)
  : ∀ B G0 G W H σ en Q, SimH B G0 G W H -> SimS X.K W G H σ en -> wpR (gN n js fi g ft fe en) (PostE X.K W G H Q) (PostX (E σ) G H) -> qF (tI X.K E fi) (tG X.K ks g) (tT X.K (fun _ => E0) ft) (tE X.K (fun _ => E0) fe) xs.length js σ H Q := by
 subst hn
 refine fun B G0 G W H σ en Q hh hs hw => ⟨B, G0, G, W, en, hh, hs, ?_⟩
 have hw : wpR ((fi en).bind _) _ _ := hw
 rw [a8] at hw
 refine aU hw (fun ds hds G1 H1 J s1 hJ D hD => ?_) fun C h => h
 unfold aCa at hds
 split at hds
 case isFalse => exact hds.elim
 rename_i hlen
 split at hds
 case h_2 => exact hds.elim
 rename_i r em
 have gD : G1 D = none := s1.gh.free hD
 have aI3 : ∀ {G2 H2 : Hp} {y : List V}, Step G1 H1 G2 H2 -> G2 D = none -> Step G1 H1 G2 (upd H2 D (.lst y)) := fun st hg2 => by
  refine ⟨st.g, fun b o e => ?_, fun b o e => ?_, st.new⟩
  ·rw [a7 (bO e hD)]; exact st.h b o e
  ·rw [a7 (bO e hg2)]; exact st.gh b o e
 refine ⟨ds.length, fun i ys H2 => i <= ds.length /\ ys.length <= i /\ ∃ G2 rs rest, Step G1 H1 G2 H2 /\ G2 D = none /\ H2 D = some (.lst ys) /\ Reps X.K G2 ys rs /\ sX (bX xs.length js g ft fe en) (ds.drop i) = some rest /\ rs ++ rest = r,
  ⟨Nat.zero_le _, Nat.zero_le _, G1, [], r, Step.lay s1.gh hD, gD, bB, .nil, em, rfl⟩, ?_⟩
 rintro i zs H2 ⟨hi, hzl, G2, rs, rest, st, g2, h2, rp, em2, er⟩
 obtain ⟨j1, j2⟩ := hJ G2 H2 st.g st.gh
 by_cases hlt : i < ds.length
 ·refine .inr ⟨hlt, ?_⟩
  obtain ⟨jg, jy⟩ := j1 i ds[i] (List.getElem?_eq_getElem hlt)
  refine ⟨jg, fun v H3 hy => ?_⟩
  obtain ⟨G3, s3, rv⟩ := jy v H3 hy
  rw [List.drop_eq_getElem_cons hlt] at em2
  unfold sX at em2
  cases ec : bX xs.length js g ft fe en ds[i] with
  | none => rw [ec] at em2; cases em2
  | some o =>
   rw [ec] at em2
   dsimp only at em2
   cases em3 : sX (bX xs.length js g ft fe en) (ds.drop (i + 1)) with
   | none => rw [em3] at em2; cases em2
   | some rest' =>
    rw [em3] at em2
    have em2 := Option.some.inj em2
    unfold bX at ec
    split at ec
    ·cases ec
    ·rename_i e eg
     have in3 := yS xs.length js (hs.step ((s1.trans st).trans s3))
     refine ⟨G3, fun _ => none, _, ds[i], e, s3.gh, in3, rv, eg, fun σ' hσ hk => ⟨⟨?_, ?_⟩, ?_⟩⟩
     ·rw [hk.1]; unfold qV; simp
     ·refine List.ext_getElem? fun j => ?_
      rw [List.getElem?_drop, hk.2 (xs.length + j) fun z => absurd (hks _ z) (by omega), List.getElem?_append_right (by rw [List.length_replicate]; omega), List.length_replicate]
      congr 1
      omega
     ·refine ⟨_, _, G3, fun _ => none, e, aJ1 s3.gh, hσ, ?_⟩
      cases et : ft e with
      | bad => rw [et] at ec; cases ec
      | exc C => rw [et] at ec; cases ec
      | ok k =>
       rw [et] at ec
       intro G5 H5 s5
       cases k with
       | false =>
        cases ec
        rw [if_neg Bool.false_ne_true]
        have s25 := s3.trans s5
        exact ⟨hlt, Nat.le_succ_of_le hzl, G5, rs, rest', st.trans s25, s25.off h2 (fun xs z => nomatch z) g2, s25.h _ _ h2, rp.mono s25.g, em3, by rw [<- er, <- em2]⟩
       | true =>
        rw [if_pos rfl]
        refine ⟨_, _, G5, fun _ => none, e, aJ1 s5.gh, hσ.step s5, ?_⟩
        dsimp only at ec
        cases ee : fe e with
        | bad => rw [ee] at ec; cases ec
        | exc C => rw [ee] at ec; cases ec
        | ok q =>
         rw [ee] at ec
         intro G6 H6 y s6 ey
         obtain ⟨G7, s7, e7⟩ := EOk.c s6 ey
         dsimp only at ec
         split at ec
         ·rename_i y' eq
          cases ec
          rw [eq] at e7
          have s27 := (s3.trans s5).trans s7
          have g7 := s27.off h2 (fun xs z => nomatch z) g2
          refine ⟨s27.h _ _ h2, Nat.lt_of_le_of_lt (Nat.le_trans hzl (Nat.le_trans hi hlen)) (by decide), hlt, by rw [List.length_append]; exact Nat.succ_le_succ hzl, G7, rs ++ [y'], rest', aI3 (st.trans s27) g7, g7, bB, (rp.mono s27.g).append (.cons e7 .nil), em3, ?_⟩
          rw [<- er, <- em2, List.append_assoc]
          rfl
         ·cases ec
 ·have e : i = ds.length := by omega
  subst e
  rw [List.drop_length] at em2
  cases em2
  rw [List.append_nil] at er
  subst er
  exact .inl ⟨j2, hds G2 H2 _ (s1.trans st) ⟨D, _, rfl, s1.h.free hD, g2, h2, .lst rp⟩⟩
theorem o7 {elt iter tg : Expr} {scope : Scope} {ifs : List Expr} {n : Nat} {js ks : List Nat} {fi : En -> Res (List D)} {g : D -> En -> Option En} {ft : En -> Res Bool} {fe : En -> Res Ev} {xs ys : List Str} {cl : List (Str × Addr)} (hc : X.calm = true) (hi : DI X E tg iter fi)
  (hcl : aB0 X scope cl) (hcap : j6 X scope cl ys js) (hcell : ∀ y ∈ scope.names, y.2 ≠ .cell) (hkind : scope.kind = .function) (hnames : ∀ y ∈ scope.names, y.2 = .local -> scope.names.lookup y.1 = some .local) (hn : xs.length = n) (hks : ∀ j ∈ ks, j < n)
  (hg : ∀ C s₀ H₀ ex pn, DG (aZ X scope cl C (xs ++ ys) s₀ H₀ ex pn) tg ks g) (ht : ∀ C s₀ H₀ ex pn, DTs (aZ X scope cl C (xs ++ ys) s₀ H₀ ex pn) ifs ft) (hb : ∀ C s₀ H₀ ex pn, DE (aZ X scope cl C (xs ++ ys) s₀ H₀ ex pn) (fun _ => E0) elt fe)
  (hs : ∀ x, foldedSetIterable iter X.env x = pure x := by intro _; rfl) : DE X E (.ListComp elt [⟨tg, iter, ifs, 0⟩] scope pos) (gN n js fi g ft fe) :=
 DE.in ⟨_, yL (xs := xs) (g := tG X.K ks g) (tt := tT X.K (fun _ => E0) ft) (te := tE X.K (fun _ => E0) fe) hc hi hcl hcap hcell hkind hnames hg ht hb hs, p9 hc hi hcl hcap hcell hkind hnames hn hks hg ht hb⟩
theorem pJ {i : Nat} {y : Str} {py spos : Pos} (hN : X.N.Nodup) (hiN : X.N[i]? = some y) (hx : Loc X.env.scope y) {elt iter tg : Expr} {scope : Scope} {ifs : List Expr} {n : Nat} {js ks : List Nat} {fi : En -> Res (List D)} {g : D -> En -> Option En} {ft : En -> Res Bool} {fe : En -> Res Ev} {xs ys : List Str} {cl : List (Str × Addr)} (hc : X.calm = true) (hi : DI X E tg iter fi)
  (hcl : aB0 X scope cl) (hcap : j6 X scope cl ys js) (hcell : ∀ y ∈ scope.names, y.2 ≠ .cell) (hkind : scope.kind = .function) (hnames : ∀ y ∈ scope.names, y.2 = .local -> scope.names.lookup y.1 = some .local) (hn : xs.length = n) (hks : ∀ j ∈ ks, j < n)
  (hg : ∀ C s₀ H₀ ex pn, DG (aZ X scope cl C (xs ++ ys) s₀ H₀ ex pn) tg ks g) (ht : ∀ C s₀ H₀ ex pn, DTs (aZ X scope cl C (xs ++ ys) s₀ H₀ ex pn) ifs ft) (hb : ∀ C s₀ H₀ ex pn, DE (aZ X scope cl C (xs ++ ys) s₀ H₀ ex pn) (fun _ => E0) elt fe)
  (hsw : swapsWith (.ListComp elt [⟨tg, iter, ifs, 0⟩] scope pos) (some (.Name y py)) spos.line X.env = pure true := by rfl) (hs : ∀ x, foldedSetIterable iter X.env x = pure x := by intro _; rfl)
  (hf : X.fn y = true \/ X.env.scope.names.lookup y = some .local := by first | exact .inl rfl | exact .inr rfl | assumption) : DS X E (.Assign [.Name y py] (.ListComp elt [⟨tg, iter, ifs, 0⟩] scope pos) spos) (eE i (gN n js fi g ft fe)) :=
 DS.in ⟨_, zU (xs := xs) (g := tG X.K ks g) (tt := tT X.K (fun _ => E0) ft) (te := tE X.K (fun _ => E0) fe) hN hiN hx hc hi hcl hcap hcell hkind hnames hg ht hb hsw hs hf, rO (p9 hc hi hcl hcap hcell hkind hnames hn hks hg ht hb)⟩
end
section
variable {X : Cx} {K : PySem.W.Frag}
def rOr (r r' : R2) : R2 := fun x y H Q => r x y H Q \/ r' x y H Q
theorem OpR.or' {f : Value -> Value -> Sem Value} {r r' : R2} (h : OpR X f r) (h' : OpR X f r') : OpR X f (rOr r r') := OpR.or h h'
def aF2 : R2 := fun x y H Q => ∃ l b xs zs, x = .ref l /\ y = .ref b /\ Rd H l (.lst xs) /\ Rd H b (.lst zs) /\ xs.length + zs.length <= sizeLine /\ ∀ p, H p = none -> Q (.ref p) (upd H p (.lst (xs ++ zs)))
theorem aC6 : OpR X (binaryOp .Add) aF2 := by
 intro pins s σ H x y v u Q I rx ry h
 obtain ⟨l, b, xs, zs, rfl, rfl, hH, hB, hz, q⟩ := h
 cases rx
 cases ry
 obtain ⟨z, its, n, r, e⟩ := hH.ok I.hok
 obtain ⟨z2, its2, n2, r2, e2⟩ := hB.ok I.hok
 have hl := r.length
 have hl2 := r2.length
 refine PySem.P.add_list e e2 ?_ (by rw [List.size_toArray, List.size_toArray]; omega)
 have ea : its.toArray ++ its2.toArray = (its ++ its2).toArray := by simp
 rw [ea]
 exact ⟨.ref _, _, I.lnew (t' := s.toks) (r.append r2) (by rw [List.length_append]; omega), rfl, q _ I.fresh⟩
def aC7 : R2 := fun x y H Q => ∃ i j, x = .str i /\ y = .str j /\ i.length + j.length <= sizeLine /\ Q (.str (i ++ j)) H
def d6 : Ev -> Option (List D)
 | .p (.list ds) => some ds
 | .b (.list ds) => some ds
 | _ => none
theorem iD {W : Addr -> Option Nat} {Hs G H : Hp} {v : V} {r : Ev} {ds : List D} (gh : Same G H) (h : EOk K W Hs G H v r) (e : d6 r = some ds) : ∃ a xs, v = .ref a /\ Rd H a (.lst xs) /\ Reps K G xs ds := by
 cases r with
 | p d =>
  cases d with
  | list es =>
   cases e
   cases h with
   | @lst a xs _ h1 h2 => exact ⟨a, xs, rfl, jN gh h1, h2⟩
  | _ => cases e
 | b d =>
  cases d with
  | list es =>
   cases e
   obtain ⟨a, i, o, rfl, h1, h2, h3⟩ := h
   cases h3 with
   | @lst xs _ h4 => exact ⟨a, xs, rfl, .inl h2, h4⟩
  | _ => cases e
 | f d => cases e
 | x C => cases e
def dat : Ev -> Option D
 | .p d => some d
 | .b d => some d
 | _ => none
theorem EOk.read {W : Addr -> Option Nat} {Hs G H : Hp} {v : V} {r : Ev} {d : D} (gh : Same G H) (h : EOk K W Hs G H v r) (e : dat r = some d) : Rep K H v d := by
 cases r with
 | p d => cases e; exact Rep.mono gh h
 | b d =>
  cases e
  obtain ⟨a, i, o, rfl, h1, h2, h3⟩ := h
  exact (h3.mono gh).rep h2
 | f d => cases e
 | x C => cases e
open Classical in
noncomputable def qC (C : Int -> Int -> Prop) (g : Int -> Int -> D) (x y : Ev) : Res Ev := match x, y with
 | .p (.int i), .p (.int j) => if C i j then .ok (.p (g i j)) else .bad
 | _, _ => .bad
def eU (g : Int -> Int -> D) (x y : Ev) : Res Ev := match x, y with
 | .p (.int i), .p (.int j) => .ok (.p (g i j))
 | _, _ => .bad
theorem aF {C : Int -> Int -> Prop} {g : Int -> Int -> D} : NoX (qC C g) := by
 intro x y A h
 unfold qC at h
 split at h
 ·split at h <;> cases h
 ·cases h
theorem aY {g : Int -> Int -> D} : NoX (eU g) := by
 intro x y A h
 unfold eU at h
 split at h <;> cases h
theorem nH {C : Int -> Int -> Prop} {g : Int -> Int -> D} {gv : Int -> Int -> V} (hg : ∀ G i j, Rep K G (gv i j) (g i j)) : OpM K (rI C gv) (qC C g) := by
 intro W G H v u x y Q gh hx hy hw
 unfold qC at hw
 split at hw
 ·rename_i i j e1 e2
  rw [e1] at hx; rw [e2] at hy
  cases hx; cases hy
  split at hw
  ·rename_i hc
   exact ⟨i, j, rfl, rfl, hc, hw G H _ (Step.refl gh) (hg G i j)⟩
  ·exact hw.elim
 ·exact hw.elim
theorem vM {g : Int -> Int -> D} {gv : Int -> Int -> V} (hg : ∀ G i j, Rep K G (gv i j) (g i j)) : OpM K (rI0 gv) (eU g) := by
 intro W G H v u x y Q gh hx hy hw
 unfold eU at hw
 split at hw
 ·rename_i i j e1 e2
  rw [e1] at hx; rw [e2] at hy
  cases hx; cases hy
  exact ⟨i, j, rfl, rfl, hw G H _ (Step.refl gh) (hg G i j)⟩
 ·exact hw.elim
noncomputable abbrev iS : Ev -> Ev -> Res Ev := qC CMulW fun i j => .int (i * j)
noncomputable abbrev iM : Ev -> Ev -> Res Ev := qC mL fun i j => .int (i.fdiv j)
noncomputable abbrev fO : Ev -> Ev -> Res Ev := qC (fun _ j => j ≠ 0) fun i j => .int (i.fmod j)
noncomputable abbrev mR : Ev -> Ev -> Res Ev := qC aBe fun i j => .int (i ^ j.toNat)
abbrev lB : Ev -> Ev -> Res Ev := eU fun i j => .int (i - j)
abbrev ltE : Ev -> Ev -> Res Ev := eU fun i j => .bool (decide (i < j))
abbrev leE : Ev -> Ev -> Res Ev := eU fun i j => .bool (decide (i <= j))
abbrev gtE : Ev -> Ev -> Res Ev := eU fun i j => .bool (decide (j < i))
theorem cK : OpM K (rI CMulW fun i j => .int (i * j)) iS := nH fun _ _ _ => .int _
theorem jC : OpM K (rI mL fun i j => .int (i.fdiv j)) iM := nH fun _ _ _ => .int _
theorem cX : OpM K (rI (fun _ j => j ≠ 0) fun i j => .int (i.fmod j)) fO := nH fun _ _ _ => .int _
theorem iE : OpM K (rI aBe fun i j => .int (i ^ j.toNat)) mR := nH fun _ _ _ => .int _
theorem dP : OpM K (rI0 fun i j => .int (i - j)) lB := vM fun _ _ _ => .int _
def eD (x y : Ev) : Res Ev := match x, y with
 | .p (.int i), .p (.int j) => .ok (.p (.int (i + j)))
 | .p (.str i), .p (.str j) => if i.length + j.length <= 100000 then .ok (.p (.str (i ++ j))) else .bad
 | x, y => match d6 x, d6 y with
  | some ds, some es => if ds.length + es.length <= 100000 then .ok (.f (.list (ds ++ es))) else .bad
  | _, _ => .bad
theorem bD : NoX eD := by
 intro x y A h
 unfold eD at h
 split at h
 ·cases h
 ·split at h <;> cases h
 ·split at h
  ·split at h <;> cases h
  ·cases h
abbrev aFd : R2 := rOr (rI0 fun i j => .int (i + j)) (rOr aC7 aF2)
theorem bC : OpR X (binaryOp .Add) aFd := OpR.or' aFz (OpR.or' rW aC6)
theorem bR : OpM K aFd eD := by
 intro W G H v u x y Q gh hx hy hw
 unfold eD at hw
 split at hw
 ·rename_i i j e1 e2
  rw [e1] at hx; rw [e2] at hy
  cases hx; cases hy
  exact .inl ⟨i, j, rfl, rfl, hw G H _ (Step.refl gh) (.int _)⟩
 ·rename_i i j e1 e2
  rw [e1] at hx; rw [e2] at hy
  cases hx; cases hy
  split at hw
  ·rename_i hl
   exact .inr (.inl ⟨i, j, rfl, rfl, Nat.le_trans hl (by decide), hw G H _ (Step.refl gh) (.str _)⟩)
  ·exact hw.elim
 ·split at hw
  ·rename_i ds es e1 e2
   obtain ⟨a, xs, rfl, h1, h2⟩ := iD gh hx e1
   obtain ⟨b, ys, rfl, h3, h4⟩ := iD gh hy e2
   split at hw
   ·rename_i hl
    refine .inr (.inr ⟨a, b, xs, ys, rfl, rfl, h1, h3, by rw [h2.length, h4.length]; exact Nat.le_trans hl (by decide), fun p hp => ?_⟩)
    exact hw _ _ _ (Step.lay gh hp) ⟨p, _, rfl, hp, gh.free hp, bB, .lst (h2.append h4)⟩
   ·exact hw.elim
  ·exact hw.elim
theorem qD {p : Int -> Int -> Bool} : OpM K (rI0 fun i j => .bl (p i j)) (eU fun i j => .bool (p i j)) := vM fun _ _ _ => .bl _
mutual
theorem Rep.reads {P : Program} {w : World} {H : Hp} {h : Heap} (ok : HOk P w H h) : ∀ {v : V} {d : D}, Rep K H v d -> d.canLay0 = true -> ∀ {u : Value}, RelV v u -> ∃ as, Reads h u d as
 | _, _, .non, _, _, e => by cases e; exact ⟨_, Reads.none⟩
 | _, _, .bl b, _, _, e => by cases e; exact ⟨_, Reads.bool b⟩
 | _, _, .int i, _, _, ⟨t, e⟩ => by subst e; exact ⟨_, Reads.int i t⟩
 | _, _, .str i, _, _, ⟨t, e⟩ => by subst e; exact ⟨_, Reads.str i t⟩
 | _, _, .tup hh r, hc, _, e => by
  have e : _ = Value.ref _ := e
  subst e
  obtain ⟨_, its, rv, o, ho, hcl, n, hd⟩ := (show ObjOk P w H h _ _ from ok _ _ hh)
  obtain ⟨as, q⟩ := Reps.reads ok r (by simpa [PyData.canLay0] using hc) rv
  exact ⟨as, reads_tuple_at ho hcl hd (by simpa using q)⟩
 | _, _, .lst hh r, hc, _, e => by
  have e : _ = Value.ref _ := e
  subst e
  obtain ⟨_, its, n, rv, ho⟩ := hh.ok ok
  obtain ⟨as, q⟩ := Reps.reads ok r (by simpa [PyData.canLay0] using hc) rv
  exact ⟨_, reads_list_at ho rfl rfl (by simpa using q)⟩
 | _, _, .dT _ _, hc, _, _ => by simp [PyData.canLay0] at hc
 | _, _, .dK _ _, hc, _, _ => by simp [PyData.canLay0] at hc
theorem Reps.reads {P : Program} {w : World} {H : Hp} {h : Heap} (ok : HOk P w H h) : ∀ {vs : List V} {ds : List D}, Reps K H vs ds -> PyData.canLayAll0 ds = true -> ∀ {us : List Value}, Vals vs us -> ∃ as, ReadsAll h us ds as
 | _, _, .nil, _, _, .nil => ⟨_, ReadsAll.nil⟩
 | _, _, .cons hd r, hc, _, .cons rv rt => by
  simp only [PyData.canLayAll0, Bool.and_eq_true] at hc
  obtain ⟨as, q⟩ := Rep.reads ok hd hc.1 rv
  obtain ⟨bs, p⟩ := Reps.reads ok r hc.2 rt
  exact ⟨_, ReadsAll.cons q p⟩
end
def aJe (K : PySem.W.Frag) (ng : Bool) : R2 := fun x y H Q => ∃ d e, Rep K H x d /\ Rep K H y e /\ SeqAt.shaped d = true /\ SeqAt.shaped e = true /\ Q (.bl (if ng then !PyData.eqv d e else PyData.eqv d e)) H
theorem cC {K : PySem.W.Frag} (hu : X.A.units + 64 < cLine) : OpR X (compareOp .Eq) (aJe K false) := by
 intro pins s σ H x y v u Q I rx ry h
 obtain ⟨d, e, h1, h2, o1, o2, q⟩ := h
 obtain ⟨as, r1⟩ := h1.reads I.hok (Bool.and_eq_true_iff.mp o1).1 rx
 obtain ⟨bs, r2⟩ := h2.reads I.hok (Bool.and_eq_true_iff.mp o2).1 ry
 exact eq_dataH r1 r2 o1 o2 hu ⟨.bl _, H, I, rfl, q⟩
theorem aHm {K : PySem.W.Frag} (hu : X.A.units + 64 < cLine) : OpR X (compareOp .NotEq) (aJe K true) := by
 intro pins s σ H x y v u Q I rx ry h
 obtain ⟨d, e, h1, h2, o1, o2, q⟩ := h
 obtain ⟨as, r1⟩ := h1.reads I.hok (Bool.and_eq_true_iff.mp o1).1 rx
 obtain ⟨bs, r2⟩ := h2.reads I.hok (Bool.and_eq_true_iff.mp o2).1 ry
 exact ne_dataH r1 r2 o1 o2 hu ⟨.bl _, H, I, rfl, q⟩
def eqE (ng : Bool) (x y : Ev) : Res Ev := match dat x, dat y with
 | some d, some e => if SeqAt.shaped d = true /\ SeqAt.shaped e = true then .ok (.p (.bool (if ng then !PyData.eqv d e else PyData.eqv d e))) else .bad
 | _, _ => .bad
theorem b6 {ng : Bool} : NoX (eqE ng) := by
 intro x y A h
 unfold eqE at h
 split at h
 ·split at h <;> cases h
 ·cases h
theorem dZ {ng : Bool} : OpM K (aJe K ng) (eqE ng) := by
 intro W G H v u x y Q gh hx hy hw
 unfold eqE at hw
 split at hw
 ·rename_i d e e1 e2
  split at hw
  ·rename_i hs
   exact ⟨d, e, hx.read gh e1, hy.read gh e2, hs.1, hs.2, hw G H _ (Step.refl gh) (.bl _)⟩
  ·exact hw.elim
 ·exact hw.elim
def mUn (op : Ev -> Res Ev) (fa : En -> Res Ev) : En -> Res Ev := fun en => (fa en).bind fun x => op x.c
variable {E : L2.St -> XK} {a b : Expr} {fa fb : En -> Res Ev} {pos : Pos}
def lM (x : Ev) : Res Ev := match x with
 | .p (.int i) => .ok (.p (.int (-i)))
 | _ => .bad
theorem kK (ha : DE X E a fa) : DE X E (.UnaryOp .USub a pos) (mUn lM fa) := by
 obtain ⟨t, p, m⟩ := ha.out
 refine DE.in ⟨_, aI2 aHt p, fun B G0 G W H σ en Q hh hs hw => m B G0 G W H σ en _ hh hs (DE.go hw fun x G1 H1 v s1 e1 h1 => ?_)⟩
 unfold lM at h1
 split at h1
 ·rename_i i e
  rw [e] at e1
  cases e1
  exact ⟨i, rfl, h1 G1 H1 _ (Step.refl s1.gh) (.int _)⟩
 ·exact h1.elim
def gE : Ev -> Option (List D)
 | .p (.list ds) => some ds
 | .b (.list ds) => some ds
 | .p (.tuple ds) => some ds
 | _ => none
def ixE (x y : Ev) : Res Ev := match y with
 | .p (.int i) => match gE x with
  | some ds => match atI ds i with
   | some d => .ok (.p d)
   | none => .bad
  | none => .bad
 | _ => .bad
theorem aF1 : NoX ixE := by
 intro x y A h
 unfold ixE at h
 split at h
 ·split at h
  ·split at h <;> cases h
  ·cases h
 ·cases h
theorem pN {G : Hp} {xs : List V} {ds : List D} {i : Int} {d : D} (r : Reps K G xs ds) (h : atI ds i = some d) : ∃ x, atI xs i = some x /\ Rep K G x d := by
 unfold atI at h ⊢
 rw [r.length]
 cases e : ixN ds.length i with
 | none => rw [e] at h; cases h
 | some j =>
  rw [e] at h
  exact r.get' h
def aJ0 (K : PySem.W.Frag) : R2 := fun x y H Q => aJw K x y H Q \/ aKb K x y H Q
theorem aKf : IxR X (aJ0 X.K) := ix_list.or aGt
theorem aJt : OpM K (aJ0 K) ixE := by
 intro W G H v u x y Q gh hx hy hw
 unfold ixE at hw
 split at hw
 ·rename_i i ey
  rw [ey] at hy
  cases hy
  split at hw
  ·rename_i ds ed
   split at hw
   ·rename_i d ea
    cases ex : x.c with
    | p dd =>
     rw [ex] at ed hx
     cases dd with
     | list es =>
      cases ed
      cases hx with
      | @lst a xs _ h1 h2 =>
       obtain ⟨z, h3, h4⟩ := pN h2 ea
       exact .inl ⟨a, xs, i, z, rfl, rfl, .inl (jN gh h1), h3, hw G H _ (Step.refl gh) h4⟩
     | tuple es =>
      cases ed
      cases hx with
      | @tup a xs _ h1 h2 =>
       obtain ⟨z, h3, h4⟩ := pN h2 ea
       exact .inr ⟨a, xs, i, z, rfl, rfl, SqT.of (gh _ _ h1), h3, hw G H _ (Step.refl gh) h4⟩
     | _ => cases ed
    | b dd =>
     rw [ex] at ed hx
     cases dd with
     | list es =>
      cases ed
      obtain ⟨a, k, o, rfl, h1, h2, h3⟩ := hx
      cases h3 with
      | @lst xs _ h4 =>
       obtain ⟨z, h5, h6⟩ := pN h4 ea
       exact .inl ⟨a, xs, i, z, rfl, rfl, .inl (.inl h2), h5, hw G H _ (Step.refl gh) h6⟩
     | _ => cases ed
    | f dd => rw [ex] at ed; cases ed
    | x C => rw [ex] at ed; cases ed
   ·exact hw.elim
  ·exact hw.elim
 ·exact hw.elim
theorem aQ (ha : DE X E a fa) (hb : DE X E b fb) (hs : xN b) : DE X E (.Subscript a b pos) (aE ixE fa fb) := by
 obtain ⟨ta, pa, ma⟩ := ha.out
 obtain ⟨tb, pb, mb⟩ := hb.out
 exact DE.in ⟨_, aI4 aKf pa pb hs, lE ma mb aJt aF1⟩
def jL (rs : List Ev) : Res Ev := match rs with
 | [x] => match gE x with
  | some ds => .ok (.p (.int ds.length))
  | none => .bad
 | _ => .bad
theorem mF : aAh jL := by
 intro rs C h
 unfold jL at h
 split at h
 ·split at h <;> cases h
 ·cases h
theorem rL : k7 K (fun xs H Q => ∃ p ys, xs = [.ref p] /\ (SqL K H p ys \/ SqT K H p ys) /\ Q (.int ys.length) H) jL := by
 intro W Hs G H vs rs Q gh he hw
 unfold jL at hw
 split at hw
 ·rename_i x
  match vs, he with
  | [v], ⟨h1, _⟩ =>
   split at hw
   ·rename_i ds ed
    cases x with
    | p dd =>
     cases dd with
     | list es =>
      cases ed
      cases h1 with
      | @lst a xs _ k1 k2 => exact ⟨a, xs, rfl, .inl (.inl (jN gh k1)), by rw [k2.length]; exact hw G H _ (Step.refl gh) (.int _)⟩
     | tuple es =>
      cases ed
      cases h1 with
      | @tup a xs _ k1 k2 => exact ⟨a, xs, rfl, .inr (SqT.of (gh _ _ k1)), by rw [k2.length]; exact hw G H _ (Step.refl gh) (.int _)⟩
     | _ => cases ed
    | b dd =>
     cases dd with
     | list es =>
      cases ed
      obtain ⟨a, k, o, rfl, k1, k2, k3⟩ := h1
      cases k3 with
      | @lst xs _ k4 => exact ⟨a, xs, rfl, .inl (.inl (.inl k2)), by rw [k4.length]; exact hw G H _ (Step.refl gh) (.int _)⟩
     | _ => cases ed
    | f dd => cases ed
    | x C => cases ed
   ·exact hw.elim
 ·exact hw.elim
def aBv (rs : List Ev) : Res Ev := match rs with
 | [.p (.int i)] => .ok (.p (.int (if i < 0 then -i else i)))
 | _ => .bad
theorem oO : aAh aBv := by
 intro rs C h
 unfold aBv at h
 split at h <;> cases h
theorem wK : k7 K (fun xs H Q => ∃ i, xs = [.int i] /\ Q (.int (if i < 0 then -i else i)) H) aBv := by
 intro W Hs G H vs rs Q gh he hw
 unfold aBv at hw
 split at hw
 ·rename_i i
  match vs, he with
  | [v], ⟨h1, _⟩ => cases h1; exact ⟨i, rfl, hw G H _ (Step.refl gh) (.int _)⟩
 ·exact hw.elim
def listE (rs : List Ev) : Res Ev := match rs with
 | [x] => match gE x with
  | some ds => .ok (.f (.list ds))
  | none => .bad
 | _ => .bad
theorem zB : aAh listE := by
 intro rs C h
 unfold listE at h
 split at h
 ·split at h <;> cases h
 ·cases h
theorem aB1 : k7 K (fun xs H Q => ∃ p ys, xs = [.ref p] /\ (SqL K H p ys \/ SqT K H p ys) /\ ∀ l, H l = none -> Q (.ref l) (upd H l (.lst ys))) listE := by
 intro W Hs G H vs rs Q gh he hw
 unfold listE at hw
 split at hw
 ·rename_i x
  match vs, he with
  | [v], ⟨h1, _⟩ =>
   split at hw
   ·rename_i ds ed
    have fin : ∀ {xs : List V}, Reps K G xs ds -> ∀ l, H l = none -> Q (.ref l) (upd H l (.lst xs)) := fun r l hl =>
     hw _ _ _ (Step.lay gh hl) ⟨l, _, rfl, hl, gh.free hl, bB, .lst r⟩
    cases x with
    | p dd =>
     cases dd with
     | list es =>
      cases ed
      cases h1 with
      | @lst a xs _ k1 k2 => exact ⟨a, xs, rfl, .inl (.inl (jN gh k1)), fin k2⟩
     | tuple es =>
      cases ed
      cases h1 with
      | @tup a xs _ k1 k2 => exact ⟨a, xs, rfl, .inr (SqT.of (gh _ _ k1)), fin k2⟩
     | _ => cases ed
    | b dd =>
     cases dd with
     | list es =>
      cases ed
      obtain ⟨a, k, o, rfl, k1, k2, k3⟩ := h1
      cases k3 with
      | @lst xs _ k4 => exact ⟨a, xs, rfl, .inl (.inl (.inl k2)), fin k4⟩
     | _ => cases ed
    | f dd => cases ed
    | x C => cases ed
   ·exact hw.elim
 ·exact hw.elim
def tyD : D -> String
 | .none => "NoneType"
 | .bool _ => "bool"
 | .int _ => "int"
 | .str _ => "str"
 | .list _ => "list"
 | .tuple _ => "tuple"
 | .dict _ => "dict"
def aF3 (K : PySem.W.Frag) (c : Value) (x : Ev) : Res Ev := match dat x with
 | some d => match PySem.W.kitOne K (.type (tyD d)) c with
  | some b => .ok (.p (.bool b))
  | none => .bad
 | none => .bad
theorem aFw {H : Hp} {v : V} {d : D} (h : Rep K H v d) : rB K H v (.type (tyD d)) := by
 cases h with
 | non => exact .non
 | bl b => exact .bl b
 | int i => exact .int i
 | str i => exact .str i
 | tup h _ => exact .tup h
 | lst h _ =>
  rcases h with h | ⟨o, h⟩
  ·exact .lst h
  ·exact .frz h
 | dT h _ => exact .dT h
 | dK h _ => exact .dK h
theorem aAw {e c : Expr} {v : V} {cv : Value} {p : Pos} (hg : Gl X "isinstance") (hm : X.mg "isinstance" = none) (hv : (∃ n, v = .ty n) \/ ∃ a, v = .ref a) (hr : RelV v cv) (he : DE X E e fa) (hc : PE X c (tC v))
  (h1 : starEach [e, c] X.env = (false, eval e X.env) :: starEach [c] X.env := by rfl) (h2 : (backTo pos (starEach [c] X.env)).any (·.1) = false := by rfl) (h3 : starEach [c] X.env = (false, eval c X.env) :: starEach [] X.env := by rfl) :
  DE X E (.Call (.Name "isinstance" p) [e, c] [] pos) (mUn (aF3 X.K cv) fa) := by
 obtain ⟨t, q, m⟩ := he.out
 refine DE.in ⟨_, aFf hg hm q hc h1 h2 h3, fun B G0 G W H σ en Q hh hs hw => m B G0 G W H σ en _ hh hs (DE.go hw fun x G1 H1 u s1 e1 k1 => ?_)⟩
 unfold aF3 at k1
 split at k1
 ·rename_i d ed
  split at k1
  ·rename_i b eb
   exact ⟨u, v, .type (tyD d), cv, b, rfl, hv, .plain (aFw (EOk.read s1.gh e1 ed)), hr, eb, k1 G1 H1 _ (Step.refl s1.gh) (.bl _)⟩
  ·exact k1.elim
 ·exact k1.elim
end
section
variable {P : Program} {w : World} {K : PySem.W.Frag} {mg : Str -> Option Value} {base : Heap}
structure Def (K : PySem.W.Frag) (mg : Str -> Option Value) (x : Str) (ps : List Str) (st : Stmt) : Prop where
 ex : ∃ f fd, Fun K x x st f fd /\ Binds K fd ps [] /\ PySem.W.keepIn K (.ref f) = true /\ mg x = some (.ref f)
structure Cal (P : Program) (w : World) (K : PySem.W.Frag) (mg : Str -> Option Value) (base : Heap) (k : Nat) (x : Str) (n : Nat) (m : List L -> Res L) : Prop where
 ex : ∃ f fd ps, FnOk P w K mg base (CXr P w) k f fd ps (spM K n m) /\ Binds K fd ps [] /\ PySem.W.keepIn K (.ref f) = true /\ mg x = some (.ref f)
theorem rM {x : Str} {st : Stmt} {N ps : List Str} {k n : Nat} {m : List L -> Res L} (Df : Def K mg x ps st) (S : bJ N ps (aP st)) (hn : n = ps.length)
  (hbody : ∀ (f : Addr) (cdv : Value) (A : Around) (outer : List Env) (s : Shared) (H : Hp) (E : XK), Room k (A.deeper (envOfC x (aP st) s.heap.objs.size f cdv)) ->
   ∃ fm, DSs (pU (CXr P w) P w K mg base N x (aP st) f cdv A outer s H E) (fun _ => E) (dH st) fm /\ ∀ ls, m ls = .bad \/ fM N.length fm ls = m ls) : Cal P w K mg base (k + 1) x n m := by
 obtain ⟨f, fd, F, b, kp, h⟩ := Df.ex
 exact ⟨f, fd, ps, fnM F S hn fun cdv A outer s H E hr => hbody f cdv A outer s H E hr, b, kp, h⟩
end
section
variable {X : Cx} {E : L2.St -> XK} {k j : Nat} {x : Str} {p pos : Pos} {e : Expr} {es : List Expr} {fr : En -> Res (List Ev)} {n : Nat} {m : List L -> Res L}
theorem aR (c : Cal X.prog X.w X.K X.mg X.base j x n m) (hr : Room k X.A) (hx : jB (CXr X.prog X.w) X E) (ha : DA X E (e :: es) fr) (hg : Gl X x := by rfl) (hjk : j <= k := by decide) (hdb : (x == ("__debug__" : Str)) = false := by decide)
  (he : starEach (e :: es) X.env = (false, eval e X.env) :: starEach es X.env := by rfl) (hpl : (backTo pos (starEach es X.env)).any (·.1) = false := by rfl) :
  DE X E (.Call (.Name x p) (e :: es) [] pos) (a9 n m fr) := by
 obtain ⟨f, fd, ps, F, b, kp, h⟩ := c.ex
 exact aBt (F.mono hjk) hr hg h kp b hx ha hdb he hpl
theorem dv (i : Nat) (hN : X.N[i]? = some x := by rfl) (hv : Vis X.env.scope x := by first | exact Or.inl rfl | exact Or.inr (Or.inl rfl) | exact Or.inr (Or.inr rfl)) (hd : (x == ("__debug__" : Str)) = false := by decide) (hcd : (x == ("__classdict__" : Str)) = false := by decide) :
  DE X E (.Name x pos) (aI i) := aG5 hN hv hd hcd
theorem u64 {A : Around} (hr : Room k A) : A.units + 64 < cLine := by have := hr.un; omega
theorem u1 {A : Around} (hr : Room k A) : A.units + 1 < cLine := by have := hr.un; omega
theorem cY {scope : Scope} {cl : List (Str × Addr)} : j6 X scope cl [] [] := ⟨rfl, fun i y j h _ => by simp at h⟩
theorem b9 {scope : Scope} {cl : List (Str × Addr)} {y : Str} {ys : List Str} {j : Nat} {js : List Nat} (h : X.N[j]? = some y /\ (X.env.kindOf y = some .cell \/ X.env.kindOf y = some .free) /\ ((relabel scope X.env).names.lookup y = some .cell \/ (relabel scope X.env).names.lookup y = some .free) /\ (X.env.cells.lookup y).isSome = true /\ cl.lookup y = X.env.cells.lookup y)
  (t : j6 X scope cl ys js) : j6 X scope cl (y :: ys) (j :: js) :=
 ⟨by rw [List.length_cons, List.length_cons, t.len], fun i z q e1 e2 => by
  cases i with
  | zero => simp at e1 e2; subst e1 e2; exact h
  | succ i => exact t.at_ i z q (by simpa using e1) (by simpa using e2)⟩
theorem rY {scope : Scope} {cl : List (Str × Addr)} {ys : List Str} {js : List Nat} (clos : closureFor scope X.env = pure cl) (sub : ∀ q ∈ cl, X.env.cells.lookup q.1 = some q.2) (cap : j6 X scope cl ys js) (hcell : ∀ y ∈ scope.names, y.2 ≠ .cell) (hfree : ∀ q ∈ scope.names, q.2 = .free -> q.1 ∈ ys) : aB0 X scope cl := by
 refine ⟨clos, fun y c h => sub _ (PySem.mem_of_lookup h), fun y hy => ?_⟩
 have hm : y ∈ ys := by
  rcases hy with hy | hy
  ·have m := PySem.mem_of_lookup hy
   obtain ⟨⟨n0, k0⟩, m0, e0⟩ := List.mem_map.mp m
   dsimp only at e0
   split at e0
   ·rename_i z
    injection e0 with e1 e2
    subst e1
    have : k0 = .free := by
     cases k0 <;> simp at z ⊢
    exact hfree _ m0 this
   ·injection e0 with e1 e2
    exact absurd e2 (hcell _ m0)
  ·have m := PySem.mem_of_lookup hy
   obtain ⟨⟨n0, k0⟩, m0, e0⟩ := List.mem_map.mp m
   dsimp only at e0
   split at e0
   ·injection e0 with e1 e2
    cases e2
   ·injection e0 with e1 e2
    subst e1
    exact hfree _ m0 e2
 obtain ⟨i, hi, e⟩ := List.mem_iff_getElem.mp hm
 have hj : i < js.length := by rw [<- cap.len]; exact hi
 obtain ⟨_, _, _, h4, h5⟩ := cap.at_ i y js[i] (by rw [List.getElem?_eq_getElem hi, e]) (List.getElem?_eq_getElem hj)
 rw [h5]
 exact Option.isSome_iff_exists.mp h4
theorem mD {K : PySem.W.Frag} {B G0 G H : Hp} {W : Addr -> Option Nat} {σ : L2.St} {en : En} {i : Nat} {a : Addr} {o' : HO} {d' : D} (hh : SimH B G0 G W H) (hs : SimS K W G H σ en) (hW : W a = some i) (hv : σ[i]? = some (some (.ref a))) (hc : Cont K G o' d') :
  SimH B G0 G W (upd H a o') /\ SimS K W G (upd H a o') σ (en.set i (some (.o d'))) := by
 obtain ⟨g1, g2, g3⟩ := hh.wf a i hW
 refine ⟨⟨fun b o e => ?_, fun b o e => ?_, hh.g0, hh.gb, fun b j e => ?_⟩, by rw [List.length_set]; exact hs.1, fun j l e => ?_⟩
 ·rw [a7 (bO e g1)]; exact hh.gh b o e
 ·rw [a7 (bO e g2)]; exact hh.bh b o e
 ·obtain ⟨k1, k2, o, k3, k4⟩ := hh.wf b j e
  refine ⟨k1, k2, ?_⟩
  by_cases z : b = a
  ·rw [z, bB]; exact ⟨_, rfl, hc.mut⟩
  ·rw [a7 z]; exact ⟨o, k3, k4⟩
 ·rw [List.getElem?_set] at e
  by_cases hj : i = j
  ·subst hj
   rw [if_pos rfl] at e
   split at e
   ·cases e
    exact ⟨_, hv, a, o', rfl, hW, bB, hc⟩
   ·cases e
  ·rw [if_neg hj] at e
   obtain ⟨v, e1, e2⟩ := hs.2 j l e
   refine ⟨v, e1, ?_⟩
   cases l with
   | p d => exact e2
   | x C => exact e2
   | h a => exact e2
   | o d =>
    obtain ⟨b, ob, h1, h2, h3, h4⟩ := e2
    refine ⟨b, ob, h1, h2, ?_, h4⟩
    rw [a7 (fun z => by rw [z, hW] at h2; exact hj (Option.some.inj h2))]
    exact h3
def eJ (i : Nat) (fe : En -> Res Ev) : MS := fun en => match en[i]? with
 | some (some (.o (.list ds))) => match fe en with
  | .ok r => match r.c with
   | .p d => if ds.length <= 100000 then some (.nx (en.set i (some (.o (.list (ds ++ [d])))))) else none
   | _ => none
  | .exc C => some (.ex C en)
  | .bad => none
 | _ => none
theorem fZ {i : Nat} {fe : En -> Res Ev} {st : Stmt} (he : DE X E e fe) (hp : ∀ t, PE X e t -> PS X st (wQ (tBM X.K "list" xH (aEp i) (aCm t aJb)))) : DS X E st (eJ i fe) := by
 obtain ⟨t, q, mm⟩ := he.out
 refine DS.in ⟨_, hp t q, fun B G0 G W H σ en Dn hh hs hw => ?_⟩
 unfold eJ at hw
 split at hw
 ·rename_i ds ei
  obtain ⟨v, e1, a, o, rfl, e2, e3, e4⟩ := hs.2 i _ ei
  cases e4 with
  | @lst xs _ rp =>
  refine ⟨_, e1, .inl ⟨rfl, _, SqL.of e3⟩, mm B G0 G W H σ en _ hh hs ?_⟩
  cases ef : fe en with
  | bad => rw [ef] at hw; exact hw
  | exc C => rw [ef] at hw; exact fun G1 H1 s => hw G1 W H1 σ (hh.step s) (hs.step s)
  | ok r =>
   rw [ef] at hw
   intro G1 H1 y s ey
   obtain ⟨G2, s2, ey2⟩ := ey.c s
   dsimp only at hw
   cases er : r.c with
   | p d =>
    rw [er] at hw ey2
    dsimp only at hw
    split at hw
    ·rename_i hl
     have hx := s2.h _ _ e3
     refine ⟨a, xs, y, rfl, rfl, hx, Nat.lt_of_le_of_lt (by rw [rp.length]; exact hl) (by decide), ?_⟩
     obtain ⟨w1, w2⟩ := mD (o' := .lst (xs ++ [y])) (d' := .list (ds ++ [d])) (hh.step s2) (hs.step s2) e2 e1 (.lst ((rp.mono s2.g).append (.cons ey2 .nil)))
     exact hw _ _ _ _ w1 w2
    ·exact hw.elim
   | f d => rw [er] at hw; exact hw.elim
   | b d => rw [er] at hw; exact hw.elim
   | x C => rw [er] at hw; exact hw.elim
 ·exact hw.elim
end
end M
namespace SRT
open PySem PySem.W PyProof.Rows
structure Ord (lt : Nat -> Nat -> Bool) : Prop where
 as : ∀ i j, lt i j = true -> lt j i = false
 tr : ∀ i j k, lt j i = false -> lt k j = false -> lt k i = false
section
variable {lt : Nat -> Nat -> Bool} {n : Nat} {cmp : Nat -> Nat -> (Bool -> Shared -> Prop) -> Shared -> Prop} {s : Shared}
def le (lt : Nat -> Nat -> Bool) (a b : Nat) : Prop := lt b a = false
theorem Ord.rf (o : Ord lt) (i : Nat) : le lt i i := by
 cases e : lt i i with
 | false => exact e
 | true => have := o.as i i e; rw [e] at this; cases this
theorem Ord.tot (o : Ord lt) {i j : Nat} (h : lt i j = true) : le lt i j := o.as i j h
def Pt (p : Array Nat) (i : Nat) : Nat := p.getD i 0
def Sd (lt : Nat -> Nat -> Bool) (p : Array Nat) (m : Nat) : Prop := ∀ i j, i <= j -> j < m -> le lt (Pt p i) (Pt p j)
def NI (lt : Nat -> Nat -> Bool) (p : Array Nat) (m : Nat) : Prop := ∀ i j, i <= j -> j < m -> le lt (Pt p j) (Pt p i)
def Pm (n : Nat) (p : Array Nat) : Prop := p.Perm (List.range n).toArray
theorem Pm.size {p : Array Nat} (h : Pm n p) : p.size = n := by
 have := h.size_eq
 simpa using this
theorem Pm.bd {p : Array Nat} (h : Pm n p) (hn : 0 < n) (i : Nat) : Pt p i < n := by
 unfold Pt
 by_cases hi : i < p.size
 ·have e : p.getD i 0 = p[i] := by simp [Array.getD, hi]
  rw [e]
  have : p[i] ∈ (List.range n).toArray := h.mem_iff.mp (Array.getElem_mem hi)
  simpa using this
 ·have e : p.getD i 0 = 0 := by simp [Array.getD, hi]
  rw [e]; exact hn
theorem tF {p q : Array Nat} {i j : Nat} (h : p[i]? = q[j]?) : Pt p i = Pt q j := by
 unfold Pt
 rw [Array.getD_eq_getD_getElem?, Array.getD_eq_getD_getElem?, h]
theorem nG {p : Array Nat} (h : Pm n p) (i j : Nat) : Pm n (kas_rev p i j) := (mirror_perm _ _ _ _).trans h
theorem oF {p : Array Nat} {i j : Nat} (hj : j <= p.size) (k : Nat) : Pt (kas_rev p i j) k = if i <= k /\ k < j then Pt p (i + j - 1 - k) else Pt p k := by
 have e := getElem?_mirror_all (xs := p) (i := i) hj k
 split
 ·rename_i h
  rw [if_pos h] at e
  exact tF e
 ·rename_i h
  rw [if_neg h] at e
  exact tF e
variable (hc : ∀ i j C, i < n -> j < n -> C (lt i j) s -> cmp i j C s) (hn : 0 < n) (o : Ord lt)
include hc hn
theorem wR {Q : Nat -> Shared -> Prop} {p : Array Nat} (hp : Pm n p) : ∀ (f a : Nat), (∀ m, a <= m -> m <= a + f -> (∀ k, a <= k -> k < m -> le lt (Pt p (k - 1)) (Pt p k)) -> (m < a + f -> lt (Pt p m) (Pt p (m - 1)) = true) -> Q m s) ->
  (kas_asc p f a).kasWp cmp Q s
 | 0, a, h => h a (Nat.le_refl _) (Nat.le_refl _) (fun k h1 h2 => absurd h2 (by omega)) (fun h => absurd h (by omega))
 | f + 1, a, h => by
  refine hc _ _ _ (hp.bd hn _) (hp.bd hn _) ?_
  show KasT.kasWp cmp (if lt (Pt p a) (Pt p (a - 1)) = true then .ret a else kas_asc p f (a + 1)) Q s
  cases e : lt (Pt p a) (Pt p (a - 1)) with
  | true =>
   rw [if_pos rfl]
   exact h a (Nat.le_refl _) (by omega) (fun k h1 h2 => absurd h2 (by omega)) fun _ => e
  | false =>
   rw [if_neg Bool.false_ne_true]
   refine wR hp f (a + 1) fun m h1 h2 h3 h4 => h m (by omega) (by omega) (fun k k1 k2 => ?_) fun z => h4 (by omega)
   by_cases ek : k = a
   ·subst ek; exact e
   ·exact h3 k (by omega) k2
include o
omit hc hn in
theorem aE9 {p : Array Nat} {a m : Nat} (h1 : 1 <= a) (hs : Sd lt p a) (hk : ∀ k, a <= k -> k < m -> le lt (Pt p (k - 1)) (Pt p k)) : Sd lt p m := by
 intro i j hij hj
 induction j with
 | zero =>
  have : i = 0 := by omega
  subst this
  exact o.rf _
 | succ j ih =>
  by_cases e : i = j + 1
  ·subst e; exact o.rf _
  ·have ih := ih (by omega) (by omega)
   by_cases hja : j + 1 < a
   ·exact hs i (j + 1) hij hja
   ·have := hk (j + 1) (by omega) hj
    exact o.tr _ _ _ ih this
omit hc hn in
theorem aG6 {p : Array Nat} {m : Nat} (hm : m <= p.size) (h : NI lt p m) : Sd lt (kas_rev p 0 m) m := by
 intro i j hij hj
 rw [oF hm, oF hm, if_pos ⟨Nat.zero_le _, by omega⟩, if_pos ⟨Nat.zero_le _, hj⟩]
 exact h _ _ (by omega) (by omega)
theorem uR {Q : Nat × Array Nat -> Shared -> Prop} {p : Array Nat} {a r : Nat} (hp : Pm n p) (h1 : 1 <= a) (ha : a <= r) (hr : r <= n) (hni : NI lt p a) (h : ∀ m q, 1 <= m -> m <= r -> Pm n q -> Sd lt q m -> Q (m, q) s) : (kas_tail3 a r p).kasWp cmp Q s := by
 unfold kas_tail3
 rw [KasT.kasWp_bind]
 have hz : a <= p.size := by rw [hp.size]; omega
 refine wR hc hn (nG hp 0 a) _ _ fun m h2 h3 h4 _ => ?_
 exact h m _ (by omega) (by omega) (nG hp 0 a) (aE9 o h1 (aG6 o hz hni) h4)
omit hc hn in
theorem rev_eq {p : Array Nat} {i j : Nat} (hj : j <= p.size) (he : ∀ a b, i <= a -> a < j -> i <= b -> b < j -> le lt (Pt p a) (Pt p b)) (k : Nat) : le lt (Pt (kas_rev p i j) k) (Pt p k) /\ le lt (Pt p k) (Pt (kas_rev p i j) k) := by
 rw [oF hj]
 split
 ·rename_i h
  exact ⟨he _ _ (by omega) (by omega) h.1 h.2, he _ _ h.1 h.2 (by omega) (by omega)⟩
 ·exact ⟨o.rf _, o.rf _⟩
omit hc hn in
theorem jE {p : Array Nat} {i j m : Nat} (hj : j <= p.size) (he : ∀ a b, i <= a -> a < j -> i <= b -> b < j -> le lt (Pt p a) (Pt p b)) (h : NI lt p m) : NI lt (kas_rev p i j) m := fun a b hab hb =>
 o.tr _ _ _ (rev_eq o hj he b).1 (o.tr _ _ _ (h a b hab hb) (rev_eq o hj he a).2)
theorem k8 {Q : Array Nat × Nat × Nat -> Shared -> Prop} {r : Nat} (hr : r <= n) : ∀ (f : Nat) (p : Array Nat) (a q : Nat), Pm n p -> a + f <= r -> q + 1 <= a -> NI lt p a -> (∀ x y, a - (q + 1) <= x -> x < a -> a - (q + 1) <= y -> y < a -> le lt (Pt p x) (Pt p y)) ->
  (∀ p' a' q', Pm n p' -> a <= a' -> a' <= r -> q' + 1 <= a' -> NI lt p' a' -> (∀ x y, a' - (q' + 1) <= x -> x < a' -> a' - (q' + 1) <= y -> y < a' -> le lt (Pt p' x) (Pt p' y)) -> Q (p', a', q') s) -> (kas_desc f p a q).kasWp cmp Q s
 | 0, p, a, q, hp, hf, hq, hni, he, h => h p a q hp (Nat.le_refl _) (by omega) hq hni he
 | f + 1, p, a, q, hp, hf, hq, hni, he, h => by
  have hz : a <= p.size := by rw [hp.size]; omega
  refine hc _ _ _ (hp.bd hn _) (hp.bd hn _) ?_
  show KasT.kasWp cmp (if lt (Pt p a) (Pt p (a - 1)) = true then (if q > 0 then kas_desc f (kas_rev p (a - (q + 1)) a) (a + 1) 0 else kas_desc f p (a + 1) 0)
   else .ask (Pt p (a - 1)) (Pt p a) fun d => if d = true then .ret (p, a, q) else kas_desc f p (a + 1) (q + 1)) Q s
  have grow : ∀ {p' : Array Nat}, NI lt p' a -> le lt (Pt p' a) (Pt p' (a - 1)) -> NI lt p' (a + 1) := fun {p'} h1 h2 i j hij hj => by
   by_cases e : j = a
   ·subst e
    by_cases e2 : i = j
    ·subst e2; exact o.rf _
    ·exact o.tr _ _ _ h2 (h1 i (j - 1) (by omega) (by omega))
   ·exact h1 i j hij (by omega)
  cases e : lt (Pt p a) (Pt p (a - 1)) with
  | true =>
   rw [if_pos rfl]
   by_cases hq0 : q > 0
   ·rw [if_pos hq0]
    have n1 := jE o hz he hni
    have e1 : Pt (kas_rev p (a - (q + 1)) a) a = Pt p a := by rw [oF hz, if_neg (by omega)]
    have le1 : le lt (Pt (kas_rev p (a - (q + 1)) a) a) (Pt (kas_rev p (a - (q + 1)) a) (a - 1)) := by
     rw [e1]
     exact o.tr _ _ _ (o.tot e) (rev_eq o hz he (a - 1)).2
    refine k8 hr f _ (a + 1) 0 (nG hp _ _) (by omega) (by omega) (grow n1 le1) (fun x y h1 h2 h3 h4 => ?_) fun p' a' q' k1 k2 k3 k4 k5 k6 => h p' a' q' k1 (by omega) k3 k4 k5 k6
    have : x = y := by omega
    subst this; exact o.rf _
   ·rw [if_neg hq0]
    refine k8 hr f _ (a + 1) 0 hp (by omega) (by omega) (grow hni (o.tot e)) (fun x y h1 h2 h3 h4 => ?_) fun p' a' q' k1 k2 k3 k4 k5 k6 => h p' a' q' k1 (by omega) k3 k4 k5 k6
    have : x = y := by omega
    subst this; exact o.rf _
  | false =>
   rw [if_neg Bool.false_ne_true]
   refine hc _ _ _ (hp.bd hn _) (hp.bd hn _) ?_
   show KasT.kasWp cmp (if lt (Pt p (a - 1)) (Pt p a) = true then .ret (p, a, q) else kas_desc f p (a + 1) (q + 1)) Q s
   cases e2 : lt (Pt p (a - 1)) (Pt p a) with
   | true =>
    rw [if_pos rfl]
    exact h p a q hp (Nat.le_refl _) (by omega) hq hni he
   | false =>
    rw [if_neg Bool.false_ne_true]
    have eq1 : le lt (Pt p (a - 1)) (Pt p a) := e
    have eq2 : le lt (Pt p a) (Pt p (a - 1)) := e2
    refine k8 hr f p (a + 1) (q + 1) hp (by omega) (by omega) (grow hni eq2) (fun x y h1 h2 h3 h4 => ?_) fun p' a' q' k1 k2 k3 k4 k5 k6 => h p' a' q' k1 (by omega) k3 k4 k5 k6
    by_cases hx : x = a
    ·subst hx
     by_cases hy : y = x
     ·subst hy; exact o.rf _
     ·exact o.tr _ _ _ eq2 (he _ _ (by omega) (by omega) (by omega) (by omega))
    ·by_cases hy : y = a
     ·subst hy
      exact o.tr _ _ _ (he _ (y - 1) (by omega) (by omega) (by omega) (by omega)) eq1
     ·exact he _ _ (by omega) (by omega) (by omega) (by omega)
theorem jO {Q : Nat × Array Nat -> Shared -> Prop} {p : Array Nat} {a r : Nat} (hp : Pm n p) (h1 : 1 <= a) (ha : a + 1 <= r) (hr : r <= n) (hni : NI lt p (a + 1)) (h : ∀ m q, 1 <= m -> m <= r -> Pm n q -> Sd lt q m -> Q (m, q) s) : (kas_descPart a r p).kasWp cmp Q s := by
 unfold kas_descPart
 rw [KasT.kasWp_bind]
 refine k8 hc hn o hr _ p (a + 1) 0 hp (by omega) (by omega) hni (fun x y h1 h2 h3 h4 => ?_) fun p' a' q' k1 k2 k3 k4 k5 k6 => ?_
 ·have : x = y := by omega
  subst this; exact o.rf _
 ·have hz : a' <= p'.size := by rw [k1.size]; omega
  show KasT.kasWp cmp (if q' > 0 then kas_tail3 a' r (kas_rev p' (a' - (q' + 1)) a') else kas_tail3 a' r p') Q s
  by_cases hq : q' > 0
  ·rw [if_pos hq]
   exact uR hc hn o (nG k1 _ _) (by omega) k3 hr (jE o hz k6 k5) h
  ·rw [if_neg hq]
   exact uR hc hn o k1 (by omega) k3 hr k5 h
theorem aAk {Q : Nat × Array Nat -> Shared -> Prop} {p : Array Nat} {r : Nat} (hp : Pm n p) (h1 : 1 <= r) (hr : r <= n) (h : ∀ m q, 1 <= m -> m <= r -> Pm n q -> Sd lt q m -> Q (m, q) s) : (kas_count r p).kasWp cmp Q s := by
 unfold kas_count
 rw [KasT.kasWp_bind]
 have s1 : Sd lt p 1 := fun i j hij hj => by
  have : i = j := by omega
  subst this; exact o.rf _
 refine wR hc hn hp _ _ fun m h2 h3 h4 h5 => ?_
 have sm := aE9 o (Nat.le_refl 1) s1 h4
 show KasT.kasWp cmp (if (m == r) = true then .ret (m, p) else if m > 1 then .ask (Pt p 0) (Pt p (m - 1)) fun c => if c = true then .ret (m, p) else kas_descPart m r (kas_rev p 0 m) else kas_descPart m r p) Q s
 by_cases em : m = r
 ·rw [if_pos (by simp [em])]
  exact h m p h2 (by omega) hp sm
 ·rw [if_neg (by simp [em])]
  have hlt := h5 (by omega)
  have hz : m <= p.size := by rw [hp.size]; omega
  by_cases hm : m > 1
  ·rw [if_pos hm]
   refine hc _ _ _ (hp.bd hn _) (hp.bd hn _) ?_
   show KasT.kasWp cmp (if lt (Pt p 0) (Pt p (m - 1)) = true then .ret (m, p) else kas_descPart m r (kas_rev p 0 m)) Q s
   cases e : lt (Pt p 0) (Pt p (m - 1)) with
   | true => rw [if_pos rfl]; exact h m p h2 (by omega) hp sm
   | false =>
    rw [if_neg Bool.false_ne_true]
    have e : le lt (Pt p (m - 1)) (Pt p 0) := e
    have he : ∀ a b, 0 <= a -> a < m -> 0 <= b -> b < m -> le lt (Pt p a) (Pt p b) := fun a b _ ha _ hb =>
     o.tr _ _ _ (sm a (m - 1) (by omega) (by omega)) (o.tr _ _ _ e (sm 0 b (by omega) hb))
    have nm : NI lt p m := fun i j hij hj => he j i (by omega) hj (by omega) (by omega)
    have n2 := jE o hz he nm
    have em1 : Pt (kas_rev p 0 m) m = Pt p m := by rw [oF hz, if_neg (by omega)]
    refine jO hc hn o (nG hp 0 m) (by omega) (by omega) hr (fun i j hij hj => ?_) h
    by_cases ej : j = m
    ·subst ej
     by_cases ei : i = j
     ·subst ei; exact o.rf _
     ·rw [em1]
      refine o.tr _ _ _ (o.tot hlt) (o.tr _ _ _ (rev_eq o hz he (j - 1)).2 ?_)
      exact n2 i (j - 1) (by omega) (by omega)
    ·exact n2 i j hij (by omega)
  ·rw [if_neg hm]
   have e1 : m = 1 := by omega
   subst e1
   refine jO hc hn o hp (Nat.le_refl 1) (by omega) hr (fun i j hij hj => ?_) h
   by_cases ei : i = j
   ·subst ei; exact o.rf _
   ·have : i = 0 /\ j = 1 := by omega
    obtain ⟨rfl, rfl⟩ := this
    exact o.tot hlt
theorem lF {Q : Nat -> Shared -> Prop} {p : Array Nat} {k : Nat} (hp : Pm n p) (hs : Sd lt p k) : ∀ (f l r : Nat), l <= r -> r <= k -> r - l <= f -> (∀ i, i < l -> le lt (Pt p i) (Pt p k)) -> (∀ i, r <= i -> i < k -> lt (Pt p k) (Pt p i) = true) ->
  (∀ m, m <= k -> (∀ i, i < m -> le lt (Pt p i) (Pt p k)) -> (∀ i, m <= i -> i < k -> lt (Pt p k) (Pt p i) = true) -> Q m s) -> (kas_place p k f l r).kasWp cmp Q s
 | 0, l, r, h1, h2, h3, h4, h5, h => by
  have : l = r := by omega
  subst this
  exact h l h2 h4 h5
 | f + 1, l, r, h1, h2, h3, h4, h5, h => by
  unfold kas_place
  by_cases e : l ≥ r
  ·rw [if_pos e]
   have : l = r := by omega
   subst this
   exact h l h2 h4 h5
  ·rw [if_neg e]
   refine hc _ _ _ (hp.bd hn _) (hp.bd hn _) ?_
   show KasT.kasWp cmp (if lt (Pt p k) (Pt p ((l + r) / 2)) = true then kas_place p k f l ((l + r) / 2) else kas_place p k f ((l + r) / 2 + 1) r) Q s
   cases ec : lt (Pt p k) (Pt p ((l + r) / 2)) with
   | true =>
    rw [if_pos rfl]
    refine lF hp hs f l ((l + r) / 2) (by omega) (by omega) (by omega) h4 (fun i i1 i2 => ?_) h
    cases ei : lt (Pt p k) (Pt p i) with
    | true => rfl
    | false =>
     have := o.tr _ _ _ (hs ((l + r) / 2) i i1 i2) ei
     rw [ec] at this; cases this
   | false =>
    rw [if_neg Bool.false_ne_true]
    refine lF hp hs f ((l + r) / 2 + 1) r (by omega) h2 (by omega) (fun i i1 => ?_) h5 h
    exact o.tr _ _ _ (hs i ((l + r) / 2) (by omega) (by omega)) ec
omit hc hn in
theorem aAn {p : Array Nat} {k l : Nat} (hk : k < p.size) (hl : l <= k) (i : Nat) : Pt (bubble p k (k - l)) i = if i = l then Pt p k else if l < i /\ i <= k then Pt p (i - 1) else Pt p i := by
 have e := getElem?_bubble hk (k - l) (by omega) i
 have e1 : k - (k - l) = l := by omega
 rw [e1] at e
 repeat' split
 ·rename_i h; rw [if_pos h] at e; exact tF e
 ·rename_i h h2; rw [if_neg h, if_pos h2] at e; exact tF e
 ·rename_i h h2; rw [if_neg h, if_neg h2] at e; exact tF e
theorem aBd {Q : Array Nat -> Shared -> Prop} : ∀ (f : Nat) (p : Array Nat) (k : Nat), Pm n p -> k + f <= n -> Sd lt p k -> (∀ q, Pm n q -> Sd lt q (k + f) -> Q q s) -> (kas_bin f p k).kasWp cmp Q s
 | 0, p, k, hp, _, hs, h => h p hp hs
 | f + 1, p, k, hp, hk, hs, h => by
  unfold kas_bin
  rw [KasT.kasWp_bind]
  have hz : k < p.size := by rw [hp.size]; omega
  refine lF hc hn o hp hs k 0 k (Nat.zero_le _) (Nat.le_refl _) (by omega) (fun i h => absurd h (by omega)) (fun i h1 h2 => absurd h2 (by omega)) fun l hl h1 h2 => ?_
  refine aBd f _ (k + 1) ((bubble_perm _ _ _).trans hp) (by omega) (fun i j hij hj => ?_) fun q q1 q2 => h q q1 (by rw [show k + (f + 1) = k + 1 + f by omega]; exact q2)
  rw [aAn o hz hl, aAn o hz hl]
  by_cases ei : i = l
  ·rw [if_pos ei]
   by_cases ej : j = l
   ·rw [if_pos ej]; exact o.rf _
   ·rw [if_neg ej, if_pos ⟨by omega, by omega⟩]
    exact o.tot (h2 (j - 1) (by omega) (by omega))
  ·rw [if_neg ei]
   by_cases ej : j = l
   ·rw [if_pos ej, if_neg (by omega)]
    exact h1 i (by omega)
   ·rw [if_neg ej]
    by_cases hi : l < i /\ i <= k
    ·rw [if_pos hi, if_pos ⟨by omega, by omega⟩]
     exact hs _ _ (by omega) (by omega)
    ·rw [if_neg hi]
     by_cases hj2 : l < j /\ j <= k
     ·rw [if_pos hj2]
      exact hs _ _ (by omega) (by omega)
     ·rw [if_neg hj2]
      exact hs _ _ (by omega) (by omega)
theorem aB6 {Q : Array Nat -> Shared -> Prop} (h : ∀ q, Pm n q -> Sd lt q n -> Q q s) : (kas_sort n).kasWp cmp Q s := by
 unfold kas_sort
 rw [KasT.kasWp_bind]
 refine aAk hc hn o (Array.Perm.refl _) hn (Nat.le_refl n) fun m q h1 h2 h3 h4 => ?_
 show KasT.kasWp cmp (if m < n then kas_bin (n - max m 1) q (max m 1) else .ret q) Q s
 have em : max m 1 = m := by omega
 by_cases e : m < n
 ·rw [if_pos e, em]
  refine aBd hc hn o _ _ _ h3 (by omega) h4 fun q' k1 k2 => h q' k1 (by rw [show m + (n - m) = n by omega] at k2; exact k2)
 ·rw [if_neg e]
  have : m = n := by omega
  subst this
  exact h q h3 h4
end
end SRT
namespace SRT
open PySem PySem.W PyProof.Rows L2
def TupI (h : Heap) (v : Value) (ns : List Int) : Prop := ∃ t o xs c, v = .ref t /\ h.get? t = some o /\ o.cls = .type "tuple" /\ o.data = .seq xs c /\ IntsAre xs.toList ns
theorem TupI.at {h h' : Heap} {v : Value} {ns : List Int} (x : TupI h v ns) (k : ∀ t o, v = .ref t -> h.get? t = some o -> h'.get? t = some o) : TupI h' v ns :=
 let ⟨t, o, xs, c, e, ho, r⟩ := x; ⟨t, o, xs, c, e, k t o e ho, r⟩
theorem lU : ∀ {vs : List Value} {ns : List Int}, IntsAre vs ns -> vs.length = ns.length
 | _, _, .nil => rfl
 | _, _, .cons _ _ r => by rw [List.length_cons, List.length_cons, lU r]
theorem wC : ∀ a b : List Int, HT.lexLt a b = true -> HT.lexLt b a = false
 | [], [], h => by cases h
 | [], _ :: _, _ => rfl
 | _ :: _, [], h => by cases h
 | x :: a, y :: b, h => by
  rw [HT.dE] at h ⊢
  by_cases e : x = y
  ·rw [if_pos e] at h; rw [if_pos e.symm]; exact wC a b h
  ·rw [if_neg e] at h; rw [if_neg (Ne.symm e)]
   have := of_decide_eq_true h
   exact decide_eq_false (by omega)
theorem tL : ∀ a b c : List Int, HT.lexLt b a = false -> HT.lexLt c b = false -> HT.lexLt c a = false
 | [], _, [], _, _ => rfl
 | [], b, _ :: _, _, _ => rfl
 | _ :: _, [], _, h, _ => by cases h
 | x :: a, y :: b, [], _, h => by cases h
 | x :: a, y :: b, z :: c, h1, h2 => by
  rw [HT.dE] at h1 h2 ⊢
  by_cases e1 : y = x
  ·subst e1
   rw [if_pos rfl] at h1
   by_cases e2 : z = y
   ·subst e2
    rw [if_pos rfl] at h2 ⊢
    exact tL a b c h1 h2
   ·rw [if_neg e2] at h2 ⊢
    exact h2
  ·rw [if_neg e1] at h1
   have q1 := of_decide_eq_false h1
   by_cases e2 : z = y
   ·subst e2
    rw [if_neg e1]
    exact h1
   ·rw [if_neg e2] at h2
    have q2 := of_decide_eq_false h2
    have e3 : z ≠ x := by omega
    rw [if_neg e3]
    exact decide_eq_false (by omega)
theorem aA8 : ∀ a b : List Int, HT.lexLt a b = false -> HT.lexLt b a = false -> a = b
 | [], [], _, _ => rfl
 | [], _ :: _, h, _ => by cases h
 | _ :: _, [], _, h => by cases h
 | x :: a, y :: b, h1, h2 => by
  rw [HT.dE] at h1 h2
  by_cases e : x = y
  ·subst e
   rw [if_pos rfl] at h1 h2
   rw [aA8 a b h1 h2]
  ·rw [if_neg e] at h1; rw [if_neg (Ne.symm e)] at h2
   have q1 := of_decide_eq_false h1
   have q2 := of_decide_eq_false h2
   omega
theorem uJ (ks : List (List Int)) : Ord fun i j => HT.lexLt (ks.getD i []) (ks.getD j []) := ⟨fun _ _ => wC _ _, fun _ _ _ => tL _ _ _⟩
section
variable {prog : Program} {w : World} {A : Around} {E : Value -> Shared -> Prop} {s : Shared}
theorem aAv {b fin : Bool} {Q : Bool -> Shared -> Prop} : ∀ {us ws : List Value} {ns ms : List Int} (i : Nat), IntsAre us ns -> IntsAre ws ms -> (fin = decide (ns.length < ms.length)) -> Q (HT.lexLt ns ms) s -> KatLex prog w A b fin Q (us.zip ws) i s
 | _, _, [], [], i, .nil, .nil, hf, q => by
  rw [hf]; exact q
 | _, _, [], m :: ms, i, .nil, .cons _ _ _, hf, q => by
  rw [hf]
  show Q (decide (0 < ms.length + 1)) s
  rw [decide_eq_true (Nat.succ_pos _)]
  exact q
 | _, _, n :: ns, [], i, .cons _ _ _, .nil, hf, q => by
  rw [hf]
  show Q (decide (ns.length + 1 < 0)) s
  rw [decide_eq_false (Nat.not_lt_zero _)]
  exact q
 | _, _, n :: ns, m :: ms, i, .cons _ t hi, .cons _ u hj, hf, q => by
  rw [HT.dE] at q
  refine kat_cons (wpAny_eqBool_int ?_)
  by_cases e : n = m
  ·rw [if_pos e] at q
   rw [show (n == m) = true by simp [e]]
   exact kat_yes (aAv (i + 1) hi hj (by rw [hf]; simp) q)
  ·rw [if_neg e] at q
   rw [show (n == m) = false by simp [e]]
   refine kat_no ?_
   cases eb : (b && i == 0) with
   | true => exact oneLt_int q
   | false => exact kat_one _ _ (lt_int q)
theorem zA {x y : Value} {ns ms : List Int} {Q : Bool -> Shared -> Prop} (b : Bool) (hx : TupI s.heap x ns) (hy : TupI s.heap y ms) (q : Q (HT.lexLt ns ms) s) : wpAny (model prog w) A (keyLt' (tuples' b) x y) Q E s := by
 obtain ⟨t, o, xs, c, rfl, ho, hc, hd, hi⟩ := hx
 obtain ⟨t2, o2, xs2, c2, rfl, ho2, hc2, hd2, hi2⟩ := hy
 refine kat_lt ho hd ho2 hd2 (aAv 0 hi hi2 ?_ q)
 have e1 := lU hi
 have e2 := lU hi2
 rw [Array.length_toList] at e1 e2
 rw [e1, e2]
def TupsI (h : Heap) (vs : List Value) (ks : List (List Int)) : Prop := vs.length = ks.length /\ ∀ (i : Nat) (v : Value) (k : List Int), vs[i]? = some v -> ks[i]? = some k -> TupI h v k /\ k ≠ []
theorem TupsI.cons {h : Heap} {v : Value} {vs : List Value} {ks : List (List Int)} (x : TupsI h (v :: vs) ks) : ∃ k r, ks = k :: r /\ TupI h v k /\ k ≠ [] /\ TupsI h vs r := by
 obtain ⟨hl, ha⟩ := x
 cases ks with
 | nil => simp at hl
 | cons k r =>
  obtain ⟨h1, h2⟩ := ha 0 v k rfl rfl
  exact ⟨k, r, rfl, h1, h2, by simpa using hl, fun i v k e1 e2 => ha (i + 1) v k (by simpa using e1) (by simpa using e2)⟩
theorem aJ7 {h : Heap} : ∀ {vs : List Value} {ks : List (List Int)}, TupsI h vs ks -> ∃ fs, KatTups h vs fs /\ fs.length = vs.length /\ ∀ f ∈ fs, ∃ i t, f = Value.int i t
 | [], _, _ => ⟨[], KatTups.nil, rfl, fun _ z => nomatch z⟩
 | v :: vs, ks, x => by
  obtain ⟨k, r, rfl, ⟨t, o, xs, c, rfl, ho, hc, hd, hi⟩, hk, hr⟩ := x.cons
  obtain ⟨fs, h1, h2, h3⟩ := aJ7 hr
  cases k with
  | nil => exact absurd rfl hk
  | cons n k =>
   cases hx : xs.toList with
   | nil => rw [hx] at hi; cases hi
   | cons y ys =>
    rw [hx] at hi
    cases hi with
    | cons _ tt _ =>
     refine ⟨.int n tt :: fs, KatTups.cons ho hc hd ?_ h1, by simp [h2], fun f hf => ?_⟩
     ·have : xs.toList[0]? = some (Value.int n tt) := by rw [hx]; rfl
      simpa using this
     ·rcases List.mem_cons.mp hf with rfl | hf
      ·exact ⟨n, tt, rfl⟩
      ·exact h3 f hf
theorem range_getD (vs : List Value) : ((List.range vs.length).map fun i => vs.getD i Value.none) = vs := by
 refine List.ext_getElem? fun i => ?_
 rw [List.getElem?_map]
 by_cases hi : i < vs.length
 ·rw [List.getElem?_range hi]
  simp [hi]
 ·rw [List.getElem?_eq_none (by rw [List.length_range]; omega), List.getElem?_eq_none (by omega)]
  rfl
theorem l9 {a : Addr} {vs : List Value} {n : Nat} {ks : List (List Int)} {P : PySem.Fin -> Shared -> Prop} (ho : s.heap.get? a = some (seqObj "list" vs.toArray n)) (ht : TupsI s.heap vs ks) (hna : ∀ v ∈ vs, v ≠ .ref a) (h64 : vs.length < 64)
  (h : ∀ q : Array Nat, Pm vs.length q -> Sd (fun i j => HT.lexLt (ks.getD i []) (ks.getD j [])) q vs.length -> P (.done (.ret .none)) { s with heap := sortedHeap s.heap a vs (q.toList.map fun i => vs.getD i Value.none).toArray }) :
  wpAny (model prog w) A (Builtin.«list.sort» ⟨[.ref a], []⟩) P E s := by
 rw [list_sort_plain]
 have ha : a < s.heap.objs.size := Heap.lt_size ho
 refine wpAny_bind (listItems_at ho rfl ?_)
 refine wpAny_bind (listUpdate_at ho rfl ?_ (by rw [List.size_toArray, sizeLine_eq]; omega) (Nat.zero_le _))
 obtain ⟨e1, ho1⟩ : ∃ e1, (s.heap.update a (Obj.mapSeq fun _ => (#[] : Array Value))).get? a = some (seqObj "list" #[] e1) := ⟨_, get?_update_seq ho (fun _ => #[])⟩
 refine wpAny_bind (seqEpoch_at ho1 rfl ?_)
 refine wpAny_bind (wpAny_newTuple ?_ (by show vs.length <= _; rw [sizeLine_eq]; omega))
 refine wpAny_bind (wpAny_newList ?_ (Nat.zero_le _))
 refine wpAny_holding ?_
 have keep : ∀ b o, b ≠ a -> s.heap.get? b = some o -> (((s.heap.update a (Obj.mapSeq fun _ => (#[] : Array Value))).push (seqObj "tuple" vs.toArray 0)).push (seqObj "list" #[] 0)).get? b = some o := fun b o hb e => by
  refine Heap.get?_push_of_some _ (Heap.get?_push_of_some _ ?_)
  rw [Heap.get?_update_ne _ _ _ _ hb]
  exact e
 have ho6 : (((s.heap.update a (Obj.mapSeq fun _ => (#[] : Array Value))).push (seqObj "tuple" vs.toArray 0)).push (seqObj "list" #[] 0)).get? a = some (seqObj "list" #[] e1) := Heap.get?_push_of_some _ (Heap.get?_push_of_some _ ho1)
 show wpAny (model prog w) A _ P E { s with heap := ((s.heap.update a (Obj.mapSeq fun _ => (#[] : Array Value))).push (seqObj "tuple" vs.toArray 0)).push (seqObj "list" #[] 0) }
 dsimp only
 by_cases h2 : vs.toArray.size < 2
 ·rw [if_pos h2, if_pos h2]
  refine wpAny_bind (wpAny_pure ?_)
  rw [StateT.run_pure]
  refine wpAny_bind (wpAny_pure ?_)
  dsimp only
  have e0 : (arrOf (SortSt.mk' general' (vs.toArray.zip vs.toArray) #[] 7 none)).map (·.2) = ((List.range vs.length).toArray.toList.map fun i => vs.getD i Value.none).toArray := by
   show (vs.toArray.zip vs.toArray).map (·.2) = _
   rw [List.toList_toArray, range_getD]
   apply Array.toList_inj.mp
   simp [List.map_snd_zip]
  rw [e0]
  refine wpAny_bind (seqEpoch_at ho6 rfl ?_)
  refine wpAny_bind (listUpdate_at ho6 rfl ?_ (Nat.zero_le _) (by rw [List.toList_toArray, range_getD, List.size_toArray, sizeLine_eq]; omega))
  simp only [bne_self_eq_false, Bool.false_eq_true, if_false]
  refine wpAny_pure (h (List.range vs.length).toArray (Array.Perm.refl _) fun i j hij hj => ?_)
  have : i = j := by rw [List.size_toArray] at h2; omega
  subst this
  exact (uJ ks).rf _
 ·rw [if_neg h2, if_neg h2]
  have h2' : 2 <= vs.length := by rw [List.size_toArray] at h2; omega
  have ht6 : TupsI (((s.heap.update a (Obj.mapSeq fun _ => (#[] : Array Value))).push (seqObj "tuple" vs.toArray 0)).push (seqObj "list" #[] 0)) vs ks := ⟨ht.1, fun i v k q1 q2 => by
   obtain ⟨z1, z2⟩ := ht.2 i v k q1 q2
   exact ⟨z1.at fun t o ev et => keep t o (fun z => hna v (List.mem_of_getElem? q1) (by rw [ev, z])) et, z2⟩⟩
  obtain ⟨fs, f1, f2, f3⟩ := aJ7 ht6
  refine wpAny_bind (kat_kind (T := .type "int") f1 (by rw [f2]; omega) (fun v hv => ?_) rfl ?_)
  ·obtain ⟨i, t, rfl⟩ := f3 v hv
   exact .now
  refine wpAny_bind (wpAny_mono (kat_run (κ := tuples' (Value.type "int" != Value.type "tuple")) (ks := vs) (Q := fun st' s' => ∃ p : Array Nat, s' = { s with heap := ((s.heap.update a (Obj.mapSeq fun _ => (#[] : Array Value))).push (seqObj "tuple" vs.toArray 0)).push (seqObj "list" #[] 0) } /\ p.size = vs.length /\ arrOf st' = p.map (kas_item (vs.toArray.zip vs.toArray)) /\ failedOf st' = none /\ Pm vs.length p /\ Sd (fun i j => HT.lexLt (ks.getD i []) (ks.getD j [])) p vs.length)
   (G := fun p s' => s' = { s with heap := ((s.heap.update a (Obj.mapSeq fun _ => (#[] : Array Value))).push (seqObj "tuple" vs.toArray 0)).push (seqObj "list" #[] 0) } /\ Pm vs.length p /\ Sd (fun i j => HT.lexLt (ks.getD i []) (ks.getD j [])) p vs.length)
   rfl h2' h64 (fun p st' s' a1 a2 a3 a4 => ⟨p, a4.1, a1, a2, a3, a4.2⟩) (aB6 (n := vs.length) (lt := fun i j => HT.lexLt (ks.getD i []) (ks.getD j [])) (fun i j C hi hj hC => ?_) (by omega) (uJ ks) fun q q1 q2 => ⟨rfl, q1, q2⟩)) ?_ fun _ _ e => e)
  ·unfold kas_ask
   have hi' : vs[i]? = some vs[i] := List.getElem?_eq_getElem hi
   have hj' : vs[j]? = some vs[j] := List.getElem?_eq_getElem hj
   have ki : i < ks.length := by rw [<- ht.1]; exact hi
   have kj : j < ks.length := by rw [<- ht.1]; exact hj
   have di : vs.getD i Value.none = vs[i] := by simp [hi]
   have dj : vs.getD j Value.none = vs[j] := by simp [hj]
   have ei : ks.getD i [] = ks[i] := by simp [ki]
   have ej : ks.getD j [] = ks[j] := by simp [kj]
   rw [di, dj]
   rw [ei, ej] at hC
   exact zA _ (ht6.2 i _ _ hi' (List.getElem?_eq_getElem ki)).1 (ht6.2 j _ _ hj' (List.getElem?_eq_getElem kj)).1 hC
  ·rintro ⟨⟨⟩, st'⟩ s' ⟨p, rfl, hp, har, hf, hpm, hsd⟩
   dsimp only
   have hout := kat_snds (ks := vs) (vs := vs) rfl har
   have hsz : (List.toArray (p.toList.map fun i => vs.getD i Value.none)).size = vs.length := by rw [List.size_toArray, List.length_map, Array.length_toList, hp]
   rw [hout]
   refine wpAny_bind (seqEpoch_at ho6 rfl ?_)
   refine wpAny_bind (listUpdate_at ho6 rfl ?_ (Nat.zero_le _) (Nat.le_trans (Nat.le_of_eq hsz) (by rw [sizeLine_eq]; omega)))
   rw [hf]
   simp only [bne_self_eq_false, Bool.false_eq_true, if_false]
   exact wpAny_pure (h p hpm hsd)
theorem pG {h : Heap} {a : Addr} {vs : List Value} {out : Array Value} {b : Addr} {o : Obj} (hb : b ≠ a) (e : h.get? b = some o) : (sortedHeap h a vs out).get? b = some o := by
 unfold sortedHeap
 rw [Heap.get?_update_ne _ _ _ _ hb]
 refine Heap.get?_push_of_some _ (Heap.get?_push_of_some _ ?_)
 rw [Heap.get?_update_ne _ _ _ _ hb]
 exact e
theorem pK {h : Heap} {a : Addr} {vs : List Value} {n : Nat} {out : Array Value} (e : h.get? a = some (seqObj "list" vs.toArray n)) : ∃ c, (sortedHeap h a vs out).get? a = some (seqObj "list" out c) := by
 obtain ⟨e1, ho1⟩ : ∃ e1, (h.update a (Obj.mapSeq fun _ => (#[] : Array Value))).get? a = some (seqObj "list" #[] e1) := ⟨_, get?_update_seq e (fun _ => #[])⟩
 exact ⟨_, get?_update_seq (Heap.get?_push_of_some _ (Heap.get?_push_of_some _ ho1)) fun _ => out⟩
theorem r8 {r : Addr} {Q : Value -> Shared -> Prop} {Ok : List Value -> Prop} (hcol : ∀ R : List Value -> Shared -> Prop, (∀ h' tk vs, (∀ b o, s.heap.get? b = some o -> h'.get? b = some o) -> Ok vs -> R vs { s with heap := h', toks := tk }) -> wpAny (model prog w) A.in1 (collect (.ref r)) R E s)
  (ks : List (List Int)) (hok : ∀ vs, Ok vs -> TupsI s.heap vs ks /\ vs.length < 64)
  (h : ∀ (h' hf : Heap) (tk c : Nat) (vs : List Value) (q : Array Nat), (∀ b o, s.heap.get? b = some o -> h'.get? b = some o) -> (∀ b o, h'.get? b = some o -> hf.get? b = some o) -> Ok vs -> Pm vs.length q -> Sd (fun i j => HT.lexLt (ks.getD i []) (ks.getD j [])) q vs.length ->
   hf.get? h'.objs.size = some (seqObj "list" (q.toList.map fun i => vs.getD i Value.none).toArray c) -> Q (.ref h'.objs.size) { s with heap := hf, toks := tk }) :
  wpAny (model prog w) A (call (.builtin "sorted") [.ref r]) Q E s := by
 refine Calls.call_function_entry kind_sorted plain_sorted entry_sorted (args_sorted1 _) ?_
 unfold Builtin.«sorted»
 refine wpAny_bind (m := checkCount "sorted" 1 1 _) (wpAny_pure ?_)
 refine wpAny_bind (hcol _ fun h' tk vs keep ov => ?_)
 obtain ⟨ht, h64⟩ := hok vs ov
 refine wpAny_bind (wpAny_newList ?_ (by rw [sizeLine_eq]; omega))
 have hoL : (h'.push (seqObj "list" vs.toArray 0)).get? h'.objs.size = some (seqObj "list" vs.toArray 0) := Heap.get?_push_size _ rfl
 have keep2 : ∀ b o, s.heap.get? b = some o -> (h'.push (seqObj "list" vs.toArray 0)).get? b = some o := fun b o e => Heap.get?_push_of_some _ (keep b o e)
 have lt : ∀ b o, s.heap.get? b = some o -> b ≠ h'.objs.size := fun b o e => Nat.ne_of_lt (Heap.lt_size (keep b o e))
 have tat : ∀ v ∈ vs, ∃ t o, v = .ref t /\ s.heap.get? t = some o := fun v hv => by
  obtain ⟨i, hi, e⟩ := List.mem_iff_getElem.mp hv
  have ki : i < ks.length := by rw [<- ht.1]; exact hi
  obtain ⟨⟨t, o, _, _, e1, e2, _⟩, _⟩ := ht.2 i v ks[i] (by rw [List.getElem?_eq_getElem hi, e]) (List.getElem?_eq_getElem ki)
  exact ⟨t, o, e1, e2⟩
 have ht2 : TupsI (h'.push (seqObj "list" vs.toArray 0)) vs ks := ⟨ht.1, fun i v k q1 q2 => let ⟨z1, z2⟩ := ht.2 i v k q1 q2; ⟨z1.at fun t o _ et => keep2 t o et, z2⟩⟩
 refine wpAny_bind (wpAny_holding (wpAny_call_entry slot_list_sort ⟨_, hoL, rfl⟩ entry_list_sort (l9 (s := { s with heap := h'.push (seqObj "list" vs.toArray 0), toks := tk }) hoL ht2 (fun v hv z => ?_) h64 fun q a1 a2 => ⟨_, rfl, ?_⟩) (args_list_sort _)))
 ·obtain ⟨t, o, e1, e2⟩ := tat v hv
  rw [e1] at z
  injection z with z
  exact lt t o e2 z
 ·obtain ⟨c, hc⟩ := pK (out := (q.toList.map fun i => vs.getD i Value.none).toArray) hoL
  exact wpAny_pure ⟨_, rfl, h h' _ tk c vs q keep (fun b o e => pG (Nat.ne_of_lt (Heap.lt_size e)) (Heap.get?_push_of_some _ e)) ov a1 a2 hc⟩
def aEs (H : Hp) (ts : List V) (ks : List (List Int)) : Prop := ts.length = ks.length /\ ∀ (i : Nat) (t : V) (k : List Int), ts[i]? = some t -> ks[i]? = some k -> (∃ b, t = .ref b /\ H b = some (.tup (k.map V.int))) /\ k ≠ []
end
theorem vH {P : Program} {w : World} {H : Hp} {h : Heap} {ts : List V} {ks : List (List Int)} {vs : List Value} (ok : HOk P w H h) (r : aEs H ts ks) (v : Vals ts vs) : TupsI h vs ks := by
 have hl := v.length
 refine ⟨by rw [<- hl]; exact r.1, fun i u k e1 e2 => ?_⟩
 have hi : i < ts.length := by
  have := (List.getElem?_eq_some_iff.mp e1).1
  omega
 obtain ⟨⟨b, eb, hb⟩, hk⟩ := r.2 i ts[i] k (List.getElem?_eq_getElem hi) e2
 obtain ⟨u', e3, ru⟩ := v.get (i := i) (x := ts[i]) (List.getElem?_eq_getElem hi)
 rw [e1] at e3
 cases e3
 rw [eb] at ru
 cases (show u = Value.ref b from ru)
 obtain ⟨_, its, rv, o, ho, hc, n, hd⟩ := (show ObjOk P w H h b (.tup (k.map V.int)) from ok b _ hb)
 exact ⟨⟨b, o, _, n, rfl, ho, hc, hd, by rw [List.toList_toArray]; exact intsAre_of rv⟩, hk⟩
def aEh (ks : List (List Int)) : Nat -> Nat -> Bool := fun i j => HT.lexLt (ks.getD i []) (ks.getD j [])
theorem nY {ts : List V} {vs : List Value} (v : Vals ts vs) : ∀ (l : List Nat), (∀ i ∈ l, i < ts.length) -> Vals (l.map fun i => ts.getD i .non) (l.map fun i => vs.getD i Value.none)
 | [], _ => .nil
 | i :: l, h => by
  have hi := h i (.head _)
  obtain ⟨u, e, r⟩ := v.get (i := i) (x := ts[i]) (List.getElem?_eq_getElem hi)
  have e1 : ts.getD i .non = ts[i] := by simp [hi]
  have e2 : vs.getD i Value.none = u := by simp [e]
  refine .cons ?_ (nY v l fun j hj => h j (.tail _ hj))
  show RelV (ts.getD i .non) (vs.getD i Value.none)
  rw [e1, e2]; exact r
section
variable {X : Cx}
theorem yK {pins : List (Addr × Obj)} {σ : L2.St} {H : Hp} {s : Shared} {Q : VK} {ts : List V} {vs : List Value} {h' hf : Heap} {tk c : Nat} {q : Array Nat} (I : Inv X pins σ H s) (v : Vals ts vs) (h64 : vs.length < 64) (k1 : ∀ b o, s.heap.get? b = some o -> h'.get? b = some o) (k2 : ∀ b o, h'.get? b = some o -> hf.get? b = some o) (hp : Pm vs.length q)
  (hc : hf.get? h'.objs.size = some (seqObj "list" (q.toList.map fun i => vs.getD i Value.none).toArray c)) (hq : ∀ D, H D = none -> Q (.ref D) (upd H D (.lst (q.toList.map fun i => ts.getD i .non)))) : EP X pins σ Q (.ref h'.objs.size) { s with heap := hf, toks := tk } := by
 have I1 : Inv X pins σ H { s with heap := h', toks := tk } := I.kept (t' := tk) k1
 have hb : ∀ i ∈ q.toList, i < ts.length := fun i hi => by
  have : i ∈ (List.range vs.length).toArray := hp.mem_iff.mp (Array.mem_toList_iff.mp hi)
  rw [v.length]
  simpa using this
 have hl : q.toList.length = vs.length := by rw [Array.length_toList]; exact hp.size
 refine ⟨.ref h'.objs.size, _, I1.laid (a := h'.objs.size) (o := .lst (q.toList.map fun i => ts.getD i .non)) (t' := tk) k2 (Nat.le_refl _) ⟨?_, _, c, nY v _ hb, hc⟩, rfl, hq _ (I1.hok.fresh (Nat.le_refl _))⟩
 rw [List.length_map, hl, sizeLine_eq]
 omega
end
end SRT
namespace M
open PySem PySem.Spec PyProof.Rows L2 SRT
def pD (k : List Int) : D := .tuple (k.map .int)
def pB : List D -> Option (List Int)
 | [] => some []
 | .int i :: ds => match pB ds with
  | some r => some (i :: r)
  | none => none
 | _ => none
def vS : D -> Option (List Int)
 | .tuple ds => pB ds
 | _ => none
def nQ : List D -> Option (List (List Int))
 | [] => some []
 | d :: ds => match vS d with
  | none => none
  | some k => match nQ ds with
   | none => none
   | some ks => some (k :: ks)
theorem q9 : ∀ {ds : List D} {k : List Int}, pB ds = some k -> ds = k.map .int
 | [], _, h => by cases h; rfl
 | d :: ds, k, h => by
  cases d with
  | int i =>
   unfold pB at h
   cases e : pB ds with
   | none => rw [e] at h; cases h
   | some r => rw [e] at h; cases h; rw [q9 e]; rfl
  | _ => cases h
theorem nV : ∀ k : List Int, pB (k.map .int) = some k
 | [] => rfl
 | i :: k => by
  show (match pB (k.map .int) with | some r => some (i :: r) | none => none) = _
  rw [nV k]
theorem tH (k : List Int) : vS (pD k) = some k := nV k
theorem zL {d : D} {k : List Int} (h : vS d = some k) : d = pD k := by
 cases d with
 | tuple ds => unfold pD; rw [<- q9 h]
 | _ => cases h
theorem qE : ∀ {ds : List D} {ks : List (List Int)}, nQ ds = some ks -> ds = ks.map pD
 | [], _, h => by cases h; rfl
 | d :: ds, ks, h => by
  unfold nQ at h
  cases e : vS d with
  | none => rw [e] at h; cases h
  | some k =>
   rw [e] at h
   cases e2 : nQ ds with
   | none => rw [e2] at h; cases h
   | some ks' => rw [e2] at h; cases h; rw [zL e, qE e2]; rfl
theorem oB : ∀ ks : List (List Int), nQ (ks.map pD) = some ks
 | [] => rfl
 | k :: ks => by
  show (match vS (pD k) with | none => none | some k => match nQ (ks.map pD) with | none => none | some ks => some (k :: ks)) = _
  rw [tH, oB ks]
def aEm (k : List Int) : List (List Int) -> List (List Int)
 | [] => [k]
 | x :: r => if HT.lexLt k x = true then k :: x :: r else x :: aEm k r
def iU : List (List Int) -> List (List Int)
 | [] => []
 | k :: ks => aEm k (iU ks)
def leK (a b : List Int) : Prop := HT.lexLt b a = false
theorem jQ (k : List Int) : ∀ l, (aEm k l).Perm (k :: l)
 | [] => .refl _
 | x :: r => by
  unfold aEm
  split
  ·exact .refl _
  ·exact ((jQ k r).cons x).trans (List.Perm.swap k x r)
theorem cD : ∀ l, (iU l).Perm l
 | [] => .refl _
 | k :: ks => (jQ k _).trans ((cD ks).cons k)
theorem zS {k y : List Int} {l : List (List Int)} (h : y ∈ aEm k l) : y = k \/ y ∈ l := by
 have := (jQ k l).mem_iff.mp h
 exact List.mem_cons.mp this
theorem iY (k : List Int) : ∀ l, l.Pairwise leK -> (aEm k l).Pairwise leK
 | [], _ => List.pairwise_singleton _ _
 | x :: r, h => by
  unfold aEm
  obtain ⟨h1, h2⟩ := List.pairwise_cons.mp h
  split
  ·rename_i e
   have e1 := wC _ _ e
   exact List.pairwise_cons.mpr ⟨fun y hy => by
    rcases List.mem_cons.mp hy with rfl | hy
    ·exact e1
    ·exact tL _ _ _ e1 (h1 y hy), h⟩
  ·rename_i e
   refine List.pairwise_cons.mpr ⟨fun y hy => ?_, iY k r h2⟩
   rcases zS hy with rfl | hy
   ·exact Bool.eq_false_iff.mpr e
   ·exact h1 y hy
theorem cW : ∀ l, (iU l).Pairwise leK
 | [] => .nil
 | k :: ks => iY k _ (cW ks)
theorem fU : ∀ {a b : List (List Int)}, a.Perm b -> a.Pairwise leK -> b.Pairwise leK -> a = b
 | [], b, p, _, _ => (List.Perm.nil_eq p)
 | x :: a, [], p, _, _ => absurd p.length_eq (by simp)
 | x :: a, y :: b, p, ha, hb => by
  obtain ⟨a1, a2⟩ := List.pairwise_cons.mp ha
  obtain ⟨b1, b2⟩ := List.pairwise_cons.mp hb
  have hx : x ∈ y :: b := p.mem_iff.mp (.head _)
  have hy : y ∈ x :: a := p.mem_iff.mpr (.head _)
  have e : x = y := by
   rcases List.mem_cons.mp hx with e | hx
   ·exact e
   ·rcases List.mem_cons.mp hy with e | hy
    ·exact e.symm
    ·exact aA8 _ _ (b1 x hx) (a1 y hy)
  subst e
  rw [fU (List.Perm.cons_inv p) a2 b2]
theorem picked {ks : List (List Int)} {q : Array Nat} {n : Nat} (hn : n = ks.length) (hp : Pm n q) (hs : Sd (aEh ks) q n) : (q.toList.map fun i => ks.getD i []) = iU ks := by
 subst hn
 have e0 : ((List.range ks.length).map fun i => ks.getD i []) = ks := by
  refine List.ext_getElem? fun i => ?_
  rw [List.getElem?_map]
  by_cases hi : i < ks.length
  ·rw [List.getElem?_range hi]; simp [hi]
  ·rw [List.getElem?_eq_none (by rw [List.length_range]; omega), List.getElem?_eq_none (by omega)]; rfl
 have p1 : q.toList.Perm (List.range ks.length) := by
  have := hp.toList
  simpa using this
 have p2 : (q.toList.map fun i => ks.getD i []).Perm ks := by
  have := p1.map (fun i => ks.getD i [])
  rwa [e0] at this
 refine fU (p2.trans (cD ks).symm) ?_ (cW ks)
 rw [List.pairwise_iff_getElem]
 intro i j hi hj hij
 rw [List.length_map] at hi hj
 rw [List.getElem_map, List.getElem_map]
 have sz : q.toList.length = ks.length := by rw [Array.length_toList]; exact hp.size
 have := hs i j (Nat.le_of_lt hij) (by omega)
 unfold SRT.le aEh Pt at this
 have e1 : q.getD i 0 = q.toList[i] := by
  have : i < q.size := by rw [<- Array.length_toList]; exact hi
  simp [Array.getD, this]
 have e2 : q.getD j 0 = q.toList[j] := by
  have : j < q.size := by rw [<- Array.length_toList]; exact hj
  simp [Array.getD, this]
 rw [e1, e2] at this
 exact this
section
variable {X : Cx} {K : PySem.W.Frag}
theorem zV {G : Hp} {v : V} {k : List Int} (h : Rep K G v (pD k)) : ∃ b, v = .ref b /\ G b = some (.tup (k.map V.int)) := by
 cases h with
 | @tup b xs _ h1 h2 =>
  refine ⟨b, rfl, ?_⟩
  have : xs = k.map V.int := by
   clear h1
   induction k generalizing xs with
   | nil => cases h2; rfl
   | cons i k ih =>
    cases h2 with
    | cons r t => cases r; rw [ih t]; rfl
  rw [<- this]; exact h1
theorem zE {G : Hp} {b : Addr} {k : List Int} (h : G b = some (.tup (k.map V.int))) : Rep K G (.ref b) (pD k) := by
 refine .tup h ?_
 clear h
 induction k with
 | nil => exact .nil
 | cons i k ih => exact .cons (.int i) ih
theorem wM {G H : Hp} (gh : Same G H) : ∀ {ts : List V} {ks : List (List Int)}, Reps K G ts (ks.map pD) -> (∀ k ∈ ks, k ≠ []) -> aEs H ts ks := by
 intro ts ks r hne
 refine ⟨by rw [r.length, List.length_map], fun i t k e1 e2 => ?_⟩
 obtain ⟨d, e3, rd⟩ := r.get e1
 rw [List.getElem?_map, e2] at e3
 cases e3
 obtain ⟨b, rfl, hb⟩ := zV rd
 exact ⟨⟨b, rfl, gh _ _ hb⟩, hne k (List.mem_of_getElem? e2)⟩
theorem oE {G : Hp} {ts : List V} {ks : List (List Int)} (h : ∀ (i : Nat), i < ks.length -> Rep K G (ts.getD i .non) (pD (ks.getD i []))) : ∀ l : List Nat, (∀ i ∈ l, i < ks.length) -> Reps K G (l.map fun i => ts.getD i .non) ((l.map fun i => ks.getD i []).map pD)
 | [], _ => .nil
 | i :: l, hl => .cons (h i (hl i (.head _))) (oE h l fun j hj => hl j (.tail _ hj))
theorem aIn {n : Nat} {q : Array Nat} (hp : Pm n q) : ∀ i ∈ q.toList, i < n := fun i hi => by
 have : i ∈ (List.range n).toArray := hp.mem_iff.mp (Array.mem_toList_iff.mp hi)
 simpa using this
def wt (G H : Hp) : Hp := fun b => match G b with
 | some o => some o
 | none => match H b with
  | some (.tup xs) => some (.tup xs)
  | _ => none
theorem aEj {G H : Hp} : Same G (wt G H) := fun b o e => by unfold wt; rw [e]
theorem aB9 {G H : Hp} (gh : Same G H) : Same (wt G H) H := fun b o e => by
 unfold wt at e
 cases eg : G b with
 | some u => rw [eg] at e; cases e; exact gh _ _ eg
 | none =>
  rw [eg] at e
  dsimp only at e
  split at e
  ·rename_i xs eh
   cases e; exact eh
  ·cases e
theorem aHf {G H : Hp} (gh : Same G H) {b : Addr} {xs : List V} (e : H b = some (.tup xs)) : wt G H b = some (.tup xs) := by
 unfold wt
 cases eg : G b with
 | some u =>
  have := gh _ _ eg
  rw [e] at this
  exact this.symm
 | none => dsimp only; rw [e]
theorem aCs {G H : Hp} (gh : Same G H) : Step G H (wt G H) H := ⟨aEj, Same.refl _, aB9 gh, fun b hb hg => by
 unfold wt
 rw [hg]
 dsimp only
 split
 ·rename_i xs eh; exact .inr ⟨xs, eh⟩
 ·exact .inl rfl⟩
end
section
variable {X : Cx} {E : L2.St -> XK}
def y0 (i : Nat) (g : List D -> Option (List D)) : MS := fun en => match en[i]? with
 | some (some (.o (.list ds))) => match g ds with
  | some es => some (.nx (en.set i (some (.o (.list es)))))
  | none => none
 | _ => none
theorem aEk {i : Nat} {st : Stmt} {r : V -> List V -> Hp -> VK -> Prop} {g : List D -> Option (List D)} (hp : PS X st (wQ (aIx X.K "list" r (aEp i))))
  (hg : ∀ (G H : Hp) (a : Addr) (xs : List V) (ds es : List D) (Q : VK), H a = some (.lst xs) -> Reps X.K G xs ds -> g ds = some es -> (∀ u ys, Reps X.K G ys es -> Q u (upd H a (.lst ys))) -> r (.ref a) [] H Q) : DS X E st (y0 i g) := by
 refine DS.in ⟨_, hp, fun B G0 G W H σ en Dn hh hs hw => ?_⟩
 unfold y0 at hw
 split at hw
 ·rename_i ds ei
  obtain ⟨v, e1, a, o, rfl, e2, e3, e4⟩ := hs.2 i _ ei
  cases e4 with
  | @lst xs _ rp =>
  cases eg : g ds with
  | none => rw [eg] at hw; exact hw.elim
  | some es =>
   rw [eg] at hw
   refine ⟨_, e1, .inl ⟨rfl, _, SqL.of e3⟩, hg G H a xs ds es _ e3 rp eg fun u ys ry => ?_⟩
   obtain ⟨w1, w2⟩ := mD (o' := .lst ys) (d' := .list es) hh hs e2 e1 (.lst ry)
   exact hw _ _ _ _ w1 w2
 ·exact hw.elim
theorem Reps.rev {K : PySem.W.Frag} {G : Hp} : ∀ {xs : List V} {ds : List D}, Reps K G xs ds -> Reps K G xs.reverse ds.reverse
 | _, _, .nil => .nil
 | _, _, .cons h r => by
  rw [List.reverse_cons, List.reverse_cons]
  exact (Reps.rev r).append (.cons h .nil)
theorem Reps.dropLast {K : PySem.W.Frag} {G : Hp} : ∀ {xs : List V} {ds : List D}, Reps K G xs ds -> Reps K G xs.dropLast ds.dropLast
 | _, _, .nil => .nil
 | _, _, .cons h .nil => .nil
 | _, _, .cons h (.cons h2 r) => .cons h (Reps.dropLast (.cons h2 r))
def aIh (i : Nat) : MS := y0 i fun ds => if ds = [] then none else some ds.dropLast
theorem aGh {i : Nat} {st : Stmt} (hp : PS X st (wQ (aIx X.K "list" aKa (aEp i)))) : DS X E st (aIh i) :=
 aEk hp fun G H a xs ds es Q h rp e q => by
  split at e
  ·cases e
  ·rename_i hne
   cases e
   have hl := rp.length
   have hx : xs ≠ [] := fun z => hne (List.length_eq_zero_iff.mp (by rw [<- hl, z]; rfl))
   have hpos : xs.length - 1 < xs.length := Nat.sub_lt (List.length_pos_iff.mpr hx) (by decide)
   exact ⟨a, xs, _, rfl, rfl, h, List.getElem?_eq_getElem hpos, q _ _ rp.dropLast⟩
def cutD (ds : List D) (lo hi : Option Int) : List D := (ds.drop (HT.sIx ds.length 0 lo)).take (HT.sIx ds.length ds.length hi - HT.sIx ds.length 0 lo)
theorem Reps.cut {K : PySem.W.Frag} {G : Hp} {xs : List V} {ds : List D} (r : Reps K G xs ds) (lo hi : Option Int) : Reps K G (aEv xs lo hi) (cutD ds lo hi) := by
 unfold aEv cutD
 rw [r.length]
 exact (r.drop _).take _
def aH3 : En -> Res (Option Int) := fun _ => .ok none
def mPt (fe : En -> Res Ev) : En -> Res (Option Int) := fun en => (fe en).bind fun x => match x.c with
 | .p (.int i) => .ok (some i)
 | _ => .bad
def tP (K : PySem.W.Frag) (E : L2.St -> XK) (f : En -> Res (Option Int)) : TO := fun σ H R => ∃ B G0 G W en, SimH B G0 G W H /\ SimS K W G H σ en /\ wpR (f en) (fun k => ∀ G' H', Step G H G' H' -> R k H') (PostX (E σ) G H)
def DP (X : Cx) (E : L2.St -> XK) (o : Option Expr) (f : En -> Res (Option Int)) : Prop := PO X o (tP X.K E f)
theorem uF : DP X E none aH3 := fun pins s σ H R I ⟨B, G0, G, W, en, hh, hs, hw⟩ => aD7 pins s σ H R I (hw G H (Step.refl hh.gh))
theorem wW {e : Expr} {fe : En -> Res Ev} (he : DE X E e fe) : DP X E (some e) (mPt fe) := fun pins s σ H R I ⟨B, G0, G, W, en, hh, hs, hw⟩ => by
 obtain ⟨t, p, m⟩ := he.out
 refine aCc p pins s σ H R I (m B G0 G W H σ en _ hh hs ?_)
 unfold mPt at hw
 rw [a8] at hw
 refine aU hw (fun x hx G1 H1 v s1 e1 => ?_) fun C h => h
 obtain ⟨G2, s2, e2⟩ := e1.c s1
 cases ex : x.c with
 | p d =>
  rw [ex] at hx e2
  cases d with
  | int i => cases e2; exact ⟨i, rfl, hx G2 H1 s2⟩
  | _ => exact hx.elim
 | f d => rw [ex] at hx; exact hx.elim
 | b d => rw [ex] at hx; exact hx.elim
 | x C => rw [ex] at hx; exact hx.elim
def mSl (fe : En -> Res Ev) (fl fh : En -> Res (Option Int)) : En -> Res Ev := fun en => (fe en).bind fun x => (fl en).bind fun l => (fh en).bind fun u => match d6 x.c with
 | some ds => .ok (.f (.list (cutD ds l u)))
 | none => .bad
theorem aF6 {e : Expr} {lo hi : Option Expr} {fe : En -> Res Ev} {fl fh : En -> Res (Option Int)} {p2 pos : Pos} (he : DE X E e fe) (hl : DP X E lo fl) (hu : DP X E hi fh) : DE X E (.Subscript e (.Slice lo hi none p2) pos) (mSl fe fl fh) := by
 obtain ⟨t, p, m⟩ := he.out
 refine DE.in ⟨_, aAe aCt p hl hu, fun B G0 G W H σ en Q hh hs hw => ?_⟩
 unfold mSl at hw
 refine m B G0 G W H σ en _ hh hs (DE.go hw fun x G1 H1 v s1 e1 h1 => ?_)
 refine ⟨B, G0, G1, W, en, hh.step s1, hs.step s1, ?_⟩
 rw [a8] at h1
 refine aU h1 (fun l hx G2 H2 s2 => ?_) fun C h => h
 refine ⟨B, G0, G2, W, en, (hh.step s1).step s2, (hs.step s1).step s2, ?_⟩
 have hx' := aU hx (fun r h => h.step s2) (fun C h => h.step s2)
 rw [a8] at hx'
 refine aU hx' (fun u hy G3 H3 s3 => ?_) fun C h => h
 cases ex : d6 x.c with
 | none => rw [ex] at hy; exact hy.elim
 | some ds =>
  rw [ex] at hy
  obtain ⟨a, xs, rfl, rd, rp⟩ := iD (Hs := H) s3.gh (e1.step (s2.trans s3)) ex
  exact ⟨a, xs, rfl, .inl rd, fun p hp => hy _ _ _ (s3.trans (Step.lay s3.gh hp)) ⟨p, _, rfl, s3.h.free hp, s3.gh.free hp, bB, .lst (rp.cut l u)⟩⟩
end
section
variable {X : Cx} {E : L2.St -> XK} {e : Expr}
def iZ (i : Nat) (fe : En -> Res Ev) : MS := fun en => match en[i]? with
 | some (some (.o (.list ds))) => match fe en with
  | .ok (.f (.list es)) => if ds.length + es.length <= 100000 then some (.nx (en.set i (some (.o (.list (ds ++ es)))))) else none
  | .exc C => some (.ex C en)
  | _ => none
 | _ => none
theorem tV {i : Nat} {fe : En -> Res Ev} {st : Stmt} (he : DE X E e fe) (hp : ∀ t, PE X e t -> PS X st (wQ (tBM X.K "list" uN (aEp i) (aCm t aJb)))) : DS X E st (iZ i fe) := by
 obtain ⟨t, q, mm⟩ := he.out
 refine DS.in ⟨_, hp t q, fun B G0 G W H σ en Dn hh hs hw => ?_⟩
 unfold iZ at hw
 split at hw
 ·rename_i ds ei
  obtain ⟨v, e1, a, o, rfl, e2, e3, e4⟩ := hs.2 i _ ei
  cases e4 with
  | @lst xs _ rp =>
  refine ⟨_, e1, .inl ⟨rfl, _, SqL.of e3⟩, mm B G0 G W H σ en _ hh hs ?_⟩
  cases ef : fe en with
  | bad => rw [ef] at hw; exact hw
  | exc C => rw [ef] at hw; exact fun G1 H1 s => hw G1 W H1 σ (hh.step s) (hs.step s)
  | ok r =>
   rw [ef] at hw
   cases r with
   | p d => exact hw.elim
   | b d => exact hw.elim
   | x C => exact hw.elim
   | f d =>
    cases d with
    | list es =>
     dsimp only at hw
     split at hw
     ·rename_i hl
      rintro G1 H1 y s ⟨b, ob, rfl, k1, k2, k3, k4⟩
      cases k4 with
      | @lst zs _ rz =>
      have hx := s.h _ _ e3
      refine ⟨a, b, xs, zs, rfl, rfl, hx, k3, Nat.le_trans (by rw [rp.length, rz.length]; exact hl) (by decide), ?_⟩
      obtain ⟨w1, w2⟩ := mD (o' := .lst (xs ++ zs)) (d' := .list (ds ++ es)) (hh.step s) (hs.step s) e2 e1 (.lst ((rp.mono s.g).append rz))
      exact hw _ _ _ _ w1 w2
     ·exact hw.elim
    | _ => exact hw.elim
 ·exact hw.elim
end
section
variable {X : Cx} {K : PySem.W.Frag}
end
end M
namespace L2
open PySem PySem.Spec PyProof.Rows
theorem vQ : typeLookup (Value.type "list_reverseiterator") (Str.ofString "__len__") = pure none := by rfl
theorem zF : typeLookup (Value.type "list_reverseiterator") (Str.ofString "__length_hint__") = pure (some (Value.builtin "list_reverseiterator.__length_hint__")) := by rfl
theorem aDv : isSubtype (Value.type "list_reverseiterator") (Value.type "list_reverseiterator") = pure true := by rfl
theorem tN {prog : Program} {w : World} {A : Around} (hh : A.handled = none) {I l : Addr} (hne : l ≠ I) (items : Array Value) :
  WalksS prog w A I [I, l] [I] Eq items.size (fun i v => items[items.size - 1 - i]? = some v) (fun i s => s.heap.IsRevIter I l ((items.size : Int) - 1 - i) /\ s.heap.IsList l items) where
 sub := fun b hb => by rw [List.mem_singleton.mp hb]; exact .head _
 grefl := fun _ => rfl
 gtrans := fun _ _ _ h1 h2 => h1.trans h2
 frame := fun i s h' tk st _ k => by
  obtain ⟨⟨o, h1, h2, h3⟩, ⟨p, h4, h5⟩⟩ := st
  exact ⟨⟨o, k I (.head _) o h1, h2, h3⟩, ⟨p, k l (.tail _ (.head _)) p h4, h5⟩⟩
 item := fun i s Q E hi st k => by
  obtain ⟨st1, st2⟩ := st
  have e : ((items.size : Int) - 1 - i) = ((items.size - 1 - i : Nat) : Int) := by omega
  rw [e] at st1
  have hx : items.size - 1 - i < items.size := by omega
  refine wpAny_pyNext_rev_item st1 st2 (x := items[items.size - 1 - i]) (by simp [hx]) fun h' g1 g2 => ?_
  refine k _ _ (by simp [hx]) ⟨?_, ?_⟩ ⟨fun b o hb q => ?_, rfl, rfl, rfl, Nat.le_refl _⟩
  ·have e2 : ((items.size - 1 - i : Nat) : Int) - 1 = (items.size : Int) - 1 - ((i + 1 : Nat) : Int) := by omega
   rw [<- e2]
   exact g1
  ·obtain ⟨p, h4, h5⟩ := st2
   exact ⟨p, (g2.2 l hne).trans h4, h5⟩
  ·exact (g2.2 b (fun z => hb (by rw [z]; exact .head _))).trans q
 done := fun s Q E st k => by
  obtain ⟨st1, st2⟩ := st
  have e : ((items.size : Int) - 1 - (items.size : Nat)) = -1 := by omega
  rw [e] at st1
  exact wpAny_pyNext_rev_end hh st1 fun h' g => k _ ⟨fun b o hb q => g b o (fun z => hb (by rw [z]; exact .head _)) q, rfl, rfl, rfl, Nat.le_refl _⟩
 self := fun i s Q E st h => wpAny_pyIter_revIter st.1 h
theorem y3 {prog : Program} {w : World} {A : Around} {E : Value -> Shared -> Prop} {s : Shared} {I : Addr} {Q : Bool -> Shared -> Prop} (t : s.TypeIs (.ref I) "list_reverseiterator") (q : Q false s) : wpAny (model prog w) A (Builtin.List.listLengthHint (.ref I)) Q E s := by
 unfold Builtin.List.listLengthHint
 refine wpAny_bind (wpAny_specialOf t vQ ?_)
 refine wpAny_bind (wpAny_specialOf t zF ?_)
 refine wpAny_bind (wpAny_isInstance t aDv ?_)
 exact wpAny_pure q
theorem rR {prog : Program} {w : World} {A : Around} (hh : A.in1.handled = none) {s : Shared} {R : Result -> Shared -> Prop} {I l : Addr} {items : Array Value} (hne : l ≠ I) (hI : s.heap.IsRevIter I l ((items.size : Int) - 1)) (hl : s.heap.IsList l items) (S : Addr) (hS1 : S ≠ I) (hS2 : S ≠ l) (res : Value) (c₀ : Nat)
  (hS : s.heap.get? S = some { cls := Value.type "list", data := Data.seq #[] c₀ }) (hz : items.size <= sizeLine)
  (k : ∀ (s' : Shared) (acc' : Array Value) (c' : Nat), Moved [S, I] Eq s s' -> s'.heap.get? S = some { cls := Value.type "list", data := Data.seq acc' c' } -> ItemsOf (fun i v => items[items.size - 1 - i]? = some v) acc' items.size -> R (.ok (.ret res)) s') :
  wpAny (model prog w) A.in1 (Builtin.List.listExtendWith (.ref S) (.ref I) res) (fun fin s' => match fin with
   | Fin.done f => R (.ok f) s'
   | Fin.again c' => c'.quiet = true /\ codeAny (model prog w) A c' R s') (fun e s' => R (.error e) s') s := by
 have t : s.TypeIs (.ref I) "list_reverseiterator" := by
  obtain ⟨o, h1, h2, _⟩ := hI
  exact ⟨o, h1, h2⟩
 unfold Builtin.List.listExtendWith
 refine wpAny_bind (wpAny_typeOf t ?_)
 have e : (Builtin.List.listSameRef (.ref S) (.ref I) || Value.type "list_reverseiterator" == Value.type "list" || Value.type "list_reverseiterator" == Value.type "tuple") = false := by
  have : (S == I) = false := beq_false_of_ne hS1
  show ((S == I) || _ || _) = false
  rw [this]
  decide
 rw [e, if_neg (by decide)]
 refine wpAny_bind (wpAny_pyIter_revIter hI ?_)
 refine wpAny_bind (wpAny_holding (y3 t ?_))
 refine wpAny_pure ?_
 refine ⟨plainId_quiet F.plain_extend_loop _, ?_⟩
 exact codeAny_extend_loopS (tN hh hne items) hz S (by simp [hS1, hS2]) res items.size 0 s #[] c₀ rfl (Nat.zero_le _) ⟨by simpa using hI, hl⟩ hS ⟨rfl, fun j v h => by simp at h⟩ k
theorem l8 {prog : Program} {w : World} {A : Around} {E : Value -> Shared -> Prop} (hh : A.in1.in1.handled = none) {s : Shared} {Q : Value -> Shared -> Prop} {I l : Addr} {items : Array Value} (hne : l ≠ I) (hI : s.heap.IsRevIter I l ((items.size : Int) - 1)) (hl : s.heap.IsList l items) (hz : items.size <= sizeLine)
  (k : ∀ (s' : Shared) (acc' : Array Value) (c' : Nat), (∀ b o, b ≠ I -> s.heap.get? b = some o -> s'.heap.get? b = some o) -> s'.gens = s.gens -> s'.drawn = s.drawn -> s'.os = s.os -> s'.heap.get? s.heap.objs.size = some { cls := Value.type "list", data := Data.seq acc' c' } -> ItemsOf (fun i v => items[items.size - 1 - i]? = some v) acc' items.size -> Q (.ref s.heap.objs.size) s') :
  wpAny (model prog w) A (call (.type "list") [.ref I]) Q E s := by
 obtain ⟨oI, hI1, hI2, hI3⟩ := id hI
 obtain ⟨ol, hl1, hl2⟩ := id hl
 have lI : I < s.heap.objs.size := Heap.lt_size hI1
 have ll : l < s.heap.objs.size := Heap.lt_size hl1
 refine callType_codes F.called_list (F.typeCall_list_1 _) F.entry_list_init (code_list_new _ ?_) ?_ (Q₁ := fun obj s₁ => obj = .ref s.heap.objs.size /\ s₁ = { s with heap := s.heap.push { cls := Value.type "list", data := Data.seq #[] } })
 ·exact ⟨rfl, rfl⟩
 ·rintro obj s₁ ⟨rfl, rfl⟩
  have hS : (s.heap.push { cls := Value.type "list", data := Data.seq #[] }).get? s.heap.objs.size = some { cls := Value.type "list", data := Data.seq #[] } := Heap.get?_push_size s.heap rfl
  refine ⟨⟨_, hS, rfl⟩, F.args_list_init_2 _ _, ?_⟩
  have hI' : (s.heap.push { cls := Value.type "list", data := Data.seq #[] }).get? I = some oI := Heap.get?_push_of_some _ hI1
  have hl' : (s.heap.push { cls := Value.type "list", data := Data.seq #[] }).get? l = some ol := Heap.get?_push_of_some _ hl1
  have u1 : ((s.heap.push { cls := Value.type "list", data := Data.seq #[] }).update s.heap.objs.size (Obj.mapSeq fun _ => #[])).get? s.heap.objs.size = some { cls := Value.type "list", data := Data.seq #[] } := (Heap.get?_update_self _ hS rfl).trans rfl
  have u2 : ∀ b o, b ≠ s.heap.objs.size -> (s.heap.push { cls := Value.type "list", data := Data.seq #[] }).get? b = some o -> ((s.heap.push { cls := Value.type "list", data := Data.seq #[] }).update s.heap.objs.size (Obj.mapSeq fun _ => #[])).get? b = some o := fun b o hb q => (Heap.get?_update_other _ _ (Ne.symm hb)).trans q
  refine wpAny_bind ?_
  unfold Builtin.List.listItems
  refine wpAny_bind (wpAny_seqItems hS rfl (wpAny_pure ?_))
  refine wpAny_bind (wpAny_updateSeq hS rfl ?_ (by decide) (by decide))
  refine wpAny_bind (wpAny_letGo ?_)
  refine rR (A := A.in1) hh hne ⟨oI, u2 I oI (Nat.ne_of_lt lI) hI', hI2, hI3⟩ ⟨ol, u2 l ol (Nat.ne_of_lt ll) hl', hl2⟩ s.heap.objs.size (Nat.ne_of_gt lI) (Nat.ne_of_gt ll) .none 0 u1 hz fun s' acc' c' mv g it => ?_
  exact ⟨rfl, k s' acc' c' (fun b o hb q => mv.heap b o (by
   have : b ≠ s.heap.objs.size := Nat.ne_of_lt (Heap.lt_size q)
   simp [hb, this]) (u2 b o (Nat.ne_of_lt (Heap.lt_size q)) (Heap.get?_push_of_some _ q))) mv.gens.symm mv.drawn mv.os g it⟩
section
variable {X : Cx}
theorem aEe : bootBuiltins "reversed" = some (.type "reversed") := by decide +kernel
theorem zG : bootBuiltins "list" = some (.type "list") := by decide +kernel
def tLR (K : PySem.W.Frag) (te : TE) : TE := fun σ H Q => te σ H fun x H1 => ∃ a xs, x = .ref a /\ SqL K H1 a xs /\ ∀ l, H1 l = none -> Q (.ref l) (upd H1 l (.lst xs.reverse))
theorem y7 {xs : List V} {its : List Value} (r : Vals xs its) {acc : Array Value} (h : ItemsOf (fun i v => its.toArray[its.toArray.size - 1 - i]? = some v) acc its.toArray.size) : acc.toList = its.reverse := by
 obtain ⟨h1, h2⟩ := h
 have h1 : acc.size = its.length := h1.trans (List.size_toArray ..)
 apply List.ext_getElem?
 intro i
 rw [Array.getElem?_toList]
 by_cases hi : i < its.length
 ·have hx : i < acc.size := by omega
  have this := h2 i acc[i] (by simp [hx])
  have this : its.toArray[its.toArray.size - 1 - i]? = some acc[i] := this
  rw [Array.getElem?_eq_getElem hx, List.getElem?_reverse hi]
  rw [List.size_toArray, List.getElem?_toArray] at this
  exact this.symm
 ·rw [Array.getElem?_eq_none (by omega), List.getElem?_eq_none (by rw [List.length_reverse]; omega)]
theorem iA : ∀ {xs : List V} {us : List Value}, Vals xs us -> Vals xs.reverse us.reverse
 | _, _, .nil => .nil
 | _, _, .cons r t => by
  rw [List.reverse_cons, List.reverse_cons]
  exact (iA t).append (.cons r .nil)
theorem rZ {e : Expr} {te : TE} {p1 p2 pos1 pos2 : Pos} (hc : X.calm = true) (hg1 : Gl X "list") (hm1 : X.mg "list" = none) (hg2 : Gl X "reversed") (hm2 : X.mg "reversed" = none) (he : PE X e te)
  (hs1 : starEach [.Call (.Name "reversed" p2) [e] [] pos2] X.env = (false, eval (.Call (.Name "reversed" p2) [e] [] pos2) X.env) :: starEach [] X.env := by rfl) (hs2 : starEach [e] X.env = (false, eval e X.env) :: starEach [] X.env := by rfl) :
  PE X (.Call (.Name "list" p1) [.Call (.Name "reversed" p2) [e] [] pos2] [] pos1) (tLR X.K te) := by
 intro pins s σ H Q I h
 refine wpAny_Call_Name_kw (iH I hg1 hm1 zG (PyProof.Rows.callWith_type1 ?_ hs1 rfl))
 rw [hs1]
 show wpAny _ _ (spliced ((false, eval _ X.env) :: backTo pos1 (starEach [] X.env))) _ _ s
 refine Calls.spliced_cons (wpAny_Call_Name_kw (iH I hg2 hm2 aEe (PyProof.Rows.callWith_type1 ?_ hs2 rfl)))
 rw [hs2]
 show wpAny _ _ (spliced ((false, eval _ X.env) :: backTo pos2 (starEach [] X.env))) _ _ s
 refine Calls.spliced_cons (thn (he pins s σ H _ I h) fun u s1 ⟨x, H1, I1, r1, a, xs, ex, hq, q⟩ => Calls.spliced_nil ?_)
 subst ex
 cases (show u = Value.ref a from r1)
 obtain ⟨its, rv, pl, hz⟩ := I1.list hq
 refine call_reversed_list pl.isList (Calls.spliced_nil ?_)
 have hlen := rv.length
 have kp : ∀ b o, s1.heap.get? b = some o -> (s1.heap.push (revObj a ((its.toArray.size : Int) - 1))).get? b = some o := fun b o q => Heap.get?_push_of_some _ q
 have I2 : Inv X pins σ H1 { s1 with heap := s1.heap.push (revObj a ((its.toArray.size : Int) - 1)) } := I1.kept (t' := s1.toks) kp
 have hR : (s1.heap.push (revObj a ((its.toArray.size : Int) - 1))).get? s1.heap.objs.size = some (revObj a ((its.toArray.size : Int) - 1)) := Heap.get?_push_size _ rfl
 have hp := I1.fpOk (Nat.le_refl _) (I1.hok.fresh (Nat.le_refl s1.heap.objs.size))
 obtain ⟨o, n, ho, hoc, hod, hos⟩ := pl
 have lt : a < s1.heap.objs.size := Heap.lt_size ho
 refine l8 (s := { s1 with heap := s1.heap.push (revObj a ((its.toArray.size : Int) - 1)) }) (I := s1.heap.objs.size) (l := a) (items := its.toArray) (I.ok.hd hc) (Nat.ne_of_lt lt) ⟨_, hR, rfl, rfl⟩ ⟨o, kp a o ho, hoc, n, hos⟩ (by rw [List.size_toArray]; omega) fun s' acc c' k1 k2 k3 k4 k5 k6 => ?_
 have ev := y7 rv k6
 have hsz : (s1.heap.push (revObj a ((its.toArray.size : Int) - 1))).objs.size = s1.heap.objs.size + 1 := by simp [Heap.push]
 have hH : H1 (s1.heap.objs.size + 1) = none := I2.hok.fresh (a := s1.heap.objs.size + 1) (by show (s1.heap.push _).objs.size <= _; rw [hsz]; exact Nat.le_refl _)
 rw [show ({ s1 with heap := s1.heap.push (revObj a ((its.toArray.size : Int) - 1)) } : Shared).heap.objs.size = s1.heap.objs.size + 1 from hsz] at k5 ⊢
 obtain ⟨f0, f1, f2, f3, f4, f5⟩ := hp
 have keep : ∀ b o, b ∉ [s1.heap.objs.size] -> (s1.heap.push (revObj a ((its.toArray.size : Int) - 1))).get? b = some o -> s'.heap.get? b = some o := fun b o hb q => k1 b o (fun z => hb (by rw [z]; exact .head _)) q
 have trk : ∀ b o, H1 b = some o -> b ∉ [s1.heap.objs.size] := fun b o q hb => by rw [List.mem_singleton.mp hb, f0] at q; cases q
 have nn : ∀ b o, H1 b = some o -> b ≠ s1.heap.objs.size + 1 := fun b o q z => by rw [z, hH] at q; cases q
 refine ⟨.ref (s1.heap.objs.size + 1), upd H1 (s1.heap.objs.size + 1) (.lst xs.reverse), ?_, rfl, q _ hH⟩
 have st := Inv.step (X := X) (pins := pins) (σ := σ) (H := H1) (s := { s1 with heap := s1.heap.push (revObj a ((its.toArray.size : Int) - 1)) }) (H' := upd H1 (s1.heap.objs.size + 1) (.lst xs.reverse)) (h' := s'.heap) (g' := s1.gens) (d' := s1.drawn) (t' := s'.toks) (ch := [s1.heap.objs.size]) I2 (fun b hb => by rw [List.mem_singleton.mp hb]; exact ⟨f3, f1, f4, f5⟩) (fun b o _ _ hb q _ => keep b o hb q) (fun b o _ _ hb q _ => ⟨o.slots, keep b o hb q⟩)
  (fun b o _ q n => by rw [a7 (fun z => by have := Heap.lt_size q; rw [z] at this; exact absurd (show s1.heap.objs.size + 1 < s1.heap.objs.size + 1 by rw [<- hsz]; exact hsz ▸ this) (Nat.lt_irrefl _))]; exact n) (fun b o hb q => ⟨o, keep b o hb q⟩)
  (fun b ys q => by rw [a7 (nn b _ q)]; exact q) (fun b o v q => by rw [a7 (nn b _ q)]; exact q) (fun b ps q => ⟨#[], by rw [a7 (nn b _ q), q]; simp⟩) (fun m hm => by
   obtain ⟨o, es, ep, ho, r⟩ := hm
   exact ⟨o, es, ep, keep _ o (fun z => f1 (List.mem_singleton.mp z).symm) ho, r⟩) (fun b v q => by
   by_cases hb : b = s1.heap.objs.size + 1
   ·subst hb
    rw [bB] at q
    cases q
    refine ⟨by rw [List.length_reverse]; exact hz, its.reverse, c', iA rv, ?_⟩
    rw [k5, <- ev]
   ·rw [a7 hb] at q
    refine (I2.hok b v q).stay (fun c w' hc q' => keep c w' ?_ q') (fun c q' => ?_) fun c ys q' => ?_
    ·rcases hc with z | z
     ·rw [z]; exact trk b v q
     ·exact trk c _ z
    ·rw [a7 (nn c _ q')]; exact q'
    ·rw [a7 (nn c _ q')]; exact q') I1.bare
 have es : s' = { heap := s'.heap, gens := s1.gens, drawn := s1.drawn, toks := s'.toks, os := s1.os } := by
  cases s'
  cases k2
  cases k3
  cases k4
  rfl
 rw [es]
 exact st
end
end L2
namespace M
open PySem PySem.Spec PyProof.Rows L2
def aEx (x : Ev) : Res Ev := match d6 x with
 | some ds => .ok (.f (.list ds.reverse))
 | none => .bad
theorem sS {X : Cx} {E : L2.St -> XK} {e : Expr} {fe : En -> Res Ev} {p1 p2 pos1 pos2 : Pos} (hc : X.calm = true) (hg1 : Gl X "list") (hm1 : X.mg "list" = none) (hg2 : Gl X "reversed") (hm2 : X.mg "reversed" = none) (he : DE X E e fe)
  (hs1 : starEach [.Call (.Name "reversed" p2) [e] [] pos2] X.env = (false, eval (.Call (.Name "reversed" p2) [e] [] pos2) X.env) :: starEach [] X.env := by rfl) (hs2 : starEach [e] X.env = (false, eval e X.env) :: starEach [] X.env := by rfl) :
  DE X E (.Call (.Name "list" p1) [.Call (.Name "reversed" p2) [e] [] pos2] [] pos1) (mUn aEx fe) := by
 obtain ⟨t, q, m⟩ := he.out
 refine DE.in ⟨_, rZ hc hg1 hm1 hg2 hm2 q hs1 hs2, fun B G0 G W H σ en Q hh hs hw => m B G0 G W H σ en _ hh hs ?_⟩
 have hw : wpR ((fe en).bind _) _ _ := hw
 rw [a8] at hw
 refine aU hw (fun r hr G1 H1 v s e => ?_) fun C h => h
 obtain ⟨G2, s2, e2⟩ := e.c s
 unfold aEx at hr
 cases el : d6 r.c with
 | none => rw [el] at hr; exact hr.elim
 | some ds =>
  rw [el] at hr
  obtain ⟨a, xs, rfl, h1, h2⟩ := iD s2.gh e2 el
  refine ⟨a, xs, rfl, .inl h1, fun l hl => ?_⟩
  exact hr G2 _ _ (s2.trans (Step.lay s2.gh hl)) ⟨l, _, rfl, s2.h.free hl, s2.gh.free hl, bB, .lst h2.rev⟩
end M
namespace L2
open PySem PySem.Spec PyProof.Rows
section
variable {X : Cx}
def sC (i : Int) (is : List Int) : Int := is.foldl (fun a b => if a < b then b else a) i
def aFj (K : PySem.W.Frag) : List V -> Hp -> VK -> Prop := fun xs H Q => ∃ a i is, xs = [.ref a] /\ SqL K H a ((i :: is).map V.int) /\ Q (.int (sC i is)) H
theorem fN : ∀ {is : List Int} {us : List Value}, Vals (is.map V.int) us -> ∃ ts : List (Int × Tok), us = ts.map (fun p => Value.int p.1 p.2) /\ ts.map (·.1) = is
 | [], _, .nil => ⟨[], rfl, rfl⟩
 | i :: is, _, .cons r t => by
  obtain ⟨tk, e⟩ := r
  obtain ⟨ts, e1, e2⟩ := fN t
  refine ⟨(i, tk) :: ts, ?_, ?_⟩
  ·rw [e, e1]; rfl
  ·rw [List.map_cons, e2]
theorem iI (f : Nat -> Int) : ∀ k, f (argBest (fun i j => decide (f i > f j)) k) = sC (f 0) ((List.range k).map fun j => f (j + 1))
 | 0 => rfl
 | k + 1 => by
  have ih := iI f k
  unfold sC at ih ⊢
  rw [List.range_succ, List.map_append, List.foldl_append, <- ih]
  show f (if decide (f (k + 1) > f (argBest (fun i j => decide (f i > f j)) k)) = true then k + 1 else argBest (fun i j => decide (f i > f j)) k) = if f (argBest (fun i j => decide (f i > f j)) k) < f (k + 1) then f (k + 1) else f (argBest (fun i j => decide (f i > f j)) k)
  by_cases h : f (argBest (fun i j => decide (f i > f j)) k) < f (k + 1)
  ·rw [if_pos h, if_pos (decide_eq_true h)]
  ·rw [if_neg h, if_neg (by simpa using h)]
theorem xD (hc : X.calm = true) {K : PySem.W.Frag} (hK : X.K = K) : jP X (.builtin "max") (aFj K) := by
 subst hK
 intro pins s σ H xs us Q I r h
 obtain ⟨a, i, is, rfl, hq, q⟩ := h
 obtain ⟨u, rfl, ru⟩ := vals1 r
 cases ru
 obtain ⟨its, rv, p, hz⟩ := I.list hq
 obtain ⟨ts, e1, e2⟩ := fN rv
 have hn : ts.length = is.length + 1 := by
  have := congrArg List.length e2
  rw [List.length_map, List.length_cons] at this
  exact this
 have hl : s.heap.IsList a (intItems ts.toArray) := by
  have h := p.isList
  rw [e1] at h
  simpa [intItems] using h
 have num : ∀ j, numAt ts.toArray j = ((i :: is)[j]?).getD 0 := fun j => by
  rw [<- e2]
  simp [numAt]
 refine max_intList (A := X.A) (I.ok.hd hc) hl (by simp; omega) fun v h' tk hP hk => ⟨.int (sC i is), H, I.kept hk, ?_, q⟩
 obtain ⟨t, rfl⟩ := intItems_at hP
 refine ⟨t, ?_⟩
 rw [iI (numAt ts.toArray)]
 have e0 : numAt ts.toArray 0 = i := by rw [num]; rfl
 have e3 : ((List.range (ts.toArray.size - 1)).map fun j => numAt ts.toArray (j + 1)) = is := by
  rw [List.size_toArray, hn, Nat.add_sub_cancel]
  apply List.ext_getElem
  ·simp
  ·intro j h1 h2
   simp [num, h2]
 rw [e0, e3]
end
end L2
namespace M
open PySem PySem.Spec PyProof.Rows L2
variable {K : PySem.W.Frag}
def intsOf : List D -> Option (List Int)
 | [] => some []
 | .int b :: ds => match intsOf ds with
  | some bs => some (b :: bs)
  | none => none
 | _ => none
theorem kS : ∀ is : List Int, intsOf (is.map .int) = some is
 | [] => rfl
 | i :: is => by
  show (match intsOf (is.map .int) with | some bs => some (i :: bs) | none => none) = _
  rw [kS is]
theorem gL {G : Hp} : ∀ {ds : List D} {bs : List Int} {xs : List V}, intsOf ds = some bs -> Reps K G xs ds -> xs = bs.map V.int
 | [], _, _, h, .nil => by cases h; rfl
 | d :: ds, bs, _, h, .cons r t => by
  cases d with
  | int b =>
   unfold intsOf at h
   cases e : intsOf ds with
   | none => rw [e] at h; cases h
   | some bs' =>
    rw [e] at h
    cases h
    cases r
    rw [gL e t]
    rfl
  | _ => cases h
def aEr (rs : List Ev) : Res Ev := match rs with
 | [x] => match d6 x with
  | some ds => match intsOf ds with
   | some (i :: is) => .ok (.p (.int (sC i is)))
   | _ => .bad
  | none => .bad
 | _ => .bad
theorem aDo : aAh aEr := by
 intro rs C h
 unfold aEr at h
 split at h
 ·split at h
  ·split at h <;> cases h
  ·cases h
 ·cases h
theorem aEg : k7 K (aFj K) aEr := by
 intro W Hs G H vs rs Q gh he hw
 unfold aEr at hw
 split at hw
 ·rename_i x
  match vs, he with
  | [v], ⟨h1, _⟩ =>
   split at hw
   ·rename_i ds ed
    obtain ⟨a, xs, rfl, k1, k2⟩ := iD gh h1 ed
    split at hw
    ·rename_i i is eb
     have := gL eb k2
     subst this
     exact ⟨a, i, is, rfl, .inl k1, hw G H _ (Step.refl gh) (.int _)⟩
    ·exact hw.elim
   ·exact hw.elim
 ·exact hw.elim
end M
namespace L2
open PySem PySem.Spec PyProof.Rows
def iK (i j : Int) : Prop := CMulW i j \/ CMul i j
theorem eX {X : Cx} : OpR X (binaryOp .Mult) (rI iK fun i j => .int (i * j)) := opI fun _ _ _ _ _ _ _ hc q => mul_int q (hc.elim CMulW.ok CMul.ok)
end L2
namespace M
open PySem PySem.Spec PyProof.Rows L2
variable {K : PySem.W.Frag}
noncomputable abbrev iN : Ev -> Ev -> Res Ev := qC iK fun i j => .int (i * j)
theorem e9 : OpM K (rI iK fun i j => .int (i * j)) iN := nH fun _ _ _ => .int _
theorem oU {i j : Int} (h : iK i j) : iN (.p (.int i)) (.p (.int j)) = .ok (.p (.int (i * j))) := by simp [qC, h]
end M
namespace L2
open PySem PySem.Spec PyProof.Rows
section
variable {X : Cx}
def aJ8 (K : PySem.W.Frag) : List V -> Hp -> VK -> Prop := fun xs H Q => ∃ (a : Addr) (is : List Int), xs = [.ref a] /\ SqL K H a (is.map V.int) /\ Q (.int is.sum) H
theorem sU (f : Nat -> Int) : ∀ (is : List Int), (∀ j, j < is.length -> f j = (is[j]?).getD 0) -> preSum f is.length = is.sum := by
 have gen : ∀ (n : Nat) (is : List Int), is.length = n -> (∀ j, j < is.length -> f j = (is[j]?).getD 0) -> preSum f n = is.sum := by
  intro n
  induction n with
  | zero =>
   intro is h _
   rw [List.length_eq_zero_iff.mp h]
   rfl
  | succ n ih =>
   intro is h hj
   have hne : is ≠ [] := fun z => by rw [z] at h; cases h
   have e : is = is.dropLast ++ [is.getLast hne] := (List.dropLast_concat_getLast hne).symm
   have hl : is.dropLast.length = n := by rw [List.length_dropLast]; omega
   have h1 := ih is.dropLast hl fun j hj' => by
    rw [hj j (by omega)]
    conv => lhs; rw [e]
    rw [List.getElem?_append_left hj']
   show preSum f n + f n = is.sum
   rw [h1, hj n (by omega)]
   conv => rhs; rw [e, List.sum_append]
   conv => lhs; rw [e]
   rw [List.getElem?_append_right (by omega), hl]
   simp
 exact fun is hj => gen _ is rfl hj
theorem wO (hc : X.calm = true) {K : PySem.W.Frag} (hK : X.K = K) : jP X (.builtin "sum") (aJ8 K) := by
 subst hK
 intro pins s σ H xs us Q I r h
 obtain ⟨a, is, rfl, hq, q⟩ := h
 obtain ⟨u, rfl, ru⟩ := vals1 r
 cases ru
 obtain ⟨its, rv, p, hz⟩ := I.list hq
 obtain ⟨ts, e1, e2⟩ := fN rv
 have hl : s.heap.IsList a (intItems ts.toArray) := by
  have h := p.isList
  rw [e1] at h
  simpa [intItems] using h
 have hn : ts.length = is.length := by
  have := congrArg List.length e2
  rw [List.length_map] at this
  exact this
 have num : ∀ j, numAt ts.toArray j = (is[j]?).getD 0 := fun j => by
  rw [<- e2]
  simp [numAt]
 refine sum_intListG (A := X.A) (I.ok.hd hc) hl fun h' tk t' hk => ⟨.int is.sum, H, I.kept hk, ?_, q⟩
 refine ⟨t', ?_⟩
 rw [List.size_toArray, hn, sU _ is fun j _ => num j]
end
end L2
namespace M
open PySem PySem.Spec PyProof.Rows L2
section
variable {K : PySem.W.Frag}
def aCx (rs : List Ev) : Res Ev := match rs with
 | [x] => match d6 x with
  | some ds => match intsOf ds with
   | some is => .ok (.p (.int is.sum))
   | none => .bad
  | none => .bad
 | _ => .bad
theorem aDc : aAh aCx := by
 intro rs C h
 unfold aCx at h
 split at h
 ·split at h
  ·split at h <;> cases h
  ·cases h
 ·cases h
theorem aE6 : k7 K (aJ8 K) aCx := by
 intro W Hs G H vs rs Q gh he hw
 unfold aCx at hw
 split at hw
 ·rename_i x
  match vs, he with
  | [v], ⟨h1, _⟩ =>
   split at hw
   ·rename_i ds ed
    obtain ⟨a, xs, rfl, k1, k2⟩ := iD gh h1 ed
    split at hw
    ·rename_i is eb
     have := gL eb k2
     subst this
     exact ⟨a, is, rfl, .inl k1, hw G H _ (Step.refl gh) (.int _)⟩
    ·exact hw.elim
   ·exact hw.elim
 ·exact hw.elim
end
end M
namespace L2
open PySem PySem.Spec PyProof.Rows
section
variable {X : Cx}
end
end L2
namespace M
open PySem PySem.Spec PyProof.Rows L2
end M
namespace L2
open PySem PySem.Spec PyProof.Rows
section
variable {X : Cx}
def sG (i : Int) (is : List Int) : Int := is.foldl (fun a b => if b < a then b else a) i
def aHq (K : PySem.W.Frag) : List V -> Hp -> VK -> Prop := fun xs H Q => ∃ a i is, xs = [.ref a] /\ SqL K H a ((i :: is).map V.int) /\ Q (.int (sG i is)) H
theorem iB (f : Nat -> Int) : ∀ k, f (argBest (fun i j => decide (f i < f j)) k) = sG (f 0) ((List.range k).map fun j => f (j + 1))
 | 0 => rfl
 | k + 1 => by
  have ih := iB f k
  unfold sG at ih ⊢
  rw [List.range_succ, List.map_append, List.foldl_append, <- ih]
  show f (if decide (f (k + 1) < f (argBest (fun i j => decide (f i < f j)) k)) = true then k + 1 else argBest (fun i j => decide (f i < f j)) k) = if f (k + 1) < f (argBest (fun i j => decide (f i < f j)) k) then f (k + 1) else f (argBest (fun i j => decide (f i < f j)) k)
  by_cases h : f (k + 1) < f (argBest (fun i j => decide (f i < f j)) k)
  ·rw [if_pos h, if_pos (decide_eq_true h)]
  ·rw [if_neg h, if_neg (by simpa using h)]
theorem vD (hc : X.calm = true) {K : PySem.W.Frag} (hK : X.K = K) : jP X (.builtin "min") (aHq K) := by
 subst hK
 intro pins s σ H xs us Q I r h
 obtain ⟨a, i, is, rfl, hq, q⟩ := h
 obtain ⟨u, rfl, ru⟩ := vals1 r
 cases ru
 obtain ⟨its, rv, p, hz⟩ := I.list hq
 obtain ⟨ts, e1, e2⟩ := fN rv
 have hn : ts.length = is.length + 1 := by
  have := congrArg List.length e2
  rw [List.length_map, List.length_cons] at this
  exact this
 have hl : s.heap.IsList a (intItems ts.toArray) := by
  have h := p.isList
  rw [e1] at h
  simpa [intItems] using h
 have num : ∀ j, numAt ts.toArray j = ((i :: is)[j]?).getD 0 := fun j => by
  rw [<- e2]
  simp [numAt]
 refine min_intList (A := X.A) (I.ok.hd hc) hl (by simp; omega) fun v h' tk hP hk => ⟨.int (sG i is), H, I.kept hk, ?_, q⟩
 obtain ⟨t, rfl⟩ := intItems_at hP
 refine ⟨t, ?_⟩
 rw [iB (numAt ts.toArray)]
 have e0 : numAt ts.toArray 0 = i := by rw [num]; rfl
 have e3 : ((List.range (ts.toArray.size - 1)).map fun j => numAt ts.toArray (j + 1)) = is := by
  rw [List.size_toArray, hn, Nat.add_sub_cancel]
  apply List.ext_getElem
  ·simp
  ·intro j h1 h2
   simp [num, h2]
 rw [e0, e3]
end
end L2
namespace M
open PySem PySem.Spec PyProof.Rows L2
variable {K : PySem.W.Frag}
def aEo (rs : List Ev) : Res Ev := match rs with
 | [x] => match d6 x with
  | some ds => match intsOf ds with
   | some (i :: is) => .ok (.p (.int (sG i is)))
   | _ => .bad
  | none => .bad
 | _ => .bad
theorem x4 : aAh aEo := by
 intro rs C h
 unfold aEo at h
 split at h
 ·split at h
  ·split at h <;> cases h
  ·cases h
 ·cases h
theorem aDr : k7 K (aHq K) aEo := by
 intro W Hs G H vs rs Q gh he hw
 unfold aEo at hw
 split at hw
 ·rename_i x
  match vs, he with
  | [v], ⟨h1, _⟩ =>
   split at hw
   ·rename_i ds ed
    obtain ⟨a, xs, rfl, k1, k2⟩ := iD gh h1 ed
    split at hw
    ·rename_i i is eb
     have := gL eb k2
     subst this
     exact ⟨a, i, is, rfl, .inl k1, hw G H _ (Step.refl gh) (.int _)⟩
    ·exact hw.elim
   ·exact hw.elim
 ·exact hw.elim
end M
namespace HS
open PySem
theorem jY {α : Type} [DecidableEq α] : ∀ {l m : List α}, l.Nodup -> (∀ x ∈ l, x ∈ m) -> l.length <= m.length
 | [], m, _, _ => Nat.zero_le _
 | x :: l, m, h, s => by
  obtain ⟨h1, h2⟩ := List.nodup_cons.mp h
  have hx := s x (.head _)
  have q := jY (m := m.erase x) h2 fun y hy => (List.mem_erase_of_ne (show y ≠ x from fun z => h1 (by rw [<- z]; exact hy))).mpr (s y (.tail _ hy))
  rw [List.length_erase_of_mem hx] at q
  have := List.length_pos_of_mem hx
  rw [List.length_cons]
  omega
def adv (mask : Nat) (p : SetTable.Probe) : SetTable.Probe := if p.more > 0 then { p with j := p.j + 1, more := p.more - 1 } else
 { p with j := (SetTable.leap mask p.i p.perturb).1, more := SetTable.runEnd mask (SetTable.leap mask p.i p.perturb).1 - (SetTable.leap mask p.i p.perturb).1, i := (SetTable.leap mask p.i p.perturb).1, perturb := (SetTable.leap mask p.i p.perturb).2 }
def uV (mask i p : Nat) : SetTable.Probe := { j := i, more := SetTable.runEnd mask i - i, i, perturb := p, dummy := none }
def pst (mask : Nat) (h : Int) : SetTable.Probe := uV mask (SetTable.bits h % (mask + 1)) (SetTable.bits h)
def jZ (mask : Nat) : Nat -> SetTable.Probe -> SetTable.Probe
 | 0, p => p
 | k + 1, p => adv mask (jZ mask k p)
def pth (mask : Nat) (h : Int) (k : Nat) : Nat := (jZ mask k (pst mask h)).j
theorem aJh (mask : Nat) (p : SetTable.Probe) : (adv mask p).dummy = p.dummy := by
 unfold adv
 split <;> rfl
theorem aBo (mask : Nat) (p : SetTable.Probe) : ∀ k, (jZ mask k p).dummy = p.dummy
 | 0 => rfl
 | k + 1 => (aJh mask _).trans (aBo mask p k)
theorem iO (mask : Nat) (p : SetTable.Probe) (a : Nat) : ∀ b, jZ mask (a + b) p = jZ mask b (jZ mask a p)
 | 0 => rfl
 | b + 1 => congrArg (adv mask) (iO mask p a b)
theorem w5 (mask i p : Nat) : ∀ r, r <= SetTable.runEnd mask i - i -> jZ mask r (uV mask i p) = { j := i + r, more := SetTable.runEnd mask i - i - r, i, perturb := p, dummy := none }
 | 0, _ => rfl
 | r + 1, h => by
  show adv mask (jZ mask r (uV mask i p)) = _
  rw [w5 mask i p r (by omega)]
  unfold adv
  rw [if_pos (show SetTable.runEnd mask i - i - r > 0 by omega)]
  congr 1
theorem aBk (mask i p : Nat) : jZ mask (SetTable.runEnd mask i - i + 1) (uV mask i p) = uV mask (SetTable.leap mask i p).1 (SetTable.leap mask i p).2 := by
 show adv mask (jZ mask (SetTable.runEnd mask i - i) (uV mask i p)) = _
 rw [w5 mask i p _ (Nat.le_refl _)]
 unfold adv
 rw [if_neg (by simp)]
 rfl
theorem aJ2 (mask i : Nat) : SetTable.runEnd mask i - i <= 9 := by unfold SetTable.runEnd; split <;> omega
def lpN (mask : Nat) (i p : Nat) : Nat -> Nat × Nat
 | 0 => (i, p)
 | m + 1 => lpN mask (SetTable.leap mask i p).1 (SetTable.leap mask i p).2 m
theorem wJ (mask : Nat) : ∀ (a b i p : Nat), lpN mask i p (a + b) = lpN mask (lpN mask i p a).1 (lpN mask i p a).2 b
 | 0, b, i, p => by rw [Nat.zero_add]; rfl
 | a + 1, b, i, p => by
  rw [Nat.succ_add]
  show lpN mask _ _ (a + b) = _
  rw [wJ mask a b]
  rfl
theorem aFk (mask : Nat) : ∀ (m i p : Nat), (lpN mask i p m).2 = p / 32 ^ m
 | 0, i, p => by simp [lpN]
 | m + 1, i, p => by
  show (lpN mask _ (p / 32) m).2 = _
  rw [aFk mask m, Nat.div_div_eq_div_mul, Nat.pow_succ, Nat.mul_comm]
theorem aHe (mask : Nat) : ∀ (m i p : Nat), i <= mask -> (lpN mask i p m).1 <= mask
 | 0, i, p, h => h
 | m + 1, i, p, _ => by
  show (lpN mask ((i * 5 + 1 + p / 32) % (mask + 1)) (p / 32) m).1 <= mask
  exact aHe mask m _ _ (Nat.le_of_lt_succ (Nat.mod_lt _ (Nat.succ_pos _)))
theorem rH (mask : Nat) : ∀ (m i p : Nat), ∃ k, k <= 10 * m /\ jZ mask k (uV mask i p) = uV mask (lpN mask i p m).1 (lpN mask i p m).2
 | 0, i, p => ⟨0, Nat.le_refl _, rfl⟩
 | m + 1, i, p => by
  have r9 := aJ2 mask i
  obtain ⟨k, h1, h2⟩ := rH mask m (SetTable.leap mask i p).1 (SetTable.leap mask i p).2
  refine ⟨(SetTable.runEnd mask i - i) + 1 + k, by omega, ?_⟩
  rw [iO, aBk]
  exact h2
def orb (mask : Nat) : Nat -> Nat -> List Nat
 | 0, _ => []
 | n + 1, i => i :: orb mask n ((i * 5 + 1) % (mask + 1))
theorem aAt (mask : Nat) : ∀ (n i q : Nat), q ∈ orb mask n i -> ∃ m, m < n /\ (lpN mask i 0 m).1 = q
 | n + 1, i, q, h => by
  rcases List.mem_cons.mp h with z | z
  ·exact ⟨0, Nat.succ_pos _, z.symm⟩
  ·obtain ⟨m, hm, e⟩ := aAt mask n _ q z
   exact ⟨m + 1, Nat.succ_lt_succ hm, e⟩
def MOk (mask : Nat) : Prop := mask = 7 \/ mask = 31 \/ mask = 127
def aAx (l : List Nat) : Nat := l.foldl (fun a q => a ||| (1 <<< q)) 0
theorem qJ : ∀ (l : List Nat) (a q : Nat), (l.foldl (fun a q => a ||| (1 <<< q)) a).testBit q = true -> a.testBit q = true \/ q ∈ l
 | [], a, q, h => .inl h
 | x :: l, a, q, h => by
  rcases qJ l _ q h with z | z
  ·rw [Nat.testBit_or, Bool.or_eq_true] at z
   rcases z with z | z
   ·exact .inl z
   ·rw [Nat.one_shiftLeft, Nat.testBit_two_pow] at z
    exact .inr (by rw [<- of_decide_eq_true z]; exact .head _)
  ·exact .inr (.tail _ z)
theorem aB2 {mask : Nat} (hm : MOk mask) {i q : Nat} (hi : i <= mask) (hq : q <= mask) : q ∈ orb mask (mask + 1) i := by
 have key : ∀ mask, MOk mask -> (List.range (mask + 1)).all (fun i => Nat.beq (aAx (orb mask (mask + 1) i)) (2 ^ (mask + 1) - 1)) = true := by
  rintro _ (rfl | rfl | rfl) <;> decide +kernel
 have a := List.all_eq_true.mp (key mask hm) i (List.mem_range.mpr (Nat.lt_succ_of_le hi))
 have a := Nat.eq_of_beq_eq_true a
 have t : (aAx (orb mask (mask + 1) i)).testBit q = true := by
  rw [a, Nat.testBit_two_pow_sub_one]
  exact decide_eq_true (Nat.lt_succ_of_le hq)
 rcases qJ _ 0 q t with z | z
 ·rw [Nat.zero_testBit] at z
  cases z
 ·exact z
theorem xI (h : Int) : SetTable.bits h < 2 ^ 64 := by
 unfold SetTable.bits
 omega
theorem rC {mask : Nat} (hm : MOk mask) {i p q : Nat} (hi : i <= mask) (hp : p < 2 ^ 64) (hq : q <= mask) : ∃ m, m <= 13 + mask /\ (lpN mask i p m).1 = q := by
 have e2 : (lpN mask i p 13).2 = 0 := by
  rw [aFk]
  exact Nat.div_eq_of_lt (Nat.lt_of_lt_of_le hp (by decide))
 obtain ⟨m, h1, h2⟩ := aAt mask _ _ _ (aB2 hm (aHe mask 13 i p hi) hq)
 refine ⟨13 + m, by omega, ?_⟩
 rw [wJ, e2]
 exact h2
theorem xK {mask : Nat} (hm : MOk mask) (h : Int) {q : Nat} (hq : q <= mask) : ∃ k, k <= 10 * (13 + mask) /\ pth mask h k = q := by
 obtain ⟨m, m1, m2⟩ := rC hm (Nat.le_of_lt_succ (Nat.mod_lt (SetTable.bits h) (Nat.succ_pos mask))) (xI h) hq
 obtain ⟨k, k1, k2⟩ := rH mask m (SetTable.bits h % (mask + 1)) (SetTable.bits h)
 refine ⟨k, by omega, ?_⟩
 show (jZ mask k (uV mask _ _)).j = q
 rw [k2]
 exact m2
theorem miss {mask : Nat} {l : List Nat} (h : l.length <= mask) : ∃ q, q <= mask /\ q ∉ l := by
 by_cases z : ∀ q ∈ List.range (mask + 1), q ∈ l
 ·have := jY List.nodup_range z
  rw [List.length_range] at this
  omega
 ·obtain ⟨q, hq⟩ := Classical.not_forall.mp z
  obtain ⟨h1, h2⟩ := Classical.not_imp.mp hq
  exact ⟨q, Nat.le_of_lt_succ (List.mem_range.mp h1), h2⟩
def Ris (xs : Array Nat) : Prop := ∀ (i j a b : Nat), i < j -> xs[i]? = some a -> xs[j]? = some b -> a < b
theorem lZ (xs : Array Nat) (j : Nat) (hr : Ris xs) : ∀ (fuel lo hi : Nat), hi - lo <= fuel -> lo <= hi -> hi <= xs.size -> (∀ i a, i < lo -> xs[i]? = some a -> a < j) -> (∀ i a, hi <= i -> xs[i]? = some a -> j <= a) ->
  SetTable.below.go xs j fuel lo hi <= xs.size /\ (∀ i a, i < SetTable.below.go xs j fuel lo hi -> xs[i]? = some a -> a < j) /\ (∀ i a, SetTable.below.go xs j fuel lo hi <= i -> xs[i]? = some a -> j <= a)
 | 0, lo, hi, hf, h1, h2, h3, h4 => by
  have : lo = hi := by omega
  subst this
  exact ⟨h2, h3, h4⟩
 | fuel + 1, lo, hi, hf, h1, h2, h3, h4 => by
  unfold SetTable.below.go
  by_cases z : lo < hi
  ·rw [if_pos z]
   dsimp only
   have m1 : lo <= (lo + hi) / 2 := by omega
   have m2 : (lo + hi) / 2 < hi := by omega
   have m3 : (lo + hi) / 2 < xs.size := by omega
   have g : xs.getD ((lo + hi) / 2) j = xs[(lo + hi) / 2] := by simp [Array.getD, m3]
   rw [g]
   have gm : xs[(lo + hi) / 2]? = some xs[(lo + hi) / 2] := Array.getElem?_eq_getElem m3
   by_cases y : xs[(lo + hi) / 2] < j
   ·rw [if_pos y]
    refine lZ xs j hr fuel _ _ (by omega) (by omega) h2 (fun i a hi' e => ?_) h4
    rcases Nat.lt_or_ge i ((lo + hi) / 2) with w | w
    ·exact Nat.lt_trans (hr _ _ _ _ w e gm) y
    ·have : i = (lo + hi) / 2 := by omega
     subst this
     rw [gm] at e
     cases e
     exact y
   ·rw [if_neg y]
    refine lZ xs j hr fuel _ _ (by omega) (by omega) (by omega) h3 (fun i a hi' e => ?_)
    rcases Nat.lt_or_ge ((lo + hi) / 2) i with w | w
    ·have := hr _ _ _ _ w gm e
     omega
    ·have : i = (lo + hi) / 2 := by omega
     subst this
     rw [gm] at e
     cases e
     omega
  ·rw [if_neg z]
   have : lo = hi := by omega
   subst this
   exact ⟨h2, h3, h4⟩
theorem gG {xs : Array Nat} (hr : Ris xs) (j : Nat) : SetTable.below xs j <= xs.size /\ (∀ i a, i < SetTable.below xs j -> xs[i]? = some a -> a < j) /\ (∀ i a, SetTable.below xs j <= i -> xs[i]? = some a -> j <= a) := by
 unfold SetTable.below
 refine lZ xs j hr _ _ _ (Nat.le_refl _) (Nat.zero_le _) (Nat.le_refl _) (fun i a h => absurd h (Nat.not_lt_zero _)) (fun i a h e => ?_)
 rw [Array.getElem?_eq_none h] at e
 cases e
theorem uC {t : SetTable} (hr : Ris t.place) {j : Nat} (h : j ∈ t.place.toList) : ∃ i, t.slot j = .live i /\ t.place[i]? = some j := by
 obtain ⟨i, hi⟩ := List.mem_iff_getElem?.mp h
 rw [Array.getElem?_toList] at hi
 obtain ⟨b1, b2, b3⟩ := gG hr j
 have e : SetTable.below t.place j = i := by
  rcases Nat.lt_trichotomy (SetTable.below t.place j) i with z | z | z
  ·have hb : SetTable.below t.place j < t.place.size := Nat.lt_trans z (Array.getElem?_eq_some_iff.mp hi).1
   have a := b3 _ _ (Nat.le_refl _) (Array.getElem?_eq_getElem hb)
   have b := hr _ _ _ _ z (Array.getElem?_eq_getElem hb) hi
   omega
  ·exact z
  ·have := b2 i j z hi
   omega
 refine ⟨i, ?_, hi⟩
 unfold SetTable.slot
 dsimp only
 rw [e, if_pos (by rw [hi]; exact beq_self_eq_true _)]
theorem yJ {t : SetTable} (hd : t.dummies = #[]) {j : Nat} (h : j ∉ t.place.toList) : t.slot j = .empty := by
 unfold SetTable.slot SetTable.has
 rw [hd]
 dsimp only
 have : (t.place[SetTable.below t.place j]? == some j) = false := by
  rw [beq_eq_false_iff_ne]
  exact fun z => h (Array.mem_toList_iff.mpr (Array.mem_of_getElem? z))
 rw [this]
 simp
theorem eA {α : Type} (xs : Array α) (p : Nat) (x : α) : (SetTable.insertAt xs p x).toList = xs.toList.take p ++ x :: xs.toList.drop p := by
 unfold SetTable.insertAt
 simp
 exact List.take_of_length_le (by simp)
theorem qW {xs : Array Nat} (h : xs.toList.Pairwise (· < ·)) : Ris xs := fun i j a b hij hi hj => by
 rw [<- Array.getElem?_toList] at hi hj
 obtain ⟨h1, e1⟩ := List.getElem?_eq_some_iff.mp hi
 obtain ⟨h2, e2⟩ := List.getElem?_eq_some_iff.mp hj
 rw [<- e1, <- e2]
 exact List.pairwise_iff_getElem.mp h i j h1 h2 hij
theorem y8 {xs : Array Nat} (h : Ris xs) : xs.toList.Pairwise (· < ·) := List.pairwise_iff_getElem.mpr fun i j h1 h2 hij => h i j _ _ hij (by rw [<- Array.getElem?_toList]; exact List.getElem?_eq_getElem h1) (by rw [<- Array.getElem?_toList]; exact List.getElem?_eq_getElem h2)
theorem aD5 {xs : Array Nat} (hr : Ris xs) {j : Nat} (h : j ∉ xs.toList) : Ris (SetTable.insertAt xs (SetTable.below xs j) j) := by
 obtain ⟨b1, b2, b3⟩ := gG hr j
 have l := y8 hr
 refine qW ?_
 rw [eA]
 have lo : ∀ a ∈ xs.toList.take (SetTable.below xs j), a < j := fun a ha => by
  obtain ⟨i, hi⟩ := List.mem_iff_getElem?.mp ha
  rw [List.getElem?_take] at hi
  split at hi
  ·rename_i z
   rw [Array.getElem?_toList] at hi
   exact b2 i a z hi
  ·cases hi
 have hi : ∀ a ∈ xs.toList.drop (SetTable.below xs j), j < a := fun a ha => by
  obtain ⟨i, hi⟩ := List.mem_iff_getElem?.mp ha
  rw [List.getElem?_drop, Array.getElem?_toList] at hi
  have := b3 _ a (Nat.le_add_right _ _) hi
  have ne : a ≠ j := fun z => h (z ▸ List.mem_of_mem_drop ha)
  omega
 rw [List.pairwise_append]
 refine ⟨List.Pairwise.sublist (List.take_sublist _ _) l, List.pairwise_cons.mpr ⟨hi, List.Pairwise.sublist (List.drop_sublist _ _) l⟩, fun a ha b hb => ?_⟩
 rcases List.mem_cons.mp hb with z | z
 ·rw [z]; exact lo a ha
 ·exact Nat.lt_trans (lo a ha) (hi b z)
theorem aGk {t : SetTable} (hd : t.dummies = #[]) (hr : Ris t.place) {f : Nat -> Int} {h : Int} : ∀ (n fuel k : Nat), n < fuel -> (pth t.mask h (k + n) ∉ t.place.toList \/ ∃ i, t.place[i]? = some (pth t.mask h (k + n)) /\ f i = h) ->
  (∃ k', k <= k' /\ k' <= k + n /\ pth t.mask h k' ∉ t.place.toList /\ (∀ q, k <= q -> q < k' -> ∃ i, t.place[i]? = some (pth t.mask h q) /\ f i ≠ h) /\ SetTable.probe.go t f h fuel (jZ t.mask k (pst t.mask h)) = some (.empty (pth t.mask h k') none)) \/
  (∃ k' i, k <= k' /\ k' <= k + n /\ t.place[i]? = some (pth t.mask h k') /\ f i = h /\ (∀ q, k <= q -> q < k' -> ∃ i, t.place[i]? = some (pth t.mask h q) /\ f i ≠ h) /\ SetTable.probe.go t f h fuel (jZ t.mask k (pst t.mask h)) = some (.candidate (pth t.mask h k') i (jZ t.mask (k' + 1) (pst t.mask h))))
 | n, fuel + 1, k, hn, he => by
  unfold SetTable.probe.go
  by_cases z : pth t.mask h k ∈ t.place.toList
  ·obtain ⟨i, s1, s2⟩ := uC hr z
   have s1 : t.slot (jZ t.mask k (pst t.mask h)).j = .live i := s1
   rw [s1]
   dsimp only
   by_cases y : f i = h
   ·rw [if_pos (by rw [beq_iff_eq]; exact y)]
    exact .inr ⟨k, i, Nat.le_refl _, Nat.le_add_right _ _, s2, y, fun q h1 h2 => by omega, rfl⟩
   ·rw [if_neg (by rw [beq_iff_eq]; exact y)]
    cases n with
    | zero =>
     rcases he with e | ⟨i', e1, e2⟩
     ·exact absurd z e
     ·have : i = i' := by
       rcases Nat.lt_trichotomy i i' with w | w | w
       ·exact absurd (hr _ _ _ _ w s2 e1) (Nat.lt_irrefl _)
       ·exact w
       ·exact absurd (hr _ _ _ _ w e1 s2) (Nat.lt_irrefl _)
      rw [this] at y
      exact absurd e2 y
    | succ n =>
     have ad : t.advance (jZ t.mask k (pst t.mask h)) = jZ t.mask (k + 1) (pst t.mask h) := rfl
     rw [ad]
     have ek : k + 1 + n = k + (n + 1) := by omega
     rcases aGk hd hr n fuel (k + 1) (by omega) (by rw [ek]; exact he) with ⟨k', a1, a2, a3, a4, a5⟩ | ⟨k', i', a1, a2, a3, a4, a5, a6⟩
     ·refine .inl ⟨k', by omega, by omega, a3, fun q h1 h2 => ?_, a5⟩
      rcases Nat.lt_or_ge k q with w | w
      ·exact a4 q w h2
      ·have : q = k := by omega
       rw [this]; exact ⟨i, s2, y⟩
     ·refine .inr ⟨k', i', by omega, by omega, a3, a4, fun q h1 h2 => ?_, a6⟩
      rcases Nat.lt_or_ge k q with w | w
      ·exact a5 q w h2
      ·have : q = k := by omega
       rw [this]; exact ⟨i, s2, y⟩
  ·have s1 : t.slot (jZ t.mask k (pst t.mask h)).j = .empty := yJ hd z
   rw [s1]
   dsimp only
   rw [aBo]
   exact .inl ⟨k, Nat.le_refl _, Nat.le_add_right _ _, z, fun q h1 h2 => by omega, rfl⟩
structure Tab (t : SetTable) (hs : List Int) : Prop where
 d : t.dummies = #[]
 m : MOk t.mask
 r : Ris t.place
 s : t.place.size = hs.length
 z : hs.length <= t.mask
 p : ∀ (i : Nat) h j, hs[i]? = some h -> t.place[i]? = some j -> ∃ k, k <= 10 * (13 + t.mask) /\ pth t.mask h k = j /\ ∀ q, q < k -> pth t.mask h q ∈ t.place.toList
theorem i8 (t : SetTable) (j : Nat) : (t.put j).1.place = SetTable.insertAt t.place (SetTable.below t.place j) j /\ (t.put j).2 = SetTable.below t.place j := ⟨rfl, rfl⟩
theorem aDh {t : SetTable} (hd : t.dummies = #[]) (j : Nat) : (t.put j).1.dummies = #[] := by
 unfold SetTable.put
 rw [hd]
 rfl
theorem Tab.put {t : SetTable} {hs : List Int} (T : Tab t hs) {h : Int} {k : Nat} (hk : k <= 10 * (13 + t.mask)) (hn : pth t.mask h k ∉ t.place.toList) (hp : ∀ q, q < k -> pth t.mask h q ∈ t.place.toList) (hz : hs.length + 1 <= t.mask) :
  Tab (t.put (pth t.mask h k)).1 (hs.take (t.put (pth t.mask h k)).2 ++ h :: hs.drop (t.put (pth t.mask h k)).2) := by
 obtain ⟨b1, _, _⟩ := gG T.r (pth t.mask h k)
 have pl := (i8 t (pth t.mask h k)).1
 have pe := (i8 t (pth t.mask h k)).2
 have sub : ∀ x ∈ t.place.toList, x ∈ (t.put (pth t.mask h k)).1.place.toList := fun x hx => by
  rw [pl, eA]
  rw [<- List.take_append_drop (SetTable.below t.place (pth t.mask h k)) t.place.toList] at hx
  rcases List.mem_append.mp hx with z | z
  ·exact List.mem_append_left _ z
  ·exact List.mem_append_right _ (.tail _ z)
 have lt : (hs.take (t.put (pth t.mask h k)).2).length = SetTable.below t.place (pth t.mask h k) := by
  rw [pe, List.length_take]
  have := T.s
  omega
 have lp : (t.place.toList.take (SetTable.below t.place (pth t.mask h k))).length = SetTable.below t.place (pth t.mask h k) := by
  rw [List.length_take, Array.length_toList]
  omega
 refine ⟨aDh T.d _, T.m, by rw [pl]; exact aD5 T.r hn, ?_, ?_, fun i h' j e1 e2 => ?_⟩
 ·rw [<- Array.length_toList, pl, eA, List.length_append, List.length_append, List.length_cons, List.length_cons, lp, lt, List.length_drop, List.length_drop, Array.length_toList, pe, T.s]
 ·rw [List.length_append, List.length_cons, lt, List.length_drop, pe]
  have := T.s
  show _ <= t.mask
  omega
 ·have up : ∀ {h' j}, (∃ k, k <= 10 * (13 + t.mask) /\ pth t.mask h' k = j /\ ∀ q, q < k -> pth t.mask h' q ∈ t.place.toList) -> ∃ k', k' <= 10 * (13 + t.mask) /\ pth t.mask h' k' = j /\ ∀ q, q < k' -> pth t.mask h' q ∈ (t.put (pth t.mask h k)).1.place.toList := fun ⟨k', a, b, c⟩ => ⟨k', a, b, fun q hq => sub _ (c q hq)⟩
  rw [<- Array.getElem?_toList, pl, eA] at e2
  rcases Nat.lt_trichotomy i (SetTable.below t.place (pth t.mask h k)) with z | z | z
  ·rw [List.getElem?_append_left (by rw [lt]; exact z), List.getElem?_take] at e1
   rw [List.getElem?_append_left (by rw [lp]; exact z), List.getElem?_take] at e2
   rw [pe, if_pos z] at e1
   rw [if_pos z, Array.getElem?_toList] at e2
   exact up (T.p i h' j e1 e2)
  ·rw [List.getElem?_append_right (by rw [lt]; omega), lt, z, Nat.sub_self] at e1
   rw [List.getElem?_append_right (by rw [lp]; omega), lp, z, Nat.sub_self] at e2
   cases e1
   cases e2
   exact ⟨k, hk, rfl, fun q hq => sub _ (hp q hq)⟩
  ·rw [List.getElem?_append_right (by rw [lt]; omega), lt] at e1
   rw [List.getElem?_append_right (by rw [lp]; omega), lp] at e2
   obtain ⟨d, hd⟩ : ∃ d, i - SetTable.below t.place (pth t.mask h k) = d + 1 := ⟨i - SetTable.below t.place (pth t.mask h k) - 1, by omega⟩
   rw [hd, List.getElem?_cons_succ, List.getElem?_drop] at e1 e2
   rw [pe] at e1
   rw [Array.getElem?_toList] at e2
   exact up (T.p _ h' j e1 e2)
def aBq (l : List (Option Nat)) : Nat := (l.filterMap id).length
theorem w4 : ∀ (l : List (Option Nat)) (j k : Nat), l[j]? = some none -> aBq (l.set j (some k)) = aBq l + 1
 | none :: l, 0, k, _ => by simp [aBq]
 | x :: l, j + 1, k, h => by
  have ih := w4 l j k h
  cases x <;> simp_all [aBq]
theorem aBf : ∀ l : List (Option Nat), aBq l < l.length -> ∃ q : Nat, l[q]? = some none
 | none :: l, _ => ⟨0, rfl⟩
 | some x :: l, h => by
  have h : aBq l + 1 < l.length + 1 := h
  obtain ⟨q, hq⟩ := aBf l (by omega)
  exact ⟨q + 1, hq⟩
theorem uM : ∀ n : Nat, aBq (List.replicate n none) = 0
 | 0 => rfl
 | n + 1 => uM n
def Occ (ow : Array (Option Nat)) (j : Nat) : Prop := ∃ y, ow[j]? = some (some y)
theorem nU {mask : Nat} {ow : Array (Option Nat)} (hs : ow.size = mask + 1) {h : Int} : ∀ (m fuel i p b : Nat), m < fuel -> i <= mask -> jZ mask b (pst mask h) = uV mask i p -> (∀ q, q < b -> Occ ow (pth mask h q)) -> ow[(lpN mask i p m).1]? = some none ->
  ∃ j n, SetTable.layClean.free mask ow fuel i p = some j /\ ow[j]? = some none /\ n <= b + 10 * m /\ pth mask h n = j /\ ∀ q, q < n -> Occ ow (pth mask h q)
 | m, fuel + 1, i, p, b, hk, hi, hb, hq, he => by
  unfold SetTable.layClean.free
  have rl : SetTable.runEnd mask i <= mask /\ i <= SetTable.runEnd mask i := by unfold SetTable.runEnd; split <;> omega
  have r9 := aJ2 mask i
  have gd : ∀ j, (ow.getD j (some 0)).isNone = true -> ow[j]? = some none := fun j z => by
   cases q : ow[j]? with
   | none => rw [Array.getD_eq_getD_getElem?, q] at z; cases z
   | some x => rw [Array.getD_eq_getD_getElem?, q] at z; cases x with
    | none => rfl
    | some y => cases z
  have go : ∀ j, j <= mask -> ¬ ((ow.getD j (some 0)).isNone = true) -> Occ ow j := fun j hj z => by
   have hl : j < ow.size := by omega
   cases q : ow[j]? with
   | none => rw [Array.getElem?_eq_getElem hl] at q; cases q
   | some x =>
    cases x with
    | none => rw [Array.getD_eq_getD_getElem?, q] at z; exact absurd rfl z
    | some y => exact ⟨y, q⟩
  have at' : ∀ r, r <= SetTable.runEnd mask i - i -> pth mask h (b + r) = i + r := fun r hr => by
   show (jZ mask (b + r) (pst mask h)).j = _
   rw [iO, hb, w5 mask i p r hr]
  cases q : (List.range (SetTable.runEnd mask i + 1 - i)).find? fun k => (ow.getD (i + k) (some 0)).isNone with
  | some k =>
   obtain ⟨z1, as, bs, e1, e2⟩ := List.find?_eq_some_iff_append.mp q
   have hkr : k < SetTable.runEnd mask i + 1 - i := List.mem_range.mp (List.mem_of_find?_eq_some q)
   have bef : ∀ r, r < k -> Occ ow (i + r) := fun r hr => by
    refine go _ (by omega) fun w => ?_
    have hm : r ∈ List.range (SetTable.runEnd mask i + 1 - i) := List.mem_range.mpr (by omega)
    rw [e1] at hm
    rcases List.mem_append.mp hm with y | y
    ·have := e2 r y
     rw [w] at this
     cases this
    ·have srt : (as ++ k :: bs).Pairwise (· < ·) := by rw [<- e1]; exact List.pairwise_lt_range
     have := (List.pairwise_append.mp srt).2.1
     rcases List.mem_cons.mp y with x | x
     ·omega
     ·have := (List.pairwise_cons.mp this).1 r x
      omega
   refine ⟨i + k, b + k, rfl, gd _ z1, ?_, at' k (by omega), fun r hr => ?_⟩
   ·cases m with
    | zero =>
     have he : ow[i]? = some none := he
     rcases Nat.eq_zero_or_pos k with y | y
     ·omega
     ·obtain ⟨x, hx⟩ := bef 0 y
      rw [Nat.add_zero, he] at hx
      cases hx
    | succ m => omega
   ·rcases Nat.lt_or_ge r b with y | y
    ·exact hq r y
    ·have := bef (r - b) (by omega)
     have a := at' (r - b) (by omega)
     rw [show b + (r - b) = r by omega] at a
     rw [a]
     exact this
  | none =>
   dsimp only
   have all : ∀ r, r <= SetTable.runEnd mask i - i -> Occ ow (i + r) := fun r hr => go _ (by omega) fun w => by
    exact List.find?_eq_none.mp q r (List.mem_range.mpr (by omega)) w
   cases m with
   | zero =>
    have he : ow[i]? = some none := he
    obtain ⟨x, hx⟩ := all 0 (Nat.zero_le _)
    rw [Nat.add_zero, he] at hx
    cases hx
   | succ m =>
    have hb' : jZ mask (b + (SetTable.runEnd mask i - i + 1)) (pst mask h) = uV mask (SetTable.leap mask i p).1 (SetTable.leap mask i p).2 := by
     rw [iO, hb, aBk]
    obtain ⟨j, n, f1, f2, f3, f4, f5⟩ := nU hs m fuel _ _ _ (by omega) (Nat.le_of_lt_succ (Nat.mod_lt _ (Nat.succ_pos _))) hb' (fun r hr => by
     rcases Nat.lt_or_ge r b with y | y
     ·exact hq r y
     ·have a := at' (r - b) (by omega)
      rw [show b + (r - b) = r by omega] at a
      rw [a]
      exact all (r - b) (by omega)) he
    exact ⟨j, n, f1, f2, by omega, f4, f5⟩
structure Ly (mask : Nat) (ow : Array (Option Nat)) (hs : List Int) (k : Nat) : Prop where
 s : ow.size = mask + 1
 c : aBq ow.toList = k
 v : ∀ (j x : Nat), ow[j]? = some (some x) -> x < k
 i : ∀ (j j' x : Nat), ow[j]? = some (some x) -> ow[j']? = some (some x) -> j = j'
 p : ∀ (j x : Nat) h, ow[j]? = some (some x) -> hs[x]? = some h -> ∃ n, n <= 10 * (13 + mask) /\ pth mask h n = j /\ ∀ q, q < n -> Occ ow (pth mask h q)
theorem aCp {mask : Nat} (hm : MOk mask) {ow : Array (Option Nat)} {hs : List Int} {k : Nat} (o : Ly mask ow hs k) (hk : k <= mask) {h : Int} (hh : hs[k]? = some h) : ∃ j, SetTable.layClean.free mask ow (SetTable.turns mask) (SetTable.bits h % (mask + 1)) (SetTable.bits h) = some j /\ Ly mask (ow.setIfInBounds j (some k)) hs (k + 1) := by
 obtain ⟨q, hq⟩ := aBf ow.toList (by rw [o.c, Array.length_toList, o.s]; omega)
 rw [Array.getElem?_toList] at hq
 have q1 : q <= mask := by
  have := (Array.getElem?_eq_some_iff.mp hq).1
  rw [o.s] at this
  omega
 have i0 : SetTable.bits h % (mask + 1) <= mask := Nat.le_of_lt_succ (Nat.mod_lt _ (Nat.succ_pos _))
 obtain ⟨m, m1, m2⟩ := rC hm i0 (xI h) q1
 obtain ⟨j, n, j1, j2, j3, j4, j5⟩ := nU (mask := mask) o.s (h := h) m (SetTable.turns mask) _ (SetTable.bits h) 0 (by unfold SetTable.turns; omega) i0 rfl (fun q hq => absurd hq (Nat.not_lt_zero _)) (by rw [m2]; exact hq)
 have jl := (Array.getElem?_eq_some_iff.mp j2).1
 have get : ∀ a, (ow.setIfInBounds j (some k))[a]? = if j = a then some (some k) else ow[a]? := fun a => by
  rw [Array.getElem?_setIfInBounds]
  split
  ·rfl
  ·rfl
 have up : ∀ a, Occ ow a -> Occ (ow.setIfInBounds j (some k)) a := fun a ⟨y, hy⟩ => by
  by_cases z : j = a
  ·exact ⟨k, by rw [get, if_pos z]⟩
  ·exact ⟨y, by rw [get, if_neg z]; exact hy⟩
 refine ⟨j, j1, by simp [o.s], ?_, fun a x z => ?_, fun a a' x z z' => ?_, fun a x h' z e => ?_⟩
 ·rw [Array.toList_setIfInBounds, w4 _ _ _ (by rw [Array.getElem?_toList]; exact j2), o.c]
 ·rw [get] at z
  split at z
  ·cases z; omega
  ·have := o.v a x z; omega
 ·rw [get] at z z'
  split at z
  ·split at z'
   ·omega
   ·cases z
    exact absurd (o.v a' k z') (Nat.lt_irrefl _)
  ·split at z'
   ·cases z'
    exact absurd (o.v a k z) (Nat.lt_irrefl _)
   ·exact o.i a a' x z z'
 ·rw [get] at z
  split at z
  ·rename_i y
   cases z
   rw [hh] at e
   cases e
   exact ⟨n, by omega, by rw [j4, y], fun q hq => up _ (j5 q hq)⟩
  ·obtain ⟨n', a1, a2, a3⟩ := o.p a x h' z e
   exact ⟨n', a1, a2, fun q hq => up _ (a3 q hq)⟩
theorem u9 {mask : Nat} (hm : MOk mask) {hs : List Int} : ∀ (l : List Int) (ow : Array (Option Nat)) (k : Nat), Ly mask ow hs k -> k + l.length <= mask -> (∀ i, l[i]? = hs[k + i]?) -> ∃ ow', l.foldl (fun acc h => do
  let (owner, k) <- acc
  let j <- SetTable.layClean.free mask owner (SetTable.turns mask) (SetTable.bits h % (mask + 1)) (SetTable.bits h)
  pure (owner.setIfInBounds j (some k), k + 1)) (some (ow, k)) = some (ow', k + l.length) /\ Ly mask ow' hs (k + l.length)
 | [], ow, k, o, _, _ => ⟨ow, rfl, o⟩
 | h :: l, ow, k, o, hk, hl => by
  rw [List.length_cons] at hk
  obtain ⟨j, j1, j2⟩ := aCp hm o (by omega) (h := h) (hl 0).symm
  obtain ⟨ow', e, o'⟩ := u9 hm l _ _ j2 (by omega) (fun i => by
   have := hl (i + 1)
   rw [show k + 1 + i = k + (i + 1) by omega]
   exact this)
  rw [show k + 1 + l.length = k + (h :: l).length by rw [List.length_cons]; omega] at e o'
  refine ⟨ow', ?_, o'⟩
  rw [List.foldl_cons, <- e]
  congr 1
  show (SetTable.layClean.free mask ow _ _ _).bind _ = _
  rw [j1]
  rfl
theorem aJr {mask : Nat} (hm : MOk mask) (hs : Array Int) (hk : hs.size <= mask) : ∃ ow, SetTable.layClean mask hs = some ow /\ Ly mask ow hs.toList hs.size := by
 have o0 : Ly mask (Array.replicate (mask + 1) none) hs.toList 0 := by
  have no : ∀ (j x : Nat), (Array.replicate (mask + 1) (none : Option Nat))[j]? ≠ some (some x) := fun j x z => by
   rw [Array.getElem?_replicate] at z
   split at z <;> cases z
  exact ⟨by simp, by rw [Array.toList_replicate]; exact uM _, fun j x z => absurd z (no j x), fun j _ x z => absurd z (no j x), fun j x _ z => absurd z (no j x)⟩
 obtain ⟨ow, e, o⟩ := u9 hm hs.toList _ 0 o0 (by rw [Array.length_toList]; omega) (fun i => by rw [Nat.zero_add])
 rw [Array.length_toList, Nat.zero_add] at e o
 refine ⟨ow, ?_, o⟩
 unfold SetTable.layClean
 rw [<- Array.foldl_toList]
 exact (congrArg (Option.map Prod.fst) e).trans rfl
theorem n6 {α β : Type} {f : α -> Option β} : ∀ {l : List α}, (∀ x ∈ l, (f x).isSome = true) -> (l.filterMap f).length = l.length
 | [], _ => rfl
 | x :: l, h => by
  obtain ⟨y, hy⟩ := Option.isSome_iff_exists.mp (h x (.head _))
  rw [List.filterMap_cons, hy]
  dsimp only
  rw [List.length_cons, n6 fun z hz => h z (.tail _ hz), List.length_cons]
theorem oC {α β : Type} {f : α -> Option β} : ∀ {l : List α} (i : Nat), (∀ x ∈ l, (f x).isSome = true) -> (l.filterMap f)[i]? = (l[i]?).bind f
 | [], i, _ => by simp
 | x :: l, i, h => by
  obtain ⟨y, hy⟩ := Option.isSome_iff_exists.mp (h x (.head _))
  rw [List.filterMap_cons, hy]
  dsimp only
  cases i with
  | zero => simp [hy]
  | succ i =>
   rw [List.getElem?_cons_succ, List.getElem?_cons_succ]
   exact oC i fun z hz => h z (.tail _ hz)
theorem vE {α : Type} (g : Nat -> Option α) : ∀ l : List Nat, (l.filterMap fun j => (g j).map fun x => (j, x)).map Prod.fst = l.filter fun j => (g j).isSome
 | [] => rfl
 | x :: l => by
  rw [List.filterMap_cons, List.filter_cons]
  cases g x with
  | none => exact vE g l
  | some y => exact congrArg (x :: ·) (vE g l)
theorem pR {α : Type} (g : Nat -> Option α) : ∀ l : List Nat, (l.filterMap fun j => (g j).map fun x => (j, x)).length = ((l.map g).filterMap id).length
 | [] => rfl
 | x :: l => by
  rw [List.filterMap_cons, List.map_cons, List.filterMap_cons]
  cases g x with
  | none => exact pR g l
  | some y => exact congrArg Nat.succ (pR g l)
theorem gH (ow : Array (Option Nat)) : (List.range ow.size).map (fun j => ow.getD j none) = ow.toList := by
 apply List.ext_getElem
 ·simp
 ·intro i h1 h2
  have : i < ow.size := by simpa using h1
  simp [Array.getD, this]
theorem x5 {l : List Nat} {n : Nat} (nd : l.Nodup) (hl : l.length = n) (hb : ∀ x ∈ l, x < n) : l.Perm (List.range n) := by
 have key : ∀ {l m : List Nat}, l.Nodup -> (∀ x ∈ l, x ∈ m) -> m.length <= l.length -> l.Perm m := by
  intro l
  induction l with
  | nil =>
   intro m _ _ h
   have : m = [] := List.length_eq_zero_iff.mp (by simpa using h)
   rw [this]
  | cons x l ih =>
   intro m h s hl
   obtain ⟨h1, h2⟩ := List.nodup_cons.mp h
   have hx := s x (.head _)
   have q := ih (m := m.erase x) h2 (fun y hy => (List.mem_erase_of_ne (show y ≠ x from fun z => h1 (by rw [<- z]; exact hy))).mpr (s y (.tail _ hy))) (by rw [List.length_erase_of_mem hx]; rw [List.length_cons] at hl; omega)
   exact (q.cons x).trans (List.perm_cons_erase hx).symm
 exact key nd (fun x hx => List.mem_range.mpr (hb x hx)) (by rw [List.length_range, hl]; exact Nat.le_refl _)
theorem xJ {t : SetTable} {hs : List Int} {wanted : Nat} (hm : MOk (SetTable.sizeAbove wanted - 1)) (hk : hs.length <= SetTable.sizeAbove wanted - 1) : ∃ t' order, t.relaid hs.toArray wanted = some (t', order) /\ t'.mask = SetTable.sizeAbove wanted - 1 /\ t'.led = t.led /\ t'.plain = t.plain /\ order.toList.Perm (List.range hs.length) /\ Tab t' (order.toList.filterMap (hs[·]?)) := by
 obtain ⟨ow, e, o⟩ := aJr hm hs.toArray (by rw [List.size_toArray]; exact hk)
 rw [List.size_toArray] at o
 generalize hM : SetTable.sizeAbove wanted - 1 = mask at *
 have hL : ∀ y, y ∈ ((List.range (mask + 1)).filterMap fun j => (ow.getD j none).map fun x => (j, x)) -> ow[y.1]? = some (some y.2) := fun y hy => by
  obtain ⟨j, hj, ej⟩ := List.mem_filterMap.mp hy
  have hj : j < ow.size := by rw [o.s]; exact List.mem_range.mp hj
  rw [Array.getD_eq_getD_getElem?, Array.getElem?_eq_getElem hj] at ej
  cases q : ow[j] with
  | none => rw [Option.getD_some, q] at ej; cases ej
  | some x =>
   rw [Option.getD_some, q] at ej
   cases ej
   rw [Array.getElem?_eq_getElem hj, q]
 have ll : ((List.range (mask + 1)).filterMap fun j => (ow.getD j none).map fun x => (j, x)).length = hs.length := by
  rw [pR, <- o.s, gH]
  exact o.c
 have fs := vE (fun j => ow.getD j none) (List.range (mask + 1))
 generalize hlive : ((List.range (mask + 1)).filterMap fun j => (ow.getD j none).map fun x => (j, x)) = live at *
 have ris : (live.map Prod.fst).Pairwise (· < ·) := by
  rw [fs]
  exact List.Pairwise.sublist List.filter_sublist List.pairwise_lt_range
 have nd : (live.map Prod.snd).Nodup := by
  rw [List.Nodup, List.pairwise_map]
  have := List.pairwise_map.mp ris
  refine List.Pairwise.imp_of_mem (fun {a b} ha hb w z => ?_) this
  have a1 := hL a ha
  have b1 := hL b hb
  rw [z] at a1
  have := o.i _ _ _ a1 b1
  omega
 have hb : ∀ x ∈ live.map Prod.snd, x < hs.length := fun x hx => by
  obtain ⟨y, hy, rfl⟩ := List.mem_map.mp hx
  exact o.v _ _ (hL y hy)
 have some' : ∀ x ∈ live.map Prod.snd, (hs[x]?).isSome = true := fun x hx => by simp [hb x hx]
 unfold SetTable.relaid SetTable.laid
 rw [hM, e]
 refine ⟨_, _, rfl, rfl, rfl, rfl, ?_, ?_⟩
 ·show (List.map _ _).toArray.toList.Perm _
  rw [hlive, List.toList_toArray]
  exact x5 nd (by rw [List.length_map, ll]) hb
 ·have e1 : ∀ (P : Array Nat) (Od : Array Nat), P = (live.map Prod.fst).toArray -> Od = (live.map Prod.snd).toArray -> Tab { mask := mask, place := P, dummies := #[], finger := t.finger, led := t.led, moves := t.movedTo mask, plain := t.plain } (Od.toList.filterMap (hs[·]?)) := by
   rintro _ _ rfl rfl
   refine ⟨rfl, hm, qW ris, ?_, ?_, fun i h j e1 e2 => ?_⟩
   ·show (live.map Prod.fst).toArray.size = _
    rw [List.size_toArray, List.length_map, n6 some', List.length_map]
   ·rw [n6 some', List.length_map, ll]
    exact hk
   ·rw [oC i some'] at e1
    have e2 : (live.map Prod.fst).toArray[i]? = some j := e2
    rw [List.getElem?_toArray, List.getElem?_map] at e2
    rw [List.getElem?_map] at e1
    cases q : live[i]? with
    | none => rw [q] at e2; cases e2
    | some y =>
     rw [q] at e1 e2
     cases e2
     obtain ⟨n, a1, a2, a3⟩ := o.p _ _ h (hL y (List.mem_of_getElem? q)) (by simpa using e1)
     refine ⟨n, a1, a2, fun r hr => ?_⟩
     obtain ⟨x, hx⟩ := a3 r hr
     show _ ∈ (live.map Prod.fst).toArray.toList
     rw [List.toList_toArray, fs, List.mem_filter]
     have hl := (Array.getElem?_eq_some_iff.mp hx).1
     refine ⟨List.mem_range.mpr (by rw [<- o.s]; exact hl), ?_⟩
     show (ow.getD (pth mask h r) none).isSome = true
     rw [Array.getD_eq_getD_getElem?, hx]
     rfl
  exact e1 _ _ (by rw [<- hlive]) (by rw [<- hlive])
open PySem.Spec PyProof.Rows
theorem oX {xs : Array Nat} (hr : Ris xs) {i j a : Nat} (h1 : xs[i]? = some a) (h2 : xs[j]? = some a) : i = j := by
 rcases Nat.lt_trichotomy i j with w | w | w
 ·exact absurd (hr _ _ _ _ w h1 h2) (Nat.lt_irrefl _)
 ·exact w
 ·exact absurd (hr _ _ _ _ w h2 h1) (Nat.lt_irrefl _)
section
variable {prog : Program} {w : World} {A : Around} {E : Value -> Shared -> Prop} {s : Shared}
abbrev IK (prog : Program) (w : World) (h : Heap) (k : List Int) (a : Addr) : Prop := IsTupleKey (intKind prog w) h k a
abbrev hK (prog : Program) (w : World) (k : List Int) : Int := tupleKeyHash (intKind prog w) k
theorem items_int {ks : List Int} {vs : List Value} (h : ItemsAre (intKind prog w) ks vs) : ∀ v ∈ vs, ∃ i t, v = .int i t := by
 induction h with
 | nil => intro v hv; exact nomatch hv
 | @cons k v ks vs h1 _ ih =>
  intro x hx
  rcases List.mem_cons.mp hx with z | z
  ·subst z
   cases x with
   | int i t => exact ⟨i, t, rfl⟩
   | _ => simp [intKind, Value.isInt] at h1
  ·exact ih x z
theorem aDp {k : List Int} {a : Addr} {Q : Bool -> Shared -> Prop} (hk : IK prog w s.heap k a) (h : Q true s) : wpAny (model prog w) A (hashByValue 8 (.ref a)) Q E s := by
 have hT := hk.typeIs
 obtain ⟨o, items, n, ho, _, hd, hi⟩ := hk
 have bv := items_int hi
 unfold hashByValue
 refine wpAny_bind (wpAny_specialOf hT F.slot_tuple_hash.lookup ?_)
 dsimp only
 refine wpAny_bind (wpAny_seqItems ho hd ?_)
 refine wpAny_bind (wpAny_forIn_array' _ (fun rest b s' => s' = s /\ b.1 = none /\ ∀ v ∈ rest, ∃ i t, v = Value.int i t) _ ?_ ?_ _ _ ⟨rfl, rfl, bv⟩)
 ·rintro x rest b s1 ⟨rfl, _, hx⟩
  obtain ⟨i, t, rfl⟩ := hx x (.head _)
  exact wpAny_bind (wpAny_of_eq (a := true) rfl (wpAny_pure ⟨rfl, rfl, fun v hv => hx v (.tail _ hv)⟩))
 ·rintro ⟨b1, b2⟩ s1 ⟨rfl, hb, _⟩
  cases (show b1 = none from hb)
  exact wpAny_pure h
theorem aAy {k : List Int} {a : Addr} {Q : Bool -> Shared -> Prop} (hk : IK prog w s.heap k a) (h : Q false s) : wpAny (model prog w) A (ofAClassStatement 8 (.ref a)) Q E s := by
 have hT := hk.typeIs
 obtain ⟨o, items, n, ho, _, hd, hi⟩ := hk
 have bv := items_int hi
 unfold ofAClassStatement
 refine wpAny_bind (wpAny_typeOf hT ?_)
 dsimp only
 rw [if_pos (by decide)]
 refine wpAny_bind (wpAny_pure ?_)
 simp only [Bool.not_true, Bool.false_eq_true, if_false]
 refine wpAny_bind (wpAny_seqItems ho hd ?_)
 dsimp only
 refine wpAny_bind (wpAny_forIn_array' _ (fun rest b s' => s' = s /\ b.1 = none /\ ∀ v ∈ rest, ∃ i t, v = Value.int i t) _ ?_ ?_ _ _ ⟨rfl, rfl, bv⟩)
 ·rintro x rest b s1 ⟨rfl, _, hx⟩
  obtain ⟨i, t, rfl⟩ := hx x (.head _)
  exact wpAny_bind (wpAny_of_eq (a := false) rfl (wpAny_pure ⟨rfl, rfl, fun v hv => hx v (.tail _ hv)⟩))
 ·rintro ⟨b1, b2⟩ s1 ⟨rfl, hb, _⟩
  cases (show b1 = none from hb)
  exact wpAny_pure h
theorem aEi {k : List Int} {a : Addr} {l : List Value} {Q : Bool -> Shared -> Prop} (hk : IK prog w s.heap k a) (hl : ∀ v ∈ l, ∃ b k', v = .ref b /\ IK prog w s.heap k' b) (h : Q false s) : wpAny (model prog w) A (searchCouldBeSeen (.ref a) l) Q E s := by
 unfold searchCouldBeSeen
 refine wpAny_bind (wpAny_forIn_list _ (fun rest b s' => s' = s /\ b.1 = none /\ ∀ v ∈ rest, ∃ b k', v = .ref b /\ IK prog w s.heap k' b) _ ?_ ?_ _ _ ⟨rfl, rfl, hl⟩)
 ·rintro x rest b s1 ⟨rfl, _, hx⟩
  obtain ⟨c, k', rfl, hc⟩ := hx x (.head _)
  have nx : wpAny (model prog w) A (pure (ForInStep.yield (none, ())) : Sem (ForInStep (Option Bool × Unit))) (fun r s' => match r with | .yield b' => s' = s1 /\ b'.1 = none /\ ∀ v ∈ rest, ∃ b k', v = .ref b /\ IK prog w s1.heap k' b | .done b' => wpAny (model prog w) A (match b'.1 with | some r => pure r | none => pure false) Q E s') E s1 := wpAny_pure ⟨rfl, rfl, fun v hv => hx v (.tail _ hv)⟩
  dsimp only
  split
  ·exact nx
  ·refine wpAny_bind (wpAny_eqIsQuiet_tuple hk ?_)
   simp only [Bool.not_true, Bool.false_eq_true, if_false]
   refine wpAny_bind (wpAny_eqIsQuiet_tuple hc ?_)
   simp only [Bool.not_true, Bool.false_eq_true, if_false]
   refine wpAny_bind (aAy hk ?_)
   simp only [Bool.false_eq_true, if_false]
   refine wpAny_bind (aAy hc ?_)
   simp only [Bool.false_eq_true, if_false]
   exact nx
 ·rintro ⟨b1, b2⟩ s1 ⟨rfl, hb, _⟩
  cases (show b1 = none from hb)
  exact wpAny_pure h
def Fit (mask n : Nat) : Prop := (mask = 7 /\ n <= 4) \/ (mask = 31 /\ n <= 18) \/ (mask = 127 /\ n <= 76)
structure SetR (prog : Program) (w : World) (h : Heap) (S : Addr) (ks : List (List Int)) (o : Obj) (es : Array (Int × Value)) (ep : Nat) (t : SetTable) : Prop where
 g : h.get? S = some o
 x : o.ExactSet
 d : o.data = .set es ep t
 pl : t.plain = true
 ld : t.led = !w.params.followText "set-order"
 tb : Tab t (ks.map (hK prog w))
 nd : ks.Nodup
 sz : es.size = ks.length
 at' : ∀ (i : Nat) k, ks[i]? = some k -> ∃ a, es[i]? = some (hK prog w k, .ref a) /\ IK prog w h k a
theorem SetR.fits {h : Heap} {S : Addr} {ks : List (List Int)} {o : Obj} {es : Array (Int × Value)} {ep : Nat} {t : SetTable} (R : SetR prog w h S ks o es ep t) : t.fits es.size = true := by
 unfold SetTable.fits SetTable.fill
 have a := R.tb.s
 have b := R.tb.z
 rw [List.length_map] at a b
 rw [R.tb.d, a, R.sz]
 simpa using b
theorem uL {k : List Int} {a : Addr} {l : List Value} {b : Bool} {m m' : Sem SetFound} {Q : SetFound -> Shared -> Prop} (hk : IK prog w s.heap k a) (hl : ∀ v ∈ l, ∃ b k', v = .ref b /\ IK prog w s.heap k' b) (h : wpAny (model prog w) A m Q E s) : wpAny (model prog w) A (if (!b) = true then (searchCouldBeSeen (.ref a) l >>= fun x => if x = true then m' else m) else m) Q E s := by
 split
 ·exact wpAny_bind (aEi hk hl (by rw [if_neg (by decide)]; exact h))
 ·exact h
theorem nF {S a : Addr} {ks : List (List Int)} {o : Obj} {es : Array (Int × Value)} {ep : Nat} {t : SetTable} {k : List Int} (R : SetR prog w s.heap S ks o es ep t) (hu : A.units < cLine) (hk : IK prog w s.heap k a) {Q : SetFound -> Shared -> Prop}
  (q1 : k ∈ ks -> Q (.there none) s) (q2 : k ∉ ks -> ∀ n, n <= 10 * (13 + t.mask) -> pth t.mask (hK prog w k) n ∉ t.place.toList -> (∀ q, q < n -> pth t.mask (hK prog w k) q ∈ t.place.toList) -> Q (.free (pth t.mask (hK prog w k) n) false) s) :
  ∀ (n fuel k0 : Nat) (stand : Option SetTable.Probe), n < fuel -> k0 + n <= 10 * (13 + t.mask) -> stand.getD (t.probeStart (hK prog w k)) = jZ t.mask k0 (pst t.mask (hK prog w k)) -> (∀ q, q < k0 -> ∃ i : Nat, t.place[i]? = some (pth t.mask (hK prog w k) q) /\ ks[i]? ≠ some k) -> (pth t.mask (hK prog w k) (k0 + n) ∉ t.place.toList \/ ∃ i : Nat, t.place[i]? = some (pth t.mask (hK prog w k) (k0 + n)) /\ ks[i]? = some k) ->
  wpAny (model prog w) A (setSearchFrom S (.ref a) (hK prog w k) true fuel stand) Q E s
 | n, fuel + 1, k0, stand, hn, hB, hst, hN, hD => by
  have hf := R.fits
  have odd : t.gaveWay = false := by
   unfold SetTable.gaveWay
   rcases R.tb.m with z | z | z <;> rw [z] <;> rfl
  have psz : t.place.size = ks.length := by have := R.tb.s; rw [List.length_map] at this; exact this
  have inp : ∀ {i j : Nat}, t.place[i]? = some j -> j ∈ t.place.toList := fun e => Array.mem_toList_iff.mpr (Array.mem_of_getElem? e)
  have hash : ∀ (i : Nat) x, ks[i]? = some x -> (es[i]?.map (·.1)).getD 0 = hK prog w x := fun i x e => by
   obtain ⟨b, hb, _⟩ := R.at' i x e
   rw [hb]
   rfl
  have gk := aGk R.tb.d R.tb.r (f := fun i => (es[i]?.map (·.1)).getD 0) (h := hK prog w k) n (10 * SetTable.turns t.mask) k0 (by unfold SetTable.turns; omega) (hD.imp id fun ⟨i, e1, e2⟩ => ⟨i, e1, hash i k e2⟩)
  unfold setSearchFrom
  refine wpAny_bind (wpAny_setState_of R.g R.d hf ?_)
  dsimp only
  rw [odd]
  simp only [Bool.false_eq_true, if_false]
  generalize hg : t.probe _ (hK prog w k) _ = met
  have hg : SetTable.probe.go t (fun i => (es[i]?.map (·.1)).getD 0) (hK prog w k) (10 * SetTable.turns t.mask) (stand.getD (t.probeStart (hK prog w k))) = met := hg
  rw [hst] at hg
  rcases gk with ⟨k', a1, a2, a3, a4, a5⟩ | ⟨k', i, a1, a2, a3, a4, a5, a6⟩
  ·rw [a5] at hg
   subst hg
   dsimp only
   have occ : ∀ q, q < k' -> ∃ i : Nat, t.place[i]? = some (pth t.mask (hK prog w k) q) /\ ks[i]? ≠ some k := fun q hq => by
    rcases Nat.lt_or_ge q k0 with z | z
    ·exact hN q z
    ·obtain ⟨i, e1, e2⟩ := a4 q z hq
     exact ⟨i, e1, fun e => e2 (hash i k e)⟩
   refine wpAny_pure (q2 (fun z => ?_) k' (by omega) a3 fun q hq => inp (occ q hq).choose_spec.1)
   obtain ⟨i0, e0⟩ := List.mem_iff_getElem?.mp z
   have il : i0 < t.place.size := by rw [psz]; exact (List.getElem?_eq_some_iff.mp e0).1
   obtain ⟨m, _, m2, m3⟩ := R.tb.p i0 (hK prog w k) t.place[i0] (by rw [List.getElem?_map, e0]; rfl) (Array.getElem?_eq_getElem il)
   have pm : t.place[i0]? = some (pth t.mask (hK prog w k) m) := by rw [m2]; exact Array.getElem?_eq_getElem il
   rcases Nat.lt_trichotomy m k' with y | y | y
   ·obtain ⟨i, e1, e2⟩ := occ m y
    rw [oX R.tb.r e1 pm] at e2
    exact e2 e0
   ·rw [y] at pm
    exact a3 (inp pm)
   ·exact a3 (m3 k' y)
  ·rw [a6] at hg
   subst hg
   dsimp only
   have il : i < ks.length := by rw [<- psz]; exact (Array.getElem?_eq_some_iff.mp a3).1
   obtain ⟨b, hb, kb⟩ := R.at' i ks[i] (List.getElem?_eq_getElem il)
   have sto : ∀ v ∈ (es.filter (·.1 == hK prog w k)).toList.map (·.2), ∃ b k', v = Value.ref b /\ IK prog w s.heap k' b := fun v hv => by
    obtain ⟨e, he, rfl⟩ := List.mem_map.mp hv
    have he : e ∈ es := (Array.mem_filter.mp (Array.mem_toList_iff.mp he)).1
    obtain ⟨i5, e5⟩ := Array.mem_iff_getElem?.mp he
    have l5 : i5 < ks.length := by rw [<- R.sz]; exact (Array.getElem?_eq_some_iff.mp e5).1
    obtain ⟨b5, h5, k5⟩ := R.at' i5 ks[i5] (List.getElem?_eq_getElem l5)
    rw [h5] at e5
    cases e5
    exact ⟨b5, _, rfl, k5⟩
   rw [hb]
   dsimp only
   refine uL hk sto ?_
   refine wpAny_bind (wpAny_holding ((tupleKind (intKind prog w)).eqBool hu kb hk ?_))
   refine wpAny_bind (wpAny_setState_of R.g R.d hf ?_)
   dsimp only
   by_cases z : ks[i] = k
   ·rw [decide_eq_true z, if_pos (by decide)]
    exact wpAny_pure (q1 (z ▸ List.getElem_mem il))
   ·rw [decide_eq_false z, if_neg (by decide)]
    have sm : t.sameMemory t.moves t.mask = some true := by
     unfold SetTable.sameMemory
     rw [if_pos (beq_self_eq_true _)]
    rw [sm]
    dsimp only
    obtain ⟨i2, s1, s2⟩ := uC R.tb.r (inp a3)
    rw [oX R.tb.r s2 a3] at s1
    rw [if_pos rfl, s1]
    dsimp only
    rw [hb]
    dsimp only
    have self : isSame (.ref b) (.ref b) = pure true := by
     unfold isSame
     simp
    refine wpAny_bind (wpAny_of_eq self (wpAny_bind (wpAny_pure ?_)))
    rw [if_pos rfl]
    dsimp only
    rw [if_neg (by decide)]
    have lt : k' < k0 + n := by
     rcases Nat.lt_or_ge k' (k0 + n) with y | y
     ·exact y
     ·have : k' = k0 + n := by omega
      subst this
      rcases hD with e | ⟨i3, e1, e2⟩
      ·exact absurd (inp a3) e
      ·have := oX R.tb.r a3 e1
       subst this
       rw [List.getElem?_eq_getElem il] at e2
       exact absurd (Option.some.inj e2) z
    obtain ⟨n', hn'⟩ : ∃ n', k' + 1 + n' = k0 + n := ⟨k0 + n - (k' + 1), by omega⟩
    refine nF R hu hk q1 q2 n' fuel (k' + 1) _ (by omega) (by omega) rfl (fun q hq => ?_) (by rw [hn']; exact hD)
    rcases Nat.lt_or_ge q k0 with y | y
    ·exact hN q y
    ·rcases Nat.lt_or_ge q k' with x | x
     ·obtain ⟨i4, e1, e2⟩ := a5 q y x
      exact ⟨i4, e1, fun e => e2 (hash i4 k e)⟩
     ·have : q = k' := by omega
      subst this
      exact ⟨i, a3, by rw [List.getElem?_eq_getElem il]; exact fun e => z (Option.some.inj e)⟩
theorem IK.keep {h h' : Heap} {k : List Int} {a : Addr} (hk : IK prog w h k a) (q : ∀ o, h.get? a = some o -> h'.get? a = some o) : IK prog w h' k a := by
 obtain ⟨o, items, n, ho, r⟩ := hk
 exact ⟨o, items, n, q o ho, r⟩
theorem SetR.ne {h : Heap} {S a : Addr} {ks : List (List Int)} {o : Obj} {es : Array (Int × Value)} {ep : Nat} {t : SetTable} {k : List Int} (R : SetR prog w h S ks o es ep t) (hk : IK prog w h k a) : a ≠ S := fun z => by
 subst z
 obtain ⟨o', _, _, ho, hc, _⟩ := hk
 have g := R.g
 rw [ho] at g
 cases g
 have := R.x.1
 rw [hc] at this
 exact absurd this (by decide)
theorem yT {h : Heap} {S : Addr} {o : Obj} {es : Array (Int × Value)} {ep : Nat} {t : SetTable} (ho : h.get? S = some o) (hd : o.data = .set es ep t) (es' : Array (Int × Value)) (t' : SetTable) :
  (h.update S (Obj.putSet es' t')).get? S = some { o with data := .set es' (ep + 1) t' } := by
 have := Heap.get?_update_self (Obj.putSet es' t') ho (by rw [putSet_of es' t' hd]; rfl)
 rw [putSet_of es' t' hd] at this
 exact this
theorem SetR.write {h : Heap} {S : Addr} {ks ks' : List (List Int)} {o : Obj} {es es' : Array (Int × Value)} {ep : Nat} {t t' : SetTable} (R : SetR prog w h S ks o es ep t) (pl : t'.plain = true) (ld : t'.led = t.led) (tb : Tab t' (ks'.map (hK prog w))) (nd : ks'.Nodup) (sz : es'.size = ks'.length)
  (at' : ∀ (i : Nat) k, ks'[i]? = some k -> ∃ a, es'[i]? = some (hK prog w k, .ref a) /\ IK prog w h k a) : SetR prog w (h.update S (Obj.putSet es' t')) S ks' { o with data := .set es' (ep + 1) t' } es' (ep + 1) t' := by
 refine ⟨yT R.g R.d es' t', R.x, rfl, pl, by rw [ld]; exact R.ld, tb, nd, sz, fun i k e => ?_⟩
 obtain ⟨a, h1, h2⟩ := at' i k e
 refine ⟨a, h1, h2.keep fun o' ho' => ?_⟩
 rw [(Heap.SameBut.update h S (Obj.putSet es' t')).2 a (R.ne h2)]
 exact ho'
theorem aHs {α : Type} (l : List α) : (List.range l.length).filterMap (l[·]?) = l := by
 have h : ∀ x ∈ List.range l.length, (l[x]?).isSome = true := fun x hx => by simp [List.mem_range.mp hx]
 apply List.ext_getElem?
 intro i
 rw [oC i h]
 by_cases z : i < l.length
 ·rw [List.getElem?_range z]
  rfl
 ·rw [List.getElem?_eq_none (by rw [List.length_range]; omega), List.getElem?_eq_none (by omega)]
  rfl
theorem zW {S : Addr} {ks : List (List Int)} {o : Obj} {es : Array (Int × Value)} {ep : Nat} {t : SetTable} {wanted : Nat} {Q : Unit -> Shared -> Prop} (R : SetR prog w s.heap S ks o es ep t) (hm : MOk (SetTable.sizeAbove wanted - 1)) (hl : SetTable.sizeAbove wanted <= 128) (hn : ks.length <= SetTable.sizeAbove wanted - 1)
  (q : ∀ h' ks' o' es' ep' t', Heap.SameBut S s.heap h' -> ks'.Perm ks -> t'.mask = SetTable.sizeAbove wanted - 1 -> (∀ e ∈ es', e ∈ es) -> SetR prog w h' S ks' o' es' ep' t' -> Q () { s with heap := h' }) : wpAny (model prog w) A (setRelay S wanted) Q E s := by
 have hf := R.fits
 have he : es.map (·.1) = (ks.map (hK prog w)).toArray := by
  apply Array.toList_inj.mp
  rw [Array.toList_map, List.toList_toArray]
  apply List.ext_getElem?
  intro i
  rw [List.getElem?_map, List.getElem?_map, Array.getElem?_toList]
  by_cases z : i < ks.length
  ·obtain ⟨a, h1, _⟩ := R.at' i ks[i] (List.getElem?_eq_getElem z)
   rw [h1, List.getElem?_eq_getElem z]
   rfl
  ·rw [Array.getElem?_eq_none (by rw [R.sz]; omega), List.getElem?_eq_none (by omega)]
   rfl
 obtain ⟨t', order, r1, r2, r3, r4, r5, r6⟩ := xJ (t := t) (hs := ks.map (hK prog w)) (wanted := wanted) hm (by rw [List.length_map]; exact hn)
 rw [List.length_map] at r5
 have hb : ∀ x ∈ order.toList, x < ks.length := fun x hx => List.mem_range.mp (r5.mem_iff.mp hx)
 have k1 : ∀ x ∈ order.toList, (ks[x]?).isSome = true := fun x hx => by simp [hb x hx]
 have k2 : ∀ x ∈ order.toList, (es[x]?).isSome = true := fun x hx => by simp [R.sz, hb x hx]
 have ol : order.toList.length = ks.length := by rw [r5.length_eq, List.length_range]
 have el : (order.filterMap (es[·]?)).size = ks.length := by
  rw [<- Array.length_toList, Array.toList_filterMap, n6 k2, ol]
 have eh : order.toList.filterMap ((ks.map (hK prog w))[·]?) = (order.toList.filterMap (ks[·]?)).map (hK prog w) := by
  rw [List.map_filterMap]
  congr 1
  funext x
  exact List.getElem?_map ..
 rw [eh] at r6
 have pm : (order.toList.filterMap (ks[·]?)).Perm ks := by
  have := r5.filterMap (ks[·]?)
  rw [aHs] at this
  exact this
 unfold setRelay
 refine wpAny_bind (wpAny_setState_of R.g R.d hf ?_)
 dsimp only
 rw [if_neg (by rw [sizeLine_eq]; omega), he, r1]
 refine wpAny_bind ?_
 show wpAny (model prog w) A (if ((order.filterMap (es[·]?)).size != es.size) = true then (unsupported "internal:set-table-lost-an-element" >>= fun _ => pure (order.filterMap (es[·]?), t')) else pure (order.filterMap (es[·]?), t')) _ _ _
 rw [if_neg (by rw [el, R.sz]; simp)]
 refine wpAny_pure ?_
 dsimp only
 have nl : ks.length <= 128 := by omega
 refine wpAny_storeSet_of R.g R.d ?_ (by rw [el, sizeLine_eq]; omega)
 refine q _ _ _ _ _ _ (Heap.SameBut.update ..) pm r2 (fun e he => by
  obtain ⟨x, _, hx⟩ := Array.mem_filterMap.mp he
  exact Array.mem_of_getElem? hx) (R.write (by rw [r4]; exact R.pl) r3 r6 (pm.nodup_iff.mpr R.nd) (by rw [el, n6 k1, ol]) fun i k e => ?_)
 rw [oC i k1] at e
 cases ei : order.toList[i]? with
 | none => rw [ei] at e; cases e
 | some x =>
  rw [ei] at e
  obtain ⟨a, h1, h2⟩ := R.at' x k e
  refine ⟨a, ?_, h2⟩
  rw [<- Array.getElem?_toList, Array.toList_filterMap, oC i k2, ei]
  exact h1
def SetK (prog : Program) (w : World) (h : Heap) (S : Addr) (ks : List (List Int)) (L : Addr -> Prop) : Prop := ∃ ks' o es ep t, ks'.Perm ks /\ Fit t.mask ks'.length /\ (∀ e ∈ es, ∃ a, e.2 = Value.ref a /\ L a) /\ SetR prog w h S ks' o es ep t
theorem aBg {α : Type} (l : List α) (p : Nat) (hp : p <= l.length) (x : α) (i : Nat) : (l.take p ++ x :: l.drop p)[i]? = if i < p then l[i]? else if i = p then some x else l[i - 1]? := by
 have lt : (l.take p).length = p := by rw [List.length_take]; omega
 by_cases z : i < p
 ·rw [if_pos z, List.getElem?_append_left (by omega), List.getElem?_take, if_pos z]
 ·rw [if_neg z, List.getElem?_append_right (by omega), lt]
  by_cases y : i = p
  ·rw [if_pos y, y, Nat.sub_self]
   rfl
  ·rw [if_neg y]
   obtain ⟨d, hd⟩ : ∃ d, i - p = d + 1 := ⟨i - p - 1, by omega⟩
   rw [hd, List.getElem?_cons_succ, List.getElem?_drop]
   congr 1
   omega
theorem cI {S a : Addr} {L : Addr -> Prop} {ks : List (List Int)} {k : List Int} {Q : Bool -> Shared -> Prop} (K : SetK prog w s.heap S ks L) (hu : A.units < cLine) (hk : IK prog w s.heap k a) (aL : L a) (hz : ks.length < 76)
  (q : ∀ b h', Heap.SameBut S s.heap h' -> SetK prog w h' S (if k ∈ ks then ks else k :: ks) L -> Q b { s with heap := h' }) : wpAny (model prog w) A (setAddHashed S (.ref a) (hK prog w k)) Q E s := by
 obtain ⟨ks', o, es, ep, t, pm, ft, lo, R⟩ := K
 have ml : ks'.length = ks.length := pm.length_eq
 have hf := R.fits
 have psz : t.place.size = ks'.length := by have := R.tb.s; rw [List.length_map] at this; exact this
 unfold setAddHashed setAddHashedIn
 refine wpAny_holding (wpAny_bind (wpAny_setState_of R.g R.d hf ?_))
 dsimp only
 rw [show byScan (.ref a) es = false from rfl]
 simp only [Bool.false_eq_true, if_false]
 refine wpAny_bind ?_
 unfold setSearch
 have m127 : t.mask <= 127 := by rcases R.tb.m with z | z | z <;> omega
 obtain ⟨n, nB, nD⟩ : ∃ n, n <= 10 * (13 + t.mask) /\ (pth t.mask (hK prog w k) (0 + n) ∉ t.place.toList \/ ∃ i : Nat, t.place[i]? = some (pth t.mask (hK prog w k) (0 + n)) /\ ks'[i]? = some k) := by
  by_cases z : k ∈ ks'
  ·obtain ⟨i0, e0⟩ := List.mem_iff_getElem?.mp z
   have il : i0 < t.place.size := by rw [psz]; exact (List.getElem?_eq_some_iff.mp e0).1
   obtain ⟨m, m1, m2, _⟩ := R.tb.p i0 (hK prog w k) t.place[i0] (by rw [List.getElem?_map, e0]; rfl) (Array.getElem?_eq_getElem il)
   exact ⟨m, m1, .inr ⟨i0, by rw [Nat.zero_add, m2]; exact Array.getElem?_eq_getElem il, e0⟩⟩
  ·obtain ⟨j, j1, j2⟩ := miss (mask := t.mask) (l := t.place.toList) (by rw [Array.length_toList, psz]; have := R.tb.z; rw [List.length_map] at this; exact this)
   obtain ⟨m, m1, m2⟩ := xK R.tb.m (hK prog w k) j1
   exact ⟨m, m1, .inl (by rw [Nat.zero_add, m2]; exact j2)⟩
 refine nF R hu hk (fun z => ?_) (fun z kk hB hn hp => ?_) n 100000 0 none (by omega) (by omega) rfl (fun q hq => absurd hq (Nat.not_lt_zero _)) nD
 ·dsimp only
  refine wpAny_pure ?_
  have := q false s.heap (Heap.SameBut.refl S s.heap) (by rw [if_pos (pm.mem_iff.mp z)]; exact ⟨ks', o, es, ep, t, pm, ft, lo, R⟩)
  exact this
 ·dsimp only
  have nz : k ∉ ks := fun y => z (pm.mem_iff.mpr y)
  rw [if_neg nz] at q
  refine wpAny_bind (wpAny_setState_of R.g R.d hf ?_)
  dsimp only
  have zm : ks'.length + 1 <= t.mask := by rcases ft with y | y | y <;> omega
  have tb1 := R.tb.put (h := hK prog w k) hB hn hp (by rw [List.length_map]; exact zm)
  obtain ⟨b1, _, _⟩ := gG R.tb.r (pth t.mask (hK prog w k) kk)
  have pe := (i8 t (pth t.mask (hK prog w k) kk)).2
  have pl1 : (t.put (pth t.mask (hK prog w k) kk)).1.plain = true := R.pl
  have ld1 : (t.put (pth t.mask (hK prog w k) kk)).1.led = t.led := rfl
  have mk1 : (t.put (pth t.mask (hK prog w k) kk)).1.mask = t.mask := rfl
  generalize t.put (pth t.mask (hK prog w k) kk) = tp at *
  obtain ⟨t1, p⟩ := tp
  dsimp only at tb1 pe pl1 ld1 mk1 ⊢
  have hp1 : p <= ks'.length := by rw [pe]; omega
  rw [<- List.map_take, <- List.map_drop, <- List.map_cons, <- List.map_append] at tb1
  have pm1 : (ks'.take p ++ k :: ks'.drop p).Perm (k :: ks) := by
   refine List.perm_middle.trans (List.Perm.cons k ?_)
   rw [List.take_append_drop]
   exact pm
  have il : (SetTable.insertAt es p (hK prog w k, Value.ref a)).toList = es.toList.take p ++ (hK prog w k, Value.ref a) :: es.toList.drop p := eA _ _ _
  have hpe : p <= es.toList.length := by rw [Array.length_toList, R.sz]; exact hp1
  have sz1 : (SetTable.insertAt es p (hK prog w k, Value.ref a)).size = (ks'.take p ++ k :: ks'.drop p).length := by
   rw [<- Array.length_toList, il, List.length_append, List.length_append, List.length_cons, List.length_cons, List.length_take, List.length_take, List.length_drop, List.length_drop, Array.length_toList, R.sz]
  have ln1 : (ks'.take p ++ k :: ks'.drop p).length = ks'.length + 1 := by rw [pm1.length_eq, List.length_cons, ml]
  rw [pl1, if_pos rfl]
  refine wpAny_bind (aDp hk ?_)
  rw [if_pos rfl]
  have nl : ks'.length <= 76 := by omega
  refine wpAny_bind (wpAny_storeSet_of R.g R.d ?_ (by rw [sz1, ln1, sizeLine_eq]; omega))
  have R1 := R.write (es' := SetTable.insertAt es p (hK prog w k, Value.ref a)) pl1 ld1 tb1 (pm1.nodup_iff.mpr (List.nodup_cons.mpr ⟨nz, pm.nodup_iff.mp R.nd⟩)) sz1 (fun i x e => by
   rw [aBg ks' p hp1 k i] at e
   rw [<- Array.getElem?_toList, il, aBg es.toList p hpe _ i]
   by_cases y : i < p
   ·rw [if_pos y] at e ⊢
    obtain ⟨c, h1, h2⟩ := R.at' i x e
    exact ⟨c, by rw [Array.getElem?_toList]; exact h1, h2⟩
   ·rw [if_neg y] at e ⊢
    by_cases y2 : i = p
    ·rw [if_pos y2] at e ⊢
     cases e
     exact ⟨a, rfl, hk⟩
    ·rw [if_neg y2] at e ⊢
     obtain ⟨c, h1, h2⟩ := R.at' _ x e
     exact ⟨c, by rw [Array.getElem?_toList]; exact h1, h2⟩)
  have sb := Heap.SameBut.update s.heap S (Obj.putSet (SetTable.insertAt es p (hK prog w k, Value.ref a)) t1)
  have lo1 : ∀ e ∈ SetTable.insertAt es p (hK prog w k, Value.ref a), ∃ a, e.2 = Value.ref a /\ L a := fun e he => by
   rw [<- Array.mem_toList_iff, il] at he
   rcases List.mem_append.mp he with y | y
   ·exact lo e (Array.mem_toList_iff.mp (List.mem_of_mem_take y))
   ·rcases List.mem_cons.mp y with x | x
    ·rw [x]; exact ⟨a, rfl, aL⟩
    ·exact lo e (Array.mem_toList_iff.mp (List.mem_of_mem_drop x))
  generalize (SetTable.insertAt es p (hK prog w k, Value.ref a)) = es1 at *
  have full : t1.tooFull = decide ((t.mask = 7 /\ ks'.length = 4) \/ (t.mask = 31 /\ ks'.length = 18)) := by
   unfold SetTable.tooFull SetTable.fill
   have a1 := tb1.s
   rw [List.length_map, ln1] at a1
   rw [tb1.d, a1, mk1]
   rcases ft with ⟨y, x⟩ | ⟨y, x⟩ | ⟨y, x⟩ <;> rw [y] <;> simp <;> omega
  rw [full]
  by_cases y : (t.mask = 7 /\ ks'.length = 4) \/ (t.mask = 31 /\ ks'.length = 18)
  ·rw [decide_eq_true y, if_pos (by decide), R.sz]
   have go : ∀ wn, SetTable.grown (ks'.length + 1) = wn -> MOk (SetTable.sizeAbove wn - 1) -> SetTable.sizeAbove wn <= 128 -> ks'.length + 1 <= SetTable.sizeAbove wn - 1 -> Fit (SetTable.sizeAbove wn - 1) (ks'.length + 1) -> wpAny (model prog w) A (do
     setRelay S (SetTable.grown (ks'.length + 1))
     pure true) Q E { s with heap := s.heap.update S (Obj.putSet es1 t1) } := fun wn e1 e2 e3 e4 e5 => by
    rw [e1]
    refine wpAny_bind (zW R1 e2 e3 (by rw [ln1]; exact e4) fun h' ks2 o2 es2 ep2 t2 sb2 pm2 mk2 in2 R2 => wpAny_pure (q true h' (sb.trans sb2) ⟨ks2, o2, es2, ep2, t2, pm2.trans pm1, ?_, fun e he => lo1 e (in2 e he), R2⟩))
    rw [mk2, pm2.length_eq, ln1]
    exact e5
   rcases y with ⟨_, y⟩ | ⟨_, y⟩ <;> rw [y] at go ⊢
   ·exact go 20 (by decide) (by unfold MOk; decide) (by decide) (by decide) (by unfold Fit; decide)
   ·exact go 76 (by decide) (by unfold MOk; decide) (by decide) (by decide) (by unfold Fit; decide)
  ·rw [decide_eq_false y, if_neg (by decide)]
   refine wpAny_pure (q true _ sb ⟨_, _, _, _, t1, pm1, ?_, lo1, R1⟩)
   rw [mk1, ln1]
   unfold Fit at ft ⊢
   omega
theorem SetK.at {h h' : Heap} {S : Addr} {L : Addr -> Prop} {ks : List (List Int)} (K : SetK prog w h S ks L) (q : ∀ b o, (L b \/ b = S) -> h.get? b = some o -> h'.get? b = some o) : SetK prog w h' S ks L := by
 obtain ⟨ks', o, es, ep, t, pm, ft, lo, R⟩ := K
 refine ⟨ks', o, es, ep, t, pm, ft, lo, q _ _ (.inr rfl) R.g, R.x, R.d, R.pl, R.ld, R.tb, R.nd, R.sz, fun i k e => ?_⟩
 obtain ⟨a, h1, h2⟩ := R.at' i k e
 obtain ⟨b, e1, e2⟩ := lo _ (Array.mem_of_getElem? h1)
 cases e1
 exact ⟨a, h1, h2.keep fun o ho => q a o (.inl e2) ho⟩
def sY (w : World) : Obj := { cls := .type "set", dict := none, data := .set #[] 0 (.fresh 0 0 (!w.params.followText "set-order")) }
theorem SetK.new {h : Heap} {S : Addr} {L : Addr -> Prop} (hS : h.get? S = some (sY w)) : SetK prog w h S [] L := by
 refine ⟨[], sY w, #[], 0, .fresh 0 0 (!w.params.followText "set-order"), List.Perm.refl _, .inl ⟨rfl, Nat.zero_le _⟩, fun e he => by simp at he, hS, ⟨rfl, rfl, rfl⟩, rfl, rfl, rfl, ⟨rfl, .inl rfl, fun i j a b _ e => by simp [SetTable.fresh] at e, rfl, Nat.zero_le _, fun i h j e => by simp at e⟩, List.Pairwise.nil, rfl, fun i k e => by simp at e⟩
theorem tK (x : Value) {Q₁ : Value -> Shared -> Prop} (h : Q₁ (.ref s.heap.objs.size) { s with heap := s.heap.push (sY w) }) :
  codeAny (model prog w) A (.call (.builtin "set.__new__") ⟨[.type "set", x], []⟩) (wants Q₁ E) s := by
 refine codeAny_of_tree (show wpAny _ A.in1 (do checkBuiltinCall "set.__new__" ⟨[.type "set", x], []⟩; again (.builtin "set.__new__" ⟨[.type "set", x], []⟩)) _ _ s from ?_)
 refine wpAny_bind (wpAny_of_eq (F.newCall_set_1 x) (wpAny_pure ⟨plainId_quiet F.plain_set_new _, codeAny_builtin F.entry_set_new ?_⟩))
 rw [Around.under_plainId F.plain_set_new _]
 unfold Builtin.«set.__new__» Builtin.Frozenset.newClass
 have hsub := sub_set_self
 obtain ⟨hp, g, d, tk, os⟩ := s
 dsimp only
 wp_walk
 refine wpAny_askSetting (wpAny_pure ?_)
 dsimp only
 simp only [newObj]
 exact wpAny_bind (wpAny_alloc (wpAny_pure (wpAny_pure h)))
def uK (f : Nat -> List Int) : Nat -> List (List Int)
 | 0 => []
 | n + 1 => if f n ∈ uK f n then uK f n else f n :: uK f n
theorem l7 (f : Nat -> List Int) : ∀ n, (uK f n).length <= n
 | 0 => Nat.le_refl _
 | n + 1 => by
  have := l7 f n
  unfold uK
  split
  ·omega
  ·rw [List.length_cons]; omega
theorem xX {I : Addr} {fp wr : List Addr} {G : Array GenState -> Array GenState -> Prop} {n : Nat} {L : Addr -> Prop} {P : Nat -> Value -> Prop} {St : Nat -> Shared -> Prop} {R : Result -> Shared -> Prop} (W : WalksS prog w A.in1 I fp wr G n P St) (hu : A.in1.units < cLine) {S : Addr} (hSf : S ∉ fp) (hwL : ∀ b, L b -> b ∉ S :: wr) (ky : Nat -> List Int) (hb : n <= 76) :
  ∀ (k i : Nat) (s : Shared), n - i = k -> i <= n -> St i s -> SetK prog w s.heap S (uK ky i) L -> (∀ i v, i < n -> P i v -> ∃ a, v = .ref a /\ L a /\ IK prog w s.heap (ky i) a) ->
   (∀ s', Moved (S :: wr) G s s' -> SetK prog w s'.heap S (uK ky n) L -> R (.ok (.ret .none)) s') ->
   codeAny (model prog w) A (.builtin "set.update.loop" ⟨[.ref S, .ref I], []⟩) R s := by
 have hSw : S ∉ wr := fun z => hSf (W.sub _ z)
 have sub : ∀ b ∈ wr, b ∈ S :: wr := fun b z => .tail _ z
 have low : ∀ b, L b \/ b = S -> b ∉ wr := fun b z y => by
  rcases z with z | z
  ·exact hwL b z (.tail _ y)
  ·exact hSw (z ▸ y)
 intro k
 induction k with
 | zero =>
  intro i s hk hi st K _ q
  cases (show i = n by omega)
  refine codeAny_builtin PyProof.Rows.F.entry_set_update_loop ?_
  rw [Around.under_plainId PyProof.Rows.F.plain_set_update_loop _]
  unfold Builtin.«set.update.loop»
  refine wpAny_bind (W.done s _ _ st fun s' mv => ?_)
  exact wpAny_pure (q s' (mv.mono sub) (K.at fun b o hb e => mv.heap b o (low b hb) e))
 | succ k ih =>
  intro i s hk hi st K kt q
  have lt : i < n := by omega
  refine codeAny_builtin PyProof.Rows.F.entry_set_update_loop ?_
  rw [Around.under_plainId PyProof.Rows.F.plain_set_update_loop _]
  unfold Builtin.«set.update.loop»
  refine wpAny_bind (W.item i s _ _ lt st fun v s' hP st' mv => ?_)
  obtain ⟨a, rfl, aL, hka⟩ := kt i v lt hP
  have K' := K.at (h' := s'.heap) fun b o hb e => mv.heap b o (low b hb) e
  have hka' := IK.keep (h' := s'.heap) hka fun o e => mv.heap a o (low a (.inl aL)) e
  dsimp only
  refine wpAny_bind (wpAny_holding ?_)
  unfold setAdd
  refine wpAny_holding (wpAny_bind (wpAny_pyHash_tuple hu hka' ?_))
  refine cI (s := { s' with toks := s'.toks + ((ky i).length + 1) }) K' hu hka' aL (by have := l7 ky i; omega) fun b h' sb K2 => ?_
  have mv2 : Moved (S :: wr) G s { s' with heap := h', toks := s'.toks + ((ky i).length + 1) } := (mv.mono sub).then_heap (Nat.le_add_right _ _) fun b o hb e => by
   rw [sb.2 b (fun z => hb (by rw [z]; exact .head _))]
   exact e
  refine wpAny_pure ⟨plainId_quiet PyProof.Rows.F.plain_set_update_loop _, ih (i + 1) _ (by omega) lt (W.frame _ s' _ _ st' (Nat.le_add_right _ _) fun b hb o e => ?_) K2 (fun j v hj hv => ?_) fun s2 m2 K3 => ?_⟩
  ·rw [sb.2 b (fun z => hSf (by rw [<- z]; exact hb))]
   exact e
  ·obtain ⟨c, rfl, cL, hkc⟩ := kt j v hj hv
   exact ⟨c, rfl, cL, IK.keep hkc fun o e => mv2.heap c o (hwL c cL) e⟩
  ·exact q s2 (Moved.trans W.gtrans mv2 m2) K3
theorem uG {x : Value} {Q : Value -> Shared -> Prop}
  (h : wpAny (model prog w) A.in1.in1 (Builtin.«set.__init__» ⟨[.ref s.heap.objs.size, x], []⟩)
   (fun fin s' => match fin with | .done f => wants (fun r s₂ => r = .none /\ Q (.ref s.heap.objs.size) s₂) E (.ok f) s' | .again c' => c'.quiet = true /\ codeAny (model prog w) A.in1 c' (wants (fun r s₂ => r = .none /\ Q (.ref s.heap.objs.size) s₂) E) s')
   (fun e s' => wants (fun r s₂ => r = .none /\ Q (.ref s.heap.objs.size) s₂) E (.error e) s') { s with heap := s.heap.push (sY w) }) :
  wpAny (model prog w) A (call (.type "set") [x]) Q E s := by
 have ft := F.called_set
 obtain ⟨c, tl, hmro⟩ := ft.mro
 have hmade := ft.made
 have hsub := ft.sub
 have h1 := ft.notType
 have h2 := ft.canCreate
 have hct := F.typeCall_set_1 x
 refine wpAny_call (codeAny_of_tree (wpAny_pure ⟨Code.quiet_builtin _ (by decide +kernel), codeAny_builtin F.entry_type_call ?_⟩))
 rw [Around.under_plain (weight_type_call_type "set" [x] []) rfl]
 repeat (any_goals (first | assumption | wp_step))
 refine codeAny_mono (tK x (E := E) (Q₁ := fun obj s₁ => obj = .ref s.heap.objs.size /\ s₁ = { s with heap := s.heap.push (sY w) }) ⟨rfl, rfl⟩) fun r s₁ hr => ?_
 cases r with
 | error e => exact hr
 | ok fl =>
  cases fl with
  | ret obj =>
   obtain ⟨rfl, rfl⟩ := hr
   have hT : Shared.TypeIs { s with heap := s.heap.push (sY w) } (.ref s.heap.objs.size) "set" := ⟨_, Heap.get?_push_size _ rfl, rfl⟩
   have hli := ft.init.lookup
   have hbi := ft.init.bind (.ref s.heap.objs.size)
   repeat (any_goals (first | assumption | wp_step))
   refine codeAny_mono (codeAny_call_builtin ft.init.plain F.entry_set_init (check_set_init_1 hT h)) fun r₂ s₂ hr₂ => ?_
   cases r₂ with
   | error e => exact hr₂
   | ok f2 =>
    cases f2 with
    | ret u =>
     obtain ⟨rfl, hq⟩ := hr₂
     repeat (any_goals (first | assumption | wp_step))
    | _ => exact hr₂.elim
  | _ => exact hr.elim
theorem yE {l : Addr} {items : Array Value} (hh : A.handled = none) (hu : A.units + 10 < cLine) (ky : Nat -> List Int) (hl : s.heap.IsList l items) (hz : items.size <= 76)
  {L : Addr -> Prop} (hL : ∀ a, L a -> a < s.heap.objs.size) (hk : ∀ i v, items[i]? = some v -> ∃ a, v = .ref a /\ L a /\ IK prog w s.heap (ky i) a)
  {Q : Value -> Shared -> Prop} (q : ∀ h' tk, SetK prog w h' s.heap.objs.size (uK ky items.size) L -> (∀ b o, s.heap.get? b = some o -> h'.get? b = some o) -> s.toks <= tk -> Q (.ref s.heap.objs.size) { s with heap := h', toks := tk }) :
  wpAny (model prog w) A (call (.type "set") [.ref l]) Q E s := by
 refine uG ?_
 obtain ⟨ol, hol, hcl, nl, hdl⟩ := id hl
 have hS : (s.heap.push (sY w)).get? s.heap.objs.size = some (sY w) := Heap.get?_push_size _ rfl
 have hl1 : (s.heap.push (sY w)).IsList l items := ⟨ol, Heap.get?_push_of_some _ hol, hcl, nl, hdl⟩
 have hls : l < s.heap.objs.size := Heap.lt_size hol
 obtain ⟨ocls, odict, odata, oslots⟩ := ol
 simp only at hcl hdl
 subst hcl hdl
 have hol' : (s.heap.push (sY w)).get? l = some { cls := .type "list", dict := odict, data := .seq items nl, slots := oslots } := Heap.get?_push_of_some _ hol
 have a1 := F.sub_list_set
 have a2 := F.sub_list_frozenset
 have a3 : (Value.type "list" == Value.type "dict") = false := by decide
 unfold sY at hS hol' hl1 ⊢
 unfold Builtin.«set.__init__» noKeywords Builtin.Frozenset.updateFrom
 generalize hPI : pyIter = PI
 wp_walk
 subst hPI
 refine wpAny_pyIter_list hl1 (wpAny_bind (wpAny_runValue ?_))
 generalize hO : ({ cls := Value.type "set", data := Data.set #[] 0 (SetTable.fresh 0 0 (!w.params.followText "set-order")) } : Obj) = O at *
 have eO : O = sY w := by rw [<- hO]; rfl
 have sz : (s.heap.push O).objs.size = s.heap.objs.size + 1 := by rw [Heap.size_push]
 have kp : ∀ b o, s.heap.get? b = some o -> ((s.heap.push O).push { cls := .type "list_iterator", data := .fields #[.ref l, .int 0 0] }).get? b = some o := fun b o e => Heap.get?_push_of_some _ (Heap.get?_push_of_some _ e)
 have nI : ∀ b, b <= s.heap.objs.size -> b ≠ (s.heap.push O).objs.size := fun b z y => by rw [sz] at y; omega
 refine xX (A := A.in1.in1) (L := L) ((Walks.list (A := A.in1.in1.in1) hh (s.heap.push O).objs.size l (nI l (Nat.le_of_lt hls)) items).toS) (show A.units + 1 + 1 + 1 < cLine by omega) (S := s.heap.objs.size) (fun z => ?_) (fun b hb z => ?_) ky hz items.size 0 _ rfl (Nat.zero_le _) ⟨⟨_, Heap.get?_push_size _ rfl, rfl, rfl⟩, hl1.push _⟩ (SetK.new (by rw [<- eO]; exact Heap.get?_push_of_some _ hS)) (fun i v _ hv => ?_) fun s' mv T => ?_
 ·rcases List.mem_cons.mp z with z | z
  ·exact nI _ (Nat.le_refl _) z
  ·rw [List.mem_singleton.mp z] at hls
   exact Nat.lt_irrefl _ hls
 ·have lb := hL b hb
  rcases List.mem_cons.mp z with z | z
  ·rw [z] at lb
   exact Nat.lt_irrefl _ lb
  ·exact nI b (Nat.le_of_lt lb) (List.mem_singleton.mp z)
 ·obtain ⟨a, rfl, la, ka⟩ := hk i v hv
  exact ⟨a, rfl, la, ka.keep fun o e => kp a o e⟩
 ·refine wpAny_pure (wpAny_pure ⟨rfl, ?_⟩)
  obtain ⟨h', g', d', tk', os'⟩ := s'
  cases (show g' = s.gens from mv.gens)
  cases (show d' = s.drawn from mv.drawn)
  cases (show os' = s.os from mv.os)
  refine q h' tk' T (fun b o e => mv.heap b o (fun z => ?_) (kp b o e)) mv.toks
  have lb := Heap.lt_size e
  rcases List.mem_cons.mp z with z | z
  ·rw [z] at lb
   exact Nat.lt_irrefl _ lb
  ·exact nI b (Nat.le_of_lt lb) (List.mem_singleton.mp z)
end
theorem sl_next : Slot "set_iterator" "__next__" "set_iterator.__next__" :=
 .of (owner := "set_iterator") (n := "__next__") (by rw [typeLookup_type, builtinLookup_eq_fast]; kernel_rfl) (by decide +kernel) (by decide +kernel) (by decide +kernel) (by first | exact .inl (by decide +kernel) | exact .inr (by decide +kernel)) (by rw [isSubtype_type]; kernel_rfl)
theorem uY : Slot "set_iterator" "__iter__" "set_iterator.__iter__" :=
 .of (owner := "set_iterator") (n := "__iter__") (by rw [typeLookup_type, builtinLookup_eq_fast]; kernel_rfl) (by decide +kernel) (by decide +kernel) (by decide +kernel) (by first | exact .inl (by decide +kernel) | exact .inr (by decide +kernel)) (by rw [isSubtype_type]; kernel_rfl)
theorem aA1 : Manifest.owners.lookup (String.ofList ['r', 'o', 't', 'a', 'r', 'e', 't', 'i', '_', 't', 'e', 's'].reverse) = some Manifest.sig_set_iterator := by kernel_rfl
theorem vG : entryFor table "set_iterator.__next__" = some Builtin.«set_iterator.__next__» := entryFor_of_tree (by kernel_rfl)
theorem aDa : entryFor table "set_iterator.__iter__" = some Builtin.«dict_keyiterator.__iter__» := entryFor_alias (id' := "dict_keyiterator.__iter__") (by kernel_rfl) rfl (by decide +kernel) (by kernel_rfl)
theorem y9 : entryFor table "set.__iter__" = some Builtin.«frozenset.__iter__» := entryFor_alias (id' := "frozenset.__iter__") (by kernel_rfl) rfl (by decide +kernel) (by kernel_rfl)
theorem uZ (a : Value) : argsOk "set_iterator.__next__" ⟨[a], []⟩ := by
 unfold argsOk
 rw [signature?_of (id := "set_iterator.__next__") (n := ['_', '_', 't', 'x', 'e', 'n', '_', '_']) (o := ['r', 'o', 't', 'a', 'r', 'e', 't', 'i', '_', 't', 'e', 's']) (by kernel_rfl) aA1]
 kernel_rfl
theorem aCd (a : Value) : argsOk "set_iterator.__iter__" ⟨[a], []⟩ := by
 unfold argsOk
 rw [signature?_of (id := "set_iterator.__iter__") (n := ['_', '_', 'r', 'e', 't', 'i', '_', '_']) (o := ['r', 'o', 't', 'a', 'r', 'e', 't', 'i', '_', 't', 'e', 's']) (by kernel_rfl) aA1]
 kernel_rfl
theorem uQ {α : Type} (next : Nat -> Nat) : ∀ (fuel k : Nat) (left : List α) (out : Array α), fuel = left.length -> (pickOrder.go next fuel k left out).toList.Perm (out.toList ++ left)
 | 0, k, left, out, h => by
  have : left = [] := List.length_eq_zero_iff.mp h.symm
  subst this
  unfold pickOrder.go
  rw [List.append_nil]
 | fuel + 1, k, left, out, h => by
  have hl : next k % left.length < left.length := Nat.mod_lt _ (by omega)
  unfold pickOrder.go
  rw [List.getElem?_eq_getElem hl]
  dsimp only
  refine (uQ next fuel (k + 1) _ _ (by rw [List.length_eraseIdx_of_lt hl]; omega)).trans ?_
  rw [Array.toList_push, List.append_assoc]
  refine List.Perm.append_left _ ?_
  rw [List.eraseIdx_eq_take_drop_succ]
  show (left[next k % left.length] :: (left.take (next k % left.length) ++ left.drop (next k % left.length + 1))).Perm left
  refine (List.perm_middle (l₁ := left.take (next k % left.length))).symm.trans ?_
  rw [List.getElem_cons_drop, List.take_append_drop]
theorem tW {α : Type} (next : Nat -> Nat) (xs : Array α) : (pickOrder next xs).toList.Perm xs.toList := by
 have := uQ next xs.size 0 xs.toList #[] (Array.length_toList ..).symm
 exact this
def sV (w : World) (S : Addr) (ep : Nat) (es : Array (Int × Value)) : Array (Int × Value) := if w.params.followText "set-order" = true then pickOrder (w.params.setOrder S ep) es else es
theorem rD (w : World) (S : Addr) (ep : Nat) (es : Array (Int × Value)) : (sV w S ep es).toList.Perm es.toList := by
 unfold sV
 split
 ·exact tW _ _
 ·exact List.Perm.refl _
theorem mH (w : World) (S : Addr) (ep : Nat) (es : Array (Int × Value)) : (sV w S ep es).size = es.size := by
 have := (rD w S ep es).length_eq
 rw [Array.length_toList, Array.length_toList] at this
 exact this
def slotAt (w : World) (t : SetTable) (i : Nat) : Nat := if w.params.followText "set-order" = true then 0 else match i with
 | 0 => 0
 | i + 1 => t.place.getD i 0 + 1
def IterAt (w : World) (h : Heap) (I S : Addr) (t : SetTable) (n ep i : Nat) : Prop := ∃ o, h.get? I = some o /\ o.cls = .type "set_iterator" /\ ∃ u0 u1 u2 u3, o.data = .fields #[.int (slotAt w t i : Nat) u0, .int (i : Nat) u1, .ref S, .int (n : Nat) u2, .int (ep : Nat) u3]
structure SetW (w : World) (h : Heap) (S : Addr) (hs : List Int) (o : Obj) (es : Array (Int × Value)) (ep : Nat) (t : SetTable) : Prop where
 g : h.get? S = some o
 x : o.ExactSet
 d : o.data = .set es ep t
 pl : t.plain = true
 ld : t.led = !w.params.followText "set-order"
 tb : Tab t hs
 sz : es.size = hs.length
theorem SetR.w {prog : Program} {w : World} {h : Heap} {S : Addr} {ks : List (List Int)} {o : Obj} {es : Array (Int × Value)} {ep : Nat} {t : SetTable} (R : SetR prog w h S ks o es ep t) : SetW w h S (ks.map (hK prog w)) o es ep t := ⟨R.g, R.x, R.d, R.pl, R.ld, R.tb, by rw [List.length_map]; exact R.sz⟩
theorem SetW.fits {w : World} {h : Heap} {S : Addr} {hs : List Int} {o : Obj} {es : Array (Int × Value)} {ep : Nat} {t : SetTable} (R : SetW w h S hs o es ep t) : t.fits es.size = true := by
 unfold SetTable.fits SetTable.fill
 have a := R.tb.s
 have b := R.tb.z
 rw [R.tb.d, a, R.sz]
 simpa using b
section
variable {prog : Program} {w : World} {A : Around} {E : Value -> Shared -> Prop} {s : Shared} {S I : Addr} {hs : List Int} {o : Obj} {es : Array (Int × Value)} {ep : Nat} {t : SetTable}
theorem IterAt.ty {n i : Nat} (h : IterAt w s.heap I S t n ep i) : s.TypeIs (.ref I) "set_iterator" := by
 obtain ⟨o, h1, h2, _⟩ := h
 exact ⟨o, h1, h2⟩
theorem SetW.ty (R : SetW w s.heap S hs o es ep t) : s.TypeIs (.ref S) "set" := ⟨o, R.g, R.x.1⟩
theorem yQ {Q : Value -> Shared -> Prop} (R : SetW w s.heap S hs o es ep t) (q : Q (.ref s.heap.objs.size) { s with heap := s.heap.push { cls := .type "set_iterator", data := .fields #[rawInt 0, rawInt 0, .ref S, rawInt es.size, rawInt ep] } }) : wpAny (model prog w) A (pyIter (.ref S)) Q E s := by
 have hf := R.fits
 refine wpAny_pyIter_slot R.ty F.slot_set_iter (wpAny_call_entry F.slot_set_iter R.ty y9 ?_ (F.args_set_iter_1 _))
 unfold Builtin.«frozenset.__iter__»
 refine wpAny_bind (m := Builtin.Frozenset.slot0 "__iter__" _) (wpAny_pure ?_)
 unfold Builtin.Frozenset.sizeOf setEntries
 refine wpAny_bind (wpAny_bind (wpAny_bind (wpAny_setState_of R.g R.d hf (wpAny_pure (wpAny_pure ?_)))))
 dsimp only
 unfold setDrawn
 refine wpAny_bind (wpAny_bind (wpAny_setState_of R.g R.d hf ?_))
 dsimp only
 unfold setsByText
 refine wpAny_bind (wpAny_bind (wpAny_askSetting (wpAny_pure (wpAny_pure ?_))))
 generalize hg : (!(model prog w).w.params.followText "set-order" && _) = b
 have hg : (!w.params.followText "set-order" && (!t.plain && decide (es.size > 1))) = b := hg
 have : b = false := by
  rw [<- hg, R.pl]
  simp
 subst this
 rw [if_neg (by decide)]
 refine wpAny_bind (wpAny_pure ?_)
 unfold setEpoch
 refine wpAny_bind (wpAny_bind (wpAny_setState_of R.g R.d hf (wpAny_pure ?_)))
 dsimp only
 exact wpAny_bind (wpAny_newObj_type (wpAny_pure ⟨_, rfl, _, _, ⟨_, Heap.get?_push_size _ rfl, rfl⟩, sl_next.lookup, q⟩))
theorem below_at (R : SetW w s.heap S hs o es ep t) (hb : w.params.followText "set-order" = false) {i : Nat} (hi : i <= t.place.size) : SetTable.below t.place (slotAt w t i) = i := by
 obtain ⟨b1, b2, b3⟩ := gG R.tb.r (slotAt w t i)
 unfold slotAt at b1 b2 b3 ⊢
 rw [if_neg (by rw [hb]; decide)] at b1 b2 b3 ⊢
 cases i with
 | zero =>
  dsimp only at b1 b2 b3 ⊢
  rcases Nat.eq_zero_or_pos (SetTable.below t.place 0) with z | z
  ·exact z
  ·have := b2 0 _ z (Array.getElem?_eq_getElem (by omega))
   omega
 | succ i =>
  dsimp only at b1 b2 b3 ⊢
  have il : i < t.place.size := hi
  have g : t.place.getD i 0 = t.place[i] := by simp [Array.getD, il]
  rw [g] at b1 b2 b3 ⊢
  rcases Nat.lt_trichotomy (SetTable.below t.place (t.place[i] + 1)) (i + 1) with z | z | z
  ·have := b3 i _ (by omega) (Array.getElem?_eq_getElem il)
   omega
  ·exact z
  ·have l1 : i + 1 < t.place.size := by omega
   have a := b2 (i + 1) _ z (Array.getElem?_eq_getElem l1)
   have b := R.tb.r i (i + 1) _ _ (Nat.lt_succ_self _) (Array.getElem?_eq_getElem il) (Array.getElem?_eq_getElem l1)
   omega
theorem uU {Q : Option (Value × Nat) -> Shared -> Prop} (R : SetW w s.heap S hs o es ep t) {i : Nat} (hi : i <= es.size) (q : Q (((sV w S ep es)[i]?).map fun e => (e.2, slotAt w t (i + 1))) s) : wpAny (model prog w) A (setNext S (slotAt w t i) i ep) Q E s := by
 have hf := R.fits
 have psz : t.place.size = es.size := by rw [R.tb.s, R.sz]
 unfold setNext
 refine wpAny_bind (wpAny_setState_of R.g R.d hf ?_)
 dsimp only
 unfold setsByText
 refine wpAny_bind (wpAny_bind (wpAny_askSetting (wpAny_pure ?_)))
 show wpAny (model prog w) A (if w.params.followText "set-order" = true then _ else _) Q E s
 cases hb : w.params.followText "set-order" with
 | true =>
  rw [if_pos rfl, if_neg (by simp)]
  unfold setWalk
  refine wpAny_bind (wpAny_bind (wpAny_setState_of R.g R.d hf ?_))
  dsimp only
  unfold setsByText
  refine wpAny_bind (wpAny_bind (wpAny_askSetting (wpAny_pure ?_)))
  show wpAny (model prog w) A (if w.params.followText "set-order" = true then _ else _) _ _ _
  rw [hb, if_pos rfl]
  refine wpAny_bind (wpAny_askSetting (wpAny_pure (wpAny_pure ?_)))
  have e : sV w S ep es = pickOrder (w.params.setOrder S ep) es := by unfold sV; rw [if_pos hb]
  have e0 : ∀ i, slotAt w t i = 0 := fun i => by unfold slotAt; rw [if_pos hb]
  rw [e, e0] at q
  rw [e0]
  exact q
 | false =>
  rw [if_neg (by decide)]
  have e : sV w S ep es = es := by unfold sV; rw [if_neg (by rw [hb]; decide)]
  rw [e] at q
  refine wpAny_ite_split (fun h => ?_) (fun _ => ?_)
  ·have h : (!t.plain && decide (es.size > 1)) = true := h
   rw [R.pl] at h
   simp at h
  ·have led : t.led = true := by rw [R.ld, hb]; rfl
   refine wpAny_bind ?_
   show wpAny (model prog w) A (if (!t.led && !es.isEmpty) = true then unsupported "set:maker-not-led" else pure ()) _ E s
   rw [led, if_neg (by simp)]
   refine wpAny_pure (wpAny_pure ?_)
   rw [below_at R hb (by rw [psz]; exact hi)]
   rcases Nat.lt_or_ge i es.size with z | z
   ·have pl : i < t.place.size := by rw [psz]; exact z
    have sa : slotAt w t (i + 1) = t.place[i] + 1 := by
     unfold slotAt
     rw [if_neg (by rw [hb]; decide)]
     simp [Array.getD, pl]
    rw [Array.getElem?_eq_getElem z, sa] at q
    rw [Array.getElem?_eq_getElem z, Array.getElem?_eq_getElem pl]
    exact q
   ·rw [Array.getElem?_eq_none z] at q
    rw [Array.getElem?_eq_none z]
    exact q
theorem aC3 {Q : Option Value -> Shared -> Prop} {i : Nat} (hit : IterAt w s.heap I S t es.size ep i) (R : SetW w s.heap S hs o es ep t) (lt : i < es.size) {x : Int × Value} (hx : (sV w S ep es)[i]? = some x)
  (q : ∀ h', IterAt w h' I S t es.size ep (i + 1) -> Heap.SameBut I s.heap h' -> Q (some x.2) { s with heap := h' }) : wpAny (model prog w) A (pyNext (.ref I)) Q E s := by
 have ty := hit.ty
 have hf := R.fits
 obtain ⟨oI, ho, hc, u0, u1, u2, u3, hd⟩ := hit
 unfold pyNext
 refine wpAny_bind (wpAny_attempt (wpAny_callSpecial?_slot (name := Str.ofString "__next__") ty sl_next (wpAny_call_entry sl_next ty vG ?_ (uZ _))))
 unfold Builtin.«set_iterator.__next__»
 refine wpAny_bind (m := slotArgs "__next__" 0 _) (wpAny_pure ?_)
 refine wpAny_bind (wpAny_fieldsOf ho hd ?_)
 dsimp only
 unfold setEntries
 refine wpAny_bind (wpAny_bind (wpAny_setState_of R.g R.d hf (wpAny_pure ?_)))
 dsimp only
 rw [if_neg (by simp)]
 refine wpAny_bind ?_
 rw [Int.toNat_natCast, Int.toNat_natCast, Int.toNat_natCast]
 refine uU R (Nat.le_of_lt lt) ?_
 rw [hx]
 dsimp only [Option.map]
 have g1 := Heap.get?_update_self (Obj.mapFields (·.setIfInBounds 0 (rawInt (slotAt w t (i + 1) : Nat)))) ho (Obj.isFreed_of_fields (Obj.data_mapFields hd _))
 refine wpAny_bind (wpAny_setField ho hd (by simp) ?_)
 have d1 := Obj.data_mapFields hd (·.setIfInBounds 0 (rawInt (slotAt w t (i + 1) : Nat)))
 refine wpAny_bind (wpAny_setField g1 d1 (by simp) ?_)
 have g2 := Heap.get?_update_self (Obj.mapFields (·.setIfInBounds 1 (rawInt ((i : Int) + 1)))) g1 (Obj.isFreed_of_fields (Obj.data_mapFields d1 _))
 have d2 := Obj.data_mapFields d1 (·.setIfInBounds 1 (rawInt ((i : Int) + 1)))
 refine wpAny_pure ⟨_, rfl, wpAny_pure (q _ ⟨_, g2, (Obj.cls_mapFields ..).trans ((Obj.cls_mapFields ..).trans hc), 0, 0, u2, u3, d2.trans (by simp [rawInt])⟩ ((Heap.SameBut.update ..).trans (Heap.SameBut.update ..)))⟩
theorem aF4 {Q : Option Value -> Shared -> Prop} (hh : A.handled = none) (hit : IterAt w s.heap I S t es.size ep es.size) (R : SetW w s.heap S hs o es ep t) (q : ∀ h', Heap.ExtBut I s.heap h' -> Q none { s with heap := h' }) : wpAny (model prog w) A (pyNext (.ref I)) Q E s := by
 have ty := hit.ty
 have hf := R.fits
 obtain ⟨oI, ho, hc, u0, u1, u2, u3, hd⟩ := hit
 unfold pyNext
 refine wpAny_bind (wpAny_attempt (wpAny_callSpecial?_slot (name := Str.ofString "__next__") ty sl_next (wpAny_call_entry sl_next ty vG ?_ (uZ _))))
 unfold Builtin.«set_iterator.__next__»
 refine wpAny_bind (m := slotArgs "__next__" 0 _) (wpAny_pure ?_)
 refine wpAny_bind (wpAny_fieldsOf ho hd ?_)
 dsimp only
 unfold setEntries
 refine wpAny_bind (wpAny_bind (wpAny_setState_of R.g R.d hf (wpAny_pure ?_)))
 dsimp only
 rw [if_neg (by simp)]
 refine wpAny_bind ?_
 rw [Int.toNat_natCast, Int.toNat_natCast, Int.toNat_natCast]
 refine uU R (Nat.le_refl _) ?_
 rw [Array.getElem?_eq_none (by rw [mH]; exact Nat.le_refl _)]
 dsimp only [Option.map]
 refine wpAny_bind (m := setField (.ref I) 2 .none) (wpAny_setField ho hd (by simp) ?_)
 refine wpAny_bind (m := newExc (.type "StopIteration") []) ?_
 simp only [newExc, newTuple]
 refine wpAny_bind (wpAny_newObj_type (wpAny_bind (m := firstArgMember _ _) (wpAny_of_eq (a := Value.none) (by first | rfl | (simp only [firstArgMember]; rfl)) ?_)) (by size_fits))
 refine wpAny_newObj_type ?_ (by size_fits)
 simp only [raiseNew]
 refine wpAny_bind (wpAny_handled ?_)
 rw [show A.in1.handled = none from hh]
 refine wpAny_bind (wpAny_pure (wpAny_throw ?_))
 refine wpAny_bind (wpAny_isInstance (T := "StopIteration") (b := true) ⟨_, Heap.get?_push_size _ rfl, rfl⟩ isSubtype_stop ?_)
 exact wpAny_pure (q _ (((Heap.SameBut.update ..).extBut.push _).push _))
theorem zP {r : Addr} {Q : Bool -> Shared -> Prop} (hT : s.TypeIs (.ref r) "set") (h : Q false s) : wpAny (model prog w) A (Builtin.List.listLengthHint (.ref r)) Q E s := by
 unfold Builtin.List.listLengthHint
 refine wpAny_bind (wpAny_specialOf hT F.slot_set_len.lookup ?_)
 generalize hid : ("set.__len__" : String) = id0
 wp_delta
 rw [show splitId id0 = some ("set", "__len__") from by subst hid; decide +kernel]
 subst hid
 refine wpAny_bind (wpAny_isInstance (T := "set") (b := true) hT sub_set_self ?_)
 refine wpAny_ite_split (fun hab => absurd hab (by decide)) (fun _ => ?_)
 refine wpAny_ite_split (fun _ => ?_) (fun hab => absurd (by decide +kernel) hab)
 exact wpAny_bind (wpAny_typeOf hT (wpAny_pure h))
theorem aCk {Q : Value -> Shared -> Prop} {n i : Nat} (hit : IterAt w s.heap I S t n ep i) (h : Q (.ref I) s) : wpAny (model prog w) A (pyIter (.ref I)) Q E s := by
 refine wpAny_pyIter_slot hit.ty uY (wpAny_call_entry uY hit.ty aDa ?_ (aCd _))
 show wpAny _ _ (ret (.ref I)) _ _ s
 exact wpAny_pure ⟨_, rfl, "set_iterator", _, hit.ty, sl_next.lookup, h⟩
theorem wZ (hh : A.handled = none) (hne : S ≠ I) :
  Walks prog w A I [I, S] [I] es.size (fun i v => ∃ e, (sV w S ep es)[i]? = some e /\ v = e.2) (fun i h => IterAt w h I S t es.size ep i /\ ∃ o, SetW w h S hs o es ep t) where
 sub := fun b hb => List.mem_cons.mpr (.inl (List.mem_singleton.mp hb))
 frame := fun i h h' st hk => by
  obtain ⟨⟨oI, h1, h2, h3⟩, o, R⟩ := st
  exact ⟨⟨oI, hk I (by simp) oI h1, h2, h3⟩, o, ⟨hk S (by simp) o R.g, R.x, R.d, R.pl, R.ld, R.tb, R.sz⟩⟩
 item := fun i s Q E hi st hQ => by
  obtain ⟨st1, o, R⟩ := st
  have ol : i < (sV w S ep es).size := by rw [mH]; exact hi
  refine aC3 st1 R hi (Array.getElem?_eq_getElem ol) fun h' hit' sb => hQ _ h' s.toks ⟨_, Array.getElem?_eq_getElem ol, rfl⟩ ⟨hit', o, ⟨(sb.2 S hne).trans R.g, R.x, R.d, R.pl, R.ld, R.tb, R.sz⟩⟩ fun b o hb e => (sb.2 b fun z => hb (by simp [z])).trans e
 done := fun s Q E st hQ => by
  obtain ⟨st1, o, R⟩ := st
  exact aF4 hh st1 R fun h' he' => hQ h' s.toks fun b o hb e => he' b o (fun z => hb (by simp [z])) e
 self := fun _ _ _ _ st hQ => aCk st.1 hQ
theorem aCb : PySem.W.KdlSrc prog w "set" S S es.size (fun i v => ∃ e, (sV w S ep es)[i]? = some e /\ v = e.2) (fun h => ∃ o, SetW w h S hs o es ep t) where
 type := fun s ⟨o, R⟩ => R.ty
 there := fun h ⟨o, R⟩ => ⟨Heap.lt_size R.g, Heap.lt_size R.g⟩
 keep := fun h h' ⟨o, R⟩ hk => ⟨o, ⟨hk S (.inl rfl) o R.g, R.x, R.d, R.pl, R.ld, R.tb, R.sz⟩⟩
 notList := by decide
 notTuple := by decide
 hint := fun A E s Q ⟨o, R⟩ hq => zP R.ty hq
 iter := fun A s hh ⟨o, R⟩ => ⟨_, _, (fun E Q hq => yQ R hq), wZ (hs := hs) (t := t) hh (Nat.ne_of_lt (Heap.lt_size R.g)), ⟨_, Heap.get?_push_size _ rfl, rfl, 0, 0, 0, 0, by
  have : slotAt w t 0 = 0 := by unfold slotAt; split <;> rfl
  rw [this]
  rfl⟩, o, ⟨Heap.get?_push_of_some _ R.g, R.x, R.d, R.pl, R.ld, R.tb, R.sz⟩⟩
end
end HS
namespace L2
open PySem PySem.Spec PyProof.Rows
theorem u7 {α β : Type} (f : α -> β) {a b : List β} (h : a.Perm b) : ∀ m : List α, m.map f = b -> ∃ l : List α, l.Perm m /\ l.map f = a := by
 induction h with
 | nil =>
  intro m e
  rw [List.map_eq_nil_iff.mp e]
  exact ⟨[], List.Perm.refl _, rfl⟩
 | cons x _ ih =>
  intro m e
  cases m with
  | nil => cases e
  | cons y m =>
   injection e with e1 e2
   obtain ⟨l, p, q⟩ := ih m e2
   exact ⟨y :: l, p.cons y, by rw [List.map_cons, q, e1]⟩
 | swap x y l =>
  intro m e
  match m, e with
  | p :: q :: m, e =>
   injection e with e1 e2
   injection e2 with e2 e3
   exact ⟨q :: p :: m, List.Perm.swap p q m, by rw [List.map_cons, List.map_cons, e1, e2, e3]⟩
 | trans _ _ ih1 ih2 =>
  intro m e
  obtain ⟨l, p, q⟩ := ih2 m e
  obtain ⟨l2, p2, q2⟩ := ih1 l q
  exact ⟨l2, p2.trans p, q2⟩
theorem gP {α : Type} [DecidableEq α] : ∀ {l m : List α}, l.Nodup -> m.Nodup -> (∀ x, x ∈ l ↔ x ∈ m) -> l.Perm m
 | [], m, _, _, h => by
  cases m with
  | nil => exact List.Perm.refl _
  | cons x m => exact absurd ((h x).mpr (.head _)) (List.not_mem_nil)
 | x :: l, m, h1, h2, h => by
  obtain ⟨n1, n2⟩ := List.nodup_cons.mp h1
  have hx := (h x).mp (.head _)
  have p := List.perm_cons_erase hx
  refine (List.Perm.cons x (gP n2 (List.Pairwise.sublist (List.erase_sublist) h2) fun y => ?_)).trans p.symm
  by_cases e : y = x
  ·subst e
   constructor
   ·exact fun z => absurd z n1
   ·exact fun z => absurd z (by
     have := p.nodup_iff.mp h2
     exact (List.nodup_cons.mp this).1)
  ·rw [List.mem_erase_of_ne e, <- h y, List.mem_cons]
   exact ⟨fun z => .inr z, fun z => z.resolve_left e⟩
theorem xQ {f : Nat -> List Int} {k : List Int} : ∀ {n : Nat}, k ∈ HS.uK f n ↔ ∃ i, i < n /\ f i = k
 | 0 => ⟨(fun h => nomatch h), fun ⟨i, h, _⟩ => absurd h (Nat.not_lt_zero _)⟩
 | n + 1 => by
  have ih := xQ (f := f) (k := k) (n := n)
  unfold HS.uK
  constructor
  ·intro h
   split at h
   ·obtain ⟨i, h1, h2⟩ := ih.mp h
    exact ⟨i, Nat.lt_succ_of_lt h1, h2⟩
   ·rcases List.mem_cons.mp h with z | z
    ·exact ⟨n, Nat.lt_succ_self _, z.symm⟩
    ·obtain ⟨i, h1, h2⟩ := ih.mp z
     exact ⟨i, Nat.lt_succ_of_lt h1, h2⟩
  ·rintro ⟨i, h1, h2⟩
   rcases Nat.lt_or_ge i n with z | z
   ·have := ih.mpr ⟨i, z, h2⟩
    split
    ·exact this
    ·exact .tail _ this
   ·have : i = n := by omega
    subst this
    split
    ·rename_i y
     rw [<- h2]; exact y
    ·rw [h2]; exact .head _
section
variable {X : Cx}
def vOf (v : Value) : V := match v with
 | .ref b => .ref b
 | _ => .non
theorem aCu : bootBuiltins "set" = some (.type "set") := by decide +kernel
theorem sH : bootBuiltins "sorted" = some (.builtin "sorted") := by decide +kernel
def tSS (K : PySem.W.Frag) (te : TE) : TE := fun σ H Q => te σ H fun x H1 => ∃ a xs ks, x = .ref a /\ SqL K H1 a xs /\ SRT.aEs H1 xs ks /\ ks.length < 64 /\
 ∀ ts ks2 D q, ks2.Nodup -> (∀ k, k ∈ ks2 ↔ k ∈ ks) -> SRT.aEs H1 ts ks2 -> H1 D = none -> SRT.Pm ts.length q -> SRT.Sd (SRT.aEh ks2) q ts.length -> Q (.ref D) (upd H1 D (.lst (q.toList.map fun i => ts.getD i .non)))
theorem qA : ∀ {xs : List V} {us : List Value}, Vals xs us -> ∀ (i : Nat) v, us[i]? = some v -> ∃ x, xs[i]? = some x /\ RelV x v
 | _, _, .nil, i, v, h => by simp at h
 | _, _, .cons r t, 0, v, h => by
  simp at h
  exact ⟨_, rfl, h ▸ r⟩
 | _, _, .cons r t, i + 1, v, h => qA t i v h
theorem aC2 {P : Program} {w : World} {H : Hp} {h : Heap} {b : Addr} {k : List Int} (ok : HOk P w H h) (e : H b = some (.tup (k.map V.int))) : HS.IK P w h k b := by
 obtain ⟨_, its, rv, o, ho, hc, n, hd⟩ := (show ObjOk P w H h b (.tup (k.map V.int)) from ok b _ e)
 refine ⟨o, its.toArray, n, ho, hc, hd, ?_⟩
 rw [List.toList_toArray]
 have key : ∀ {ns : List Int} {vs : List Value}, IntsAre vs ns -> ItemsAre (intKind P w) ns vs := by
  intro ns vs q
  induction q with
  | nil => exact .nil
  | cons i t _ ih => exact .cons (intKind_is _ _ _ _) ih
 exact key (intsAre_of rv)
theorem aAd {pins : List (Addr × Obj)} {s1 : Shared} {σ : St} {H1 : Hp} {a : Addr} {xs : List V} {ks : List (List Int)} {A : Around} {E : Value -> Shared -> Prop} {Q : Value -> Shared -> Prop} (I1 : Inv X pins σ H1 s1) (hh : A.handled = none) (hu : A.units + 10 < cLine) (hq : SqL X.K H1 a xs) (hr : SRT.aEs H1 xs ks) (h64 : ks.length < 64)
  (q : ∀ h' tk, HS.SetK X.prog X.w h' s1.heap.objs.size (HS.uK (fun i => ks.getD i []) ks.length) (fun b => ∃ k : List Int, H1 b = some (.tup (k.map V.int))) -> (∀ b o, s1.heap.get? b = some o -> h'.get? b = some o) -> Q (.ref s1.heap.objs.size) { s1 with heap := h', toks := tk }) :
  wpAny (model X.prog X.w) A (call (.type "set") [.ref a]) Q E s1 := by
 obtain ⟨its, rv, pl, _⟩ := I1.list hq
 have hlen := rv.length
 have sz : its.toArray.size = ks.length := by rw [List.size_toArray, <- hlen, hr.1]
 refine HS.yE (prog := X.prog) (w := X.w) hh hu (fun i => ks.getD i []) pl.isList (by rw [sz]; omega) (L := fun b => ∃ k : List Int, H1 b = some (.tup (k.map V.int))) (fun b ⟨k, hb⟩ => ?_) (fun i v hv => ?_) fun h' tk T kp ht => ?_
 ·obtain ⟨o, _, _, ho, _⟩ := aC2 I1.hok hb
  exact Heap.lt_size ho
 ·rw [List.getElem?_toArray] at hv
  obtain ⟨x, hx, rx⟩ := qA rv i v hv
  have il : i < ks.length := by rw [<- hr.1]; exact (List.getElem?_eq_some_iff.mp hx).1
  obtain ⟨⟨b, eb, hb⟩, _⟩ := hr.2 i x ks[i] hx (List.getElem?_eq_getElem il)
  subst eb
  refine ⟨b, rx, ⟨_, hb⟩, ?_⟩
  have : ks.getD i [] = ks[i] := by simp [List.getD, il]
  rw [this]
  exact aC2 I1.hok hb
 ·rw [sz] at T
  exact q h' tk T kp
theorem sO {e : Expr} {te : TE} {p1 p2 pos1 pos2 : Pos} (hc : X.calm = true) (hu : X.A.units + 64 < cLine) (hg1 : Gl X "sorted") (hm1 : X.mg "sorted" = none) (hg2 : Gl X "set") (hm2 : X.mg "set" = none) (he : PE X e te)
  (hs1 : starEach [.Call (.Name "set" p2) [e] [] pos2] X.env = (false, eval (.Call (.Name "set" p2) [e] [] pos2) X.env) :: starEach [] X.env := by rfl) (hs2 : starEach [e] X.env = (false, eval e X.env) :: starEach [] X.env := by rfl) :
  PE X (.Call (.Name "sorted" p1) [.Call (.Name "set" p2) [e] [] pos2] [] pos1) (tSS X.K te) := by
 intro pins s σ H Q I h
 refine wpAny_Call_Name_kw (iH I hg1 hm1 sH (PyProof.Rows.callWith_builtin1 ?_ hs1 rfl))
 rw [hs1]
 show wpAny _ _ (spliced ((false, eval _ X.env) :: backTo pos1 (starEach [] X.env))) _ _ s
 refine Calls.spliced_cons (wpAny_Call_Name_kw (iH I hg2 hm2 aCu (PyProof.Rows.callWith_type1 ?_ hs2 rfl)))
 rw [hs2]
 show wpAny _ _ (spliced ((false, eval _ X.env) :: backTo pos2 (starEach [] X.env))) _ _ s
 refine Calls.spliced_cons (thn (he pins s σ H _ I h) fun u s1 ⟨x, H1, I1, r1, a, xs, ks, ex, hq, hr, h64, q⟩ => Calls.spliced_nil ?_)
 subst ex
 cases (show u = Value.ref a from r1)
 refine aAd I1 (I.ok.hd hc) (by omega) hq hr h64 fun h' tk T kp => Calls.spliced_nil ?_
 obtain ⟨ks', o, es, ep, t, pm, ft, lo, R⟩ := T
 have I2 : Inv X pins σ H1 { s1 with heap := h', toks := tk } := I1.kept (t' := tk) kp
 have mem : ∀ k, k ∈ ks' ↔ k ∈ ks := fun k => by
  rw [pm.mem_iff, xQ]
  constructor
  ·rintro ⟨i, h1, h2⟩
   rw [<- h2]
   have : ks.getD i [] = ks[i] := by simp [List.getD, h1]
   rw [this]
   exact List.getElem_mem h1
  ·intro hk
   obtain ⟨i, hi, e⟩ := List.mem_iff_getElem.mp hk
   exact ⟨i, hi, by rw [<- e]; simp [List.getD, hi]⟩
 have pl : ks'.length < 64 := by
  have := HS.l7 (fun i => ks.getD i []) ks.length
  rw [pm.length_eq]
  omega
 have hes : (es.toList.zip ks').map Prod.fst = es.toList := by
  rw [List.map_fst_zip]
  rw [Array.length_toList, R.sz]
  exact Nat.le_refl _
 obtain ⟨pr, pp, pe⟩ := u7 Prod.fst (HS.rD X.w s1.heap.objs.size ep es) (es.toList.zip ks') hes
 have pk : (pr.map Prod.snd).Perm ks' := by
  have := pp.map Prod.snd
  rw [List.map_snd_zip (by have := R.sz; rw [<- Array.length_toList] at this; omega)] at this
  exact this
 have each : ∀ p ∈ pr, ∃ b, p.1.2 = Value.ref b /\ H1 b = some (.tup (p.2.map V.int)) := fun p hp => by
  have hz := pp.mem_iff.mp hp
  obtain ⟨i, hi, e⟩ := List.mem_iff_getElem.mp hz
  rw [List.getElem_zip] at e
  rw [List.length_zip] at hi
  have ik : i < ks'.length := by omega
  obtain ⟨b, h1, h2⟩ := R.at' i ks'[i] (List.getElem?_eq_getElem ik)
  have ie : i < es.size := by rw [R.sz]; exact ik
  rw [Array.getElem?_eq_getElem ie] at h1
  have h1 := Option.some.inj h1
  obtain ⟨c, e1, k2, e2⟩ := lo _ (Array.getElem_mem ie)
  rw [h1] at e1
  cases e1
  have ik2 := aC2 I2.hok e2
  have : k2 = ks'[i] := ik2.inj h2
  rw [<- e]
  refine ⟨b, ?_, ?_⟩
  ·show (es.toList[i]).2 = _
   rw [Array.getElem_toList, h1]
  ·show H1 b = some (.tup ((ks'[i]).map V.int))
   rw [<- this]
   exact e2
 have rts : SRT.aEs H1 (pr.map fun p => vOf p.1.2) (pr.map Prod.snd) := by
  refine ⟨by rw [List.length_map, List.length_map], fun i t k e1 e2 => ?_⟩
  rw [List.getElem?_map] at e1 e2
  cases ep' : pr[i]? with
  | none => rw [ep'] at e1; cases e1
  | some p =>
   rw [ep'] at e1 e2
   cases e1
   cases e2
   have hp := List.mem_of_getElem? ep'
   obtain ⟨b, h1, h2⟩ := each p hp
   refine ⟨⟨b, by show vOf p.1.2 = _; rw [h1]; rfl, h2⟩, ?_⟩
   have hk : p.2 ∈ ks := (mem _).mp (pk.mem_iff.mp (List.mem_map.mpr ⟨p, hp, rfl⟩))
   obtain ⟨j, hj, ej⟩ := List.mem_iff_getElem.mp hk
   have xl : j < xs.length := by rw [hr.1]; exact hj
   have := (hr.2 j xs[j] ks[j] (List.getElem?_eq_getElem xl) (List.getElem?_eq_getElem hj)).2
   rw [<- ej]
   exact this
 have rv : Vals (pr.map fun p => vOf p.1.2) (pr.map fun p => p.1.2) := by
  have : ∀ l : List ((Int × Value) × List Int), (∀ p ∈ l, ∃ b, p.1.2 = Value.ref b /\ H1 b = some (.tup (p.2.map V.int))) -> Vals (l.map fun p => vOf p.1.2) (l.map fun p => p.1.2) := by
   intro l
   induction l with
   | nil => exact fun _ => .nil
   | cons p l ih =>
    intro hl
    obtain ⟨b, h1, _⟩ := hl p (.head _)
    refine .cons ?_ (ih fun x hx => hl x (.tail _ hx))
    show RelV (vOf p.1.2) p.1.2
    rw [h1]
    rfl
  exact this pr each
 have prl : pr.length = ks'.length := by
  have := pk.length_eq
  rw [List.length_map] at this
  exact this
 have ev : (HS.sV X.w s1.heap.objs.size ep es).toList.map (·.2) = pr.map fun p => p.1.2 := by
  rw [<- pe, List.map_map]
  rfl
 refine SRT.r8 (s := { s1 with heap := h', toks := tk }) (Ok := fun vs => vs = pr.map fun p => p.1.2) (fun R0 hR => ?_) (pr.map Prod.snd) (fun vs e => ⟨e ▸ SRT.vH I2.hok rts rv, by rw [e, List.length_map]; omega⟩) fun h2 hf tk2 c vs q' k1 k2 e p1 p2 hc2 => ?_
 ·refine PySem.W.kdu_collect (A := X.A.in1) (s := { s1 with heap := h', toks := tk }) (HS.aCb (prog := X.prog) (w := X.w) (hs := ks'.map (HS.hK X.prog X.w)) (t := t) (es := es) (ep := ep)) (I.ok.hd hc) ⟨o, R.w⟩ (by rw [R.sz, sizeLine_eq]; omega) fun h2 tk2 acc hk hacc => hR h2 tk2 _ hk ?_
  rw [<- ev]
  apply List.ext_getElem?
  intro i
  rw [Array.getElem?_toList, List.getElem?_map, Array.getElem?_toList]
  rcases Nat.lt_or_ge i acc.size with z | z
  ·obtain ⟨x, e1, e2⟩ := hacc.2 i acc[i] (Array.getElem?_eq_getElem z)
   rw [Array.getElem?_eq_getElem z, e1, e2]
   rfl
  ·rw [Array.getElem?_eq_none z, Array.getElem?_eq_none (by rw [HS.mH, <- hacc.1]; exact z)]
   rfl
 ·have hlen := rv.length
  subst e
  exact SRT.yK I2 rv (by rw [List.length_map]; omega) k1 k2 p1 hc2 fun D hD => q _ _ D q' (pk.nodup_iff.mpr R.nd) (fun k => by rw [pk.mem_iff]; exact mem k) rts hD (hlen ▸ p1) (hlen ▸ p2)
end
end L2
namespace M
open PySem PySem.Spec PyProof.Rows L2
def ddK : List (List Int) -> List (List Int)
 | [] => []
 | k :: r => if k ∈ ddK r then ddK r else k :: ddK r
theorem ddK_mem {x : List Int} : ∀ {ks : List (List Int)}, x ∈ ddK ks ↔ x ∈ ks
 | [] => Iff.rfl
 | k :: r => by
  have ih := ddK_mem (x := x) (ks := r)
  unfold ddK
  split
  ·rename_i z
   rw [ih, List.mem_cons]
   constructor
   ·exact .inr
   ·rintro (e | e)
    ·rw [e]; exact ddK_mem.mp z
    ·exact e
  ·rw [List.mem_cons, List.mem_cons, ih]
theorem pY : ∀ ks : List (List Int), (ddK ks).Nodup
 | [] => List.Pairwise.nil
 | k :: r => by
  unfold ddK
  split
  ·exact pY r
  ·rename_i z
   exact List.nodup_cons.mpr ⟨z, pY r⟩
def fK (x : Ev) : Res Ev := match d6 x with
 | some ds => match nQ ds with
  | some ks => if (ks.all fun k => !k.isEmpty) = true /\ ks.length < 64 then .ok (.f (.list ((iU (ddK ks)).map pD))) else .bad
  | none => .bad
 | none => .bad
theorem aGz {ks : List (List Int)} (h : (ks.all fun k => !k.isEmpty) = true) : ∀ k ∈ ks, k ≠ [] := fun k hk z => by
 have := List.all_eq_true.mp h k hk
 rw [z] at this
 cases this
theorem aEn {ks ks2 : List (List Int)} (nd : ks2.Nodup) (hm : ∀ k, k ∈ ks2 ↔ k ∈ ks) : ks2.Perm (ddK ks) := gP nd (pY ks) fun x => by rw [hm, ddK_mem]
theorem sI {X : Cx} {E : L2.St -> XK} {e : Expr} {fe : En -> Res Ev} {p1 p2 pos1 pos2 : Pos} (hc : X.calm = true) (hu : X.A.units + 64 < cLine) (hg1 : Gl X "sorted") (hm1 : X.mg "sorted" = none) (hg2 : Gl X "set") (hm2 : X.mg "set" = none) (he : DE X E e fe)
  (hs1 : starEach [.Call (.Name "set" p2) [e] [] pos2] X.env = (false, eval (.Call (.Name "set" p2) [e] [] pos2) X.env) :: starEach [] X.env := by rfl) (hs2 : starEach [e] X.env = (false, eval e X.env) :: starEach [] X.env := by rfl) :
  DE X E (.Call (.Name "sorted" p1) [.Call (.Name "set" p2) [e] [] pos2] [] pos1) (mUn fK fe) := by
 obtain ⟨t, q, m⟩ := he.out
 refine DE.in ⟨_, sO hc hu hg1 hm1 hg2 hm2 q hs1 hs2, fun B G0 G W H σ en Q hh hs hw => m B G0 G W H σ en _ hh hs ?_⟩
 have hw : wpR ((fe en).bind _) _ _ := hw
 rw [a8] at hw
 refine aU hw (fun r hr G1 H1 v s e => ?_) fun C h => h
 obtain ⟨G2, s2, e2⟩ := e.c s
 unfold fK at hr
 cases el : d6 r.c with
 | none => rw [el] at hr; exact hr.elim
 | some ds =>
  rw [el] at hr
  dsimp only at hr
  cases ek : nQ ds with
  | none => rw [ek] at hr; exact hr.elim
  | some ks =>
   rw [ek] at hr
   dsimp only at hr
   by_cases hz : (ks.all fun k => !k.isEmpty) = true /\ ks.length < 64
   ·rw [if_pos hz] at hr
    obtain ⟨a, xs, rfl, h1, h2⟩ := iD s2.gh e2 el
    cases (qE ek)
    refine ⟨a, xs, ks, rfl, .inl h1, wM s2.gh h2 (aGz hz.1), hz.2, fun ts ks2 D q nd hm rf hD hp hS => ?_⟩
    have hl : ts.length = ks2.length := rf.1
    have pk := picked hl hp hS
    have se : iU ks2 = iU (ddK ks) := fU ((cD ks2).trans ((aEn nd hm).trans (cD _).symm)) (cW _) (cW _)
    have st := (s2.trans (aCs s2.gh)).trans (Step.lay (o := .lst (q.toList.map fun i => ts.getD i .non)) (aB9 s2.gh) hD)
    refine hr _ _ _ st ⟨D, _, rfl, s2.h.free hD, (aB9 s2.gh).free hD, bB, .lst ?_⟩
    rw [<- se, <- pk]
    refine oE (fun i hi => ?_) _ (fun i hi => by rw [<- hl]; exact aIn hp i hi)
    have hi' : i < ts.length := by omega
    obtain ⟨⟨b, eb, hb⟩, _⟩ := rf.2 i ts[i] ks2[i] (List.getElem?_eq_getElem hi') (List.getElem?_eq_getElem hi)
    have e1 : ts.getD i .non = ts[i] := by simp [hi']
    have e2 : ks2.getD i [] = ks2[i] := by simp [hi]
    rw [e1, e2, eb]
    exact zE (aHf s2.gh hb)
   ·rw [if_neg hz] at hr
    exact hr.elim
end M
namespace N
open PySem PySem.Spec PyProof.Rows L2 M
def frD (x : Int × Int) : D := .tuple [.int x.1, .int x.2]
abbrev Pl := Int × Int × (Int × Int)
def plD (p : Pl) : D := .tuple [.int p.1, .int p.2.1, frD p.2.2]
def slD (p : Int × Int) : D := .tuple [.int p.1, .int p.2]
theorem at0 {α : Type} (x : α) (r : List α) : atI (x :: r) 0 = some x := mK (j := 0) rfl
theorem at1 {α : Type} (x y : α) (r : List α) : atI (x :: y :: r) 1 = some y := mK (j := 1) rfl
theorem at2 {α : Type} (x y z : α) (r : List α) : atI (x :: y :: z :: r) 2 = some z := mK (j := 2) rfl
theorem nJ (i j : Int) : PyData.eqv (.int i) (.int j) = (i == j) := by simp [PyData.eqv]
theorem kL (i : Int) : SeqAt.shaped (.int i) = true := by simp [SeqAt.shaped, PyData.canLay0, PyData.depth]
theorem gO {α : Type} {g : D -> Option (Option D)} {enc : α -> D} {out : α -> D} : ∀ xs : List α, (∀ x ∈ xs, g (enc x) = some (some (out x))) -> sX g (xs.map enc) = some (xs.map out)
 | [], _ => rfl
 | x :: xs, h => by
  show (match g (enc x) with | none => none | some o => match sX g (xs.map enc) with | none => none | some r => some (match o with | some y => y :: r | none => r)) = _
  rw [h x (.head _), gO xs fun y hy => h y (.tail _ hy)]
  rfl
open Classical in
noncomputable def mOf {α : Type} (enc : α -> List L) (P : α -> Prop) (g : α -> Res L) (ls : List L) : Res L := if h : ∃ a, enc a = ls /\ P a then g h.choose else .bad
theorem kU {α : Type} {enc : α -> List L} {P : α -> Prop} {g : α -> Res L} (inj : ∀ a b, enc a = enc b -> a = b) {a : α} (h : P a) : mOf enc P g (enc a) = g a := by
 have hx : ∃ b, enc b = enc a /\ P b := ⟨a, rfl, h⟩
 unfold mOf
 rw [dif_pos hx, inj _ _ hx.choose_spec.1]
theorem kY {α : Type} {enc : α -> List L} {P : α -> Prop} {g : α -> Res L} {n : Nat} {f : MS} (h : ∀ a, P a -> fM n f (enc a) = g a) : ∀ ls, mOf enc P g ls = .bad \/ fM n f ls = mOf enc P g ls := by
 intro ls
 unfold mOf
 by_cases hx : ∃ a, enc a = ls /\ P a
 ·rw [dif_pos hx]
  exact .inr ((congrArg _ hx.choose_spec.1.symm).trans (h _ hx.choose_spec.2))
 ·exact .inl (dif_neg hx)
theorem mW (a : D) (r : List D) : ixE (.p (.tuple (a :: r))) (.p (.int 0)) = .ok (.p a) := by simp [ixE, gE, at0]
theorem nR (a b : D) (r : List D) : ixE (.p (.tuple (a :: b :: r))) (.p (.int 1)) = .ok (.p b) := by simp [ixE, gE, at1]
theorem vB (a b d : D) (r : List D) : ixE (.p (.tuple (a :: b :: d :: r))) (.p (.int 2)) = .ok (.p d) := by simp [ixE, gE, at2]
theorem xF (p : Pl) : ixE (.p (plD p)) (.p (.int 0)) = .ok (.p (.int p.1)) := mW _ _
theorem v9 (p : Pl) : ixE (.p (plD p)) (.p (.int 1)) = .ok (.p (.int p.2.1)) := nR _ _ _
theorem xM (p : Pl) : ixE (.p (plD p)) (.p (.int 2)) = .ok (.p (frD p.2.2)) := vB _ _ _ _
theorem xG (p : Int × Int) : ixE (.p (frD p)) (.p (.int 0)) = .ok (.p (.int p.1)) := mW _ _
theorem s8 (p : Int × Int) : ixE (.p (frD p)) (.p (.int 1)) = .ok (.p (.int p.2)) := nR _ _ _
section
variable {κ α : Type} [DecidableEq κ]
variable {ek : κ -> D} {ev : α -> D} (inj : ∀ a b, ek a = ek b -> a = b)
include inj
end
theorem gS (a b : Int × Int) (h : slD a = slD b) : a = b := by
 unfold slD at h
 injection h with h
 injection h with h1 h2
 injection h2 with h2 _
 injection h1 with h1
 injection h2 with h2
 exact Prod.ext h1 h2
theorem cm {i j : Int} {m n : Nat} (h1 : Sz m i) (h2 : Sz n j) (hm : m <= 60000) (hn : n <= 60000) : CMulW i j := ⟨h1.mono hm, h2.mono hn⟩
theorem eH {a b : Int} (hb : 0 < b) : 0 <= a.fmod b /\ a.fmod b < b := by
 rw [Int.fmod_eq_emod_of_nonneg a (Int.le_of_lt hb)]
 exact ⟨Int.emod_nonneg a (by omega), Int.emod_lt_of_pos a hb⟩
theorem aJ {f g : MS} {en e1 : En} (h : f en = some (.nx e1)) : b8 f g en = g e1 := by unfold b8; rw [h]
theorem bV {f g : MS} {en : En} {l : L} (h : f en = some (.rt l)) : b8 f g en = some (.rt l) := by unfold b8; rw [h]
theorem iL {i : Nat} {fe : En -> Res Ev} {en : En} {d : D} (h : fe en = .ok (.p d)) : eE i fe en = some (.nx (en.set i (some (.p d)))) := by unfold eE; rw [h]
theorem fP {i : Nat} {fe : En -> Res Ev} {en : En} {d : D} (h : fe en = .ok (.f d)) : eE i fe en = some (.nx (en.set i (some (.o d)))) := by unfold eE; rw [h]
theorem iR {ft : En -> Res Bool} {f g : MS} {en : En} (h : ft en = .ok true) : fR ft f g en = f en := by unfold fR; rw [h]; rfl
theorem dS {ft : En -> Res Bool} {f g : MS} {en : En} (h : ft en = .ok false) : fR ft f g en = g en := by unfold fR; rw [h]; rfl
theorem dO {n : Nat} {f : MS} {ls : List L} {l : L} (h : f (bZ n ls) = some (.rt l)) : fM n f ls = .ok l := by unfold fM; rw [h]
theorem pO {α : Type} (f : α -> D) (h : ∀ a, PyData.canLay0 (f a) = true) : ∀ xs : List α, PyData.canLayAll0 (xs.map f) = true
 | [] => rfl
 | x :: xs => by rw [List.map_cons, PyData.canLayAll0, h x, pO f h xs]; rfl
theorem pI {α : Type} (f : α -> D) (n : Nat) (h : ∀ a, PyData.depth (f a) <= n) : ∀ xs : List α, PyData.depthAll (xs.map f) <= n
 | [] => Nat.zero_le _
 | x :: xs => by
  rw [List.map_cons, PyData.depthAll]
  exact Nat.max_le.mpr ⟨h x, pI f n h xs⟩
theorem aEa {α : Type} (f : α -> D) (h1 : ∀ a, PyData.canLay0 (f a) = true) (h2 : ∀ a, PyData.depth (f a) <= 9) (xs : List α) : SeqAt.shaped (.list (xs.map f)) = true := by
 have a : PyData.canLay0 (.list (xs.map f)) = true := by rw [PyData.canLay0]; exact pO f h1 xs
 have b : PyData.depth (.list (xs.map f)) <= 64 := by
  rw [PyData.depth]
  have := pI f 9 h2 xs
  omega
 unfold SeqAt.shaped
 rw [a, decide_eq_true b]
 rfl
theorem rK {x y : Ev} {d : D} (h1 : dat x = some d) (h2 : dat y = some d) (hs : SeqAt.shaped d = true) (ng : Bool) : eqE ng x y = .ok (.p (.bool (!ng))) := by
 have hc : PyData.canLay0 d = true := by
  unfold SeqAt.shaped at hs
  exact (Bool.and_eq_true_iff.mp hs).1
 unfold eqE
 rw [h1, h2]
 dsimp only
 rw [if_pos ⟨hs, hs⟩, SeqAt.eqv_refl d hc]
 cases ng <;> rfl
theorem o5 {fi : En -> Res (List D)} {tg : D -> En -> Option En} {f : MS} {en : En} {ds : List D} (h : fi en = .ok ds) : v7 fi tg f en = fQ tg f ds en := by unfold v7; rw [h]
theorem rQ {α : Type} {g : D -> Option (Option D)} {enc : α -> D} {out : α -> D} {p : α -> Bool} : ∀ xs : List α, (∀ x ∈ xs, g (enc x) = some (if p x = true then some (out x) else none)) -> sX g (xs.map enc) = some ((xs.filter p).map out)
 | [], _ => rfl
 | x :: xs, h => by
  show (match g (enc x) with | none => none | some o => match sX g (xs.map enc) with | none => none | some r => some (match o with | some y => y :: r | none => r)) = _
  rw [h x (.head _), rQ xs fun y hy => h y (.tail _ hy), List.filter_cons]
  cases p x <;> rfl
theorem tQ {α : Type} (f : α -> D) (h : ∀ a, lfD (f a) = true) : ∀ xs : List α, lfA (xs.map f) = true
 | [] => by simp [lfA]
 | x :: xs => by rw [List.map_cons]; unfold lfA; rw [h x, tQ f h xs]; rfl
theorem aJa (x : Int × Int) : lfD (slD x) = true := by simp [slD, lfD, lfA]
theorem Sz.addM {m n : Nat} {x y : Int} (hx : Sz m x) (hy : Sz n y) : Sz (max m n + 1) (x + y) := Sz.add (hx.mono (Nat.le_max_left _ _)) (hy.mono (Nat.le_max_right _ _))
theorem Sz.subM {m n : Nat} {x y : Int} (hx : Sz m x) (hy : Sz n y) : Sz (max m n + 1) (x - y) := Sz.sub (hx.mono (Nat.le_max_left _ _)) (hy.mono (Nat.le_max_right _ _))
theorem cZ {i j : Int} (h : CMulW i j) : iS (.p (.int i)) (.p (.int j)) = .ok (.p (.int (i * j))) := by simp [iS, qC, h]
theorem gZ {i j : Int} (h : mL i j) : iM (.p (.int i)) (.p (.int j)) = .ok (.p (.int (i.fdiv j))) := by simp [iM, qC, h]
theorem eR {i j : Int} (h : j ≠ 0) : fO (.p (.int i)) (.p (.int j)) = .ok (.p (.int (i.fmod j))) := by simp [fO, qC, h]
theorem wX {i j : Int} (h : aBe i j) : mR (.p (.int i)) (.p (.int j)) = .ok (.p (.int (i ^ j.toNat))) := by simp [mR, qC, h]
theorem cI (i j : Int) : eD (.p (.int i)) (.p (.int j)) = .ok (.p (.int (i + j))) := by simp [eD]
theorem iC (i j : Int) : lB (.p (.int i)) (.p (.int j)) = .ok (.p (.int (i - j))) := by simp [lB, eU]
abbrev Pt := (Int × Int) × (Int × Int)
theorem uS {α β : Type} (a : α) (f : α -> Res β) : (Res.ok a).bind f = f a := rfl
theorem aAc {fe : En -> Res Ev} {en : En} {d : D} (h : fe en = .ok (.f d)) : dI fe en = some (.rt (.o d)) := by unfold dI; rw [h]; rfl
theorem eM {fe : En -> Res Ev} {en : En} {d : D} (h : fe en = .ok (.p d)) : dI fe en = some (.rt (.p d)) := by unfold dI; rw [h]; rfl
theorem kP {n : Nat} {js : List Nat} {fi : En -> Res (List D)} {tg : D -> En -> Option En} {ft : En -> Res Bool} {fe : En -> Res Ev} {en : En} {ds es : List D} (h1 : fi en = .ok ds) (h2 : ds.length <= 100000) (h3 : sX (bX n js tg ft fe en) ds = some es) : gN n js fi tg ft fe en = .ok (.f (.list es)) := by
 unfold gN
 rw [h1, uS]
 unfold aCa
 rw [if_pos h2, h3]
end N
local macro_rules | `(tactic| walk_at "z") => `(tactic| repeat (first | assumption | apply L2.Sz.mul | apply N.Sz.addM | apply N.Sz.subM | apply L2.Sz.neg | apply N.sz_fdiv | (apply N.sz_fmod; (first | decide | omega)) | exact N.sz_lit4 (by decide) | exact N.sz_lit (by decide) | exact N.sz_lit70 (by decide) | exact N.sz_big (by decide)))
local macro_rules | `(tactic| walk_at "d") => `(tactic| first | assumption | (first | apply N.cm2 | apply N.cd2) <;> (first | decide | omega | (walk_at "z")) | decide | omega)
namespace N
abbrev Q2 := Int × Int
def aA (a b c : Q2) : Int := (b.1 - a.1) * (c.2 - a.2) - (b.2 - a.2) * (c.1 - a.1)
def dJ (p : Q2) : List Q2 -> List Q2
 | k1 :: k2 :: r => if aA k2 k1 p <= 0 then dJ p (k2 :: r) else k1 :: k2 :: r
 | s => s
def pushS (s : List Q2) (p : Q2) : List Q2 := p :: dJ p s
def aS (ps : List Q2) : List Q2 := ps.foldl pushS []
def eS : List Q2 -> List (Q2 × Q2)
 | a :: b :: r => (b, a) :: eS (b :: r)
 | _ => []
def kC : List Q2 -> Prop
 | a :: b :: c :: r => 0 < aA c b a /\ kC (b :: c :: r)
 | _ => True
def sZ (l : List Q2) : Prop := l.Pairwise fun a b => a.1 < b.1
theorem rT {a b : Int} (ha : a <= 0) (hb : 0 <= b) : a * b <= 0 := by
 have := Int.mul_nonneg (show 0 <= -a by omega) hb
 rw [Int.neg_mul] at this
 omega
theorem wU {a b : Int} (ha : a < 0) (h : a * b <= 0) : 0 <= b := by
 by_cases z : 0 <= b
 ·exact z
 ·have := Int.mul_pos_of_neg_of_neg ha (show b < 0 by omega)
  omega
theorem aG7 {a b : Int} (ha : a < 0) (h : a * b < 0) : 0 < b := by
 by_cases z : 0 < b
 ·exact z
 ·have := Int.mul_nonneg_of_nonpos_of_nonpos (Int.le_of_lt ha) (show b <= 0 by omega)
  omega
theorem zT {a b c p : Q2} (h1 : b.1 < a.1) (h2 : c.1 < b.1) (h3 : p.1 < c.1) (t1 : 0 < aA a b c) (t2 : 0 < aA b c p) : 0 < aA a b p := by
 refine aG7 (a := c.1 - b.1) (by omega) ?_
 have e : (c.1 - b.1) * aA a b p = (p.1 - b.1) * aA a b c + (b.1 - a.1) * aA b c p := by unfold aA; grind
 rw [e]
 have x := Int.mul_neg_of_neg_of_pos (show p.1 - b.1 < 0 by omega) t1
 have y := Int.mul_neg_of_neg_of_pos (show b.1 - a.1 < 0 by omega) t2
 omega
theorem xA {k2 k1 p q : Q2} (h1 : k1.1 < k2.1) (h2 : p.1 < k2.1) (hq : q.1 <= k2.1) (l : 0 <= aA k2 k1 q) (t : aA k2 k1 p <= 0) : 0 <= aA k2 p q := by
 refine wU (a := k1.1 - k2.1) (by omega) ?_
 have e : (k1.1 - k2.1) * aA k2 p q = (p.1 - k2.1) * aA k2 k1 q + (k2.1 - q.1) * aA k2 k1 p := by unfold aA; grind
 rw [e]
 have x := rT (show p.1 - k2.1 <= 0 by omega) l
 have y := Int.mul_nonpos_of_nonneg_of_nonpos (show 0 <= k2.1 - q.1 by omega) t
 omega
theorem o9 {k2 k1 p q : Q2} (h1 : k1.1 < k2.1) (h2 : p.1 < k1.1) (hq : p.1 <= q.1) (l : 0 <= aA k1 p q) (t : aA k2 k1 p <= 0) : 0 <= aA k2 p q := by
 have e : (k1.1 - p.1) * aA k2 p q = (k2.1 - p.1) * aA k1 p q + (q.1 - p.1) * (- aA k2 k1 p) := by unfold aA; grind
 have x := Int.mul_nonneg (show 0 <= k2.1 - p.1 by omega) l
 have y := Int.mul_nonneg (show 0 <= q.1 - p.1 by omega) (show 0 <= - aA k2 k1 p by omega)
 have z : 0 <= (k1.1 - p.1) * aA k2 p q := by rw [e]; omega
 by_cases w : 0 <= aA k2 p q
 ·exact w
 ·have := Int.mul_neg_of_pos_of_neg (show 0 < k1.1 - p.1 by omega) (show aA k2 p q < 0 by omega)
  omega
theorem sQ {k' k p q : Q2} (h1 : k.1 < k'.1) (h2 : p.1 < k.1) (hq : k.1 <= q.1) (l : 0 <= aA k' k q) (t : 0 < aA k' k p) : 0 <= aA k p q := by
 have e : (k'.1 - k.1) * aA k p q = (k.1 - p.1) * aA k' k q + (q.1 - k.1) * aA k' k p := by unfold aA; grind
 have x := Int.mul_nonneg (show 0 <= k.1 - p.1 by omega) l
 have y := Int.mul_nonneg (show 0 <= q.1 - k.1 by omega) (Int.le_of_lt t)
 have z : 0 <= (k'.1 - k.1) * aA k p q := by rw [e]; omega
 by_cases w : 0 <= aA k p q
 ·exact w
 ·have := Int.mul_neg_of_pos_of_neg (show 0 < k'.1 - k.1 by omega) (show aA k p q < 0 by omega)
  omega
structure ChI (seen s : List Q2) : Prop where
 sub : s.Sublist seen
 hd : s.head? = seen.head?
 ls : s.getLast? = seen.getLast?
 conv : kC s
 left : ∀ e ∈ eS s, ∀ q ∈ seen, 0 <= aA e.1 e.2 q
theorem cP (p : Q2) : ∀ s : List Q2, dJ p s <:+ s
 | [] => by unfold dJ; exact List.suffix_refl _
 | [a] => by unfold dJ; exact List.suffix_refl _
 | k1 :: k2 :: r => by
  unfold dJ
  split
  ·exact (cP p (k2 :: r)).trans (List.suffix_cons _ _)
  ·exact List.suffix_refl _
theorem rG : ∀ (u t : List Q2), kC (u ++ t) -> kC t
 | [], _, h => h
 | a :: u, t, h => by
  refine rG u t ?_
  rw [List.cons_append] at h
  revert h
  generalize u ++ t = l
  intro h
  cases l with
  | nil => exact trivial
  | cons b l =>
   cases l with
   | nil => exact trivial
   | cons c r => exact h.2
theorem pL {s t : List Q2} (h : t <:+ s) (hc : kC s) : kC t := by
 obtain ⟨u, e⟩ := h
 rw [<- e] at hc
 exact rG u t hc
theorem oD (e : Q2 × Q2) : ∀ (u t : List Q2), e ∈ eS t -> e ∈ eS (u ++ t)
 | [], _, h => h
 | a :: u, t, h => by
  have ih := oD e u t h
  rw [List.cons_append]
  revert ih
  generalize u ++ t = l
  intro ih
  cases l with
  | nil => exact nomatch ih
  | cons b r => exact .tail _ ih
theorem hZ {s t : List Q2} (h : t <:+ s) (e : Q2 × Q2) (he : e ∈ eS t) : e ∈ eS s := by
 obtain ⟨u, eu⟩ := h
 rw [<- eu]
 exact oD e u t he
theorem vV {p : Q2} {seen : List Q2} : ∀ {s : List Q2}, (∀ k ∈ s, p.1 < k.1) -> sZ s -> (∀ e ∈ eS s, ∀ q ∈ seen, 0 <= aA e.1 e.2 q) -> (∀ q ∈ seen, p.1 <= q.1) -> (∀ k ∈ s.head?, ∀ q ∈ seen, q.1 <= k.1 -> 0 <= aA k p q) ->
  (∀ k ∈ (dJ p s).head?, ∀ q ∈ seen, q.1 <= k.1 -> 0 <= aA k p q) /\ ∀ k1 k2 r, dJ p s = k1 :: k2 :: r -> 0 < aA k2 k1 p
 | [], _, _, _, _, h => ⟨by unfold dJ; exact h, fun k1 k2 r e => by unfold dJ at e; cases e⟩
 | [a], _, _, _, _, h => ⟨by unfold dJ; exact h, fun k1 k2 r e => by unfold dJ at e; cases e⟩
 | k1 :: k2 :: r, hp, hf, hl, hq, h => by
  unfold dJ
  split
  ·rename_i z
   have f := List.pairwise_cons.mp hf
   have f2 : k1.1 < k2.1 := f.1 k2 (.head _)
   refine vV (fun k hk => hp k (.tail _ hk)) f.2 (fun e he => hl e (.tail _ he)) hq ?_
   intro k hk q hqs hle
   have : k2 = k := by simpa using hk
   subst this
   by_cases c : q.1 <= k1.1
   ·exact o9 f2 (hp k1 (.head _)) (hq q hqs) (h k1 rfl q hqs c) z
   ·exact xA f2 (hp k2 (.tail _ (.head _))) hle (hl (k2, k1) (.head _) q hqs) z
  ·rename_i z
   refine ⟨h, fun a b c e => ?_⟩
   injection e with e1 e2
   injection e2 with e2 _
   subst e1 e2
   omega
theorem kQ {p : Q2} : ∀ {s : List Q2}, (∀ k ∈ s, p.1 < k.1) -> sZ s -> kC s -> (∀ k1 k2 r, s = k1 :: k2 :: r -> 0 < aA k2 k1 p) -> ∀ e ∈ eS s, 0 < aA e.1 e.2 p
 | [], _, _, _, _, e, he => nomatch he
 | [a], _, _, _, _, e, he => nomatch he
 | k1 :: k2 :: r, hp, hf, hc, h, e, he => by
  have f := List.pairwise_cons.mp hf
  rcases List.mem_cons.mp he with z | z
  ·rw [z]; exact h k1 k2 r rfl
  ·refine kQ (fun k hk => hp k (.tail _ hk)) f.2 ?_ ?_ e z
   ·match r, hc with
    | [], _ => exact trivial
    | c :: r', hc => exact hc.2
   ·intro a b c e2
    injection e2 with e1 e3
    subst e1
    subst e3
    have g := List.pairwise_cons.mp f.2
    exact zT (g.1 b (.head _)) (f.1 k2 (.head _)) (hp k1 (.head _)) hc.1 (h k1 k2 (b :: c) rfl)
theorem x9 {l : List Q2} (hf : sZ l) {k : Q2} (h : l.getLast? = some k) : ∀ q ∈ l, q.1 <= k.1 := by
 induction l with
 | nil => cases h
 | cons a l ih =>
  intro q hq
  have f := List.pairwise_cons.mp hf
  cases l with
  | nil =>
   have : a = k := by simpa using h
   rw [List.mem_singleton.mp hq, this]
   exact Int.le_refl _
  | cons b r =>
   have h' : (b :: r).getLast? = some k := by simpa using h
   have ih := ih f.2 h'
   rcases List.mem_cons.mp hq with z | z
   ·rw [z]
    have := f.1 b (.head _)
    have := ih b (.head _)
    omega
   ·exact ih q z
theorem aAg {seen s : List Q2} {p : Q2} (h : ChI seen s) (hn : seen ≠ []) (hf : sZ (p :: seen)) : ChI (p :: seen) (pushS s p) := by
 have f := List.pairwise_cons.mp hf
 have fs : sZ s := List.Pairwise.sublist h.sub f.2
 have ps : ∀ k ∈ s, p.1 < k.1 := fun k hk => f.1 k (h.sub.subset hk)
 have s0 : s ≠ [] := fun z => by
  have := h.hd
  rw [z] at this
  cases seen with
  | nil => exact hn rfl
  | cons a r => cases this
 obtain ⟨a1, a2⟩ := vV (p := p) (seen := seen) ps fs h.left (fun q hq => Int.le_of_lt (f.1 q hq)) (fun k hk q hq hle => by
  rw [h.hd] at hk
  cases seen with
  | nil => exact nomatch hk
  | cons b r =>
   have : b = k := by simpa using hk
   subst this
   rcases List.mem_cons.mp hq with z | z
   ·rw [z]; unfold aA; simp
   ·have := (List.pairwise_cons.mp f.2).1 q z
    omega)
 have suf := cP p s
 have fs' : sZ (dJ p s) := List.Pairwise.sublist suf.sublist fs
 have ps' : ∀ k ∈ dJ p s, p.1 < k.1 := fun k hk => ps k (suf.subset hk)
 have cs' := pL suf h.conv
 have el := kQ ps' fs' cs' a2
 have ne : dJ p s ≠ [] := by
  intro z
  match s, s0 with
  | [a], _ => unfold dJ at z; cases z
  | k1 :: k2 :: r, _ =>
   have : ∀ t : List Q2, t ≠ [] -> dJ p t ≠ [] := fun t => by
    induction t with
    | nil => intro h; exact absurd rfl h
    | cons x t ih =>
     intro _
     cases t with
     | nil => unfold dJ; exact List.cons_ne_nil _ _
     | cons y t =>
      unfold dJ
      split
      ·exact ih (List.cons_ne_nil _ _)
      ·exact List.cons_ne_nil _ _
   exact this _ (List.cons_ne_nil _ _) z
 have lst : (dJ p s).getLast? = seen.getLast? := by
  obtain ⟨u, e⟩ := suf
  have e2 := congrArg List.getLast? e
  rw [List.getLast?_append] at e2
  rw [<- h.ls, <- e2]
  cases hg : (dJ p s).getLast? with
  | none => exact absurd (List.getLast?_eq_none_iff.mp hg) ne
  | some x => rfl
 refine ⟨(suf.sublist.trans h.sub).cons₂ p, rfl, ?_, ?_, ?_⟩
 ·unfold pushS
  cases hs : dJ p s with
  | nil => exact absurd hs ne
  | cons k r =>
   rw [List.getLast?_cons_cons, <- hs, lst]
   cases seen with
   | nil => exact absurd rfl hn
   | cons b t => rw [List.getLast?_cons_cons]
 ·unfold pushS
  match hs : dJ p s, cs', a2 with
  | [], _, _ => exact trivial
  | [k], _, _ => exact trivial
  | k1 :: k2 :: r, c, a2 => exact ⟨a2 k1 k2 r rfl, c⟩
 ·intro e he q hq
  unfold pushS at he
  cases hs : dJ p s with
  | nil => exact absurd hs ne
  | cons k r =>
   rw [hs] at he
   rcases List.mem_cons.mp he with z | z
   ·rw [z]
    show 0 <= aA k p q
    rcases List.mem_cons.mp hq with y | y
    ·rw [y]; unfold aA; rw [Int.mul_comm]; omega
    ·by_cases c : q.1 <= k.1
     ·exact a1 k (by rw [hs]; rfl) q y c
     ·cases r with
      | nil =>
       have : seen.getLast? = some k := by rw [<- lst, hs]; rfl
       exact absurd (x9 f.2 this q y) c
      | cons k' r =>
       have kk := List.pairwise_cons.mp (show sZ (k :: k' :: r) by rw [<- hs]; exact fs')
       have em : ((k', k) : Q2 × Q2) ∈ eS s := hZ suf _ (by rw [hs]; exact .head _)
       exact sQ (kk.1 k' (.head _)) (ps' k (by rw [hs]; exact .head _)) (by omega) (h.left _ em q y) (a2 k k' r hs)
   ·rcases List.mem_cons.mp hq with y | y
    ·rw [y]; exact Int.le_of_lt (el e (by rw [hs]; exact z))
    ·exact h.left e (hZ suf e (by rw [hs]; exact z)) q y
theorem mV : ∀ (ps seen s : List Q2), ChI seen s -> seen ≠ [] -> sZ (ps.reverse ++ seen) -> ChI (ps.reverse ++ seen) (ps.foldl pushS s)
 | [], seen, s, h, _, _ => h
 | p :: ps, seen, s, h, hn, hf => by
  rw [List.reverse_cons, List.append_assoc] at hf ⊢
  have hf2 : sZ (p :: seen) := (List.pairwise_append.mp hf).2.1
  rw [List.foldl_cons]
  exact mV ps (p :: seen) (pushS s p) (aAg h hn hf2) (List.cons_ne_nil _ _) hf
theorem y4 {p : Q2} {ps : List Q2} (hf : sZ (p :: ps).reverse) : ChI (p :: ps).reverse (aS (p :: ps)) := by
 rw [List.reverse_cons] at hf ⊢
 have h1 : ChI [p] [p] := ⟨List.Sublist.refl _, rfl, rfl, trivial, fun e he => nomatch he⟩
 exact mV ps [p] [p] h1 (List.cons_ne_nil _ _) hf
end N
namespace N
def ltQ (a b : Q2) : Prop := a.1 < b.1 \/ (a.1 = b.1 /\ a.2 < b.2)
def phi (M e : Int) (p : Q2) : Q2 := (e * ((2 * M + 1) * p.1 + p.2), e * p.2)
theorem mI {M e : Int} (he : e = 1 \/ e = -1) (a b c : Q2) : aA (phi M e a) (phi M e b) (phi M e c) = (2 * M + 1) * aA a b c := by
 unfold aA phi
 rcases he with z | z <;> subst z <;> grind
theorem aBb {M : Int} {a b : Q2} (ha : -M <= a.2 /\ a.2 <= M) (hb : -M <= b.2 /\ b.2 <= M) (h : ltQ a b) : (2 * M + 1) * a.1 + a.2 < (2 * M + 1) * b.1 + b.2 := by
 rcases h with h | ⟨h1, h2⟩
 ·have e : (2 * M + 1) * b.1 = (2 * M + 1) * a.1 + (2 * M + 1) * (b.1 - a.1) := by grind
  have k := Int.mul_le_mul_of_nonneg_left (show 1 <= b.1 - a.1 by omega) (show 0 <= 2 * M + 1 by omega)
  omega
 ·rw [h1]
  omega
theorem v3 (p a b : Q2) (r : List Q2) : dJ p (a :: b :: r) = if aA b a p <= 0 then dJ p (b :: r) else a :: b :: r := by
 conv => lhs; unfold dJ
theorem vP {M e : Int} (hM : 0 <= M) (he : e = 1 \/ e = -1) (p : Q2) : ∀ s : List Q2, dJ (phi M e p) (s.map (phi M e)) = (dJ p s).map (phi M e)
 | [] => rfl
 | [a] => rfl
 | a :: b :: r => by
  have t := mI (M := M) he b a p
  have ih := vP hM he p (b :: r)
  rw [v3 p a b r]
  have e : dJ (phi M e p) ((a :: b :: r).map (phi M e)) = _ := v3 (phi M e p) (phi M e a) (phi M e b) (r.map (phi M e))
  rw [e, t]
  by_cases z : aA b a p <= 0
  ·rw [if_pos z, if_pos (Int.mul_nonpos_of_nonneg_of_nonpos (by omega) z)]
   exact ih
  ·have := Int.mul_pos (show 0 < 2 * M + 1 by omega) (show 0 < aA b a p by omega)
   rw [if_neg z, if_neg (by omega)]
   rfl
theorem nP {M e : Int} (hM : 0 <= M) (he : e = 1 \/ e = -1) : ∀ (ps s : List Q2), (ps.map (phi M e)).foldl pushS (s.map (phi M e)) = (ps.foldl pushS s).map (phi M e)
 | [], s => rfl
 | p :: ps, s => by
  rw [List.map_cons, List.foldl_cons, List.foldl_cons]
  have : pushS (s.map (phi M e)) (phi M e p) = (pushS s p).map (phi M e) := by
   unfold pushS
   rw [vP hM he]
   rfl
  rw [this]
  exact nP hM he ps _
theorem jS : ∀ (ps s seen : List Q2), s.Sublist seen -> (ps.foldl pushS s).Sublist (ps.reverse ++ seen)
 | [], s, seen, h => h
 | p :: ps, s, seen, h => by
  rw [List.foldl_cons, List.reverse_cons, List.append_assoc]
  exact jS ps _ (p :: seen) (((cP p s).sublist.trans h).cons₂ p)
theorem vT : ∀ (s : List Q2) (i : Nat) (h : i + 1 < s.length), (s[i + 1], s[i]) ∈ eS s
 | a :: b :: r, 0, _ => .head _
 | a :: b :: r, i + 1, h => .tail _ (vT (b :: r) i (by simpa using h))
theorem w9 : ∀ (s : List Q2), kC s -> ∀ (i : Nat) (h : i + 2 < s.length), 0 < aA s[i + 2] s[i + 1] s[i]
 | a :: b :: c :: r, hc, 0, _ => hc.1
 | a :: b :: c :: r, hc, i + 1, h => w9 (b :: c :: r) hc.2 i (by simpa using h)
theorem qO (f : Q2 -> Q2) : ∀ (s : List Q2) (a b : Q2), (a, b) ∈ eS s -> (f a, f b) ∈ eS (s.map f)
 | x :: y :: r, a, b, h => by
  rcases List.mem_cons.mp h with z | z
  ·injection z with z1 z2
   rw [z1, z2]
   exact .head _
  ·exact .tail _ (qO f (y :: r) a b z)
theorem pX {M e : Int} (hM : 0 <= M) (he : e = 1 \/ e = -1) : ∀ s : List Q2, kC (s.map (phi M e)) -> kC s
 | [], _ => trivial
 | [_], _ => trivial
 | [_, _], _ => trivial
 | a :: b :: c :: r, h => by
  have t := mI (M := M) he c b a
  have h1 : 0 < aA (phi M e c) (phi M e b) (phi M e a) := h.1
  rw [t] at h1
  refine ⟨?_, pX hM he (b :: c :: r) h.2⟩
  by_cases z : 0 < aA c b a
  ·exact z
  ·have := Int.mul_nonpos_of_nonneg_of_nonpos (show 0 <= 2 * M + 1 by omega) (show aA c b a <= 0 by omega)
   omega
structure Way (P T : List Q2) (lt : Q2 -> Q2 -> Prop) (x y : Q2) : Prop where
 sub : T.Sublist P
 h0 : T.head? = some x
 h1 : T.getLast? = some y
 left : ∀ (i : Nat) (h : i + 1 < T.length), ∀ q ∈ P, 0 <= aA T[i] T[i + 1] q
 conv : ∀ (i : Nat) (h : i + 2 < T.length), 0 < aA T[i] T[i + 1] T[i + 2]
theorem aJx : ∀ ps : List Q2, ∃ M : Int, 0 <= M /\ ∀ p ∈ ps, -M <= p.2 /\ p.2 <= M
 | [] => ⟨0, Int.le_refl _, fun _ h => nomatch h⟩
 | p :: ps => by
  obtain ⟨M, m1, m2⟩ := aJx ps
  refine ⟨M + p.2.natAbs, by omega, fun q hq => ?_⟩
  rcases List.mem_cons.mp hq with z | z
  ·rw [z]; omega
  ·have := m2 q z; omega
theorem aBh {e : Int} (he : e = 1 \/ e = -1) {ps : List Q2} {x y : Q2} (hx : ps.head? = some x) (hy : ps.getLast? = some y) (hs : ps.Pairwise fun a b => if e = 1 then ltQ b a else ltQ a b) : Way ps (aS ps).reverse ltQ x y := by
 obtain ⟨M, hM, hb⟩ := aJx ps
 cases ps with
 | nil => cases hx
 | cons p ps =>
 have hx : p = x := by simpa using hx
 subst hx
 have cp := nP hM he (p :: ps) []
 have cp : aS ((p :: ps).map (phi M e)) = (aS (p :: ps)).map (phi M e) := cp
 have fl : sZ ((p :: ps).map (phi M e)).reverse := by
  unfold sZ
  rw [List.pairwise_reverse, List.pairwise_map]
  refine List.Pairwise.imp_of_mem (fun {a b} ha hb' w => ?_) hs
  have na := hb a ha
  have nb := hb b hb'
  unfold phi
  dsimp only
  rcases he with z | z
  ·rw [if_pos z] at w
   have := aBb nb na w
   rw [z]
   omega
  ·rw [if_neg (by omega)] at w
   have := aBb na nb w
   rw [z]
   omega
 have ch := y4 (p := phi M e p) (ps := ps.map (phi M e)) fl
 have ch : ChI (((p :: ps).map (phi M e)).reverse) (aS ((p :: ps).map (phi M e))) := ch
 rw [cp] at ch
 have sb := jS (p :: ps) [] [] (List.Sublist.refl _)
 rw [List.append_nil] at sb
 have sb : (aS (p :: ps)).Sublist (p :: ps).reverse := sb
 have lenT : (aS (p :: ps)).reverse.length = (aS (p :: ps)).length := List.length_reverse
 refine ⟨?_, ?_, ?_, fun i h q hq => ?_, fun i h => ?_⟩
 ·have := List.reverse_sublist.mpr sb
  rw [List.reverse_reverse] at this
  exact this
 ·have := ch.ls
  rw [List.getLast?_map, List.getLast?_reverse, List.map_cons, List.head?_cons] at this
  rw [List.head?_reverse]
  cases q : (aS (p :: ps)).getLast? with
  | none => rw [q] at this; cases this
  | some z =>
   rw [q] at this
   have e1 : phi M e z = phi M e p := Option.some.inj this
   unfold phi at e1
   injection e1 with e2 e3
   have e3 : z.2 = p.2 := by rcases he with w | w <;> rw [w] at e3 <;> omega
   have e4 : (2 * M + 1) * z.1 = (2 * M + 1) * p.1 := by rcases he with w | w <;> rw [w] at e2 <;> omega
   have := Int.eq_of_mul_eq_mul_left (show 2 * M + 1 ≠ 0 by omega) e4
   rw [Prod.ext this e3]
 ·rw [List.getLast?_reverse, <- hy]
  have := ch.hd
  rw [List.head?_map, List.head?_reverse, List.getLast?_map, hy] at this
  cases q : (aS (p :: ps)).head? with
  | none => rw [q] at this; cases this
  | some z =>
   rw [q] at this
   have e1 : phi M e z = phi M e y := Option.some.inj this
   unfold phi at e1
   injection e1 with e2 e3
   have e3 : z.2 = y.2 := by rcases he with w | w <;> rw [w] at e3 <;> omega
   have e4 : (2 * M + 1) * z.1 = (2 * M + 1) * y.1 := by rcases he with w | w <;> rw [w] at e2 <;> omega
   have := Int.eq_of_mul_eq_mul_left (show 2 * M + 1 ≠ 0 by omega) e4
   rw [Prod.ext this e3, hy]
 ·rw [List.length_reverse] at h
  rw [List.getElem_reverse, List.getElem_reverse]
  have em := vT (aS (p :: ps)) ((aS (p :: ps)).length - 1 - (i + 1)) (by omega)
  have ee := qO (phi M e) _ _ _ em
  have := ch.left _ ee (phi M e q) (List.mem_reverse.mpr (List.mem_map.mpr ⟨q, hq, rfl⟩))
  dsimp only at this
  rw [mI he] at this
  have i1 : (aS (p :: ps)).length - 1 - (i + 1) + 1 = (aS (p :: ps)).length - 1 - i := by omega
  simp only [i1] at this
  by_cases z : 0 <= aA (aS (p :: ps))[(aS (p :: ps)).length - 1 - i] (aS (p :: ps))[(aS (p :: ps)).length - 1 - (i + 1)] q
  ·exact z
  ·have := Int.mul_neg_of_pos_of_neg (show 0 < 2 * M + 1 by omega) (Int.not_le.mp z)
   omega
 ·rw [List.length_reverse] at h
  rw [List.getElem_reverse, List.getElem_reverse, List.getElem_reverse]
  have cv := w9 _ (pX hM he _ ch.conv) ((aS (p :: ps)).length - 1 - (i + 2)) (by omega)
  have i1 : (aS (p :: ps)).length - 1 - (i + 2) + 1 = (aS (p :: ps)).length - 1 - (i + 1) := by omega
  have i2 : (aS (p :: ps)).length - 1 - (i + 2) + 2 = (aS (p :: ps)).length - 1 - i := by omega
  simp only [i1, i2] at cv
  exact cv
def LP (a1 a2 : Int) : Prop := 0 < a1 \/ (a1 = 0 /\ 0 < a2)
theorem aCv {a1 a2 b1 b2 s t : Int} (ha : LP a1 a2) (hb : LP b1 b2) (hs : s <= 0) (ht : 0 <= t) (e1 : t * a1 = s * b1) (e2 : t * a2 = s * b2) : s = 0 := by
 by_cases z : s = 0
 ·exact z
 have hs : s < 0 := by omega
 have h0 : t = 0 \/ 0 < t := by omega
 rcases h0 with h | h
 ·subst h
  rw [Int.zero_mul] at e1 e2
  rcases hb with b | ⟨b, b'⟩
  ·have := Int.mul_neg_of_neg_of_pos hs b
   omega
  ·have := Int.mul_neg_of_neg_of_pos hs b'
   omega
 ·rcases ha with a | ⟨a, a'⟩
  ·have p := Int.mul_pos h a
   have : s * b1 <= 0 := Int.mul_nonpos_of_nonpos_of_nonneg (Int.le_of_lt hs) (by rcases hb with b | ⟨b, _⟩ <;> omega)
   omega
  ·have p := Int.mul_pos h a'
   subst a
   rw [Int.mul_zero] at e1
   have b0 : b1 = 0 := by
    rcases Int.mul_eq_zero.mp e1.symm with w | w
    ·omega
    ·exact w
   rcases hb with b | ⟨b, b'⟩
   ·omega
   ·have := Int.mul_neg_of_neg_of_pos hs b'
    omega
theorem yO {a1 a2 c1 c2 f1 f2 p q r : Int} (ha : LP a1 a2) (hc : LP c1 c2) (hf : LP f1 f2) (hp : 0 <= p) (hq : 0 < q) (hr : 0 <= r) (e1 : p * c1 + q * f1 + r * a1 = 0) (e2 : p * c2 + q * f2 + r * a2 = 0) : False := by
 have ge : ∀ {x y s : Int}, LP x y -> 0 <= s -> 0 <= s * x /\ (s * x = 0 -> 0 <= s * y) := fun {x y s} h hs => by
  rcases h with h | ⟨h, h'⟩
  ·refine ⟨Int.mul_nonneg hs (Int.le_of_lt h), fun e => ?_⟩
   rcases Int.mul_eq_zero.mp e with w | w
   ·rw [w, Int.zero_mul]; exact Int.le_refl _
   ·omega
  ·rw [h, Int.mul_zero]
   exact ⟨Int.le_refl _, fun _ => Int.mul_nonneg hs (Int.le_of_lt h')⟩
 have g1 := ge hc hp
 have g2 := ge hf (Int.le_of_lt hq)
 have g3 := ge ha hr
 have z1 := g1.2 (by omega)
 have z3 := g3.2 (by omega)
 have z2 : q * f1 = 0 := by omega
 have f0 : f1 = 0 := by
  rcases Int.mul_eq_zero.mp z2 with w | w
  ·omega
  ·exact w
 rcases hf with b | ⟨b, b'⟩
 ·omega
 ·have := Int.mul_pos hq b'
  omega
theorem j8 {a b : Q2} (h : ltQ a b) : LP (b.1 - a.1) (b.2 - a.2) := by
 rcases h with h | ⟨h, h'⟩
 ·exact .inl (by omega)
 ·exact .inr (by omega)
theorem aBr {e : Int} (he : e = 1 \/ e = -1) {u y v q x : Q2} (hu : LP (e * (y.1 - u.1)) (e * (y.2 - u.2))) (hv : LP (e * (y.1 - v.1)) (e * (y.2 - v.2))) (h0 : aA u y v = 0) (q1 : 0 <= aA u y q) (q2 : 0 <= aA y v q) (x1 : 0 <= aA u y x) (x2 : 0 <= aA y v x) : aA x y q = 0 := by
 have key : ∀ w : Q2, 0 <= aA u y w -> 0 <= aA y v w -> aA u y w = 0 := fun w w1 w2 => by
  have := aCv hu hv (s := - aA u y w) (t := aA y v w) (by omega) w2 (by unfold aA at h0 ⊢; grind) (by unfold aA at h0 ⊢; grind)
  omega
 have kq := key q q1 q2
 have kx := key x x1 x2
 have e1 : aA x y q * (y.1 - u.1) = 0 := by unfold aA at kq kx ⊢; grind
 have e2 : aA x y q * (y.2 - u.2) = 0 := by unfold aA at kq kx ⊢; grind
 rcases Int.mul_eq_zero.mp e1 with w | w
 ·exact w
 rcases Int.mul_eq_zero.mp e2 with w' | w'
 ·exact w'
 rw [w, w', Int.mul_zero] at hu
 rcases hu with h | ⟨_, h⟩ <;> omega
theorem vX {x y p q : Q2} (hxy : x ≠ y) (hp : aA x y p = 0) (hq : aA x y q = 0) : aA x p q = 0 /\ aA y p q = 0 := by
 have d : y.1 - x.1 = 0 -> y.2 - x.2 = 0 -> False := fun h1 h2 => hxy (Prod.ext (by omega) (by omega))
 have e1 : aA x p q * (y.1 - x.1) = 0 := by unfold aA at hp hq ⊢; grind
 have e2 : aA x p q * (y.2 - x.2) = 0 := by unfold aA at hp hq ⊢; grind
 have e3 : aA y p q * (y.1 - x.1) = 0 := by unfold aA at hp hq ⊢; grind
 have e4 : aA y p q * (y.2 - x.2) = 0 := by unfold aA at hp hq ⊢; grind
 refine ⟨?_, ?_⟩
 ·rcases Int.mul_eq_zero.mp e1 with w | w
  ·exact w
  rcases Int.mul_eq_zero.mp e2 with w' | w'
  ·exact w'
  exact (d w w').elim
 ·rcases Int.mul_eq_zero.mp e3 with w | w
  ·exact w
  rcases Int.mul_eq_zero.mp e4 with w' | w'
  ·exact w'
  exact (d w w').elim
theorem apart {p a c f : Q2} (ha : ltQ a p) (hc : ltQ p c) (hf : ltQ p f) (h1 : 0 < aA a p c) (h2 : 0 <= aA f p a) (h3 : 0 <= aA f p c) : False := by
 refine yO (p := aA f p a) (q := aA a p c) (r := aA f p c) (j8 ha) (j8 hc) (j8 hf) h2 h1 h3 ?_ ?_ <;> unfold aA <;> grind
theorem eY (x y q : Q2) : aA y x q = - aA x y q := by unfold aA; grind
theorem nM (x q : Q2) : aA x x q = 0 := by unfold aA; grind
def pr (R : List Q2) (k d : Nat) : Q2 := R.getD (if k < d then R.length + k - d else k - d) (0, 0)
structure RingOk (R ps : List Q2) (x : Q2) : Prop where
 len : 3 <= R.length
 h0 : R.getD 0 (0, 0) = x
 nd : R.Nodup
 sub : ∀ p ∈ R, p ∈ ps
 conv : ∀ k, k < R.length -> 0 < aA (pr R k 2) (pr R k 1) (R.getD k (0, 0))
 left : ∀ k, k < R.length -> ∀ q ∈ ps, 0 <= aA (pr R k 1) (R.getD k (0, 0)) q
theorem gW {a b : Q2} (h : ltQ a b) : a ≠ b := fun e => by
 subst e
 rcases h with h | ⟨_, h⟩ <;> omega
theorem getD_get {T : List Q2} {i : Nat} (h : i < T.length) : T.getD i (0, 0) = T[i] := by
 rw [List.getD_eq_getElem?_getD, List.getElem?_eq_getElem h]
 rfl
theorem gI {lt : Q2 -> Q2 -> Prop} {T : List Q2} (h : T.Pairwise lt) {i j : Nat} (hij : i < j) (hj : j < T.length) : lt (T.getD i (0, 0)) (T.getD j (0, 0)) := by
 rw [getD_get (Nat.lt_trans hij hj), getD_get hj]
 exact List.pairwise_iff_getElem.mp h i j (Nat.lt_trans hij hj) hj hij
theorem oZ {P T : List Q2} {lt : Q2 -> Q2 -> Prop} {x y : Q2} (w : Way P T lt x y) (hxy : x ≠ y) : 2 <= T.length /\ T.getD 0 (0, 0) = x /\ T.getD (T.length - 1) (0, 0) = y := by
 have h0 := w.h0
 have h1 := w.h1
 match T, h0, h1 with
 | [a], h0, h1 => exact absurd ((Option.some.inj h0).symm.trans (Option.some.inj h1)) hxy
 | a :: b :: r, h0, h1 =>
  refine ⟨by simp, Option.some.inj h0, ?_⟩
  rw [List.getLast?_eq_getElem?] at h1
  rw [List.getD_eq_getElem?_getD, h1]
  rfl
theorem aDf {ps T B : List Q2} {x y : Q2} (hs : ps.Pairwise ltQ) (wt : Way ps T ltQ x y) (wb : Way ps.reverse B ltQ y x) (hxy : x ≠ y) (hf : ∃ q ∈ ps, aA x y q ≠ 0) : RingOk (T.dropLast ++ B.dropLast) ps x := by
 obtain ⟨m2, t0, t1⟩ := oZ wt hxy
 obtain ⟨n2, b0, b1⟩ := oZ wb (fun e => hxy e.symm)
 have pt : T.Pairwise ltQ := hs.sublist wt.sub
 have pb : B.Pairwise fun a b => ltQ b a := (List.pairwise_reverse.mpr hs).sublist wb.sub
 have mT : ∀ {i}, i < T.length -> T.getD i (0, 0) ∈ ps := fun {i} h => wt.sub.subset (by rw [getD_get h]; exact List.getElem_mem h)
 have mB : ∀ {i}, i < B.length -> B.getD i (0, 0) ∈ ps := fun {i} h => List.mem_reverse.mp (wb.sub.subset (by rw [getD_get h]; exact List.getElem_mem h))
 have eT : ∀ {i}, i + 1 < T.length -> ∀ q ∈ ps, 0 <= aA (T.getD i (0, 0)) (T.getD (i + 1) (0, 0)) q := fun {i} h q hq => by
  rw [getD_get h, getD_get (Nat.lt_of_succ_lt h)]
  exact wt.left i h q hq
 have eB : ∀ {i}, i + 1 < B.length -> ∀ q ∈ ps, 0 <= aA (B.getD i (0, 0)) (B.getD (i + 1) (0, 0)) q := fun {i} h q hq => by
  rw [getD_get h, getD_get (Nat.lt_of_succ_lt h)]
  exact wb.left i h q (List.mem_reverse.mpr hq)
 have cT : ∀ {i}, i + 2 < T.length -> 0 < aA (T.getD i (0, 0)) (T.getD (i + 1) (0, 0)) (T.getD (i + 2) (0, 0)) := fun {i} h => by
  rw [getD_get h, getD_get (show i + 1 < T.length by omega), getD_get (show i < T.length by omega)]
  exact wt.conv i h
 have cB : ∀ {i}, i + 2 < B.length -> 0 < aA (B.getD i (0, 0)) (B.getD (i + 1) (0, 0)) (B.getD (i + 2) (0, 0)) := fun {i} h => by
  rw [getD_get h, getD_get (show i + 1 < B.length by omega), getD_get (show i < B.length by omega)]
  exact wb.conv i h
 have mx : x ∈ ps := t0 ▸ mT (by omega)
 have my : y ∈ ps := b0 ▸ mB (by omega)
 obtain ⟨q, hq, hne⟩ := hf
 have len : 3 <= T.length - 1 + (B.length - 1) := by
  by_cases z : 3 <= T.length - 1 + (B.length - 1)
  ·exact z
  have e1 : T.length = 2 := by omega
  have e2 : B.length = 2 := by omega
  have a := eT (i := 0) (by omega) q hq
  have b := eB (i := 0) (by omega) q hq
  rw [e1] at t1
  rw [e2] at b1
  have t1 : T.getD (0 + 1) (0, 0) = y := t1
  have b1 : B.getD (0 + 1) (0, 0) = x := b1
  rw [t0, t1] at a
  rw [b0, b1] at b
  rw [eY] at b
  omega
 have cy : 0 < aA (T.getD (T.length - 2) (0, 0)) y (B.getD 1 (0, 0)) := by
  have l1 := eT (i := T.length - 2) (by omega)
  have l2 := eB (i := 0) (by omega)
  rw [show T.length - 2 + 1 = T.length - 1 by omega, t1] at l1
  rw [b0] at l2
  have l0 := l1 _ (mB (i := 1) (by omega))
  by_cases z : aA (T.getD (T.length - 2) (0, 0)) y (B.getD 1 (0, 0)) = 0
  ·have u := gI pt (show T.length - 2 < T.length - 1 by omega) (by omega)
   have v := gI pb (show 0 < 1 by omega) (show 1 < B.length by omega)
   rw [t1] at u
   rw [b0] at v
   exact absurd (aBr (e := 1) (.inl rfl) (by simpa using j8 u) (by simpa using j8 v) z (l1 q hq) (l2 q hq) (l1 x mx) (l2 x mx)) hne
  ·omega
 have cx : 0 < aA (B.getD (B.length - 2) (0, 0)) x (T.getD 1 (0, 0)) := by
  have l1 := eB (i := B.length - 2) (by omega)
  have l2 := eT (i := 0) (by omega)
  rw [show B.length - 2 + 1 = B.length - 1 by omega, b1] at l1
  rw [t0] at l2
  have l0 := l1 _ (mT (i := 1) (by omega))
  by_cases z : aA (B.getD (B.length - 2) (0, 0)) x (T.getD 1 (0, 0)) = 0
  ·have u := gI pb (show B.length - 2 < B.length - 1 by omega) (by omega)
   have v := gI pt (show 0 < 1 by omega) (show 1 < T.length by omega)
   rw [b1] at u
   rw [t0] at v
   have u := j8 u
   have v := j8 v
   have n : ∀ a b : Int, -1 * (a - b) = b - a := fun a b => by omega
   have := aBr (e := -1) (.inr rfl) (by rw [n, n]; exact u) (by rw [n, n]; exact v) z (l1 q hq) (l2 q hq) (l1 y my) (l2 y my)
   rw [eY] at this
   omega
  ·omega
 have hR : (T.dropLast ++ B.dropLast).length = T.length - 1 + (B.length - 1) := by simp
 have gt : ∀ i, i < T.length -> (T.dropLast ++ B.dropLast).getD i (0, 0) = T.getD i (0, 0) := fun i h => by
  by_cases z : i < T.length - 1
  ·rw [List.getD_eq_getElem?_getD, List.getElem?_append_left (by simpa using z), List.getElem?_dropLast, if_pos z]
   rfl
  ·have e : i = T.length - 1 := by omega
   rw [e, t1, List.getD_eq_getElem?_getD, List.getElem?_append_right (by simp), List.length_dropLast, Nat.sub_self, List.getElem?_dropLast, if_pos (by omega), <- b0]
   rfl
 have gb : ∀ j, j < B.length - 1 -> (T.dropLast ++ B.dropLast).getD (T.length - 1 + j) (0, 0) = B.getD j (0, 0) := fun j h => by
  rw [List.getD_eq_getElem?_getD, List.getElem?_append_right (by simp), List.length_dropLast, Nat.add_sub_cancel_left, List.getElem?_dropLast, if_pos h]
  rfl
 let g : Nat -> Q2 := fun i => if i < T.length then T.getD i (0, 0) else B.getD (i - (T.length - 1)) (0, 0)
 have g1 : ∀ i, i < T.length -> g i = T.getD i (0, 0) := fun i h => if_pos h
 have g2 : ∀ j, g (T.length - 1 + j) = B.getD j (0, 0) := fun j => by
  show (if _ then _ else _) = _
  by_cases z : j = 0
  ·rw [z, if_pos (by omega), Nat.add_zero, t1, b0]
  ·rw [if_neg (by omega), Nat.add_sub_cancel_left]
 have gR : ∀ i, i < T.length - 1 + (B.length - 1) -> (T.dropLast ++ B.dropLast).getD i (0, 0) = g i := fun i h => by
  by_cases z : i < T.length
  ·rw [gt i z, g1 i z]
  ·rw [show i = T.length - 1 + (i - (T.length - 1)) by omega, gb _ (by omega), g2]
 have gl : g (T.length - 1 + (B.length - 1)) = x := by rw [g2, b1]
 have g0 : g 0 = x := by rw [g1 0 (by omega), t0]
 have A : ∀ i, i + 2 <= T.length - 1 + (B.length - 1) -> 0 < aA (g i) (g (i + 1)) (g (i + 2)) := fun i h => by
  by_cases z : i + 2 < T.length
  ·rw [g1 _ z, g1 _ (by omega), g1 _ (by omega)]
   exact cT z
  ·by_cases z' : i + 2 = T.length
   ·have q1 := g1 i (by omega)
    have q2 := g1 (i + 1) (by omega)
    have q3 := g2 1
    rw [show T.length - 1 + 1 = i + 2 by omega] at q3
    rw [q1, q2, q3, show i = T.length - 2 by omega, show T.length - 2 + 1 = T.length - 1 by omega, t1]
    exact cy
   ·obtain ⟨j, rfl⟩ : ∃ j, i = T.length - 1 + j := ⟨i - (T.length - 1), by omega⟩
    rw [Nat.add_assoc, Nat.add_assoc, g2, g2, g2]
    exact cB (by omega)
 have E : ∀ i, i + 1 <= T.length - 1 + (B.length - 1) -> ∀ q ∈ ps, 0 <= aA (g i) (g (i + 1)) q := fun i h q hq => by
  by_cases z : i + 1 < T.length
  ·rw [g1 _ z, g1 _ (by omega)]
   exact eT z q hq
  ·obtain ⟨j, rfl⟩ : ∃ j, i = T.length - 1 + j := ⟨i - (T.length - 1), by omega⟩
   rw [Nat.add_assoc, g2, g2]
   exact eB (by omega) q hq
 refine ⟨by omega, by rw [gR 0 (by omega), g0], ?_, ?_, fun k hk => ?_, fun k hk q hq => ?_⟩
 ·have ndT : T.Nodup := pt.imp gW
  have ndB : B.Nodup := pb.imp fun h => (gW h).symm
  refine List.nodup_append.mpr ⟨ndT.sublist (List.dropLast_sublist _), ndB.sublist (List.dropLast_sublist _), fun a ha b hb e => ?_⟩
  subst e
  obtain ⟨i, hi, ei⟩ := List.getElem_of_mem ha
  obtain ⟨j, hj, ej⟩ := List.getElem_of_mem hb
  rw [List.length_dropLast] at hi hj
  rw [List.getElem_dropLast] at ei ej
  have ei : T.getD i (0, 0) = a := (getD_get (by omega)).trans ei
  have ej : B.getD j (0, 0) = a := (getD_get (by omega)).trans ej
  have i0 : 0 < i := Nat.pos_of_ne_zero fun z => by
   subst z
   have := gW (gI pb (show j < B.length - 1 by omega) (by omega))
   rw [b1, ej] at this
   exact this (t0.symm.trans ei)
  have j0 : 0 < j := Nat.pos_of_ne_zero fun z => by
   subst z
   have := gW (gI pt (show i < T.length - 1 by omega) (by omega))
   rw [t1, ei] at this
   exact this (ej.symm.trans b0)
  have c1 := cT (i := i - 1) (by omega)
  have o1 := gI pt (show i - 1 < i by omega) (by omega)
  have o2 := gI pt (show i < i + 1 by omega) (by omega)
  have o3 := gI pb (show j - 1 < j by omega) (by omega)
  have l1 := eB (i := j - 1) (by omega) _ (mT (i := i - 1) (by omega))
  have l2 := eB (i := j - 1) (by omega) _ (mT (i := i + 1) (by omega))
  rw [show i - 1 + 1 = i by omega, show i - 1 + 2 = i + 1 by omega, ei] at c1
  rw [show j - 1 + 1 = j by omega, ej] at l1 l2
  rw [ei] at o1 o2
  rw [ej] at o3
  exact apart o1 o2 o3 c1 l1 l2
 ·intro p hp
  rcases List.mem_append.mp hp with z | z
  ·exact wt.sub.subset ((List.dropLast_sublist _).subset z)
  ·exact List.mem_reverse.mp (wb.sub.subset ((List.dropLast_sublist _).subset z))
 ·rw [hR] at hk
  unfold pr
  rw [hR, gR k hk]
  by_cases k0 : k = 0
  ·subst k0
   rw [if_pos (by omega), if_pos (by omega), gR _ (by omega), gR _ (by omega), g0, <- gl]
   have := A (T.length - 1 + (B.length - 1) - 2) (by omega)
   rw [show T.length - 1 + (B.length - 1) - 2 + 1 = T.length - 1 + (B.length - 1) + 0 - 1 by omega, show T.length - 1 + (B.length - 1) - 2 + 2 = T.length - 1 + (B.length - 1) by omega] at this
   exact this
  ·by_cases k1 : k = 1
   ·subst k1
    rw [if_pos (by omega), if_neg (by omega), gR _ (by omega), gR _ (by omega), g0, show T.length - 1 + (B.length - 1) + 1 - 2 = T.length - 1 + (B.length - 2) by omega, g2, g1 1 (by omega)]
    exact cx
   ·rw [if_neg (by omega), if_neg (by omega), gR _ (by omega), gR _ (by omega)]
    have := A (k - 2) (by omega)
    rw [show k - 2 + 1 = k - 1 by omega, show k - 2 + 2 = k by omega] at this
    exact this
 ·rw [hR] at hk
  unfold pr
  rw [hR, gR k hk]
  by_cases k0 : k = 0
  ·subst k0
   rw [if_pos (by omega), gR _ (by omega), g0, <- gl]
   have := E (T.length - 1 + (B.length - 1) - 1) (by omega) q hq
   rw [show T.length - 1 + (B.length - 1) - 1 + 1 = T.length - 1 + (B.length - 1) by omega] at this
   exact this
  ·rw [if_neg (by omega), gR _ (by omega)]
   have := E (k - 1) (by omega) q hq
   rw [show k - 1 + 1 = k by omega] at this
   exact this
theorem qY {P T : List Q2} {lt : Q2 -> Q2 -> Prop} {x y : Q2} (w : Way P T lt x y) (hxy : x ≠ y) (hf : ∀ q ∈ P, aA x y q = 0) : T = [x, y] := by
 obtain ⟨m2, t0, t1⟩ := oZ w hxy
 match T, w, m2, t0, t1 with
 | [a, b], _, _, t0, t1 =>
  have t0 : a = x := t0
  have t1 : b = y := t1
  rw [t0, t1]
 | a :: b :: c :: r, w, _, t0, _ =>
  have t0 : a = x := t0
  have := w.conv 0 (by simp)
  have this : 0 < aA a b c := this
  rw [t0, (vX hxy (hf b (w.sub.subset (.tail _ (.head _)))) (hf c (w.sub.subset (.tail _ (.tail _ (.head _)))))).1] at this
  omega
def bY (ps : List Q2) : List Q2 := if ps.length = 1 then ps else (aS ps).reverse.dropLast ++ (aS ps.reverse).reverse.dropLast
theorem jJ {ps : List Q2} {x y : Q2} (hs : ps.Pairwise ltQ) (hx : ps.head? = some x) (hy : ps.getLast? = some y) : if ∀ q ∈ ps, aA x y q = 0 then bY ps = if x = y then [x] else [x, y] else RingOk (bY ps) ps x := by
 match ps, hs, hx, hy with
 | [p], _, hx, hy =>
  have hx : p = x := Option.some.inj hx
  have hy : p = y := Option.some.inj hy
  subst hx
  subst hy
  rw [if_pos (fun q hq => by exact nM _ _), if_pos rfl]
  rfl
 | p :: p' :: r, hs, hx, hy =>
  have hxy : x ≠ y := by
   have hx : p = x := Option.some.inj hx
   subst hx
   have hm : y ∈ p' :: r := by
    rw [List.getLast?_cons_cons] at hy
    exact List.mem_of_getLast? hy
   exact gW (List.rel_of_pairwise_cons hs hm)
  have wt := aBh (e := -1) (.inr rfl) hx hy (by simpa using hs)
  have wb := aBh (e := 1) (.inl rfl) (ps := (p :: p' :: r).reverse) (x := y) (y := x) (by rw [List.head?_reverse]; exact hy) (by rw [List.getLast?_reverse]; exact hx) (by rw [List.pairwise_reverse]; exact hs.imp fun h => by rw [if_pos rfl]; exact h)
  have eh : bY (p :: p' :: r) = (aS (p :: p' :: r)).reverse.dropLast ++ (aS (p :: p' :: r).reverse).reverse.dropLast := if_neg (by simp)
  by_cases z : ∀ q ∈ p :: p' :: r, aA x y q = 0
  ·rw [if_pos z, if_neg hxy, eh, qY wt hxy z, qY wb (fun e => hxy e.symm) (fun q hq => by
    have := z q (List.mem_reverse.mp hq)
    rw [eY]
    omega)]
   rfl
  ·rw [if_neg z, eh]
   refine aDf hs wt wb hxy ?_
   by_cases w : ∃ q ∈ p :: p' :: r, aA x y q ≠ 0
   ·exact w
   ·exact absurd (fun q hq => Decidable.byContradiction fun h => w ⟨q, hq, h⟩) z
end N
namespace N
def edg (R : List Q2) : List (Q2 × Q2) := (List.range R.length).map fun k => (pr R k 1, R.getD k (0, 0))
def crs (e : Q2 × Q2) : Int := aA (0, 0) e.1 e.2
def eI (R : List Q2) : Int := ((edg R).map crs).sum
def Flt (ps : List Q2) : Prop := ∀ a ∈ ps, ∀ b ∈ ps, ∀ c ∈ ps, aA a b c = 0
theorem aH0 {R : List Q2} {k : Nat} (hk : k < R.length) : pr R k 1 = R.getD (if k = 0 then R.length - 1 else k - 1) (0, 0) := by
 unfold pr
 by_cases z : k = 0
 ·rw [if_pos z, if_pos (by omega), z, Nat.add_zero]
 ·rw [if_neg z, if_neg (by omega)]
theorem aJ5 {R : List Q2} {k : Nat} (hk : k < R.length) (h2 : 2 <= R.length) : pr R k 2 = pr R (if k = 0 then R.length - 1 else k - 1) 1 := by
 unfold pr
 by_cases z : k = 0
 ·rw [if_pos z, if_pos (by omega), if_neg (by omega), z]
  congr 1
 ·rw [if_neg z]
  by_cases w : k = 1
  ·rw [w, if_pos (by omega), if_pos (by omega)]
   congr 1
  ·rw [if_neg (by omega), if_neg (by omega)]
   congr 1
theorem aG0 {R : List Q2} {i : Nat} (hi : i < R.length) : ∃ k, k < R.length /\ pr R k 1 = R.getD i (0, 0) /\ (2 <= R.length -> pr R k 2 = pr R i 1) := by
 refine ⟨if i + 1 = R.length then 0 else i + 1, by split <;> omega, ?_, fun h2 => ?_⟩
 ·rw [aH0 (by split <;> omega)]
  congr 1
  split <;> split <;> omega
 ·rw [aJ5 (by split <;> omega) h2]
  congr 1
  split <;> split <;> omega
theorem uI {R : List Q2} {r : Q2} (h : r ∈ R) : ∃ k, k < R.length /\ pr R k 1 = r := by
 obtain ⟨i, hi, e⟩ := List.mem_iff_getElem.mp h
 obtain ⟨k, hk, e1, _⟩ := aG0 hi
 exact ⟨k, hk, by rw [e1, getD_get hi, e]⟩
theorem nL {R : List Q2} {k d : Nat} (hk : k < R.length) (hd : d <= R.length) : pr R k d ∈ R := by
 unfold pr
 have : (if k < d then R.length + k - d else k - d) < R.length \/ d = 0 := by split <;> omega
 rcases this with h | h
 ·rw [getD_get h]; exact List.getElem_mem h
 ·subst h
  rw [if_neg (by omega), Nat.sub_zero, getD_get hk]; exact List.getElem_mem hk
theorem get_mem {R : List Q2} {k : Nat} (hk : k < R.length) : R.getD k (0, 0) ∈ R := by rw [getD_get hk]; exact List.getElem_mem hk
section
variable {R P : List Q2} {x : Q2}
theorem RingOk.left2 (ok : RingOk R P x) {k : Nat} (hk : k < R.length) : ∀ q ∈ P, 0 <= aA (pr R k 2) (pr R k 1) q := fun q hq => by
 have h3 := ok.len
 rw [aJ5 hk (by omega), aH0 hk]
 exact ok.left _ (by split <;> omega) q hq
def Edg (P : List Q2) (u v : Q2) : Prop := u ∈ P /\ v ∈ P /\ u ≠ v /\ ∀ q ∈ P, 0 <= aA u v q /\ (aA u v q = 0 -> ∀ w ∈ P, 0 <= aA q v w /\ 0 <= aA u q w)
theorem bP {a b c : Int} (hb : 0 < b) (h : a * b = c) (hc : 0 <= c) : 0 <= a := by
 by_cases z : 0 <= a
 ·exact z
 ·have := Int.mul_neg_of_neg_of_pos (Int.not_le.mp z) hb
  omega
theorem nC (ok : RingOk R P x) {u v : Q2} (h : (u, v) ∈ edg R) : Edg P u v := by
 unfold edg at h
 obtain ⟨k, hk, e⟩ := List.mem_map.mp h
 have hk := List.mem_range.mp hk
 have h3 := ok.len
 injection e with e1 e2
 obtain ⟨j, hj, j1, j2⟩ := aG0 hk
 have j2 := j2 (by omega)
 have c1 := ok.conv k hk
 have c2 := ok.conv j hj
 have l1 := ok.left2 hk
 have l2 := ok.left k hk
 have l3 := ok.left j hj
 rw [e1, e2] at c1
 rw [j1, j2, e1, e2] at c2
 rw [e1] at l1
 rw [e1, e2] at l2
 rw [j1, e2] at l3
 generalize pr R k 2 = s at c1 l1
 generalize R.getD j (0, 0) = t at c2 l3
 refine ⟨e1 ▸ ok.sub _ (nL hk (by omega)), e2 ▸ ok.sub _ (get_mem hk), fun z => ?_, fun q hq => ⟨l2 q hq, fun h0 w hw => ⟨?_, ?_⟩⟩⟩
 ·subst z
  have : aA s u u = 0 := by unfold aA; grind
  omega
 ·have w1 := l2 w hw
  have q1 := l3 q hq
  refine bP (b := aA u v t) (c := aA v t q * aA u v w) c2 ?_ (Int.mul_nonneg q1 w1)
  unfold aA at h0 ⊢
  grind
 ·have w1 := l2 w hw
  have q1 := l1 q hq
  refine bP (b := aA s u v) (c := aA s u q * aA u v w) c1 ?_ (Int.mul_nonneg q1 w1)
  unfold aA at h0 ⊢
  grind
theorem nZ {α : Type} (f : α -> Int) : ∀ {l : List α}, l ≠ [] -> ∃ a ∈ l, ∀ b ∈ l, f a <= f b
 | [a], _ => ⟨a, .head _, fun b hb => by rw [List.mem_singleton.mp hb]; exact Int.le_refl _⟩
 | a :: b :: r, _ => by
  obtain ⟨m, hm, h⟩ := nZ f (List.cons_ne_nil b r)
  by_cases z : f a <= f m
  ·refine ⟨a, .head _, fun c hc => ?_⟩
   rcases List.mem_cons.mp hc with e | e
   ·rw [e]; exact Int.le_refl _
   ·exact Int.le_trans z (h c e)
  ·refine ⟨m, .tail _ hm, fun c hc => ?_⟩
   rcases List.mem_cons.mp hc with e | e
   ·rw [e]; omega
   ·exact h c e
theorem qB (ok : RingOk R P x) (c1 c2 : Int) : ∃ r ∈ R, ∀ q ∈ P, c1 * r.1 + c2 * r.2 <= c1 * q.1 + c2 * q.2 := by
 have h3 := ok.len
 obtain ⟨r, hr, hm⟩ := nZ (fun r : Q2 => c1 * r.1 + c2 * r.2) (l := R) (fun z => by rw [z] at h3; simp at h3)
 refine ⟨r, hr, fun q hq => ?_⟩
 obtain ⟨k, hk, e⟩ := uI hr
 have cv := ok.conv k hk
 have l1 := ok.left2 hk q hq
 have l2 := ok.left k hk q hq
 have ms := hm _ (nL (d := 2) hk (by omega))
 have mp := hm _ (get_mem hk)
 rw [e] at cv l1 l2
 generalize pr R k 2 = s at cv l1 ms
 generalize R.getD k (0, 0) = p at cv l2 mp
 have := bP (a := c1 * q.1 + c2 * q.2 - (c1 * r.1 + c2 * r.2)) (b := aA s r p) (c := aA s r q * (c1 * p.1 + c2 * p.2 - (c1 * r.1 + c2 * r.2)) + aA r p q * (c1 * s.1 + c2 * s.2 - (c1 * r.1 + c2 * r.2))) cv (by unfold aA; grind) (Int.add_nonneg (Int.mul_nonneg l1 (by omega)) (Int.mul_nonneg l2 (by omega)))
 omega
theorem aBi (f : Q2 -> Int) : ∀ ps : List Q2, ∃ A : Int, 0 <= A /\ ∀ p ∈ ps, -A <= f p /\ f p <= A
 | [] => ⟨0, Int.le_refl _, fun _ h => nomatch h⟩
 | p :: ps => by
  obtain ⟨M, m1, m2⟩ := aBi f ps
  refine ⟨M + (f p).natAbs, by omega, fun q hq => ?_⟩
  rcases List.mem_cons.mp hq with z | z
  ·rw [z]; omega
  ·have := m2 q z; omega
theorem mQ (ok : RingOk R P x) {u v : Q2} (hne : u ≠ v) : ∃ z ∈ P, aA u v z ≠ 0 := by
 by_cases h : ∃ z ∈ P, aA u v z ≠ 0
 ·exact h
 have h : ∀ z ∈ P, aA u v z = 0 := fun z hz => Decidable.byContradiction fun w => h ⟨z, hz, w⟩
 have h3 := ok.len
 have cv := ok.conv 0 (by omega)
 have m0 := h _ (ok.sub _ (nL (d := 2) (k := 0) (by omega) (by omega)))
 have m1 := h _ (ok.sub _ (nL (d := 1) (k := 0) (by omega) (by omega)))
 have m2 := h _ (ok.sub _ (get_mem (k := 0) (by omega)))
 generalize pr R 0 2 = a at cv m0
 generalize pr R 0 1 = b at cv m1
 generalize R.getD 0 (0, 0) = d at cv m2
 have e1 : aA a b d * (v.1 - u.1) = 0 := by unfold aA at m0 m1 m2 ⊢; grind
 have e2 : aA a b d * (v.2 - u.2) = 0 := by unfold aA at m0 m1 m2 ⊢; grind
 rcases Int.mul_eq_zero.mp e1 with w | w
 ·omega
 rcases Int.mul_eq_zero.mp e2 with w' | w'
 ·omega
 exact absurd (Prod.ext (by omega) (by omega)) hne
theorem aCq (ok : RingOk R P x) {u v : Q2} (h : Edg P u v) : u ∈ R := by
 obtain ⟨hu, hv, hne, hq⟩ := h
 obtain ⟨z, hz, hz0⟩ := mQ ok hne
 have hz1 := (hq z hz).1
 obtain ⟨A, A0, hA⟩ := aBi (fun w => aA u w z) P
 obtain ⟨r, hr, hm⟩ := qB ok ((A + 1) * -(v.2 - u.2) + (z.2 - u.2)) ((A + 1) * (v.1 - u.1) - (z.1 - u.1))
 have rP := ok.sub r hr
 have g := hm u hu
 have f : (A + 1) * aA u v r + aA u r z <= 0 := by
  have e : (A + 1) * aA u v r + aA u r z = (((A + 1) * -(v.2 - u.2) + (z.2 - u.2)) * r.1 + ((A + 1) * (v.1 - u.1) - (z.1 - u.1)) * r.2) - (((A + 1) * -(v.2 - u.2) + (z.2 - u.2)) * u.1 + ((A + 1) * (v.1 - u.1) - (z.1 - u.1)) * u.2) := by unfold aA; grind
  omega
 obtain ⟨r0, r1⟩ := hq r rP
 have ra := hA r rP
 have t0 : aA u v r = 0 := by
  by_cases w : aA u v r = 0
  ·exact w
  ·have := Int.mul_le_mul_of_nonneg_left (show 1 <= aA u v r by omega) (show 0 <= A + 1 by omega)
   omega
 have b := (r1 t0 z hz).2
 rw [t0, Int.mul_zero] at f
 have b0 : aA u r z = 0 := by omega
 have e1 : aA u v z * (r.1 - u.1) = 0 := by unfold aA at t0 b0 ⊢; grind
 have e2 : aA u v z * (r.2 - u.2) = 0 := by unfold aA at t0 b0 ⊢; grind
 have w1 : r.1 - u.1 = 0 := (Int.mul_eq_zero.mp e1).resolve_left hz0
 have w2 : r.2 - u.2 = 0 := (Int.mul_eq_zero.mp e2).resolve_left hz0
 have e : r = u := Prod.ext (by omega) (by omega)
 rw [<- e]
 exact hr
theorem xU (ok : RingOk R P x) {u v : Q2} (h : Edg P u v) : (u, v) ∈ edg R := by
 have hu := aCq ok h
 obtain ⟨k, hk, e⟩ := uI hu
 have me : (u, R.getD k (0, 0)) ∈ edg R := List.mem_map.mpr ⟨k, List.mem_range.mpr hk, by rw [e]⟩
 obtain ⟨pu, pp, np, hp⟩ := nC ok me
 generalize R.getD k (0, 0) = p at me pp np hp
 obtain ⟨_, pv, nv, hv⟩ := h
 by_cases z : p = v
 ·rw [<- z]; exact me
 exfalso
 have a1 := (hv p pp).1
 have a2 := (hp v pv).1
 have s : aA u p v = - aA u v p := by unfold aA; grind
 have z1 : aA u v p = 0 := by omega
 have z2 : aA u p v = 0 := by omega
 obtain ⟨w, hw, hw0⟩ := mQ ok z
 have b1 := ((hv p pp).2 z1 w hw).1
 have b2 := ((hp v pv).2 z2 w hw).1
 have s2 : aA v p w = - aA p v w := by unfold aA; grind
 omega
theorem l4 (ok : RingOk R P x) {e : Q2 × Q2} : e ∈ edg R ↔ Edg P e.1 e.2 := ⟨fun h => nC ok (u := e.1) (v := e.2) h, fun h => xU ok h⟩
theorem u6 (ok : RingOk R P x) : (edg R).Nodup := by
 unfold edg
 refine List.pairwise_map.mpr (List.Pairwise.imp_of_mem (fun {i j} hi hj hij e => ?_) (List.nodup_range (n := R.length)))
 injection e with _ e
 have hi := List.mem_range.mp hi
 have hj := List.mem_range.mp hj
 rw [getD_get hi, getD_get hj] at e
 rcases Nat.lt_or_gt_of_ne hij with z | z
 ·exact List.pairwise_iff_getElem.mp ok.nd i j hi hj z e
 ·exact List.pairwise_iff_getElem.mp ok.nd j i hj hi z e.symm
end
end N
namespace N
theorem iT {l m : List Int} (h : l.Perm m) : l.sum = m.sum := by
 induction h with
 | nil => rfl
 | cons x _ ih => rw [List.sum_cons, List.sum_cons, ih]
 | swap x y l => simp only [List.sum_cons]; omega
 | trans _ _ i1 i2 => exact i1.trans i2
theorem lR {α : Type} (D : Int) {f g : α -> Int} : ∀ {l : List α}, (∀ e ∈ l, f e = D * g e) -> (l.map f).sum = D * (l.map g).sum
 | [], _ => by simp
 | x :: l, h => by
  rw [List.map_cons, List.map_cons, List.sum_cons, List.sum_cons, lR D (l := l) fun y hy => h y (.tail _ hy), h x (.head _), Int.mul_add]
theorem xB {α : Type} {f g h1 h2 : α -> Int} : ∀ {l : List α}, (∀ e, f e = g e - h1 e + h2 e) -> (l.map f).sum = (l.map g).sum - (l.map h1).sum + (l.map h2).sum
 | [], _ => rfl
 | x :: l, h => by
  simp only [List.map_cons, List.sum_cons]
  rw [xB (l := l) h, h x]
  omega
theorem gH {β : Type} (h : Q2 -> β) : ∀ L : List Q2, (List.range L.length).map (fun i => h (L.getD i (0, 0))) = L.map h := fun L => by
 refine List.ext_getElem (by simp) fun i h1 h2 => ?_
 rw [List.length_map, List.length_range] at h1
 rw [List.getElem_map, List.getElem_map, List.getElem_range, getD_get h1]
theorem aJv (h : Q2 -> Int) (R : List Q2) : ((edg R).map fun e => h e.1).sum = ((edg R).map fun e => h e.2).sum := by
 have e2 : ((edg R).map fun e => h e.2) = R.map h := by
  unfold edg
  rw [List.map_map]
  exact gH h R
 rw [e2]
 rcases List.eq_nil_or_concat R with z | ⟨Q, l, z⟩
 ·rw [z]; rfl
 ·have z : R = Q ++ [l] := by rw [z, List.concat_eq_append]
  have hl : R.length = Q.length + 1 := by rw [z, List.length_append]; rfl
  have e1 : ((edg R).map fun e => h e.1) = h l :: Q.map h := by
   unfold edg
   rw [List.map_map, hl, List.range_succ_eq_map, List.map_cons, List.map_map]
   congr 1
   ·show h (pr R 0 1) = h l
    rw [aH0 (by omega), if_pos rfl, hl, z]
    simp
   ·rw [<- gH h Q]
    refine List.map_congr_left fun i hi => ?_
    have hi := List.mem_range.mp hi
    show h (pr R (i + 1) 1) = h (Q.getD i (0, 0))
    rw [aH0 (by omega), if_neg (by omega), Nat.add_sub_cancel, z, List.getD_eq_getElem?_getD, List.getElem?_append_left hi, List.getD_eq_getElem?_getD]
  rw [e1, z, List.map_append, List.sum_append, List.sum_cons]
  simp
  omega
theorem tR (o : Q2) (R : List Q2) : ((edg R).map fun e => aA o e.1 e.2).sum = eI R := by
 have t := xB (f := fun e : Q2 × Q2 => aA o e.1 e.2) (g := crs) (h1 := fun e => e.1.1 * o.2 - e.1.2 * o.1) (h2 := fun e => e.2.1 * o.2 - e.2.2 * o.1) (l := edg R) fun e => by unfold crs aA; grind
 rw [t, aJv (fun p => p.1 * o.2 - p.2 * o.1) R]
 unfold eI
 omega
theorem aIm {u v a b d : Q2} (hne : u ≠ v) (m0 : aA u v a = 0) (m1 : aA u v b = 0) (m2 : aA u v d = 0) : aA a b d = 0 := by
 have e1 : aA a b d * (v.1 - u.1) = 0 := by unfold aA at m0 m1 m2 ⊢; grind
 have e2 : aA a b d * (v.2 - u.2) = 0 := by unfold aA at m0 m1 m2 ⊢; grind
 rcases Int.mul_eq_zero.mp e1 with w | w
 ·exact w
 rcases Int.mul_eq_zero.mp e2 with w' | w'
 ·exact w'
 exact absurd (Prod.ext (by omega) (by omega)) hne
def Hl (ps R : List Q2) : Prop := (Flt ps /\ eI R = 0) \/ (¬ Flt ps /\ ∃ x, RingOk R ps x)
theorem zR (x : Q2) : eI [x] = 0 := by
 show crs (x, x) + 0 = 0
 unfold crs aA
 grind
theorem yI (x y : Q2) : eI [x, y] = 0 := by
 show crs (y, x) + (crs (x, y) + 0) = 0
 unfold crs aA
 grind
theorem o6 {rs ps : List Q2} (hs : rs.Pairwise ltQ) (hm : ∀ p, p ∈ rs ↔ p ∈ ps) (h0 : rs ≠ []) : Hl ps (bY rs) := by
 obtain ⟨x, hx⟩ : ∃ x, rs.head? = some x := by
  cases rs with
  | nil => exact absurd rfl h0
  | cons a r => exact ⟨a, rfl⟩
 obtain ⟨y, hy⟩ : ∃ y, rs.getLast? = some y := by
  cases e : rs.getLast? with
  | none => exact absurd (List.getLast?_eq_none_iff.mp e) h0
  | some a => exact ⟨a, rfl⟩
 have hr := jJ hs hx hy
 have xm := (hm x).mp (List.mem_of_head? hx)
 have ym := (hm y).mp (List.mem_of_getLast? hy)
 by_cases z : ∀ q ∈ rs, aA x y q = 0
 ·rw [if_pos z] at hr
  refine .inl ⟨?_, ?_⟩
  ·by_cases w : x = y
   ·have all : ∀ q ∈ rs, q = x := fun q hq => by
     cases rs with
     | nil => cases hq
     | cons a r =>
      have e : a = x := Option.some.inj hx
      rcases List.mem_cons.mp hq with k | k
      ·rw [k, e]
      ·have hr' : r ≠ [] := fun z => by rw [z] at k; cases k
       have hl : y ∈ r := by
        have : (a :: r).getLast? = r.getLast? := by
         cases r with
         | nil => exact absurd rfl hr'
         | cons b s => exact List.getLast?_cons_cons
        rw [this] at hy
        exact List.mem_of_getLast? hy
       exact absurd (e.trans w) (gW (List.rel_of_pairwise_cons hs hl))
    intro a ha b hb c hc
    rw [all a ((hm a).mpr ha), all b ((hm b).mpr hb)]
    exact nM _ _
   ·intro a ha b hb c hc
    exact aIm w (z a ((hm a).mpr ha)) (z b ((hm b).mpr hb)) (z c ((hm c).mpr hc))
  ·rw [hr]
   split
   ·exact zR x
   ·exact yI x y
 ·rw [if_neg z] at hr
  refine .inr ⟨fun f => z fun q hq => f x xm y ym q ((hm q).mp hq), x, ?_⟩
  exact ⟨hr.len, hr.h0, hr.nd, fun p hp => (hm p).mp (hr.sub p hp), hr.conv, fun k hk q hq => hr.left k hk q ((hm q).mpr hq)⟩
theorem Hl.zero {ps R : List Q2} (h : Hl ps R) (f : Flt ps) : eI R = 0 := by
 rcases h with ⟨_, h⟩ | ⟨g, _⟩
 ·exact h
 ·exact absurd f g
theorem rF {P P' R R' : List Q2} {x x' o o' : Q2} {D : Int} (ψ : Q2 × Q2 -> Q2 × Q2) (inj : ∀ a b, ψ a = ψ b -> a = b) (ok : RingOk R P x) (ok' : RingOk R' P' x') (h : ∀ e', Edg P' e'.1 e'.2 ↔ ∃ e : Q2 × Q2, e' = ψ e /\ Edg P e.1 e.2) (s : ∀ e, aA o' (ψ e).1 (ψ e).2 = D * aA o e.1 e.2) : eI R' = D * eI R := by
 have pm : (edg R').Perm ((edg R).map ψ) := L2.gP (u6 ok') (List.Pairwise.map ψ (fun a b hab e => hab (inj a b e)) (u6 ok)) fun e' => by
  rw [l4 ok', h e', List.mem_map]
  constructor
  ·rintro ⟨e, rfl, he⟩; exact ⟨e, (l4 ok).mpr he, rfl⟩
  ·rintro ⟨e, he, rfl⟩; exact ⟨e, rfl, (l4 ok).mp he⟩
 rw [<- tR o' R', <- tR o R, iT (pm.map _), List.map_map]
 exact lR D fun e _ => s e
theorem Hl.map {ps R R' : List Q2} {φ : Q2 -> Q2} {D : Int} (h : Hl ps R) (h' : Hl (ps.map φ) R') (hD : 0 < D) (ht : ∀ a b c, aA (φ a) (φ b) (φ c) = D * aA a b c) (inj : ∀ a b, φ a = φ b -> a = b) : eI R' = D * eI R := by
 have fl : Flt (ps.map φ) ↔ Flt ps := by
  constructor
  ·intro f a ha b hb c hc
   have := f _ (List.mem_map.mpr ⟨a, ha, rfl⟩) _ (List.mem_map.mpr ⟨b, hb, rfl⟩) _ (List.mem_map.mpr ⟨c, hc, rfl⟩)
   rw [ht] at this
   exact (Int.mul_eq_zero.mp this).resolve_left (by omega)
  ·intro f a' ha b' hb c' hc
   obtain ⟨a, ma, rfl⟩ := List.mem_map.mp ha
   obtain ⟨b, mb, rfl⟩ := List.mem_map.mp hb
   obtain ⟨c, mc, rfl⟩ := List.mem_map.mp hc
   rw [ht, f a ma b mb c mc, Int.mul_zero]
 rcases h with ⟨f, e⟩ | ⟨g, x, ok⟩
 ·rw [h'.zero (fl.mpr f), e, Int.mul_zero]
 ·rcases h' with ⟨f', _⟩ | ⟨_, x', ok'⟩
  ·exact absurd (fl.mp f') g
  ·have nn : ∀ t : Int, 0 <= D * t ↔ 0 <= t := fun t => ⟨fun h => by
    by_cases z : 0 <= t
    ·exact z
    ·have := Int.mul_neg_of_pos_of_neg hD (Int.not_le.mp z); omega, fun h => Int.mul_nonneg (Int.le_of_lt hD) h⟩
   have n0 : ∀ t : Int, D * t = 0 ↔ t = 0 := fun t => ⟨fun h => (Int.mul_eq_zero.mp h).resolve_left (by omega), fun h => by rw [h, Int.mul_zero]⟩
   have ed : ∀ u v, Edg (ps.map φ) (φ u) (φ v) ↔ Edg ps u v := fun u v => by
    have mm : ∀ p, φ p ∈ ps.map φ ↔ p ∈ ps := fun p => ⟨fun h => by
     obtain ⟨q, hq, e⟩ := List.mem_map.mp h
     rw [<- inj q p e]; exact hq, fun h => List.mem_map.mpr ⟨p, h, rfl⟩⟩
    unfold Edg
    rw [mm, mm]
    constructor
    ·rintro ⟨a, b, c, d⟩
     refine ⟨a, b, fun e => c (by rw [e]), fun q hq => ?_⟩
     obtain ⟨d1, d2⟩ := d (φ q) ((mm q).mpr hq)
     rw [ht, nn] at d1
     rw [ht, n0] at d2
     refine ⟨d1, fun z w hw => ?_⟩
     have := d2 z (φ w) ((mm w).mpr hw)
     rw [ht, ht, nn, nn] at this
     exact this
    ·rintro ⟨a, b, c, d⟩
     refine ⟨a, b, fun e => c (inj _ _ e), fun q' hq => ?_⟩
     obtain ⟨q, mq, rfl⟩ := List.mem_map.mp hq
     obtain ⟨d1, d2⟩ := d q mq
     rw [ht, nn, n0]
     refine ⟨d1, fun z w' hw => ?_⟩
     obtain ⟨w, mw, rfl⟩ := List.mem_map.mp hw
     rw [ht, ht, nn, nn]
     exact d2 z w mw
   refine rF (o := (0, 0)) (o' := φ (0, 0)) (fun e => (φ e.1, φ e.2)) (fun a b e => ?_) ok ok' (fun e' => ?_) fun e => ht _ _ _
   ·injection e with e1 e2
    exact Prod.ext (inj _ _ e1) (inj _ _ e2)
   ·constructor
    ·intro he
     obtain ⟨u, hu, eu⟩ := List.mem_map.mp he.1
     obtain ⟨v, hv, ev⟩ := List.mem_map.mp he.2.1
     refine ⟨(u, v), Prod.ext eu.symm ev.symm, (ed u v).mp ?_⟩
     rw [eu, ev]
     exact he
    ·rintro ⟨e, rfl, he⟩
     exact (ed _ _).mpr he
def swp (p : Q2) : Q2 := (p.2, p.1)
theorem tU (p : Q2) : swp (swp p) = p := rfl
theorem lP (a b c : Q2) : aA (swp a) (swp b) (swp c) = aA b a c := by unfold swp aA; grind
theorem Hl.swap {ps R R' : List Q2} (h : Hl ps R) (h' : Hl (ps.map swp) R') : eI R' = eI R := by
 have mm : ∀ p, p ∈ ps.map swp ↔ swp p ∈ ps := fun p => ⟨fun h => by
  obtain ⟨q, hq, e⟩ := List.mem_map.mp h
  rw [<- e]; exact hq, fun h => List.mem_map.mpr ⟨swp p, h, rfl⟩⟩
 have fl : Flt (ps.map swp) ↔ Flt ps := by
  constructor
  ·intro f a ha b hb c hc
   have := f (swp a) ((mm _).mpr ha) (swp b) ((mm _).mpr hb) (swp c) ((mm _).mpr hc)
   rw [lP, eY] at this
   omega
  ·intro f a ha b hb c hc
   have := f _ ((mm a).mp ha) _ ((mm b).mp hb) _ ((mm c).mp hc)
   rw [lP, eY] at this
   omega
 rcases h with ⟨f, e⟩ | ⟨g, x, ok⟩
 ·rw [h'.zero (fl.mpr f), e]
 ·rcases h' with ⟨f', _⟩ | ⟨_, x', ok'⟩
  ·exact absurd (fl.mp f') g
  ·have tn : ∀ a b c, aA a b c = aA (swp b) (swp a) (swp c) := fun a b c => (lP b a c).symm
   have ed : ∀ u v, Edg (ps.map swp) u v ↔ Edg ps (swp v) (swp u) := fun u v => by
    unfold Edg
    rw [mm, mm]
    constructor
    ·rintro ⟨a, b, c, d⟩
     refine ⟨b, a, fun e => c (by have := congrArg swp e; rwa [tU, tU, eq_comm] at this), fun q hq => ?_⟩
     obtain ⟨d1, d2⟩ := d (swp q) ((mm _).mpr hq)
     rw [tn] at d1 d2
     refine ⟨d1, fun z w hw => ?_⟩
     have := d2 z (swp w) ((mm _).mpr hw)
     rw [tn (swp q), tn u] at this
     exact ⟨this.2, this.1⟩
    ·rintro ⟨a, b, c, d⟩
     refine ⟨b, a, fun e => c (by rw [e]), fun q hq => ?_⟩
     obtain ⟨d1, d2⟩ := d _ ((mm _).mp hq)
     rw [tn u v q]
     refine ⟨d1, fun z w hw => ?_⟩
     have := d2 z _ ((mm _).mp hw)
     rw [tn q v w, tn u q w]
     exact ⟨this.2, this.1⟩
   have := rF (D := 1) (o := (0, 0)) (o' := (0, 0)) (fun e => (swp e.2, swp e.1)) (fun a b e => ?_) ok ok' (fun e' => ?_) fun e => ?_
   ·rw [this, Int.one_mul]
   ·injection e with e1 e2
    exact Prod.ext (congrArg swp e2) (congrArg swp e1)
   ·rw [ed]
    constructor
    ·intro he; exact ⟨(swp e'.2, swp e'.1), rfl, he⟩
    ·rintro ⟨e, rfl, he⟩; exact he
   ·rw [Int.one_mul]
    unfold swp aA
    grind
theorem jY {α : Type} [DecidableEq α] : ∀ {l m : List α}, l.Nodup -> (∀ x ∈ l, x ∈ m) -> l.length <= m.length
 | [], m, _, _ => Nat.zero_le _
 | a :: l, m, h, hs => by
  obtain ⟨h1, h2⟩ := List.nodup_cons.mp h
  have am := hs a (.head _)
  have := jY (l := l) (m := m.erase a) h2 fun x hx => (List.mem_erase_of_ne fun e => h1 (by rw [<- e]; exact hx)).mpr (hs x (.tail _ hx))
  rw [List.length_erase_of_mem am] at this
  have := List.length_pos_of_mem am
  rw [List.length_cons]
  omega
theorem Hl.three {a b c : Q2} {R : List Q2} (h : Hl [a, b, c] R) : eI R = if aA a b c < 0 then - aA a b c else aA a b c := by
 rcases h with ⟨f, e⟩ | ⟨_, x, ok⟩
 ·rw [e, f a (.head _) b (.tail _ (.head _)) c (.tail _ (.tail _ (.head _)))]
  rfl
 ·have l3 : R.length <= 3 := jY ok.nd ok.sub
  have g3 := ok.len
  match R, l3, g3, ok with
  | [p, q, r], _, _, ok =>
   have cv : 0 < aA p q r := ok.conv 2 (by simp)
   have ar : eI [p, q, r] = aA p q r := by
    show crs (r, p) + (crs (p, q) + (crs (q, r) + 0)) = _
    unfold crs aA
    grind
   have mp := ok.sub p (.head _)
   have mq := ok.sub q (.tail _ (.head _))
   have mr := ok.sub r (.tail _ (.tail _ (.head _)))
   have k : aA p q r = aA a b c \/ aA p q r = - aA a b c \/ aA p q r = 0 := by
    simp only [List.mem_cons, List.not_mem_nil, or_false] at mp mq mr
    clear ok cv ar
    rcases mp with rfl | rfl | rfl <;> rcases mq with rfl | rfl | rfl <;> rcases mr with rfl | rfl | rfl <;> unfold aA <;> first | (right; right; grind) | (left; grind) | (right; left; grind)
   rw [ar]
   split <;> omega
end N
namespace N
def cr (a b : Q2) : Int := a.1 * b.2 - a.2 * b.1
def dt (a b : Q2) : Int := a.1 * b.1 + a.2 * b.2
def ad (a b : Q2) : Q2 := (a.1 + b.1, a.2 + b.2)
def sb (a b : Q2) : Q2 := (a.1 - b.1, a.2 - b.2)
theorem uE (x : Int) : 0 <= x * x := by
 rw [<- Int.natAbs_mul_self]
 exact Int.natCast_nonneg _
theorem fG {f : Q2} (h : f ≠ (0, 0)) : 0 < dt f f := by
 unfold dt
 have a := uE f.1
 have b := uE f.2
 refine Int.not_le.mp fun z => h ?_
 have a0 : f.1 * f.1 = 0 := by omega
 have b0 : f.2 * f.2 = 0 := by omega
 exact Prod.ext (by rcases Int.mul_eq_zero.mp a0 with q | q <;> exact q) (by rcases Int.mul_eq_zero.mp b0 with q | q <;> exact q)
theorem kH {f g : Q2} (h : 0 < dt f g) : f ≠ (0, 0) /\ g ≠ (0, 0) := by
 constructor
 ·rintro rfl; unfold dt at h; simp at h
 ·rintro rfl; unfold dt at h; simp at h
theorem lG {f p q : Q2} (h : f ≠ (0, 0)) (h1 : cr p f = cr q f) (h2 : dt f p = dt f q) : p = q := by
 have hf := fG h
 have e1 : (p.1 - q.1) * dt f f = 0 := by unfold cr dt at *; grind
 have e2 : (p.2 - q.2) * dt f f = 0 := by unfold cr dt at *; grind
 refine Prod.ext ?_ ?_
 ·rcases Int.mul_eq_zero.mp e1 with z | z <;> omega
 ·rcases Int.mul_eq_zero.mp e2 with z | z <;> omega
structure Par (f g : Q2) : Prop where
 c : cr f g = 0
 d : 0 < dt f g
theorem Par.symm {f g : Q2} (h : Par f g) : Par g f := ⟨by have := h.c; unfold cr at *; grind, by have := h.d; unfold dt at *; grind⟩
theorem uT {f g : Q2} (h : cr f g = 0) (x : Q2) : dt f f * cr x g = dt f g * cr x f := by unfold cr dt at *; grind
theorem aAu {f g : Q2} (h : cr f g = 0) (x : Q2) : dt f f * dt g x = dt f g * dt f x := by unfold cr dt at *; grind
structure Fc (P : List Q2) (f p : Q2) : Prop where
 m : p ∈ P
 r : ∀ q ∈ P, cr q f <= cr p f
structure Fst (P : List Q2) (f p : Q2) : Prop where
 c : Fc P f p
 d : ∀ q, Fc P f q -> dt f p <= dt f q
structure Lst (P : List Q2) (f p : Q2) : Prop where
 c : Fc P f p
 d : ∀ q, Fc P f q -> dt f q <= dt f p
section
variable {P Q S : List Q2} {f g p q u v : Q2}
theorem Fc.par (h : Par f g) (F : Fc P f p) : Fc P g p := ⟨F.m, fun q hq => by
 have a := Int.mul_le_mul_of_nonneg_left (F.r q hq) (Int.le_of_lt h.d)
 rw [<- uT h.c, <- uT h.c] at a
 exact Int.le_of_mul_le_mul_left a (fG (kH h.d).1)⟩
theorem aAz (h : Par f g) {x y : Q2} (l : dt f x <= dt f y) : dt g x <= dt g y := by
 have a := Int.mul_le_mul_of_nonneg_left l (Int.le_of_lt h.d)
 rw [<- aAu h.c, <- aAu h.c] at a
 exact Int.le_of_mul_le_mul_left a (fG (kH h.d).1)
theorem Fst.par (h : Par f g) (F : Fst P f p) : Fst P g p := ⟨F.c.par h, fun q hq => aAz h (F.d q (hq.par h.symm))⟩
theorem Lst.par (h : Par f g) (F : Lst P f p) : Lst P g p := ⟨F.c.par h, fun q hq => aAz h (F.d q (hq.par h.symm))⟩
theorem Fc.eq (a : Fc P f p) (b : Fc P f q) : cr p f = cr q f := by
 have := a.r q b.m
 have := b.r p a.m
 omega
theorem Fst.uq (h : f ≠ (0, 0)) (a : Fst P f p) (b : Fst P f q) : p = q := lG h (a.c.eq b.c) (by have := a.d q b.c; have := b.d p a.c; omega)
theorem Lst.uq (h : f ≠ (0, 0)) (a : Lst P f p) (b : Lst P f q) : p = q := lG h (a.c.eq b.c) (by have := a.d q b.c; have := b.d p a.c; omega)
theorem vA (pn0 : P ≠ []) (f : Q2) : ∃ m, Fc P f m := by
 obtain ⟨m, hm, h⟩ := nZ (fun q : Q2 => - cr q f) pn0
 exact ⟨m, hm, fun q hq => by have := h q hq; omega⟩
theorem aGc (pn0 : P ≠ []) (f : Q2) : ∃ p, Fst P f p := by
 obtain ⟨m, hm⟩ := vA pn0 f
 have hn : (P.filter fun q => cr q f = cr m f) ≠ [] := fun z => by
  have : m ∈ P.filter fun q => cr q f = cr m f := List.mem_filter.mpr ⟨hm.m, decide_eq_true rfl⟩
  rw [z] at this
  cases this
 obtain ⟨p, hp, h⟩ := nZ (fun q : Q2 => dt f q) hn
 obtain ⟨h1, h2⟩ := List.mem_filter.mp hp
 have h2 : cr p f = cr m f := of_decide_eq_true h2
 exact ⟨p, ⟨h1, fun q hq => by rw [h2]; exact hm.r q hq⟩, fun q hq => h q (List.mem_filter.mpr ⟨hq.m, decide_eq_true (hq.eq hm)⟩)⟩
theorem aHb (pn0 : P ≠ []) (f : Q2) : ∃ p, Lst P f p := by
 obtain ⟨m, hm⟩ := vA pn0 f
 have hn : (P.filter fun q => cr q f = cr m f) ≠ [] := fun z => by
  have : m ∈ P.filter fun q => cr q f = cr m f := List.mem_filter.mpr ⟨hm.m, decide_eq_true rfl⟩
  rw [z] at this
  cases this
 obtain ⟨p, hp, h⟩ := nZ (fun q : Q2 => - dt f q) hn
 obtain ⟨h1, h2⟩ := List.mem_filter.mp hp
 have h2 : cr p f = cr m f := of_decide_eq_true h2
 exact ⟨p, ⟨h1, fun q hq => by rw [h2]; exact hm.r q hq⟩, fun q hq => by have := h q (List.mem_filter.mpr ⟨hq.m, decide_eq_true (hq.eq hm)⟩); omega⟩
end
noncomputable def fs (P : List Q2) (f : Q2) : Q2 := Classical.epsilon (Fst P f)
noncomputable def ls (P : List Q2) (f : Q2) : Q2 := Classical.epsilon (Lst P f)
theorem fW {P : List Q2} (pn0 : P ≠ []) (f : Q2) : Fst P f (fs P f) := Classical.epsilon_spec (aGc pn0 f)
theorem jD {P : List Q2} (pn0 : P ≠ []) (f : Q2) : Lst P f (ls P f) := Classical.epsilon_spec (aHb pn0 f)
structure GE (P : List Q2) (u v : Q2) : Prop where
 n : u ≠ v
 a : Fst P (sb v u) u
 b : Lst P (sb v u) v
theorem gB {u v : Q2} (h : u ≠ v) : sb v u ≠ (0, 0) := fun z => h (by
 unfold sb at z
 injection z with z1 z2
 exact Prod.ext (by omega) (by omega))
noncomputable def mx (P : List Q2) (f : Q2) : Int := cr (fs P f) f
theorem aAi {P : List Q2} {f p : Q2} (h : Fc P f p) : cr p f = mx P f := h.eq (fW (fun z => by have := h.m; rw [z] at this; cases this) f).c
theorem aFa {P : List Q2} {f p : Q2} (h : p ∈ P) : cr p f <= mx P f := (fW (fun z => by rw [z] at h; cases h) f).c.r p h
theorem aGf {P : List Q2} (pn0 : P ≠ []) (f : Q2) : ∃ p ∈ P, cr p f = mx P f := ⟨_, (fW pn0 f).c.m, rfl⟩
section
variable {P Q S : List Q2} {f g p q u v : Q2} (sm0 : ∀ s, s ∈ S ↔ ∃ p ∈ P, ∃ q ∈ Q, s = ad p q)
include sm0
theorem kI (a : Fc P f p) (b : Fc Q f q) : Fc S f (ad p q) := ⟨(sm0 _).mpr ⟨p, a.m, q, b.m, rfl⟩, fun s hs => by
 obtain ⟨p2, h1, q2, h2, rfl⟩ := (sm0 s).mp hs
 have := a.r p2 h1
 have := b.r q2 h2
 unfold cr ad at *
 grind⟩
theorem p6 (hp : p ∈ P) (hq : q ∈ Q) (h : Fc S f (ad p q)) : Fc P f p /\ Fc Q f q := ⟨⟨hp, fun p2 h2 => by
 have := h.r (ad p2 q) ((sm0 _).mpr ⟨p2, h2, q, hq, rfl⟩)
 unfold cr ad at *
 grind⟩, hq, fun q2 h2 => by
 have := h.r (ad p q2) ((sm0 _).mpr ⟨p, hp, q2, h2, rfl⟩)
 unfold cr ad at *
 grind⟩
theorem vR (a : Fst P f p) (b : Fst Q f q) : Fst S f (ad p q) := ⟨kI sm0 a.c b.c, fun s hs => by
 obtain ⟨p2, h1, q2, h2, rfl⟩ := (sm0 s).mp hs.m
 obtain ⟨c1, c2⟩ := p6 sm0 h1 h2 hs
 have := a.d p2 c1
 have := b.d q2 c2
 unfold dt ad at *
 grind⟩
theorem wI (a : Lst P f p) (b : Lst Q f q) : Lst S f (ad p q) := ⟨kI sm0 a.c b.c, fun s hs => by
 obtain ⟨p2, h1, q2, h2, rfl⟩ := (sm0 s).mp hs.m
 obtain ⟨c1, c2⟩ := p6 sm0 h1 h2 hs
 have := a.d p2 c1
 have := b.d q2 c2
 unfold dt ad at *
 grind⟩
theorem aD3 (hp : p ∈ P) (hq : q ∈ Q) (h : Fst S f (ad p q)) : Fst P f p /\ Fst Q f q := by
 obtain ⟨c1, c2⟩ := p6 sm0 hp hq h.c
 refine ⟨⟨c1, fun p2 h2 => ?_⟩, c2, fun q2 h2 => ?_⟩
 ·have := h.d _ (kI sm0 h2 c2)
  unfold dt ad at *
  grind
 ·have := h.d _ (kI sm0 c1 h2)
  unfold dt ad at *
  grind
theorem aD6 (hp : p ∈ P) (hq : q ∈ Q) (h : Lst S f (ad p q)) : Lst P f p /\ Lst Q f q := by
 obtain ⟨c1, c2⟩ := p6 sm0 hp hq h.c
 refine ⟨⟨c1, fun p2 h2 => ?_⟩, c2, fun q2 h2 => ?_⟩
 ·have := h.d _ (kI sm0 h2 c2)
  unfold dt ad at *
  grind
 ·have := h.d _ (kI sm0 c1 h2)
  unfold dt ad at *
  grind
end
noncomputable def pe (P : List Q2) (e : Q2 × Q2) : Q2 × Q2 := (fs P (sb e.2 e.1), ls P (sb e.2 e.1))
theorem rJ {P : List Q2} {f : Q2} (pn0 : P ≠ []) : cr f (sb (ls P f) (fs P f)) = 0 /\ 0 <= dt f (sb (ls P f) (fs P f)) := by
 have a := fW pn0 f
 have b := jD pn0 f
 have e := a.c.eq b.c
 have l := a.d _ b.c
 generalize fs P f = x at *
 generalize ls P f = y at *
 unfold cr dt sb at *
 constructor
 ·grind
 ·grind
theorem fB {P : List Q2} {f : Q2} (pn0 : P ≠ []) (hf : f ≠ (0, 0)) (h : fs P f ≠ ls P f) : Par f (sb (ls P f) (fs P f)) := by
 obtain ⟨c, d⟩ := rJ (f := f) pn0
 refine ⟨c, ?_⟩
 rcases Int.lt_or_eq_of_le d with z | z
 ·exact z
 ·refine absurd (lG hf ((fW pn0 f).c.eq (jD pn0 f).c) ?_) h
  generalize fs P f = x at *
  generalize ls P f = y at *
  unfold dt sb at *
  grind
theorem aG3 {P : List Q2} {f : Q2} (pn0 : P ≠ []) (hf : f ≠ (0, 0)) (h : fs P f ≠ ls P f) : GE P (fs P f) (ls P f) := ⟨h, (fW pn0 f).par (fB pn0 hf h), (jD pn0 f).par (fB pn0 hf h)⟩
structure Es (P : List Q2) (E : List (Q2 × Q2)) : Prop where
 nd : E.Nodup
 mem : ∀ e, e ∈ E ↔ GE P e.1 e.2
 tl : ∀ h : Q2 -> Int, (E.map fun e => h e.1).sum = (E.map fun e => h e.2).sum
theorem vN {α : Type} {F : α -> Int} {p : α -> Bool} : ∀ {l : List α}, (∀ x ∈ l, p x = false -> F x = 0) -> (l.map F).sum = ((l.filter p).map F).sum
 | [], _ => rfl
 | x :: l, h => by
  have ih := vN (F := F) (p := p) (l := l) fun y hy => h y (.tail _ hy)
  rw [List.filter_cons]
  cases e : p x with
  | true => rw [if_pos rfl, List.map_cons, List.map_cons, List.sum_cons, List.sum_cons, ih]
  | false => rw [if_neg (by decide), List.map_cons, List.sum_cons, ih, h x (.head _) e, Int.zero_add]
section
variable {P Q S : List Q2} (sm0 : ∀ s, s ∈ S ↔ ∃ p ∈ P, ∃ q ∈ Q, s = ad p q) (pn0 : P ≠ []) (qn0 : Q ≠ [])
include sm0 pn0 qn0
theorem yX {u v : Q2} (h : GE S u v) : u = ad (fs P (sb v u)) (fs Q (sb v u)) /\ v = ad (ls P (sb v u)) (ls Q (sb v u)) :=
 ⟨h.a.uq (gB h.n) (vR sm0 (fW pn0 _) (fW qn0 _)), h.b.uq (gB h.n) (wI sm0 (jD pn0 _) (jD qn0 _))⟩
theorem aIo {p p' : Q2} (h : GE P p p') : ∃ u v, GE S u v /\ fs P (sb v u) = p /\ ls P (sb v u) = p' := by
 have hf := gB h.n
 generalize ef : sb p' p = f at *
 have ha : Fst P f p := by rw [<- ef]; exact h.a
 have hb : Lst P f p' := by rw [<- ef]; exact h.b
 have a := vR sm0 ha (fW qn0 f)
 have b := wI sm0 hb (jD qn0 f)
 obtain ⟨c1, c2⟩ := rJ (f := f) qn0
 have pf := fG hf
 have pr : Par f (sb (ad p' (ls Q f)) (ad p (fs Q f))) := by
  generalize fs Q f = x at *
  generalize ls Q f = y at *
  subst ef
  constructor
  ·unfold cr sb ad at *; grind
  ·unfold dt sb ad at *; grind
 have n : ad p (fs Q f) ≠ ad p' (ls Q f) := fun z => by
  have := (kH pr.d).2
  rw [z] at this
  exact this (by unfold sb; simp)
 refine ⟨_, _, ⟨n, a.par pr, b.par pr⟩, ?_, ?_⟩
 ·exact (fW pn0 _).uq (kH pr.d).2 (ha.par pr)
 ·exact (jD pn0 _).uq (kH pr.d).2 (hb.par pr)
theorem aEd {ES EP : List (Q2 × Q2)} (es : Es S ES) (ep : Es P EP) : ((ES.filter fun e => decide ((pe P e).1 ≠ (pe P e).2)).map (pe P)).Perm EP := by
 refine L2.gP ?_ ep.nd fun e' => ?_
 ·refine List.pairwise_map.mpr (List.Pairwise.imp_of_mem (fun {a b} ha hb hab e => hab ?_) (es.nd.filter _))
  obtain ⟨a1, a2⟩ := List.mem_filter.mp ha
  obtain ⟨b1, b2⟩ := List.mem_filter.mp hb
  have ga := (es.mem a).mp a1
  have gb := (es.mem b).mp b1
  have na : fs P (sb a.2 a.1) ≠ ls P (sb a.2 a.1) := of_decide_eq_true a2
  have nb : fs P (sb b.2 b.1) ≠ ls P (sb b.2 b.1) := of_decide_eq_true b2
  have pa := fB pn0 (gB ga.n) na
  have pb := fB pn0 (gB gb.n) nb
  unfold pe at e
  injection e with i1 i2
  rw [<- i1, <- i2] at pb
  have nz := (kH pa.d).2
  exact Prod.ext ((ga.a.par pa).uq nz (gb.a.par pb)) ((ga.b.par pa).uq nz (gb.b.par pb))
 ·rw [ep.mem, List.mem_map]
  constructor
  ·rintro ⟨e, he, rfl⟩
   obtain ⟨a1, a2⟩ := List.mem_filter.mp he
   exact aG3 pn0 (gB ((es.mem e).mp a1).n) (of_decide_eq_true a2)
  ·intro h
   obtain ⟨u, v, g, i1, i2⟩ := aIo sm0 pn0 qn0 h
   refine ⟨(u, v), List.mem_filter.mpr ⟨(es.mem _).mpr g, decide_eq_true ?_⟩, ?_⟩
   ·show fs P (sb v u) ≠ ls P (sb v u)
    rw [i1, i2]
    exact h.n
   ·exact Prod.ext i1 i2
theorem uW {ES EP : List (Q2 × Q2)} (es : Es S ES) (ep : Es P EP) (φ : Q2 × Q2 -> Int) (φ0 : ∀ p, φ (p, p) = 0) : (ES.map fun e => φ (pe P e)).sum = (EP.map φ).sum := by
 rw [vN (p := fun e => decide ((pe P e).1 ≠ (pe P e).2)) fun e _ h => by
  have z : (pe P e).1 = (pe P e).2 := Classical.not_not.mp (of_decide_eq_false h)
  have : pe P e = ((pe P e).1, (pe P e).1) := Prod.ext rfl z.symm
  rw [this]
  exact φ0 _]
 have e1 : ((ES.filter fun e => decide ((pe P e).1 ≠ (pe P e).2)).map fun e => φ (pe P e)) = ((ES.filter fun e => decide ((pe P e).1 ≠ (pe P e).2)).map (pe P)).map φ := by rw [List.map_map]; rfl
 rw [e1]
 exact iT ((aEd sm0 pn0 qn0 es ep).map φ)
end
end N
namespace N
theorem mM (a b : Q2) : ad a b = ad b a := by unfold ad; rw [Int.add_comm, Int.add_comm a.2]
theorem lJ (a : Q2) : sb a a = (0, 0) := by unfold sb; rw [Int.sub_self, Int.sub_self]
theorem aH6 (a : Q2) : cr a (0, 0) = 0 := by unfold cr; simp
theorem i7 (e : Q2 × Q2) : crs e = cr e.1 e.2 := by unfold crs cr aA; grind
theorem aKc {α : Type} {F A B C D : α -> Int} : ∀ {l : List α}, (∀ e ∈ l, F e = A e + B e + (C e + D e)) -> (l.map F).sum = (l.map A).sum + (l.map B).sum + ((l.map C).sum + (l.map D).sum)
 | [], _ => rfl
 | x :: l, h => by
  have ih := aKc (l := l) fun y hy => h y (.tail _ hy)
  simp only [List.map_cons, List.sum_cons]
  rw [ih, h x (.head _)]
  omega
theorem mZ {α : Type} {F G : α -> Int} : ∀ {l : List α}, (∀ e ∈ l, F e = G e) -> (l.map F).sum = (l.map G).sum := fun {l} h => by rw [List.map_congr_left h]
theorem sum2 {α : Type} {A B C D : α -> Int} : ∀ {l : List α}, (∀ e ∈ l, A e + B e = C e + D e) -> (l.map A).sum + (l.map B).sum = (l.map C).sum + (l.map D).sum
 | [], _ => rfl
 | x :: l, h => by
  have ih := sum2 (l := l) fun y hy => h y (.tail _ hy)
  have := h x (.head _)
  simp only [List.map_cons, List.sum_cons]
  omega
noncomputable def dcm (P Q : List Q2) (s : Q2) : Q2 × Q2 := Classical.epsilon fun x => x.1 ∈ P /\ x.2 ∈ Q /\ s = ad x.1 x.2
theorem gK {P Q S : List Q2} {ES EP EQ : List (Q2 × Q2)} (sm0 : ∀ s, s ∈ S ↔ ∃ p ∈ P, ∃ q ∈ Q, s = ad p q) (pn0 : P ≠ []) (qn0 : Q ≠ []) (es : Es S ES) (ep : Es P EP) (eq : Es Q EQ) : (ES.map crs).sum = (EP.map crs).sum + (EQ.map crs).sum + 2 * (EQ.map fun e => mx P (sb e.2 e.1)).sum := by
 have sm0' : ∀ s, s ∈ S ↔ ∃ q ∈ Q, ∃ p ∈ P, s = ad q p := fun s => by
  rw [sm0 s]
  constructor
  ·rintro ⟨p, hp, q, hq, e⟩; exact ⟨q, hq, p, hp, by rw [e, mM]⟩
  ·rintro ⟨q, hq, p, hp, e⟩; exact ⟨p, hp, q, hq, by rw [e, mM]⟩
 have s1 := uW sm0 pn0 qn0 es ep crs fun p => by rw [i7]; unfold cr; grind
 have s2 := uW sm0' qn0 pn0 es eq crs fun p => by rw [i7]; unfold cr; grind
 have s3 := uW sm0' qn0 pn0 es eq (fun e => mx P (sb e.2 e.1)) fun p => by
  show mx P (sb p p) = 0
  rw [lJ]
  exact aH6 _
 have all : ∀ e ∈ ES, (crs e = crs (pe P e) + crs (pe Q e) + (mx P (sb (pe Q e).2 (pe Q e).1) + cr (pe Q e).1 (sb (pe P e).2 (pe P e).1))) /\ (fun s => cr (dcm P Q s).1 (dcm P Q s).2) e.2 + cr (pe Q e).1 (sb (pe P e).2 (pe P e).1) = (fun s => cr (dcm P Q s).1 (dcm P Q s).2) e.1 + mx P (sb (pe Q e).2 (pe Q e).1) := fun e he => by
  have g := (es.mem e).mp he
  have hf := gB g.n
  obtain ⟨e1, e2⟩ := yX sm0 pn0 qn0 g
  have d1 : dcm P Q e.1 = (fs P (sb e.2 e.1), fs Q (sb e.2 e.1)) := by
   have sp : (dcm P Q e.1).1 ∈ P /\ (dcm P Q e.1).2 ∈ Q /\ e.1 = ad (dcm P Q e.1).1 (dcm P Q e.1).2 := by
    obtain ⟨p, hp, q, hq, z⟩ := (sm0 _).mp g.a.c.m
    exact Classical.epsilon_spec (p := fun x : Q2 × Q2 => x.1 ∈ P /\ x.2 ∈ Q /\ e.1 = ad x.1 x.2) ⟨(p, q), hp, hq, z⟩
   obtain ⟨h1, h2, h3⟩ := sp
   obtain ⟨a, b⟩ := aD3 sm0 h1 h2 (by rw [<- h3]; exact g.a)
   exact Prod.ext (a.uq hf (fW pn0 _)) (b.uq hf (fW qn0 _))
  have d2 : dcm P Q e.2 = (ls P (sb e.2 e.1), ls Q (sb e.2 e.1)) := by
   have sp : (dcm P Q e.2).1 ∈ P /\ (dcm P Q e.2).2 ∈ Q /\ e.2 = ad (dcm P Q e.2).1 (dcm P Q e.2).2 := by
    obtain ⟨p, hp, q, hq, z⟩ := (sm0 _).mp g.b.c.m
    exact Classical.epsilon_spec (p := fun x : Q2 × Q2 => x.1 ∈ P /\ x.2 ∈ Q /\ e.2 = ad x.1 x.2) ⟨(p, q), hp, hq, z⟩
   obtain ⟨h1, h2, h3⟩ := sp
   obtain ⟨a, b⟩ := aD6 sm0 h1 h2 (by rw [<- h3]; exact g.b)
   exact Prod.ext (a.uq hf (jD pn0 _)) (b.uq hf (jD qn0 _))
  have m : cr (fs P (sb e.2 e.1)) (sb (ls Q (sb e.2 e.1)) (fs Q (sb e.2 e.1))) = mx P (sb (ls Q (sb e.2 e.1)) (fs Q (sb e.2 e.1))) := by
   by_cases z : fs Q (sb e.2 e.1) = ls Q (sb e.2 e.1)
   ·rw [z, lJ]
    exact (aH6 _).trans (aH6 _).symm
   ·exact aAi ((fW pn0 _).c.par (fB qn0 hf z))
  obtain ⟨c1, _⟩ := rJ (f := sb e.2 e.1) pn0
  obtain ⟨c2, _⟩ := rJ (f := sb e.2 e.1) qn0
  have pf := fG hf
  dsimp only [pe]
  rw [d1, d2, <- m, i7, i7, i7]
  dsimp only
  have c3 : cr (sb (ls P (sb e.2 e.1)) (fs P (sb e.2 e.1))) (sb (ls Q (sb e.2 e.1)) (fs Q (sb e.2 e.1))) = 0 := by
   have := uT c2 (sb (ls P (sb e.2 e.1)) (fs P (sb e.2 e.1)))
   have z : cr (sb (ls P (sb e.2 e.1)) (fs P (sb e.2 e.1))) (sb e.2 e.1) = 0 := by
    generalize sb (ls P (sb e.2 e.1)) (fs P (sb e.2 e.1)) = w at *
    unfold cr at *
    grind
   rw [z, Int.mul_zero] at this
   rcases Int.mul_eq_zero.mp this with k | k
   ·omega
   ·exact k
  constructor
  ·have k : cr e.1 e.2 = cr (ad (fs P (sb e.2 e.1)) (fs Q (sb e.2 e.1))) (ad (ls P (sb e.2 e.1)) (ls Q (sb e.2 e.1))) := by rw [<- e1, <- e2]
   rw [k]
   generalize fs P (sb e.2 e.1) = p at *
   generalize ls P (sb e.2 e.1) = p' at *
   generalize fs Q (sb e.2 e.1) = q at *
   generalize ls Q (sb e.2 e.1) = q' at *
   unfold cr ad sb
   grind
  ·generalize fs P (sb e.2 e.1) = p at *
   generalize ls P (sb e.2 e.1) = p' at *
   generalize fs Q (sb e.2 e.1) = q at *
   generalize ls Q (sb e.2 e.1) = q' at *
   unfold cr sb at *
   grind
 have t := es.tl fun s => cr (dcm P Q s).1 (dcm P Q s).2
 have u := sum2 fun e he => (all e he).2
 have v := aKc fun e he => (all e he).1
 rw [v]
 rw [s1, s2, s3]
 dsimp only at u t
 rw [s3] at u
 omega
theorem aG1 {ps : List Q2} {R : List Q2} {x u v : Q2} (ok : RingOk R ps x) : Edg ps u v ↔ GE ps u v := by
 constructor
 ·rintro ⟨hu, hv, hn, hl⟩
  obtain ⟨z, hz, nz⟩ := mQ ok hn
  have zp : 0 < aA u v z := by have := (hl z hz).1; omega
  have fu : Fc ps (sb v u) u := ⟨hu, fun q hq => by have := (hl q hq).1; unfold aA at this; unfold cr sb; grind⟩
  have fv : Fc ps (sb v u) v := ⟨hv, fun q hq => by have := (hl q hq).1; unfold aA at this; unfold cr sb; grind⟩
  have pf := fG (gB hn)
  have bt : ∀ q, Fc ps (sb v u) q -> dt (sb v u) u <= dt (sb v u) q /\ dt (sb v u) q <= dt (sb v u) v := fun q hq => by
   have e := hq.eq fu
   have t0 : aA u v q = 0 := by unfold cr sb at e; unfold aA; grind
   obtain ⟨a, b⟩ := (hl q hq.m).2 t0 z hz
   have i1 : dt (sb v u) (sb q u) * aA u v z = dt (sb v u) (sb v u) * aA u q z := by unfold dt sb aA at *; grind
   have i2 : dt (sb v u) (sb v q) * aA u v z = dt (sb v u) (sb v u) * aA q v z := by unfold dt sb aA at *; grind
   have k1 := bP zp i1 (Int.mul_nonneg (Int.le_of_lt pf) b)
   have k2 := bP zp i2 (Int.mul_nonneg (Int.le_of_lt pf) a)
   unfold dt sb at *
   constructor <;> grind
  exact ⟨hn, ⟨fu, fun q hq => (bt q hq).1⟩, ⟨fv, fun q hq => (bt q hq).2⟩⟩
 ·rintro ⟨hn, a, b⟩
  have l : ∀ q ∈ ps, 0 <= aA u v q := fun q hq => by have := a.c.r q hq; unfold cr sb at this; unfold aA; grind
  have pf := fG (gB hn)
  refine ⟨a.c.m, b.c.m, hn, fun q hq => ⟨l q hq, fun t0 w hw => ?_⟩⟩
  have fq : Fc ps (sb v u) q := ⟨hq, fun r hr => by
   have k := a.c.r r hr
   have : cr q (sb v u) = cr u (sb v u) := by unfold cr sb; unfold aA at t0; grind
   omega⟩
  have h1 := a.d q fq
  have h2 := b.d q fq
  have lw := l w hw
  have i1 : aA q v w * dt (sb v u) (sb v u) = dt (sb v u) (sb v q) * aA u v w := by unfold dt sb aA at *; grind
  have i2 : aA u q w * dt (sb v u) (sb v u) = dt (sb v u) (sb q u) * aA u v w := by unfold dt sb aA at *; grind
  have n1 : 0 <= dt (sb v u) (sb v q) := by unfold dt sb at *; grind
  have n2 : 0 <= dt (sb v u) (sb q u) := by unfold dt sb at *; grind
  exact ⟨bP pf i1 (Int.mul_nonneg n1 lw), bP pf i2 (Int.mul_nonneg n2 lw)⟩
theorem oP {ps : List Q2} (h : Flt ps) {u v a b : Q2} (hu : u ∈ ps) (hv : v ∈ ps) (ha : a ∈ ps) (hb : b ∈ ps) : cr (sb v u) (sb b a) = 0 := by
 have h1 := h u hu v hv a ha
 have h2 := h u hu v hv b hb
 unfold aA at h1 h2
 unfold cr sb
 grind
theorem gT {ps : List Q2} (h : Flt ps) {u v q : Q2} (hu : u ∈ ps) (hv : v ∈ ps) (hq : q ∈ ps) : Fc ps (sb v u) q := ⟨hq, fun r hr => by
 have := oP h hu hv hq hr
 unfold cr sb at *
 grind⟩
theorem nA {ps : List Q2} (h : Flt ps) {x y : Q2} (g : GE ps x y) : GE ps y x := by
 have mx := g.a.c.m
 have my := g.b.c.m
 refine ⟨g.n.symm, ⟨gT h my mx my, fun q hq => ?_⟩, ⟨gT h my mx mx, fun q hq => ?_⟩⟩
 ·have := g.b.d q (gT h mx my hq.m)
  unfold dt sb at *
  grind
 ·have := g.a.d q (gT h mx my hq.m)
  unfold dt sb at *
  grind
theorem aCo {ps : List Q2} (h : Flt ps) (h0 : ps ≠ []) : ∃ E, Es ps E /\ (E.map crs).sum = 0 /\ E.length <= 2 := by
 by_cases z : ∃ u ∈ ps, ∃ v ∈ ps, u ≠ v
 ·obtain ⟨u, hu, v, hv, hn⟩ := z
  have hf := gB hn
  have pf := fG hf
  have xl : dt (sb v u) (fs ps (sb v u)) <= dt (sb v u) u := (fW h0 (sb v u)).d u (gT h hu hv hu)
  have yl : dt (sb v u) v <= dt (sb v u) (ls ps (sb v u)) := (jD h0 (sb v u)).d v (gT h hu hv hv)
  have lt : dt (sb v u) u < dt (sb v u) v := by unfold dt sb at *; grind
  have g : GE ps (fs ps (sb v u)) (ls ps (sb v u)) := aG3 h0 hf fun e => by rw [<- e] at yl; omega
  have fo := fW h0 (sb v u)
  have lo := jD h0 (sb v u)
  generalize fs ps (sb v u) = x at *
  generalize ls ps (sb v u) = y at *
  refine ⟨[(x, y), (y, x)], ⟨?_, fun e => ?_, fun k => ?_⟩, ?_, Nat.le_refl _⟩
  ·refine List.nodup_cons.mpr ⟨fun m => ?_, List.nodup_cons.mpr ⟨fun m => (nomatch m), List.Pairwise.nil⟩⟩
   have := List.mem_singleton.mp m
   injection this with i1 i2
   exact g.n i1
  ·constructor
   ·intro m
    rcases List.mem_cons.mp m with m | m
    ·rw [m]; exact g
    ·rw [List.mem_singleton.mp m]; exact nA h g
   ·intro k
    have ne := gB k.n
    have c := oP h hu hv k.a.c.m k.b.c.m
    have dn : dt (sb v u) (sb e.2 e.1) ≠ 0 := fun z => ne (lG hf (by unfold cr at *; grind) (by rw [z]; unfold dt; simp))
    have one : ∀ {a b : Q2}, GE ps a b -> cr (sb v u) (sb b a) = 0 -> 0 < dt (sb v u) (sb b a) -> a = x /\ b = y := fun {a b} k c d => by
     have pr : Par (sb v u) (sb b a) := ⟨c, d⟩
     exact ⟨k.a.uq (gB k.n) (fo.par pr), k.b.uq (gB k.n) (lo.par pr)⟩
    rcases Int.lt_or_gt_of_ne dn with d | d
    ·obtain ⟨a, b⟩ := one (nA h k) (oP h hu hv k.b.c.m k.a.c.m) (by unfold dt sb at *; grind)
     exact .tail _ (List.mem_singleton.mpr (Prod.ext b a))
    ·obtain ⟨a, b⟩ := one k c d
     rw [show e = (x, y) from Prod.ext a b]
     exact .head _
  ·simp only [List.map_cons, List.map_nil, List.sum_cons, List.sum_nil]; omega
  ·simp only [List.map_cons, List.map_nil, List.sum_cons, List.sum_nil, i7]; unfold cr; grind
 ·refine ⟨[], ⟨List.Pairwise.nil, fun e => ⟨fun m => (nomatch m), fun k => ?_⟩, fun _ => rfl⟩, rfl, Nat.zero_le _⟩
  exact absurd ⟨_, k.a.c.m, _, k.b.c.m, k.n⟩ z
theorem jI {rs ps : List Q2} (hs : rs.Pairwise ltQ) (hm : ∀ p, p ∈ rs ↔ p ∈ ps) (h0 : rs ≠ []) (f : Flt ps) : (bY rs).length <= 2 /\ (bY rs).length <= rs.length := by
 obtain ⟨x, hx⟩ : ∃ x, rs.head? = some x := by
  cases rs with
  | nil => exact absurd rfl h0
  | cons a r => exact ⟨a, rfl⟩
 obtain ⟨y, hy⟩ : ∃ y, rs.getLast? = some y := by
  cases e : rs.getLast? with
  | none => exact absurd (List.getLast?_eq_none_iff.mp e) h0
  | some a => exact ⟨a, rfl⟩
 have hr := jJ hs hx hy
 have xm := List.mem_of_head? hx
 have ym := List.mem_of_getLast? hy
 rw [if_pos fun q hq => f x ((hm x).mp xm) y ((hm y).mp ym) q ((hm q).mp hq)] at hr
 rw [hr]
 have l1 := List.length_pos_iff.mpr h0
 split
 ·exact ⟨by simp, l1⟩
 ·rename_i z
  refine ⟨by simp, ?_⟩
  match rs, xm, ym, l1 with
  | [a], xm, ym, _ => exact absurd ((List.mem_singleton.mp xm).trans (List.mem_singleton.mp ym).symm) z
  | a :: b :: r, _, _, _ => simp
theorem aC8 {rs ps : List Q2} (hs : rs.Pairwise ltQ) (hm : ∀ p, p ∈ rs ↔ p ∈ ps) (h0 : rs ≠ []) : (bY rs).length <= rs.length := by
 rcases o6 hs hm h0 with ⟨f, a⟩ | ⟨_, x, ok⟩
 ·exact (jI hs hm h0 f).2
 ·exact jY ok.nd fun p hp => (hm p).mpr (ok.sub p hp)
theorem aIa {rs ps : List Q2} (hs : rs.Pairwise ltQ) (hm : ∀ p, p ∈ rs ↔ p ∈ ps) (h0 : rs ≠ []) : ∃ E, Es ps E /\ (E.map crs).sum = eI (bY rs) /\ (bY rs).length <= max 2 E.length /\ E.length <= max 2 (bY rs).length := by
 have p0 : ps ≠ [] := fun z => by
  cases rs with
  | nil => exact h0 rfl
  | cons a r => have := (hm a).mp (.head _); rw [z] at this; cases this
 rcases o6 hs hm h0 with ⟨f, a⟩ | ⟨_, x, ok⟩
 ·obtain ⟨E, e1, e2, e3⟩ := aCo f p0
  have := (jI hs hm h0 f).1
  exact ⟨E, e1, e2.trans a.symm, by omega, by omega⟩
 ·have le : (edg (bY rs)).length = (bY rs).length := by unfold edg; rw [List.length_map, List.length_range]
  exact ⟨edg (bY rs), ⟨u6 ok, fun e => (l4 ok).trans (aG1 ok), fun h => aJv h _⟩, rfl, by omega, by omega⟩
theorem aJy {b a : Q2} (hb : LP b.1 b.2) (ha : LP a.1 a.2 \/ a = (0, 0)) (c : cr b a = 0) : 0 <= dt b a := by
 have a1 : 0 <= a.1 := by
  rcases ha with (z | z) | z
  ·omega
  ·omega
  ·rw [z]; exact Int.le_refl _
 unfold cr at c
 rcases hb with b1 | ⟨b1, b2⟩
 ·have sq : 0 <= b.1 * b.1 + b.2 * b.2 := Int.add_nonneg (uE _) (uE _)
  refine bP (b := b.1) (c := a.1 * (b.1 * b.1 + b.2 * b.2)) b1 ?_ (Int.mul_nonneg a1 sq)
  unfold dt
  grind
 ·have z1 : a.1 = 0 := by
   have : b.2 * a.1 = 0 := by rw [b1] at c; grind
   rcases Int.mul_eq_zero.mp this with z | z <;> omega
  have a2 : 0 <= a.2 := by
   rcases ha with (z | z) | z
   ·omega
   ·omega
   ·rw [z]; exact Int.le_refl _
  have := Int.mul_nonneg (Int.le_of_lt b2) a2
  unfold dt
  rw [z1, b1]
  omega
theorem pW {rs ps : List Q2} (hs : rs.Pairwise ltQ) (hm : ∀ p, p ∈ rs ↔ p ∈ ps) (h0 : rs ≠ []) : (∀ r ∈ bY rs, r ∈ ps) /\ ∀ f, ∃ r ∈ bY rs, Fc ps f r := by
 obtain ⟨x, hx⟩ : ∃ x, rs.head? = some x := by
  cases rs with
  | nil => exact absurd rfl h0
  | cons a r => exact ⟨a, rfl⟩
 obtain ⟨y, hy⟩ : ∃ y, rs.getLast? = some y := by
  cases e : rs.getLast? with
  | none => exact absurd (List.getLast?_eq_none_iff.mp e) h0
  | some a => exact ⟨a, rfl⟩
 have hr := jJ hs hx hy
 have xm := List.mem_of_head? hx
 have ym := List.mem_of_getLast? hy
 have fx : ∀ q ∈ rs, q = x \/ ltQ x q := fun q hq => by
  cases rs with
  | nil => cases hq
  | cons a r =>
   have e : a = x := Option.some.inj hx
   rcases List.mem_cons.mp hq with k | k
   ·exact .inl (k.trans e)
   ·exact .inr (e ▸ List.rel_of_pairwise_cons hs k)
 have fy : ∀ q ∈ rs, q = y \/ ltQ q y := fun q hq => by
  obtain ⟨l, e⟩ := List.getLast?_eq_some_iff.mp hy
  rw [e] at hq hs
  rcases List.mem_append.mp hq with k | k
  ·exact .inr ((List.pairwise_append.mp hs).2.2 q k y (.head _))
  ·exact .inl (List.mem_singleton.mp k)
 by_cases z : ∀ q ∈ rs, aA x y q = 0
 ·rw [if_pos z] at hr
  by_cases w : x = y
  ·rw [if_pos w] at hr
   rw [hr]
   refine ⟨fun r hr => by rw [List.mem_singleton.mp hr]; exact (hm x).mp xm, fun f => ⟨x, .head _, (hm x).mp xm, fun q hq => ?_⟩⟩
   rcases fx q ((hm q).mpr hq) with k | k
   ·rw [k]; exact Int.le_refl _
   ·rcases fy q ((hm q).mpr hq) with k2 | k2
    ·rw [k2, <- w]; exact Int.le_refl _
    ·rw [w] at k; unfold ltQ at k k2; omega
  ·rw [if_neg w] at hr
   rw [hr]
   have lxy : LP (sb y x).1 (sb y x).2 := by
    rcases fy x xm with k | k
    ·exact absurd k w
    ·exact j8 k
   have pf := fG (gB w)
   have bt : ∀ q ∈ rs, ∀ f, (cr (sb y x) f <= 0 -> cr q f <= cr x f) /\ (0 <= cr (sb y x) f -> cr q f <= cr y f) := fun q hq f => by
    have t := z q hq
    have c1 : cr (sb y x) (sb q x) = 0 := by unfold aA at t; unfold cr sb; grind
    have c2 : cr (sb y x) (sb y q) = 0 := by unfold aA at t; unfold cr sb; grind
    have d1 := aJy lxy (a := sb q x) (by
     rcases fx q hq with k | k
     ·rw [k]; exact .inr (lJ x)
     ·exact .inl (j8 k)) c1
    have d2 := aJy lxy (a := sb y q) (by
     rcases fy q hq with k | k
     ·rw [k]; exact .inr (lJ y)
     ·exact .inl (j8 k)) c2
    have i1 : cr (sb q x) f * dt (sb y x) (sb y x) = dt (sb y x) (sb q x) * cr (sb y x) f := by unfold cr dt sb at *; grind
    have i2 : cr (sb y q) f * dt (sb y x) (sb y x) = dt (sb y x) (sb y q) * cr (sb y x) f := by unfold cr dt sb at *; grind
    constructor
    ·intro l
     have : 0 <= - cr (sb q x) f := bP pf (c := dt (sb y x) (sb q x) * (- cr (sb y x) f)) (by grind) (Int.mul_nonneg d1 (by omega))
     unfold cr sb at *
     grind
    ·intro l
     have : 0 <= cr (sb y q) f := bP pf i2 (Int.mul_nonneg d2 l)
     unfold cr sb at *
     grind
   refine ⟨fun r hr => ?_, fun f => ?_⟩
   ·rcases List.mem_cons.mp hr with k | k
    ·rw [k]; exact (hm x).mp xm
    ·rw [List.mem_singleton.mp k]; exact (hm y).mp ym
   ·by_cases l : cr (sb y x) f <= 0
    ·exact ⟨x, .head _, (hm x).mp xm, fun q hq => (bt q ((hm q).mpr hq) f).1 l⟩
    ·exact ⟨y, .tail _ (.head _), (hm y).mp ym, fun q hq => (bt q ((hm q).mpr hq) f).2 (by omega)⟩
 ·rw [if_neg z] at hr
  refine ⟨fun r h => (hm r).mp (hr.sub r h), fun f => ?_⟩
  obtain ⟨r, h1, h2⟩ := qB hr (- f.2) f.1
  refine ⟨r, h1, (hm r).mp (hr.sub r h1), fun q hq => ?_⟩
  have := h2 q ((hm q).mpr hq)
  unfold cr
  grind
theorem aDy {rs ps : List Q2} (hs : rs.Pairwise ltQ) (hm : ∀ p, p ∈ rs ↔ p ∈ ps) (h0 : rs ≠ []) (f : Q2) : mx (bY rs) f = mx ps f := by
 obtain ⟨a, b⟩ := pW hs hm h0
 obtain ⟨r, h1, h2⟩ := b f
 rw [<- aAi h2, <- aAi (p := r) (P := bY rs) ⟨h1, fun q hq => h2.r q (a q hq)⟩]
end N
namespace My
open PySem PySem.Spec PyProof.Rows L2 M N
local macro_rules | `(tactic| walk_at "z") => `(tactic| repeat (first | assumption | apply L2.Sz.mul | apply N.Sz.addM | apply N.Sz.subM | apply L2.Sz.neg | apply N.sz_fdiv | (apply N.sz_fmod; (first | decide | omega)) | exact N.sz_lit4 (by decide) | exact N.sz_lit (by decide) | exact N.sz_lit70 (by decide) | exact N.sz_big (by decide)))
local macro_rules | `(tactic| walk_at "d") => `(tactic| first | assumption | (first | apply N.cm2 | apply N.cd2) <;> (first | decide | omega | (walk_at "z")) | decide | omega)
local macro_rules | `(tactic| ktr_call 11 ⟨$xs,*⟩) => `(tactic| simp (disch := assumption) only [b8, eE, dI, fR, aI, mC, aE, mUn, aD, aW, a9, gF, dM, pC, aA0, Res.bind, Ev.c, aE1, qN, aM, cF, gC, jK, cH, gM, sW, mOr, aCj, wA, aIg, w8, s9, cU, eD, eU, lM, d6, dat, jL, eqE, kL, nJ, xM, xF, v9, xG, s8, mW, nR, vB, cZ, gZ, eR, wX, List.getElem?_cons_zero, List.getElem?_cons_succ, List.set_cons_zero, List.set_cons_succ, List.length_cons, List.length_nil, List.length_map, List.length_append, if_true, if_false, ite_true, ite_false, decide_true, decide_false, Bool.false_eq_true, Nat.zero_add, Nat.reduceAdd, Nat.reduceEqDiff, Nat.reduceLeDiff, reduceIte, List.map_append, List.map_cons, List.map_nil, $[$xs:term],*])
local macro_rules | `(tactic| walk_at "2") => `(tactic| simp only [b8, eE, dI, fR, aI, mC, aE, mUn, aD, aW, a9, gF, dM, pC, aA0, Res.bind, Ev.c, aE1, qN, aM, cF, gC, jK, cH, gM, sW, mOr, aCj, wA, aIg, w8, s9, cU, eD, eU, lM, d6, dat, jL, eqE, kL, nJ, xM, xF, v9, xG, s8, mW, nR, vB, List.getElem?_cons_zero, List.getElem?_cons_succ, List.set_cons_zero, List.set_cons_succ, List.length_cons, List.length_nil, List.length_map, List.length_append, if_true, if_false, ite_true, ite_false, decide_true, decide_false, Bool.false_eq_true, Nat.zero_add, Nat.reduceAdd, Nat.reduceEqDiff, Nat.reduceLeDiff, reduceIte, List.map_append, List.map_cons, List.map_nil])
local macro_rules | `(tactic| ktr_call 3 ⟨$xs,*⟩) => `(tactic| simp only [List.getElem?_cons_zero, List.getElem?_cons_succ, List.set_cons_zero, List.set_cons_succ, List.length_cons, List.length_nil, List.length_map, List.length_append, if_true, if_false, ite_true, ite_false, decide_true, decide_false, Bool.false_eq_true, Nat.zero_add, Nat.reduceAdd, Nat.reduceEqDiff, Nat.reduceLeDiff, reduceIte, List.map_append, List.map_cons, List.map_nil, $[$xs:term],*])
def top (i : Nat) : Stmt := PySem.Challenge.pw_creasecurve_k36_mixed_areas_known.main.body.getD i (.Pass ⟨0, 0, 0, 0⟩)
abbrev qG : Stmt := top 1
abbrev lY : Stmt := top 2
abbrev qL : Stmt := top 3
abbrev qT : Stmt := top 4
abbrev lH : Stmt := top 6
abbrev cS : Stmt := top 8
abbrev eL : Stmt := top 9
abbrev dQ : Stmt := top 10
abbrev cQ : Stmt := top 11
abbrev cA : Stmt := top 12
abbrev dA : Stmt := top 13
abbrev dR : Stmt := top 14
abbrev dD : Stmt := top 15
abbrev fI : Stmt := top 16
abbrev oG : Stmt := top 17
theorem uB : bootBuiltins "abs" = some (.builtin "abs") := by decide +kernel
theorem aBs : bootBuiltins "bool" = some (.type "bool") := by decide +kernel
theorem aGq : bootBuiltins "int" = some (.type "int") := by decide +kernel
theorem aEb : bootBuiltins "list" = some (.type "list") := by decide +kernel
theorem aE5 : bootBuiltins "max" = some (.builtin "max") := by decide +kernel
theorem aHc : bootBuiltins "min" = some (.builtin "min") := by decide +kernel
theorem aFi : bootBuiltins "sum" = some (.builtin "sum") := by decide +kernel
structure Blt (mg : Str -> Option Value) : Prop where
 abs_ : mg "abs" = none
 bool_ : mg "bool" = none
 int_ : mg "int" = none
 isinstance_ : mg "isinstance" = none
 len_ : mg "len" = none
 list_ : mg "list" = none
 max_ : mg "max" = none
 min_ : mg "min" = none
 range_ : mg "range" = none
 reversed_ : mg "reversed" = none
 set_ : mg "set" = none
 sorted_ : mg "sorted" = none
 sum_ : mg "sum" = none
structure Cls where
structure oJ (mg : Str -> Option Value) (c : Cls) : Prop where
structure oM (mg : Str -> Option Value) (base : Heap) (c : Cls) : Prop where
def eT3 (a : Q2 × Q2 × Q2) : List L := [.p (slD a.1), .p (slD a.2.1), .p (slD a.2.2)]
theorem aDm (a b : Q2 × Q2 × Q2) (h : eT3 a = eT3 b) : a = b := by
 unfold eT3 at h
 injection h with h1 h2
 injection h2 with h2 h3
 injection h3 with h3 _
 injection h1 with h1
 injection h2 with h2
 injection h3 with h3
 exact Prod.ext (gS _ _ h1) (Prod.ext (gS _ _ h2) (gS _ _ h3))
def GQ (q : Q2) : Prop := Sz 5000 q.1 /\ Sz 5000 q.2
noncomputable def fE (K : PySem.W.Frag) (c : Cls) : List L -> Res L := mOf eT3 (fun a => GQ a.1 /\ GQ a.2.1 /\ GQ a.2.2) fun a => .ok (.p (.int (aA a.1 a.2.1 a.2.2)))
noncomputable def tY (K : PySem.W.Frag) (c : Cls) : MS := (b8 (eE 3 (aE iS (aE lB (aE ixE (aI 1) (mC (.int 0))) (aE ixE (aI 0) (mC (.int 0)))) (aE lB (aE ixE (aI 2) (mC (.int 1))) (aE ixE (aI 0) (mC (.int 1)))))) (b8 (eE 4 (aE iS (aE lB (aE ixE (aI 1) (mC (.int 1))) (aE ixE (aI 0) (mC (.int 1)))) (aE lB (aE ixE (aI 2) (mC (.int 0))) (aE ixE (aI 0) (mC (.int 0)))))) (dI (aE lB (aI 3) (aI 4)))))
theorem aBx (K : PySem.W.Frag) (c : Cls) : ∀ ls, fE K c ls = .bad \/ fM 5 (tY K c) ls = fE K c ls := kY fun a h => by
 obtain ⟨a, b, d⟩ := a
 obtain ⟨⟨a1, a2⟩, ⟨b1, b2⟩, d1, d2⟩ := h
 dsimp only at a1 a2 b1 b2 d1 d2 ⊢
 have z : ∀ {x y : Int}, Sz 5000 x -> Sz 5000 y -> Sz 60000 (x - y) := fun h1 h2 => (N.Sz.subM h1 h2).mono (by decide)
 have q1 : CMulW (b.1 - a.1) (d.2 - a.2) := ⟨z b1 a1, z d2 a2⟩
 have q2 : CMulW (b.2 - a.2) (d.1 - a.1) := ⟨z b2 a2, z d1 a1⟩
 have x0 : ∀ y : Int × Int, ixE (.p (slD y)) (.p (.int 0)) = .ok (.p (.int y.1)) := fun y => mW _ _
 have x1 : ∀ y : Int × Int, ixE (.p (slD y)) (.p (.int 1)) = .ok (.p (.int y.2)) := fun y => nR _ _ _
 refine dO ?_
 rw [show bZ 5 (eT3 (a, b, d)) = [some (.p (slD a)), some (.p (slD b)), some (.p (slD d)), none, none] from rfl]
 unfold tY
 refine (aJ (iL (d := .int ((b.1 - a.1) * (d.2 - a.2))) ?_)).trans ((aJ (iL (d := .int ((b.2 - a.2) * (d.1 - a.1))) ?_)).trans (eM ?_))
 ·ktr_call 11 ⟨x0, x1⟩
 ·ktr_call 11 ⟨x0, x1⟩
 ·walk_at "2"
  rfl
theorem n9 (K : PySem.W.Frag) (c : Cls) {a b d : Q2} (ha : GQ a) (hb : GQ b) (hd : GQ d) : fE K c [.p (slD a), .p (slD b), .p (slD d)] = .ok (.p (.int (aA a b d))) := kU (a := (a, b, d)) aDm ⟨ha, hb, hd⟩
def eQs (ps : List Q2) : List L := [.p (.list (ps.map slD))]
theorem pV (a b : List Q2) (h : eQs a = eQs b) : a = b := by
 unfold eQs at h
 injection h with h _
 injection h with h
 injection h with h
 exact List.map_inj_right (fun _ _ e => gS _ _ e) |>.mp h
noncomputable def dY (K : PySem.W.Frag) (c : Cls) : List L -> Res L := mOf eQs (fun ps => ps.length <= 1000 /\ ∀ p ∈ ps, GQ p) fun ps => .ok (.o (.list ((aS ps).reverse.map slD)))
noncomputable def cN (K : PySem.W.Frag) (c : Cls) : En -> Res Bool := (sW (cH (aE gtE (aM jL (aD (aI 1) aW)) (mC (.int 1)))) (cH (aE leE (a9 3 (fE K c) (aD (aE ixE (aI 1) (mUn lM (mC (.int 2)))) (aD (aE ixE (aI 1) (mUn lM (mC (.int 1)))) (aD (aI 2) aW)))) (mC (.int 0)))))
noncomputable def d8 (K : PySem.W.Frag) (c : Cls) : MS := (aIh 1)
noncomputable def fH (K : PySem.W.Frag) (c : Cls) : MS := (b8 (kG (cN K c) (d8 K c)) (eJ 1 (aI 2)))
noncomputable def pQ (K : PySem.W.Frag) (c : Cls) : MS := (b8 (eE 1 (aM gC aW)) (b8 (v7 (o4 (aI 0)) (bE 2) (fH K c)) (dI (aI 1))))
theorem aIt (xs : List D) (a b : D) : atI (xs ++ [a, b]) (-2) = some a := by
 have hl : (xs ++ [a, b]).length = xs.length + 2 := by simp
 have e : ixN (xs ++ [a, b]).length (-2) = some xs.length := by
  unfold ixN
  rw [hl, if_neg (by decide), if_pos (by omega)]
  congr 1
  omega
 unfold atI
 rw [e]
 simp
theorem aJc (xs : List D) (a b : D) : atI (xs ++ [a, b]) (-1) = some b := by
 have := xW (xs ++ [a]) b
 rw [List.append_assoc] at this
 exact this
theorem yZ (p : Q2) (s : List Q2) : ∀ k ∈ dJ p s, k ∈ s := fun k hk => (cP p s).sublist.subset hk
theorem yB (K : PySem.W.Frag) (c : Cls) (Z : Option L) {p : Q2} (gp : GQ p) : ∀ (n : Nat) (s : List Q2), s.length <= n -> (∀ k ∈ s, GQ k) -> mWh (cN K c) (d8 K c) (n + 1) [Z, some (.o (.list (s.reverse.map slD))), some (.p (slD p))] = some (.nx [Z, some (.o (.list ((dJ p s).reverse.map slD))), some (.p (slD p))]) := by
 have hlen : ∀ s : List Q2, jL [.b (.list (s.reverse.map slD))] = .ok (.p (.int (s.length : Nat))) := fun s => by simp [jL, gE]
 have neg2 : lM (.p (.int 2)) = .ok (.p (.int (-2))) := rfl
 have neg1 : lM (.p (.int 1)) = .ok (.p (.int (-1))) := rfl
 have t1 : ∀ s : List Q2, cH (aE gtE (aM jL (aD (aI 1) aW)) (mC (.int 1))) [Z, some (.o (.list (s.reverse.map slD))), some (.p (slD p))] = .ok (decide ((1 : Int) < (s.length : Nat))) := fun s => by
  ktr_call 3 ⟨cH, aE, aM, aD, aW, aI, mC, Res.bind, Ev.c, hlen, eU, gM⟩
 have short : ∀ (n : Nat) (s : List Q2), s.length <= 1 -> mWh (cN K c) (d8 K c) (n + 1) [Z, some (.o (.list (s.reverse.map slD))), some (.p (slD p))] = some (.nx [Z, some (.o (.list (s.reverse.map slD))), some (.p (slD p))]) := fun n s hs => by
  have t : cN K c [Z, some (.o (.list (s.reverse.map slD))), some (.p (slD p))] = .ok false := by
   unfold cN sW
   rw [t1 s, decide_eq_false (by omega)]
   rfl
  unfold mWh
  rw [t]
 intro n
 induction n with
 | zero =>
  intro s hs _
  have e : s = [] := List.length_eq_zero_iff.mp (by omega)
  subst e
  rw [show dJ p [] = [] from by unfold dJ; rfl]
  exact short 0 [] (by decide)
 | succ n ih =>
  intro s hs hg
  match s, hs, hg with
  | [], _, _ =>
   rw [show dJ p [] = [] from by unfold dJ; rfl]
   exact short _ [] (by decide)
  | [a], _, _ =>
   rw [show dJ p [a] = [a] from by unfold dJ; rfl]
   exact short _ [a] (Nat.le_refl _)
  | k1 :: k2 :: r, hs, hg =>
   have er : (k1 :: k2 :: r).reverse.map slD = (r.reverse.map slD) ++ [slD k2, slD k1] := by simp
   have i2 : ixE (.b (.list ((r.reverse.map slD) ++ [slD k2, slD k1]))) (.p (.int (-2))) = .ok (.p (slD k2)) := by simp only [ixE, gE, aIt]
   have i1 : ixE (.b (.list ((r.reverse.map slD) ++ [slD k2, slD k1]))) (.p (.int (-1))) = .ok (.p (slD k1)) := by simp only [ixE, gE, aJc]
   have tg := n9 K c (hg k2 (.tail _ (.head _))) (hg k1 (.head _)) gp
   have t2 : cH (aE leE (a9 3 (fE K c) (aD (aE ixE (aI 1) (mUn lM (mC (.int 2)))) (aD (aE ixE (aI 1) (mUn lM (mC (.int 1)))) (aD (aI 2) aW)))) (mC (.int 0))) [Z, some (.o (.list ((k1 :: k2 :: r).reverse.map slD))), some (.p (slD p))] = .ok (decide (aA k2 k1 p <= 0)) := by
    rw [er]
    ktr_call 3 ⟨cH, aE, a9, aD, aW, aI, mUn, mC, Res.bind, Ev.c, neg2, neg1, i2, i1, gF, dM, pC, tg, qN, eU, gM⟩
   have t : cN K c [Z, some (.o (.list ((k1 :: k2 :: r).reverse.map slD))), some (.p (slD p))] = .ok (decide (aA k2 k1 p <= 0)) := by
    unfold cN sW
    rw [t1, decide_eq_true (by simp only [List.length_cons]; omega), uS]
    exact t2
   by_cases h : aA k2 k1 p <= 0
   ·rw [decide_eq_true h] at t
    have hp : d8 K c [Z, some (.o (.list ((k1 :: k2 :: r).reverse.map slD))), some (.p (slD p))] = some (.nx [Z, some (.o (.list ((k2 :: r).reverse.map slD))), some (.p (slD p))]) := by
     have ne : (k1 :: k2 :: r).reverse.map slD ≠ [] := by simp
     have dl : ((k1 :: k2 :: r).reverse.map slD).dropLast = (k2 :: r).reverse.map slD := by
      rw [List.reverse_cons, List.map_append]
      exact List.dropLast_concat
     unfold d8 aIh y0
     simp only [List.getElem?_cons_succ, List.getElem?_cons_zero]
     rw [if_neg ne, dl]
     rfl
    have e : dJ p (k1 :: k2 :: r) = dJ p (k2 :: r) := by
     show (if aA k2 k1 p <= 0 then dJ p (k2 :: r) else k1 :: k2 :: r) = _
     rw [if_pos h]
    rw [e]
    unfold mWh
    rw [t]
    dsimp only
    rw [hp]
    exact ih (k2 :: r) (by simp only [List.length_cons] at hs ⊢; omega) fun k hk => hg k (.tail _ hk)
   ·rw [decide_eq_false h] at t
    have e : dJ p (k1 :: k2 :: r) = k1 :: k2 :: r := by
     show (if aA k2 k1 p <= 0 then dJ p (k2 :: r) else k1 :: k2 :: r) = _
     rw [if_neg h]
    rw [e]
    unfold mWh
    rw [t]
theorem kT (K : PySem.W.Frag) (c : Cls) (Z : Option L) : ∀ (ps s : List Q2) (r : Option L), s.length + ps.length <= 2000 -> (∀ k ∈ s, GQ k) -> (∀ p ∈ ps, GQ p) -> ∃ r', fQ (bE 2) (fH K c) (ps.map slD) [Z, some (.o (.list (s.reverse.map slD))), r] = some (.nx [Z, some (.o (.list ((ps.foldl pushS s).reverse.map slD))), r'])
 | [], s, r, _, _, _ => ⟨r, rfl⟩
 | p :: ps, s, r, hl, hs, hp => by
  rw [List.length_cons] at hl
  have gp := hp p (.head _)
  have w := yB K c Z gp (List.length s) s (Nat.le_refl _) hs
  have w := vJ w
  have ll : (dJ p s).length <= s.length := (cP p s).sublist.length_le
  have hb : fH K c [Z, some (.o (.list (s.reverse.map slD))), some (.p (slD p))] = some (.nx [Z, some (.o (.list ((pushS s p).reverse.map slD))), some (.p (slD p))]) := by
   unfold fH
   refine (aJ w).trans ?_
   unfold eJ
   simp only [List.set_cons_succ, List.set_cons_zero, List.getElem?_cons_succ, List.getElem?_cons_zero, aI, Ev.c]
   rw [if_pos (by rw [List.length_map, List.length_reverse]; omega)]
   show some (Out.nx [Z, some (.o (.list ((dJ p s).reverse.map slD ++ [slD p]))), some (.p (slD p))]) = _
   unfold pushS
   rw [List.reverse_cons, List.map_append]
   rfl
  obtain ⟨r', ih⟩ := kT K c Z ps (pushS s p) (some (.p (slD p))) (by show (dJ p s).length + 1 + ps.length <= 2000; omega) (fun k hk => by
   rcases List.mem_cons.mp hk with z | z
   ·rw [z]; exact gp
   ·exact hs k (yZ p s k z)) fun q hq => hp q (.tail _ hq)
  refine ⟨r', ?_⟩
  rw [List.map_cons]
  unfold fQ
  simp only [bE, List.set_cons_succ, List.set_cons_zero]
  rw [hb]
  exact ih
theorem yA (K : PySem.W.Frag) (c : Cls) : ∀ ls, dY K c ls = .bad \/ fM 3 (pQ K c) ls = dY K c ls := kY fun ps h => by
 obtain ⟨hl, hg⟩ := h
 obtain ⟨r', hlp⟩ := kT K c (some (.p (.list (ps.map slD)))) ps [] none (by rw [List.length_nil]; omega) (fun _ h => nomatch h) hg
 refine dO ?_
 rw [show bZ 3 (eQs ps) = [some (.p (.list (ps.map slD))), none, none] from rfl]
 unfold pQ
 refine (aJ (fP (d := .list []) rfl)).trans ((aJ ((o5 (ds := ps.map slD) rfl).trans hlp)).trans ?_)
 rfl
theorem kX (K : PySem.W.Frag) (c : Cls) {ps : List Q2} (hl : ps.length <= 1000) (hg : ∀ p ∈ ps, GQ p) : dY K c [.p (.list (ps.map slD))] = .ok (.o (.list ((aS ps).reverse.map slD))) := kU (a := ps) pV ⟨hl, hg⟩
def toL (p : Q2) : List Int := [p.1, p.2]
def unL (k : List Int) : Q2 := (k.getD 0 0, k.getD 1 0)
theorem yD (p : Q2) : unL (toL p) = p := rfl
theorem aKp (ps : List Q2) : (ps.map toL).map pD = ps.map slD := by rw [List.map_map]; rfl
theorem aGl (p q : Q2) : HT.lexLt (toL p) (toL q) = true ↔ ltQ p q := by
 unfold toL ltQ
 rw [HT.dE, HT.dE, HT.mP]
 by_cases h : p.1 = q.1
 ·rw [if_pos h]
  by_cases h2 : p.2 = q.2
  ·rw [if_pos h2]
   constructor
   ·intro z; cases z
   ·rintro (z | z) <;> omega
  ·rw [if_neg h2, decide_eq_true_iff]
   constructor
   ·exact fun z => .inr ⟨h, z⟩
   ·rintro (z | z)
    ·omega
    ·exact z.2
 ·rw [if_neg h, decide_eq_true_iff]
  constructor
  ·exact .inl
  ·rintro (z | z)
   ·exact z
   ·exact absurd z.1 h
theorem aC9 {p q : Q2} (h1 : ¬ ltQ q p) (h2 : p ≠ q) : ltQ p q := by
 unfold ltQ at h1 ⊢
 by_cases z : p.1 = q.1
 ·have : p.2 ≠ q.2 := fun e => h2 (Prod.ext z e)
  omega
 ·omega
def dG (ps : List Q2) : List Q2 := (iU (ddK (ps.map toL))).map unL
theorem lW {ps : List Q2} {k : List Int} (h : k ∈ iU (ddK (ps.map toL))) : ∃ p ∈ ps, k = toL p := by
 have := ddK_mem.mp ((cD _).subset h)
 obtain ⟨p, hp, e⟩ := List.mem_map.mp this
 exact ⟨p, hp, e.symm⟩
theorem aHh (ps : List Q2) : (iU (ddK (ps.map toL))).map pD = (dG ps).map slD := by
 unfold dG
 rw [List.map_map]
 refine List.map_congr_left fun k hk => ?_
 obtain ⟨p, _, rfl⟩ := lW hk
 rfl
theorem rows_mem {ps : List Q2} {p : Q2} : p ∈ dG ps ↔ p ∈ ps := by
 unfold dG
 rw [List.mem_map]
 constructor
 ·rintro ⟨k, hk, e⟩
  obtain ⟨q, hq, rfl⟩ := lW hk
  rw [<- e, yD]
  exact hq
 ·intro h
  exact ⟨toL p, (cD _).symm.subset (ddK_mem.mpr (List.mem_map.mpr ⟨p, h, rfl⟩)), yD p⟩
theorem gU (ps : List Q2) : (dG ps).Pairwise ltQ := by
 unfold dG
 rw [List.pairwise_map]
 have nd : (iU (ddK (ps.map toL))).Pairwise (· ≠ ·) := (cD _).nodup_iff.mpr (pY _)
 refine List.Pairwise.imp_of_mem (fun {a b} ha hb h => ?_) (List.pairwise_and_iff.mpr ⟨cW _, nd⟩)
 obtain ⟨p, _, rfl⟩ := lW ha
 obtain ⟨q, _, rfl⟩ := lW hb
 rw [yD, yD]
 refine aC9 (fun z => ?_) fun e => h.2 (by rw [e])
 have h1 : HT.lexLt (toL q) (toL p) = false := h.1
 rw [(aGl q p).mpr z] at h1
 cases h1
theorem aBn : ∀ ks : List (List Int), (ddK ks).length <= ks.length
 | [] => Nat.le_refl _
 | k :: r => by
  unfold ddK
  have := aBn r
  split
  ·rw [List.length_cons]; omega
  ·rw [List.length_cons, List.length_cons]; omega
theorem lC (ps : List Q2) : (dG ps).length <= ps.length := by
 unfold dG
 have := aBn (ps.map toL)
 rw [List.length_map] at this
 rw [List.length_map, (cD _).length_eq]
 exact this
theorem g5 {ps : List Q2} (h : ps ≠ []) : dG ps ≠ [] := fun z => by
 cases ps with
 | nil => exact h rfl
 | cons p r =>
  have : p ∈ dG (p :: r) := rows_mem.mpr (.head _)
  rw [z] at this
  cases this
theorem ks_ne (ps : List Q2) : ((ps.map toL).all fun k => !k.isEmpty) = true := by
 rw [List.all_eq_true]
 intro k hk
 obtain ⟨p, _, rfl⟩ := List.mem_map.mp hk
 rfl
theorem aDe {ps : List Q2} (h : ps.length < 64) : fK (.p (.list (ps.map slD))) = .ok (.f (.list ((dG ps).map slD))) := by
 unfold fK
 simp only [d6]
 rw [<- aKp, oB]
 dsimp only
 rw [if_pos ⟨ks_ne ps, by rw [List.length_map]; exact h⟩, aHh]
noncomputable def d9 (K : PySem.W.Frag) (c : Cls) : List L -> Res L := mOf eQs (fun ps => ps.length < 64 /\ ps ≠ [] /\ ∀ p ∈ ps, GQ p) fun ps => .ok (.o (.list ((bY (dG ps)).map slD)))
noncomputable def vY (K : PySem.W.Frag) (c : Cls) : MS := (b8 (eE 1 (mUn fK (aI 0))) (b8 (fR (cH (aE (eqE false) (aM jL (aD (aI 1) aW)) (mC (.int 1)))) (dI (aI 1)) cU) (b8 (eE 2 (a9 1 (dY K c) (aD (aI 1) aW))) (b8 (eE 3 (a9 1 (dY K c) (aD (mUn aEx (aI 1)) aW))) (dI (aE eD (mSl (aI 2) aH3 (mPt (mUn lM (mC (.int 1))))) (mSl (aI 3) aH3 (mPt (mUn lM (mC (.int 1)))))))))))
theorem aGx (xs : List D) : M.cutD xs none (some (-1)) = xs.dropLast := by
 unfold M.cutD
 have e : HT.sIx xs.length xs.length (some (-1)) = xs.length - 1 := by
  show (if (-1 : Int) < 0 then ((-1 : Int) + (xs.length : Int)).toNat else min (-1 : Int).toNat xs.length) = xs.length - 1
  rw [if_pos (by decide)]
  omega
 rw [e, HT.yR, List.drop_zero, Nat.sub_zero, List.dropLast_eq_take]
theorem aE2 (xs : List Q2) : wB (.o (.list (xs.map slD))) = true := by unfold wB; exact tQ slD aJa _
theorem eW : ∀ (ps s : List Q2), (ps.foldl pushS s).length <= s.length + ps.length
 | [], s => Nat.le_refl _
 | p :: ps, s => by
  rw [List.foldl_cons, List.length_cons]
  have := eW ps (pushS s p)
  have h : (pushS s p).length <= s.length + 1 := by
   unfold pushS
   rw [List.length_cons]
   have := (cP p s).sublist.length_le
   omega
  omega
theorem aCl (K : PySem.W.Frag) (c : Cls) : ∀ ls, d9 K c ls = .bad \/ fM 4 (vY K c) ls = d9 K c ls := kY fun ps h => by
 obtain ⟨hl, h0, hg⟩ := h
 have hs := aDe hl
 have rl := lC ps
 have rg : ∀ p ∈ dG ps, GQ p := fun p hp => hg p (rows_mem.mp hp)
 generalize dG ps = rs at hs rl rg ⊢
 have hln : jL [.b (.list (rs.map slD))] = .ok (.p (.int (rs.length : Nat))) := by simp [jL, gE]
 refine dO ?_
 rw [show bZ 4 (eQs ps) = [some (.p (.list (ps.map slD))), none, none, none] from rfl]
 unfold vY
 have e1 : (mUn fK (aI 0)) [some (.p (.list (ps.map slD))), none, none, none] = .ok (.f (.list (rs.map slD))) := by
  ktr_call 3 ⟨mUn, aI, Res.bind, Ev.c, hs⟩
 refine (aJ (fP e1)).trans ?_
 simp only [List.set_cons_succ, List.set_cons_zero]
 have t1 : cH (aE (eqE false) (aM jL (aD (aI 1) aW)) (mC (.int 1))) [some (.p (.list (ps.map slD))), some (.o (.list (rs.map slD))), none, none] = .ok (decide (rs.length = 1)) := by
  have : ((rs.length : Int) == 1) = decide (rs.length = 1) := by
   rw [Bool.eq_iff_iff, beq_iff_eq, decide_eq_true_iff]; omega
  ktr_call 3 ⟨cH, aE, aM, aD, aW, aI, mC, Res.bind, Ev.c, hln, eqE, dat, kL, nJ, gM, and_self, this⟩
 by_cases z : rs.length = 1
 ·rw [decide_eq_true z] at t1
  have e : bY rs = rs := by unfold bY; rw [if_pos z]
  rw [e]
  refine bV ((iR t1).trans ?_)
  rfl
 ·rw [decide_eq_false z] at t1
  have e : bY rs = (aS rs).reverse.dropLast ++ (aS rs.reverse).reverse.dropLast := if_neg z
  rw [e]
  refine (aJ (dS t1)).trans ?_
  have c1 := kX K c (ps := rs) (by omega) rg
  have c2 := kX K c (ps := rs.reverse) (by rw [List.length_reverse]; omega) (fun p hp => rg p (List.mem_reverse.mp hp))
  have l1 := eW rs []
  have l2 := eW rs.reverse []
  rw [List.length_reverse] at l2
  have l1 : (aS rs).length <= _ := l1
  have l2 : (aS rs.reverse).length <= _ := l2
  rw [List.length_nil] at l1 l2
  have s2 : (a9 1 (dY K c) (aD (aI 1) aW)) [some (.p (.list (ps.map slD))), some (.o (.list (rs.map slD))), none, none] = .ok (.f (.list ((aS rs).reverse.map slD))) := by
   ktr_call 3 ⟨a9, aD, aW, aI, Res.bind, Ev.c, gF, dM, pC, aA0, c1, aE2, qN⟩
  refine (aJ (fP s2)).trans ?_
  simp only [List.set_cons_succ, List.set_cons_zero]
  have rv : aEx (.b (.list (rs.map slD))) = .ok (.f (.list (rs.reverse.map slD))) := by
   unfold aEx
   simp only [d6]
   rw [List.map_reverse]
  have s3 : (a9 1 (dY K c) (aD (mUn aEx (aI 1)) aW)) [some (.p (.list (ps.map slD))), some (.o (.list (rs.map slD))), some (.o (.list ((aS rs).reverse.map slD))), none] = .ok (.f (.list ((aS rs.reverse).reverse.map slD))) := by
   ktr_call 3 ⟨a9, aD, aW, mUn, aI, Res.bind, Ev.c, rv, gF, dM, pC, c2, qN⟩
  refine (aJ (fP s3)).trans ?_
  simp only [List.set_cons_succ, List.set_cons_zero]
  refine aAc ?_
  have ng : lM (.p (.int 1)) = .ok (.p (.int (-1))) := rfl
  have e : (((aS rs).reverse.dropLast ++ (aS rs.reverse).reverse.dropLast).map slD) = ((aS rs).reverse.map slD).dropLast ++ ((aS rs.reverse).reverse.map slD).dropLast := by rw [List.map_append, List.map_dropLast, List.map_dropLast]
  have ad : eD (.p (.list ((aS rs).reverse.map slD).dropLast)) (.p (.list ((aS rs.reverse).reverse.map slD).dropLast)) = .ok (.f (.list (((aS rs).reverse.map slD).dropLast ++ ((aS rs.reverse).reverse.map slD).dropLast))) := by
   simp only [eD, d6]
   refine if_pos ?_
   simp only [List.length_dropLast, List.length_map, List.length_reverse]
   omega
  rw [e]
  ktr_call 3 ⟨aE, mSl, aH3, mPt, mUn, aI, mC, Res.bind, Ev.c, ng, d6, aGx, ad⟩
theorem jT (K : PySem.W.Frag) (c : Cls) {ps : List Q2} (hl : ps.length < 64) (h0 : ps ≠ []) (hg : ∀ p ∈ ps, GQ p) : d9 K c [.p (.list (ps.map slD))] = .ok (.o (.list ((bY (dG ps)).map slD))) := kU (a := ps) pV ⟨hl, h0, hg⟩
structure lD (K : PySem.W.Frag) (c : Cls) : Prop where
 ii : PySem.W.kitOne K (.type "int") (.type "int") = some true
 ib : PySem.W.kitOne K (.type "int") (.type "bool") = some false
 tt : PySem.W.kitOne K (.type "tuple") (.type "tuple") = some true
 ll : PySem.W.kitOne K (.type "list") (.type "list") = some true
noncomputable def dX (K : PySem.W.Frag) (c : Cls) : MS := (b8 (fR (cH (aE ltE (aI 1) (aM jL (aD (aI 0) aW)))) (dI (aE ixE (aI 0) (aI 1))) cU) (dI (mC (.int 0))))
noncomputable def aT (K : PySem.W.Frag) (c : Cls) (ls : List L) : Res L := fM 2 (dX K c) ls
theorem jG (K : PySem.W.Frag) (c : Cls) : ∀ ls, aT K c ls = .bad \/ fM 2 (dX K c) ls = aT K c ls := fun _ => .inr rfl
theorem aHl {ns : List Int} {k : Nat} (h : k < ns.length) : atI (ns.map PyData.int) (k : Int) = some (.int (ns.getD k 0)) := by
 have : ns.getD k 0 = ns[k] := by simp [List.getD, h]
 rw [this]
 exact mK (by rw [List.getElem?_map, List.getElem?_eq_getElem h]; rfl)
theorem mJ (K : PySem.W.Frag) (c : Cls) (ns : List Int) (k : Nat) : aT K c [.p (.list (ns.map .int)), .p (.int (k : Int))] = .ok (.p (.int (ns.getD k 0))) := by
 have hlen : jL [.p (.list (ns.map .int))] = .ok (.p (.int (ns.length : Nat))) := by simp [jL, gE]
 unfold aT
 refine dO ?_
 rw [show bZ 2 [.p (.list (ns.map .int)), .p (.int (k : Int))] = [some (.p (.list (ns.map .int))), some (.p (.int (k : Int)))] from rfl]
 have ht : cH (aE ltE (aI 1) (aM jL (aD (aI 0) aW))) [some (.p (.list (ns.map .int))), some (.p (.int (k : Int)))] = .ok (decide (k < ns.length)) := by
  simp [cH, aE, aI, aM, aD, aW, Res.bind, Ev.c, hlen, eU, gM]
 by_cases hk : k < ns.length
 ·rw [decide_eq_true hk] at ht
  refine (bV ((iR ht).trans ?_))
  simp [dI, aE, aI, Res.bind, Ev.c, ixE, gE, aHl hk, aE1]
 ·rw [decide_eq_false hk] at ht
  refine (aJ (dS ht)).trans ?_
  have : ns.getD k 0 = 0 := by simp [List.getD, Nat.le_of_not_lt hk]
  rw [this]
  rfl
noncomputable def bS (K : PySem.W.Frag) (c : Cls) : List L -> Res L := mOf (fun i : Int => [.p (.int i)]) (fun _ => True) fun _ => .ok (.p (.bool true))
noncomputable def fC (K : PySem.W.Frag) (c : Cls) : MS := (dI (wA (mUn (aF3 K (.type "int")) (aI 0)) (w8 (mUn (aF3 K (.type "bool")) (aI 0)))))
theorem lA (K : PySem.W.Frag) (c : Cls) (hk : lD K c) : ∀ ls, bS K c ls = .bad \/ fM 1 (fC K c) ls = bS K c ls := kY fun i _ => by
 unfold fM
 rw [show bZ 1 [.p (.int i)] = [some (.p (.int i))] from rfl]
 simp [fC, b8, eE, dI, fR, aI, mC, aE, mUn, aD, aW, a9, gF, dM, pC, aA0, Res.bind, Ev.c, aE1, qN, aM, cF, gC, jK, cH, gM, sW, mOr, aCj, wA, aIg, w8, s9, cU, eD, eU, lM, d6, dat, jL, eqE, kL, nJ, xM, xF, v9, xG, s8, mW, nR, vB, aF3, tyD, hk.ii, hk.ib]
theorem yV (K : PySem.W.Frag) (c : Cls) (i : Int) : bS K c [.p (.int i)] = .ok (.p (.bool true)) := kU (a := i) (fun a b h => by injection h with h _; injection h with h; injection h) trivial
theorem iP (n : Nat) (h : n <= 100000) : fX [.p (.int (n : Int))] = .ok (aAq 0 n) := by
 unfold fX
 exact if_pos ⟨by omega, by omega⟩
theorem aH5 {r : List Ev -> Res (List D)} {f : En -> Res Ev} {en : En} {a : D} {o : Res (List D)} (h1 : f en = .ok (.p a)) (h : r [.p a] = o) : sA r (aD f aW) en = o := by
 simp only [sA, aD, aW, h1, Res.bind, Ev.c, h]
theorem mE {tg : D -> En -> Option En} {f : MS} {d : D} {ds : List D} {en e e' : En} (h1 : tg d en = some e) (h2 : f e = some (.nx e')) : fQ tg f (d :: ds) en = fQ tg f ds e' := by
 rw [fQ, h1]
 dsimp only
 rw [h2]
def cols (n : Nat) : List Int := (List.range n).map fun k : Nat => (k : Int)
theorem yH (n : Nat) : aAq 0 n = (cols n).map .int := by
 unfold aAq cols
 rw [List.map_map]
 refine List.map_congr_left fun k _ => ?_
 show PyData.int (0 + (k : Int)) = .int (k : Int)
 rw [Int.zero_add]
noncomputable def eF (K : PySem.W.Frag) (c : Cls) : MS := (b8 (eE 2 (aE eD (aE eD (aE eD (aE fO (aI 0) (aE mR (mC (.int 10)) (mC (.int 40)))) (mC (.int 1))) (aE iN (mC (.int 13)) (aI 1))) (aE iN (aE iN (mC (.int 7)) (aI 1)) (aI 1)))) (b8 (eE 3 (aE fO (aE iN (aE fO (aE iN (aI 2) (mC (.int 48271))) (mC (.int 2147483647))) (mC (.int 69621))) (mC (.int 1000000007)))) (dI (aE eD (aI 3) (aE iN (mC (.int 1000000007)) (aE fO (aE iN (aE iN (aI 2) (aI 3)) (mC (.int 2862933555777941757))) (aE eD (aE mR (mC (.int 10)) (mC (.int 30))) (mC (.int 57)))))))))
noncomputable def bF (K : PySem.W.Frag) (c : Cls) (ls : List L) : Res L := fM 4 (eF K c) ls
theorem mU (K : PySem.W.Frag) (c : Cls) : ∀ ls, bF K c ls = .bad \/ fM 4 (eF K c) ls = bF K c ls := fun _ => .inr rfl
theorem lX (K : PySem.W.Frag) (c : Cls) (cell : Int) {k : Int} (k0 : 0 <= k) (k1 : k <= 100) : ∃ v : Int, bF K c [.p (.int cell), .p (.int k)] = .ok (.p (.int v)) := by
 have p40 : aBe 10 40 := ⟨by decide, by decide, by decide⟩
 have p30 : aBe 10 30 := ⟨by decide, by decide, by decide⟩
 have n40 : (10 : Int) ^ Int.toNat 40 ≠ 0 := by decide
 have n30 : (10 : Int) ^ Int.toNat 30 + 57 ≠ 0 := by decide
 have n1 : (2147483647 : Int) ≠ 0 := by decide
 have n2 : (1000000007 : Int) ≠ 0 := by decide
 have q1 : iK 13 k := .inr (.inl ⟨by decide, by decide⟩)
 have q2 : iK 7 k := .inr (.inl ⟨by decide, by decide⟩)
 have q3 : iK (7 * k) k := .inr (.inr ⟨by omega, by omega⟩)
 generalize hC : cell.fmod (10 ^ Int.toNat 40) + 1 + 13 * k + 7 * k * k = C
 have q4 : iK C 48271 := .inr (.inr ⟨by decide, by decide⟩)
 have q5 : iK ((C * 48271).fmod 2147483647) 69621 := .inr (.inr ⟨by decide, by decide⟩)
 have hw := eH (a := (C * 48271).fmod 2147483647 * 69621) (b := 1000000007) (by decide)
 have s2 : (aE fO (aE iN (aE fO (aE iN (aI 2) (mC (.int 48271))) (mC (.int 2147483647))) (mC (.int 69621))) (mC (.int 1000000007))) [some (.p (.int cell)), some (.p (.int k)), some (.p (.int C)), none] = .ok (.p (.int (((C * 48271).fmod 2147483647 * 69621).fmod 1000000007))) := by
  ktr_call 11 ⟨oU⟩
 generalize ((C * 48271).fmod 2147483647 * 69621).fmod 1000000007 = V at hw s2
 have q6 : iK C V := .inr (.inr ⟨by omega, by omega⟩)
 have q7 : iK (C * V) 2862933555777941757 := .inr (.inr ⟨by decide, by decide⟩)
 have q8 : iK 1000000007 ((C * V * 2862933555777941757).fmod (10 ^ Int.toNat 30 + 57)) := .inr (.inl ⟨by decide, by decide⟩)
 refine ⟨V + 1000000007 * ((C * V * 2862933555777941757).fmod (10 ^ Int.toNat 30 + 57)), ?_⟩
 unfold bF
 refine dO ?_
 rw [show bZ 4 [.p (.int cell), .p (.int k)] = [some (.p (.int cell)), some (.p (.int k)), none, none] from rfl]
 unfold eF
 refine (aJ (iL (d := .int C) ?_)).trans ((aJ (iL s2)).trans (eM ?_))
 ·rw [<- hC]
  ktr_call 11 ⟨oU⟩
 ·ktr_call 11 ⟨oU⟩
theorem aCf {i : Nat} {fe : En -> Res Ev} {en : En} {ds : List D} {d : D} (h1 : en[i]? = some (some (.o (.list ds)))) (h2 : fe en = .ok (.p d)) (h3 : ds.length <= 100000) : eJ i fe en = some (.nx (en.set i (some (.o (.list (ds ++ [d])))))) := by
 unfold eJ
 rw [h1]
 dsimp only
 rw [h2]
 exact if_pos h3
theorem aGo (p : Q2) : PyData.canLay0 (slD p) = true := by simp [slD, PyData.canLay0, PyData.canLayAll0]
def G9 (q : Q2) : Prop := Sz 90 q.1 /\ Sz 90 q.2
theorem aGe {R : List Q2} {k d : Nat} (hk : k < R.length) (hd : d <= R.length) : ixE (.p (.list (R.map slD))) (.p (.int ((k : Int) - (d : Int)))) = .ok (.p (slD (pr R k d))) := by
 have go : ∀ j, j < R.length -> (R.map slD)[j]? = some (slD (R.getD j (0, 0))) := fun j hj => by
  rw [List.getElem?_map, List.getElem?_eq_getElem hj, List.getD_eq_getElem?_getD, List.getElem?_eq_getElem hj]
  rfl
 have e : atI (R.map slD) ((k : Int) - (d : Int)) = some (slD (pr R k d)) := by
  unfold pr
  by_cases z : k < d
  ·have e1 : ixN (R.map slD).length ((k : Int) - (d : Int)) = some (R.length + k - d) := by
    unfold ixN
    rw [List.length_map, if_neg (by omega), if_pos (by omega)]
    congr 1
    omega
   unfold atI
   rw [e1, if_pos z]
   exact go _ (by omega)
  ·have e1 : ixN (R.map slD).length ((k : Int) - (d : Int)) = some (k - d) := by
    unfold ixN
    rw [List.length_map, if_pos (by omega), if_pos (by omega)]
    congr 1
    omega
   unfold atI
   rw [e1, if_neg z]
   exact go _ (by omega)
 simp only [ixE, gE, e]
theorem aKg {R : List Q2} {k : Nat} (hk : k < R.length) : ixE (.p (.list (R.map slD))) (.p (.int (k : Int))) = .ok (.p (slD (R.getD k (0, 0)))) := by
 have := aGe (d := 0) hk (Nat.zero_le _)
 unfold pr at this
 rw [if_neg (by omega)] at this
 simpa using this
theorem nS {m : List L -> Res L} {f g h : En -> Res Ev} {en : En} {a b d r : D} (h1 : f en = .ok (.p a)) (h2 : g en = .ok (.p b)) (h3 : h en = .ok (.p d)) (hm : m [.p a, .p b, .p d] = .ok (.p r)) : a9 3 m (aD f (aD g (aD h aW))) en = .ok (.p r) := by
 ktr_call 3 ⟨a9, aD, aW, h1, h2, h3, Res.bind, Ev.c, gF, dM, pC, hm, qN⟩
theorem aGb {m : List L -> Res L} {f : En -> Res Ev} {en : En} {a r : D} (h1 : f en = .ok (.p a)) (hm : m [.p a] = .ok (.o r)) : a9 1 m (aD f aW) en = .ok (.f r) := by
 ktr_call 3 ⟨a9, aD, aW, h1, Res.bind, Ev.c, gF, dM, pC, hm, qN⟩
theorem aFe {r : List Ev -> Res Ev} {f : En -> Res Ev} {en : En} {a : D} {o : Res Ev} (h1 : f en = .ok (.f a)) (h : r [.p a] = o) : aM r (aD f aW) en = o := by
 simp only [aM, aD, aW, h1, Res.bind, Ev.c, h]
theorem rA {rs : List Q2} {p : Q2} (h : p ∈ bY rs) : p ∈ rs := by
 have sub : ∀ (qs : List Q2), p ∈ (aS qs).reverse.dropLast -> p ∈ qs := fun qs hp => by
  have s := jS qs [] [] (List.Sublist.refl _)
  rw [List.append_nil] at s
  exact List.mem_reverse.mp (s.subset (List.mem_reverse.mp ((List.dropLast_sublist _).subset hp)))
 unfold bY at h
 split at h
 ·exact h
 ·rcases List.mem_append.mp h with z | z
  ·exact sub _ z
  ·exact List.mem_reverse.mp (sub _ z)
theorem yN (rs : List Q2) : (bY rs).length <= 2 * rs.length := by
 unfold bY
 split
 ·omega
 ·have l1 : (aS rs).length <= _ := eW rs []
  have l2 : (aS rs.reverse).length <= _ := eW rs.reverse []
  rw [List.length_reverse] at l2
  rw [List.length_nil] at l1 l2
  simp only [List.length_append, List.length_dropLast, List.length_reverse]
  omega
def d3 (ps : List Q2) : Int := eI (bY (dG ps))
theorem sL {ps : List Q2} (h0 : ps ≠ []) : Hl ps (bY (dG ps)) := o6 (gU ps) (fun _ => rows_mem) (g5 h0)
theorem pH (n : Nat) : aAq 0 n = (List.range n).map fun k : Nat => PyData.int (k : Int) := by rw [yH]; unfold cols; rw [List.map_map]; rfl
noncomputable def gJ (K : PySem.W.Frag) (c : Cls) : List L -> Res L := mOf eQs (fun ps => ps.length < 64 /\ ps ≠ [] /\ ∀ p ∈ ps, GQ p) fun ps => .ok (.p (.int (d3 ps)))
noncomputable def jM (K : PySem.W.Frag) (c : Cls) : En -> Res Ev := (a9 3 (fE K c) (aD (aM cF (aD (mC (.int 0)) (aD (mC (.int 0)) aW))) (aD (aE ixE (aI 1) (aE lB (aI 0) (mC (.int 1)))) (aD (aE ixE (aI 1) (aI 0)) aW))))
noncomputable def qX (K : PySem.W.Frag) (c : Cls) : MS := (b8 (eE 1 (a9 1 (d9 K c) (aD (aI 0) aW))) (fun en => (dI (aM aCx (aD (gN 1 [1] (sA fX (aD (aM jL (aD (aI 1) aW)) aW)) (bE 0) oK (jM K c)) aW))) (frz 1 en)))
theorem aF5 {f : Nat -> Int} {n : Nat} : aCx [.p (.list ((List.range n).map fun k => PyData.int (f k)))] = .ok (.p (.int ((List.range n).map f).sum)) := by
 have e : ((List.range n).map fun k => PyData.int (f k)) = ((List.range n).map f).map .int := by rw [List.map_map]; rfl
 rw [e]
 simp only [aCx, d6, kS]
theorem zI (R : List Q2) : ((List.range R.length).map fun k => aA (0, 0) (pr R k 1) (R.getD k (0, 0))).sum = eI R := by
 unfold eI edg
 rw [List.map_map]
 rfl
theorem aDg (K : PySem.W.Frag) (c : Cls) : ∀ ls, gJ K c ls = .bad \/ fM 2 (qX K c) ls = gJ K c ls := kY fun ps h => by
 obtain ⟨hl, h0, hg⟩ := h
 have hh := jT K c hl h0 hg
 have rg : ∀ p ∈ bY (dG ps), GQ p := fun p hp => hg p (rows_mem.mp (rA hp))
 have rl : (bY (dG ps)).length <= 1000 := by
  have := yN (dG ps)
  have := lC ps
  omega
 show fM 2 (qX K c) (eQs ps) = .ok (.p (.int (eI (bY (dG ps)))))
 generalize bY (dG ps) = R at hh rg rl
 refine dO ?_
 rw [show bZ 2 (eQs ps) = [some (.p (.list (ps.map slD))), none] from rfl]
 unfold qX
 have e1 : (a9 1 (d9 K c) (aD (aI 0) aW)) [some (.p (.list (ps.map slD))), none] = .ok (.f (.list (R.map slD))) := aGb rfl hh
 refine (aJ (fP e1)).trans ?_
 simp only [List.set_cons_succ, List.set_cons_zero, frz, List.getElem?_cons_succ, List.getElem?_cons_zero]
 have ln : jL [.p (.list (R.map slD))] = .ok (.p (.int (R.length : Nat))) := by simp [jL, gE]
 have hit : sA fX (aD (aM jL (aD (aI 1) aW)) aW) [some (.p (.list (ps.map slD))), some (.p (.list (R.map slD)))] = .ok ((List.range R.length).map fun k : Nat => PyData.int (k : Int)) := by
  rw [<- pH]
  exact aH5 (a := .int (R.length : Nat)) (by ktr_call 3 ⟨aM, aD, aW, aI, Res.bind, Ev.c, ln⟩) (iP _ (by omega))
 have hm : sX (bX 1 [1] (bE 0) oK (jM K c) [some (.p (.list (ps.map slD))), some (.p (.list (R.map slD)))]) ((List.range R.length).map fun k : Nat => PyData.int (k : Int)) = some ((List.range R.length).map fun k => PyData.int (aA (0, 0) (pr R k 1) (R.getD k (0, 0)))) := by
  refine gO _ fun k hk => ?_
  have hk := List.mem_range.mp hk
  have i1 : ixE (.p (.list (R.map slD))) (.p (.int ((k : Int) - 1))) = .ok (.p (slD (pr R k 1))) := aGe (d := 1) hk (by omega)
  have i0 := aKg hk
  have g0 : GQ (0, 0) := ⟨(show Sz 90 (0 : Int) by unfold Sz; decide).mono (by decide), (show Sz 90 (0 : Int) by unfold Sz; decide).mono (by decide)⟩
  have t : fE K c [.p (.tuple [.int 0, .int 0]), .p (slD (pr R k 1)), .p (slD (R.getD k (0, 0)))] = .ok (.p (.int (aA (0, 0) (pr R k 1) (R.getD k (0, 0))))) := n9 K c (a := (0, 0)) g0 (rg _ (nL hk (by omega))) (rg _ (get_mem hk))
  have he : jM K c [some (.p (.int (k : Int))), some (.p (.list (R.map slD)))] = .ok (.p (.int (aA (0, 0) (pr R k 1) (R.getD k (0, 0))))) := by
   exact nS rfl (by ktr_call 3 ⟨aE, aI, mC, Res.bind, Ev.c, eU, i1⟩) (by ktr_call 3 ⟨aE, aI, Res.bind, Ev.c, i0⟩) t
  unfold bX
  ktr_call 3 ⟨bE, zJ, aEt, oK, List.replicate, List.cons_append, List.nil_append, he, Ev.c⟩
 have hc := kP (n := 1) (js := [1]) hit (by rw [List.length_map, List.length_range]; omega) hm
 refine eM ?_
 exact aFe hc (by rw [aF5, zI])
theorem jX (K : PySem.W.Frag) (c : Cls) {ps : List Q2} (hl : ps.length < 64) (h0 : ps ≠ []) (hg : ∀ p ∈ ps, GQ p) : gJ K c [.p (.list (ps.map slD))] = .ok (.p (.int (d3 ps))) := kU (a := ps) pV ⟨hl, h0, hg⟩
theorem cV {f : En -> Res Ev} {g : En -> Res (List Ev)} {en : En} {x : Ev} {xs : List Ev} (h1 : f en = .ok x) (h2 : g en = .ok xs) : aD f g en = .ok (x.c :: xs) := by
 simp only [aD, h1, h2, Res.bind]
theorem aBy {n : Nat} {m : List L -> Res L} {fr : En -> Res (List Ev)} {en : En} {rs : List Ev} {ls : List L} {r : L} (h : fr en = .ok rs) (ha : dM pC rs = some ls) (hn : ls.length = n) (hm : m ls = .ok r) : a9 n m fr en = .ok (qN r) := by
 simp only [a9, h, Res.bind, gF, ha, hn, hm, if_true]
theorem i6 {m : List L -> Res L} {f : En -> Res Ev} {en : En} {a : D} {r : L} (h1 : f en = .ok (.p a)) (hm : m [.p a] = .ok r) : a9 1 m (aD f aW) en = .ok (qN r) := by
 ktr_call 3 ⟨a9, aD, aW, h1, Res.bind, Ev.c, gF, dM, pC, hm⟩
theorem eZ {m : List L -> Res L} {f g : En -> Res Ev} {en : En} {a b r : D} (h1 : f en = .ok (.p a)) (h2 : g en = .ok (.p b)) (hm : m [.p a, .p b] = .ok (.p r)) : a9 2 m (aD f (aD g aW)) en = .ok (.p r) := by
 ktr_call 3 ⟨a9, aD, aW, h1, h2, Res.bind, Ev.c, gF, dM, pC, hm, qN⟩
theorem o8 {r : List Ev -> Res Ev} {f : En -> Res Ev} {en : En} {a : D} {o : Res Ev} (h1 : f en = .ok (.p a)) (h : r [.p a] = o) : aM r (aD f aW) en = o := by
 simp only [aM, aD, aW, h1, Res.bind, Ev.c, h]
theorem aG {op : Ev -> Ev -> Res Ev} {f g : En -> Res Ev} {en : En} {x y : Ev} {o : Res Ev} (h1 : f en = .ok x) (h2 : g en = .ok y) (h : op x.c y.c = o) : aE op f g en = o := by
 simp only [aE, h1, h2, Res.bind, h]
theorem fD {f : En -> Res Ev} {en : En} {b : Bool} (h : f en = .ok (.p (.bool b))) : cH f en = .ok b := by
 simp only [cH, h, Res.bind, gM]
theorem aJm {f : En -> Res Bool} {en : En} {b : Bool} (h : f en = .ok b) : aCj f en = .ok (!b) := by
 simp only [aCj, h, Res.bind]
theorem aGa {f g : En -> Res Bool} {en : En} (h1 : f en = .ok false) (h2 : g en = .ok false) : mOr f g en = .ok false := by
 simp only [mOr, h1, h2, Res.bind]
 rfl
theorem eq_int (ng : Bool) {i j : Int} (h : i = j) : eqE ng (.p (.int i)) (.p (.int j)) = .ok (.p (.bool (!ng))) := by rw [h]; exact rK rfl rfl (kL _) ng
theorem aHj {i j : Int} : eqE false (.p (.int i)) (.p (.int j)) = .ok (.p (.bool (i == j))) := by
 simp only [eqE, dat, kL, nJ]
 rfl
theorem aGg {i : Nat} {fe : En -> Res Ev} {en : En} {ds es : List D} (h1 : en[i]? = some (some (.o (.list ds)))) (h2 : fe en = .ok (.f (.list es))) (h3 : ds.length + es.length <= 100000) : iZ i fe en = some (.nx (en.set i (some (.o (.list (ds ++ es)))))) := by
 unfold iZ
 rw [h1]
 dsimp only
 rw [h2]
 dsimp only
 rw [if_pos h3]
theorem jV {i : Nat} {f : MS} {en e1 : En} {o : Option Out} (h : frz i en = e1) (k : f e1 = o) : f (frz i en) = o := by rw [h]; exact k
theorem aEw {f g : En -> Res Ev} {en : En} {a b : D} (h1 : f en = .ok (.p a)) (h2 : g en = .ok (.p b)) : aM cF (aD f (aD g aW)) en = .ok (.p (.tuple [a, b])) := by
 ktr_call 3 ⟨aM, aD, aW, h1, h2, cF, jK, Res.bind, Ev.c⟩
theorem aH2 (y : Q2) : ixE (.p (slD y)) (.p (.int 0)) = .ok (.p (.int y.1)) := mW _ _
theorem aF0 (y : Q2) : ixE (.p (slD y)) (.p (.int 1)) = .ok (.p (.int y.2)) := nR _ _ _
def hlP (ps : List Q2) : List Q2 := bY (dG ps)
def smQ (P Q : List Q2) : List Q2 := P.flatMap fun p => Q.map (ad p)
theorem oA {P Q : List Q2} (s : Q2) : s ∈ smQ P Q ↔ ∃ p ∈ P, ∃ q ∈ Q, s = ad p q := by
 unfold smQ
 rw [List.mem_flatMap]
 constructor
 ·rintro ⟨p, hp, h⟩
  obtain ⟨q, hq, e⟩ := List.mem_map.mp h
  exact ⟨p, hp, q, hq, e.symm⟩
 ·rintro ⟨p, hp, q, hq, e⟩
  exact ⟨p, hp, List.mem_map.mpr ⟨q, hq, e.symm⟩⟩
theorem aAm (P Q : List Q2) : (smQ P Q).length = P.length * Q.length := by
 induction P with
 | nil => unfold smQ; rw [List.flatMap_nil, List.length_nil, Nat.zero_mul]
 | cons p r ih =>
  show (Q.map (ad p) ++ smQ r Q).length = _
  rw [List.length_append, ih, List.length_map, List.length_cons, Nat.succ_mul, Nat.add_comm]
theorem sN {P Q : List Q2} (pn0 : P ≠ []) (qn0 : Q ≠ []) : smQ P Q ≠ [] := fun z => by
 have := aAm P Q
 rw [z] at this
 have := Nat.mul_pos (List.length_pos_iff.mpr pn0) (List.length_pos_iff.mpr qn0)
 simp only [List.length_nil] at *
 omega
theorem kR {ps : List Q2} (h : ps ≠ []) : hlP ps ≠ [] := fun z => by
 obtain ⟨_, b⟩ := pW (gU ps) (fun _ => rows_mem) (g5 h)
 obtain ⟨r, hr, _⟩ := b (0, 0)
 have hr : r ∈ hlP ps := hr
 rw [z] at hr
 cases hr
theorem wN {ps : List Q2} {p : Q2} (h : p ∈ hlP ps) : p ∈ ps := rows_mem.mp (rA h)
theorem aBp {ps : List Q2} (h : ps ≠ []) : (hlP ps).length <= ps.length := Nat.le_trans (aC8 (gU ps) (fun _ => rows_mem) (g5 h)) (lC ps)
def MV (A C : List Q2) : Int := (d3 (smQ (hlP A) (hlP C)) - d3 (hlP A) - d3 (hlP C)).fdiv 2
theorem mY {ps : List Q2} (h : ps ≠ []) : ∃ E, Es ps E /\ (E.map crs).sum = d3 ps /\ (hlP ps).length <= max 2 E.length /\ E.length <= max 2 (hlP ps).length := aIa (gU ps) (fun _ => rows_mem) (g5 h)
theorem mxh {ps : List Q2} (h : ps ≠ []) (f : Q2) : mx (hlP ps) f = mx ps f := aDy (gU ps) (fun _ => rows_mem) (g5 h) f
theorem aI0 {A C : List Q2} (hA : A ≠ []) (hC : C ≠ []) {E : List (Q2 × Q2)} (es : Es (hlP C) E) : MV A C = (E.map fun e => mx A (sb e.2 e.1)).sum := by
 have a0 := kR hA
 have c0 := kR hC
 obtain ⟨ES, s1, s2, _⟩ := mY (sN a0 c0)
 obtain ⟨EA, a1, a2, _⟩ := mY a0
 obtain ⟨EC, c1, c2, _⟩ := mY c0
 have pm := L2.gP c1.nd es.nd fun e => (c1.mem e).trans (es.mem e).symm
 have m := gK oA a0 c0 s1 a1 c1
 rw [s2, a2, c2, iT (pm.map _)] at m
 have e : (E.map fun e => mx (hlP A) (sb e.2 e.1)) = E.map fun e => mx A (sb e.2 e.1) := List.map_congr_left fun e _ => mxh hA _
 rw [e] at m
 unfold MV
 rw [Int.fdiv_eq_ediv_of_nonneg _ (by decide)]
 omega
def G4 (q : Q2) : Prop := Sz 4000 q.1 /\ Sz 4000 q.2
theorem G4.gq {q : Q2} (h : G4 q) : GQ q := ⟨h.1.mono (by decide), h.2.mono (by decide)⟩
theorem aJj {P Q : List Q2} (pn0 : ∀ p ∈ P, G4 p) (qn0 : ∀ p ∈ Q, G4 p) : ∀ s ∈ smQ P Q, GQ s := fun s hs => by
 obtain ⟨p, hp, q, hq, rfl⟩ := (oA s).mp hs
 exact ⟨(N.Sz.addM (pn0 p hp).1 (qn0 q hq).1).mono (by decide), (N.Sz.addM (pn0 p hp).2 (qn0 q hq).2).mono (by decide)⟩
def eQ2 (a : List Q2 × List Q2) : List L := [.p (.list (a.1.map slD)), .p (.list (a.2.map slD))]
theorem aBz (a b : List Q2 × List Q2) (h : eQ2 a = eQ2 b) : a = b := by
 unfold eQ2 at h
 injection h with h1 h2
 injection h2 with h2 _
 injection h1 with h1
 injection h1 with h1
 injection h2 with h2
 injection h2 with h2
 exact Prod.ext ((List.map_inj_right fun _ _ e => gS _ _ e).mp h1) ((List.map_inj_right fun _ _ e => gS _ _ e).mp h2)
structure MxP (a : List Q2 × List Q2) : Prop where
 l1 : a.1.length < 64
 n1 : a.1 ≠ []
 g1 : ∀ p ∈ a.1, G4 p
 l2 : a.2.length < 64
 n2 : a.2 ≠ []
 g2 : ∀ p ∈ a.2, G4 p
 s : (hlP a.1).length * (hlP a.2).length < 64
noncomputable def fT (K : PySem.W.Frag) (c : Cls) : List L -> Res L := mOf eQ2 MxP fun a => .ok (.p (.int (MV a.1 a.2)))
noncomputable def fJ (K : PySem.W.Frag) (c : Cls) : En -> Res Ev := (aM cF (aD (aE eD (aE ixE (aI 1) (mC (.int 0))) (aE ixE (aI 0) (mC (.int 0)))) (aD (aE eD (aE ixE (aI 1) (mC (.int 1))) (aE ixE (aI 0) (mC (.int 1)))) aW)))
noncomputable def kW (K : PySem.W.Frag) (c : Cls) : MS := (iZ 4 (gN 1 [5] (o4 (aI 3)) (bE 0) oK (fJ K c)))
noncomputable def oS (K : PySem.W.Frag) (c : Cls) : MS := (b8 (eE 2 (a9 1 (d9 K c) (aD (aI 0) aW))) (b8 (eE 3 (a9 1 (d9 K c) (aD (aI 1) aW))) (fun en => (b8 (eE 4 (aM gC aW)) (fun en => (b8 (v7 (o4 (aI 2)) (bE 5) (kW K c)) (fun en => (dI (aE iM (aE lB (aE lB (a9 1 (gJ K c) (aD (aI 4) aW)) (a9 1 (gJ K c) (aD (aI 2) aW))) (a9 1 (gJ K c) (aD (aI 3) aW))) (mC (.int 2)))) (frz 4 en))) (frz 3 en))) (frz 2 en))))
theorem aAr (K : PySem.W.Frag) (c : Cls) (A B C : Option L) {qs : List Q2} (hq : qs.length <= 100) : ∀ (ps acc : List Q2) (r : Option L), acc.length + 100 * ps.length <= 60000 -> ∃ r', fQ (bE 5) (kW K c) (ps.map slD) [A, B, C, some (.p (.list (qs.map slD))), some (.o (.list (acc.map slD))), r] = some (.nx [A, B, C, some (.p (.list (qs.map slD))), some (.o (.list ((acc ++ smQ ps qs).map slD))), r'])
 | [], acc, r, _ => ⟨r, by unfold smQ; rw [List.flatMap_nil, List.append_nil]; rfl⟩
 | p :: ps, acc, r, hl => by
  rw [List.length_cons] at hl
  have hm : sX (bX 1 [5] (bE 0) oK (fJ K c) [A, B, C, some (.p (.list (qs.map slD))), some (.o (.list (acc.map slD))), some (.p (slD p))]) (qs.map slD) = some (qs.map fun q => slD (ad p q)) := by
   refine gO _ fun q _ => ?_
   have he : fJ K c [some (.p (slD q)), some (.p (slD p))] = .ok (.p (slD (ad p q))) := aEw (aG (aG rfl rfl (aH2 p)) (aG rfl rfl (aH2 q)) (cI _ _)) (aG (aG rfl rfl (aF0 p)) (aG rfl rfl (aF0 q)) (cI _ _))
   unfold bX
   ktr_call 3 ⟨bE, oK, zJ, aEt, List.replicate, List.cons_append, List.nil_append, he, Ev.c⟩
   try rfl
  have hc := kP (n := 1) (js := [5]) (fi := o4 (aI 3)) (tg := bE 0) (ft := oK) (fe := fJ K c) (en := [A, B, C, some (.p (.list (qs.map slD))), some (.o (.list (acc.map slD))), some (.p (slD p))]) (ds := qs.map slD) rfl (by rw [List.length_map]; omega) hm
  obtain ⟨r', ih⟩ := aAr K c A B C hq ps (acc ++ qs.map (ad p)) (some (.p (slD p))) (by rw [List.length_append, List.length_map]; omega)
  refine ⟨r', (mE rfl (aGg rfl hc (by rw [List.length_map, List.length_map]; omega))).trans ?_⟩
  have em : (acc ++ qs.map (ad p)).map slD = acc.map slD ++ qs.map fun q => slD (ad p q) := by rw [List.map_append, List.map_map]; rfl
  rw [em] at ih
  rw [List.append_assoc] at ih
  exact ih
theorem yY (K : PySem.W.Frag) (c : Cls) : ∀ ls, fT K c ls = .bad \/ fM 6 (oS K c) ls = fT K c ls := kY fun a h => by
 obtain ⟨ps, qs⟩ := a
 obtain ⟨l1, n1, g1, l2, n2, g2, hs⟩ := h
 dsimp only at l1 n1 g1 l2 n2 g2 hs ⊢
 have h1 : d9 K c [.p (.list (ps.map slD))] = .ok (.o (.list ((hlP ps).map slD))) := jT K c l1 n1 fun p hp => (g1 p hp).gq
 have h2 : d9 K c [.p (.list (qs.map slD))] = .ok (.o (.list ((hlP qs).map slD))) := jT K c l2 n2 fun p hp => (g2 p hp).gq
 have i1 := kR n1
 have i2 := kR n2
 have b1 := aBp n1
 have b2 := aBp n2
 have k1 : ∀ p ∈ hlP ps, G4 p := fun p hp => g1 p (wN hp)
 have k2 : ∀ p ∈ hlP qs, G4 p := fun p hp => g2 p (wN hp)
 unfold MV
 generalize hlP ps = P at *
 generalize hlP qs = Q at *
 have a0 := jX K c (ps := smQ P Q) (by rw [aAm]; exact hs) (sN i1 i2) (aJj k1 k2)
 have a1 := jX K c (ps := P) (by omega) i1 fun p hp => (k1 p hp).gq
 have a2 := jX K c (ps := Q) (by omega) i2 fun p hp => (k2 p hp).gq
 obtain ⟨r5, hlp⟩ := aAr K c (some (.p (.list (ps.map slD)))) (some (.p (.list (qs.map slD)))) (some (.p (.list (P.map slD)))) (qs := Q) (by omega) P [] none (by rw [List.length_nil]; omega)
 rw [List.nil_append] at hlp
 have d2 : mL (d3 (smQ P Q) - d3 P - d3 Q) 2 := ⟨by decide, (show Sz 90 (2 : Int) by unfold Sz; decide).mono (by decide)⟩
 refine dO ?_
 rw [show bZ 6 (eQ2 (ps, qs)) = [some (.p (.list (ps.map slD))), some (.p (.list (qs.map slD))), none, none, none, none] from rfl]
 unfold oS
 refine (aJ (fP (i6 rfl h1))).trans ((aJ (fP (i6 rfl h2))).trans ?_)
 refine jV (i := 2) (e1 := [some (.p (.list (ps.map slD))), some (.p (.list (qs.map slD))), some (.p (.list (P.map slD))), some (.o (.list (Q.map slD))), none, none]) rfl ((aJ (fP (d := .list []) rfl)).trans ?_)
 refine jV (i := 3) (e1 := [some (.p (.list (ps.map slD))), some (.p (.list (qs.map slD))), some (.p (.list (P.map slD))), some (.p (.list (Q.map slD))), some (.o (.list [])), none]) rfl ((aJ ((o5 (ds := P.map slD) rfl).trans hlp)).trans ?_)
 refine jV (i := 4) (e1 := [some (.p (.list (ps.map slD))), some (.p (.list (qs.map slD))), some (.p (.list (P.map slD))), some (.p (.list (Q.map slD))), some (.p (.list ((smQ P Q).map slD))), r5]) rfl ?_
 exact eM (aG (aG (aG (i6 rfl a0) (i6 rfl a1) (iC _ _)) (i6 rfl a2) (iC _ _)) rfl (gZ d2))
theorem sF (K : PySem.W.Frag) (c : Cls) {ps qs : List Q2} (h : MxP (ps, qs)) : fT K c [.p (.list (ps.map slD)), .p (.list (qs.map slD))] = .ok (.p (.int (MV ps qs))) := kU (a := (ps, qs)) aBz h
def shr (b x y : Int) (p : Q2) : Q2 := (p.1 + b * p.2 + x, p.2 + y)
theorem xZ (b x y : Int) (p q r : Q2) : aA (shr b x y p) (shr b x y q) (shr b x y r) = 1 * aA p q r := by unfold shr aA; grind
theorem aCy (b x y : Int) (p q : Q2) (h : shr b x y p = shr b x y q) : p = q := by
 unfold shr at h
 injection h with h1 h2
 have e : p.2 = q.2 := by omega
 rw [e] at h1
 exact Prod.ext (by omega) e
theorem lO {ps : List Q2} (h0 : ps ≠ []) (b x y : Int) : d3 (ps.map (shr b x y)) = d3 ps := by
 have := (sL h0).map (sL (ps := ps.map (shr b x y)) (by simpa using h0)) (D := 1) (by decide) (xZ b x y) (aCy b x y)
 rw [Int.one_mul] at this
 exact this
theorem mN {ps : List Q2} (h0 : ps ≠ []) : d3 (ps.map swp) = d3 ps := (sL h0).swap (sL (ps := ps.map swp) (by simpa using h0))
theorem aCn {α : Type} : ∀ l : List α, (l.map fun _ => (0 : Int)).sum = 0
 | [] => rfl
 | x :: l => by rw [List.map_cons, List.sum_cons, aCn l]; rfl
theorem sE {P : List Q2} {f : Q2} {m : Int} (h1 : ∃ p ∈ P, cr p f = m) (h2 : ∀ p ∈ P, cr p f <= m) : mx P f = m := by
 obtain ⟨p, hp, e⟩ := h1
 have a := aFa (f := f) hp
 obtain ⟨q, hq, e2⟩ := aGf (P := P) (fun z => by rw [z] at hp; cases hp) f
 have := h2 q hq
 omega
theorem aDl {P Q : List Q2} (s : Q2) : s ∈ smQ P Q ↔ ∃ q ∈ Q, ∃ p ∈ P, s = ad q p := by
 rw [oA]
 constructor
 ·rintro ⟨p, hp, q, hq, e⟩; exact ⟨q, hq, p, hp, by rw [e, mM]⟩
 ·rintro ⟨q, hq, p, hp, e⟩; exact ⟨p, hp, q, hq, by rw [e, mM]⟩
theorem x6 {P Q : List Q2} (p0 : P ≠ []) (q0 : Q ≠ []) {EP EQ : List (Q2 × Q2)} (ep : Es P EP) (eq : Es Q EQ) : (EQ.map fun e => mx P (sb e.2 e.1)).sum = (EP.map fun e => mx Q (sb e.2 e.1)).sum := by
 obtain ⟨ES, s1, _⟩ := mY (sN p0 q0)
 have a := gK oA p0 q0 s1 ep eq
 have b := gK aDl q0 p0 s1 eq ep
 omega
theorem wV {P : List Q2} (p0 : P ≠ []) {E : List (Q2 × Q2)} (es : Es P E) : d3 P = (E.map fun e => mx P (sb e.2 e.1)).sum := by
 obtain ⟨E', e1, e2, _⟩ := mY p0
 rw [<- e2, iT ((L2.gP e1.nd es.nd fun e => (e1.mem e).trans (es.mem e).symm).map _)]
 refine mZ fun e he => ?_
 have g := (es.mem e).mp he
 rw [<- aAi g.a.c, i7]
 unfold cr sb
 grind
theorem aCe {P Q : List Q2} (p0 : P ≠ []) (q0 : Q ≠ []) (h : ∀ f, mx P f = mx Q f) : d3 P = d3 Q := by
 obtain ⟨EP, p1, _⟩ := mY p0
 obtain ⟨EQ, q1, _⟩ := mY q0
 rw [wV p0 p1, wV q0 q1, mZ (l := EP) (G := fun e => mx Q (sb e.2 e.1)) fun e _ => h _, x6 q0 p0 q1 p1]
 exact mZ fun e _ => h _
theorem xV {A C : List Q2} (hA : A ≠ []) (hC : C ≠ []) {E : List (Q2 × Q2)} (es : Es C E) : MV A C = (E.map fun e => mx A (sb e.2 e.1)).sum := by
 obtain ⟨E', e1, _⟩ := mY (kR hC)
 obtain ⟨EA, a1, _⟩ := mY hA
 rw [aI0 hA hC e1, x6 hA (kR hC) a1 e1, mZ (l := EA) (G := fun e => mx C (sb e.2 e.1)) fun e _ => mxh hC _, x6 hC hA es a1]
theorem kJ {A C : List Q2} (hA : A ≠ []) (hC : C ≠ []) : MV A C = MV C A := by
 obtain ⟨EA, a1, _⟩ := mY hA
 obtain ⟨EC, c1, _⟩ := mY hC
 rw [xV hA hC c1, xV hC hA a1, x6 hA hC a1 c1]
theorem l6 {A C : List Q2} (hA : A ≠ []) (hC : C ≠ []) : 2 * MV A C = d3 (smQ A C) - d3 A - d3 C := by
 obtain ⟨EA, a1, a2, _⟩ := mY hA
 obtain ⟨EC, c1, c2, _⟩ := mY hC
 obtain ⟨ES, s1, s2, _⟩ := mY (sN hA hC)
 have m := gK oA hA hC s1 a1 c1
 rw [xV hA hC c1]
 omega
theorem aBa {φ ψ χ : Q2 -> Q2} (h : ∀ a b, ad (φ a) (ψ b) = χ (ad a b)) (A C : List Q2) : smQ (A.map φ) (C.map ψ) = (smQ A C).map χ := by
 induction A with
 | nil => rfl
 | cons a A ih =>
  show (C.map ψ).map (ad (φ a)) ++ smQ (A.map φ) (C.map ψ) = (C.map (ad a) ++ smQ A C).map χ
  rw [List.map_append, ih, List.map_map, List.map_map]
  congr 1
  exact List.map_congr_left fun b _ => h a b
theorem iF {φ : Q2 -> Q2} {A : List Q2} (h : A ≠ []) : A.map φ ≠ [] := by simpa using h
theorem aA3 {A C : List Q2} (hA : A ≠ []) (hC : C ≠ []) (b x1 y1 x2 y2 : Int) : MV (A.map (shr b x1 y1)) (C.map (shr b x2 y2)) = MV A C := by
 have a := l6 (iF (φ := shr b x1 y1) hA) (iF (φ := shr b x2 y2) hC)
 have e := l6 hA hC
 rw [aBa (χ := shr b (x1 + x2) (y1 + y2)) (fun p q => by unfold shr N.ad; refine Prod.ext ?_ ?_ <;> dsimp only <;> grind), lO (sN hA hC), lO hA, lO hC] at a
 omega
theorem aFo {A C : List Q2} (hA : A ≠ []) (hC : C ≠ []) : MV (A.map swp) (C.map swp) = MV A C := by
 have a := l6 (iF (φ := swp) hA) (iF (φ := swp) hC)
 have e := l6 hA hC
 rw [aBa (χ := swp) (fun p q => rfl), mN (sN hA hC), mN hA, mN hC] at a
 omega
def stP (p q : Int) : List Q2 := [(p, q), (0, 0), (p, q)]
theorem aGs {A : List Q2} (hA : A ≠ []) (p q : Int) : MV A (stP p q) = mx A (p, q) + mx A (-p, -q) := by
 have s0 : stP p q ≠ [] := List.cons_ne_nil _ _
 have mem : ∀ s, s ∈ stP p q -> s = (p, q) \/ s = (0, 0) := fun s hs => by
  unfold stP at hs
  simp only [List.mem_cons, List.not_mem_nil, or_false] at hs
  rcases hs with h | h | h
  ·exact .inl h
  ·exact .inr h
  ·exact .inl h
 have m1 : (p, q) ∈ stP p q := .head _
 have m0 : ((0, 0) : Q2) ∈ stP p q := .tail _ (.head _)
 by_cases z : ((p, q) : Q2) = (0, 0)
 ·have es : Es (stP p q) [] := ⟨List.Pairwise.nil, fun e => ⟨fun h => (nomatch h), fun g => absurd (by
   rcases mem _ g.a.c.m with h | h <;> rcases mem _ g.b.c.m with k | k <;> rw [h, k] <;> simp [z]) g.n⟩, fun _ => rfl⟩
  rw [xV hA s0 es]
  injection z with z1 z2
  rw [z1, z2]
  show (0 : Int) = mx A (0, 0) + mx A (-0, -0)
  have : mx A (0, 0) = 0 := aH6 _
  rw [Int.neg_zero, this]
  rfl
 ·have sq : 0 < p * p + q * q := fG z
  have e1 : sb (p, q) (0, 0) = (p, q) := by unfold sb; simp
  have e2 : sb (0, 0) (p, q) = (-p, -q) := by unfold sb; simp
  have g1 : GE (stP p q) (0, 0) (p, q) := by
   refine ⟨fun h => z h.symm, ?_, ?_⟩ <;> rw [e1]
   ·refine ⟨⟨m0, fun s hs => ?_⟩, fun s hs => ?_⟩
    ·rcases mem s hs with h | h <;> rw [h] <;> unfold cr <;> grind
    ·rcases mem s hs.m with h | h <;> rw [h] <;> unfold dt <;> grind
   ·refine ⟨⟨m1, fun s hs => ?_⟩, fun s hs => ?_⟩
    ·rcases mem s hs with h | h <;> rw [h] <;> unfold cr <;> grind
    ·rcases mem s hs.m with h | h <;> rw [h] <;> unfold dt <;> grind
  have g2 : GE (stP p q) (p, q) (0, 0) := by
   refine ⟨z, ?_, ?_⟩ <;> rw [e2]
   ·refine ⟨⟨m1, fun s hs => ?_⟩, fun s hs => ?_⟩
    ·rcases mem s hs with h | h <;> rw [h] <;> unfold cr <;> grind
    ·rcases mem s hs.m with h | h <;> rw [h] <;> unfold dt <;> grind
   ·refine ⟨⟨m0, fun s hs => ?_⟩, fun s hs => ?_⟩
    ·rcases mem s hs with h | h <;> rw [h] <;> unfold cr <;> grind
    ·rcases mem s hs.m with h | h <;> rw [h] <;> unfold dt <;> grind
  have es : Es (stP p q) [((0, 0), (p, q)), ((p, q), (0, 0))] := by
   refine ⟨List.nodup_cons.mpr ⟨fun m => ?_, List.nodup_cons.mpr ⟨fun m => (nomatch m), List.Pairwise.nil⟩⟩, fun e => ⟨fun m => ?_, fun g => ?_⟩, fun k => ?_⟩
   ·have := List.mem_singleton.mp m
    injection this with i1 i2
    exact z i2
   ·rcases List.mem_cons.mp m with m | m
    ·rw [m]; exact g1
    ·rw [List.mem_singleton.mp m]; exact g2
   ·have n := g.n
    rcases mem _ g.a.c.m with h | h <;> rcases mem _ g.b.c.m with k | k
    ·exact absurd (h.trans k.symm) n
    ·exact .tail _ (List.mem_singleton.mpr (Prod.ext h k))
    ·rw [show e = ((0, 0), (p, q)) from Prod.ext h k]; exact .head _
    ·exact absurd (h.trans k.symm) n
   ·simp only [List.map_cons, List.map_nil, List.sum_cons, List.sum_nil]; omega
  rw [xV hA s0 es]
  simp only [List.map_cons, List.map_nil, List.sum_cons, List.sum_nil, e1, e2, Int.add_zero]
def mx0 (a : Int) : Int := if 0 < a then a else 0
theorem pZ (p q : Int) (f : Q2) : mx (stP p q) f = mx0 (p * f.2 - q * f.1) := by
 have e0 : cr (0, 0) f = 0 := by unfold cr; simp
 have e1 : cr (p, q) f = p * f.2 - q * f.1 := rfl
 unfold mx0 stP
 split
 ·exact sE ⟨_, .head _, e1⟩ fun s hs => by
   simp only [List.mem_cons, List.not_mem_nil, or_false] at hs
   rcases hs with h | h | h <;> rw [h] <;> omega
 ·exact sE ⟨_, .tail _ (.head _), e0⟩ fun s hs => by
   simp only [List.mem_cons, List.not_mem_nil, or_false] at hs
   rcases hs with h | h | h <;> rw [h] <;> omega
def sqP (a b : Nat) : List Q2 := (List.range (a + 1)).flatMap fun i : Nat => (List.range (b + 1)).map fun j : Nat => ((i : Int), (j : Int))
theorem mem_sq {a b : Nat} {s : Q2} : s ∈ sqP a b ↔ ∃ i j : Nat, i <= a /\ j <= b /\ s = ((i : Int), (j : Int)) := by
 unfold sqP
 rw [List.mem_flatMap]
 constructor
 ·rintro ⟨i, hi, h⟩
  obtain ⟨j, hj, e⟩ := List.mem_map.mp h
  have := List.mem_range.mp hi
  have := List.mem_range.mp hj
  exact ⟨i, j, by omega, by omega, e.symm⟩
 ·rintro ⟨i, j, hi, hj, e⟩
  exact ⟨i, List.mem_range.mpr (by omega), List.mem_map.mpr ⟨j, List.mem_range.mpr (by omega), e.symm⟩⟩
def trP (d : Nat) : List Q2 := (sqP d d).filter fun s => decide (s.1 + s.2 <= (d : Int))
theorem mem_tr {d : Nat} {s : Q2} : s ∈ trP d ↔ ∃ i j : Nat, i + j <= d /\ s = ((i : Int), (j : Int)) := by
 unfold trP
 rw [List.mem_filter, mem_sq]
 constructor
 ·rintro ⟨⟨i, j, _, _, rfl⟩, h⟩
  have := of_decide_eq_true h
  exact ⟨i, j, by omega, rfl⟩
 ·rintro ⟨i, j, h, rfl⟩
  exact ⟨⟨i, j, by omega, by omega, rfl⟩, decide_eq_true (by omega)⟩
theorem uH {i a : Int} (h0 : 0 <= i) (h : i <= a) (t : Int) : i * t <= mx0 (a * t) := by
 unfold mx0
 by_cases z : 0 <= t
 ·have := Int.mul_le_mul_of_nonneg_right h z
  split <;> omega
 ·have h1 : 0 <= i * (-t) := Int.mul_nonneg h0 (by omega)
  rw [Int.mul_neg] at h1
  split <;> omega
theorem aC1 (a b : Nat) (f : Q2) : mx (sqP a b) f = mx0 ((a : Int) * f.2) + mx0 ((b : Int) * (-f.1)) := by
 refine sE ?_ fun s hs => ?_
 ·refine ⟨(if 0 < (a : Int) * f.2 then (a : Int) else 0, if 0 < (b : Int) * (-f.1) then (b : Int) else 0), mem_sq.mpr ⟨if 0 < (a : Int) * f.2 then a else 0, if 0 < (b : Int) * (-f.1) then b else 0, by split <;> omega, by split <;> omega, by refine Prod.ext ?_ ?_ <;> dsimp only <;> split <;> rfl⟩, ?_⟩
  unfold cr mx0
  dsimp only
  split <;> split <;> grind
 ·obtain ⟨i, j, hi, hj, rfl⟩ := mem_sq.mp hs
  have h1 := uH (i := (i : Int)) (a := (a : Int)) (by omega) (by omega) f.2
  have h2 := uH (i := (j : Int)) (a := (b : Int)) (by omega) (by omega) (-f.1)
  unfold cr
  grind
def mx2 (a b : Int) : Int := if a < b then b else a
theorem aJ3 (a b : Int) : mx0 (mx2 a b) = 0 \/ mx0 (mx2 a b) = a \/ mx0 (mx2 a b) = b := by
 unfold mx0 mx2
 by_cases z : a < b
 ·rw [if_pos z]
  split
  ·exact .inr (.inr rfl)
  ·exact .inl rfl
 ·rw [if_neg z]
  split
  ·exact .inr (.inl rfl)
  ·exact .inl rfl
theorem rS (d : Nat) (f : Q2) : mx (trP d) f = (d : Int) * mx0 (mx2 f.2 (-f.1)) := by
 have d0 : (0 : Int) <= (d : Int) := by omega
 refine sE ?_ fun s hs => ?_
 ·rcases aJ3 f.2 (-f.1) with h | h | h <;> rw [h]
  ·exact ⟨(0, 0), mem_tr.mpr ⟨0, 0, by omega, rfl⟩, by unfold cr; grind⟩
  ·exact ⟨((d : Int), 0), mem_tr.mpr ⟨d, 0, by omega, rfl⟩, by unfold cr; grind⟩
  ·exact ⟨(0, (d : Int)), mem_tr.mpr ⟨0, d, by omega, rfl⟩, by unfold cr; grind⟩
 ·obtain ⟨i, j, h, rfl⟩ := mem_tr.mp hs
  have le : f.2 <= mx0 (mx2 f.2 (-f.1)) /\ -f.1 <= mx0 (mx2 f.2 (-f.1)) /\ 0 <= mx0 (mx2 f.2 (-f.1)) := by
   unfold mx0 mx2
   refine ⟨?_, ?_, ?_⟩ <;> split <;> split <;> omega
  generalize mx0 (mx2 f.2 (-f.1)) = m at le
  have a1 := Int.mul_le_mul_of_nonneg_left le.1 (show (0 : Int) <= (i : Int) by omega)
  have a2 := Int.mul_le_mul_of_nonneg_left le.2.1 (show (0 : Int) <= (j : Int) by omega)
  have a3 := Int.mul_le_mul_of_nonneg_right (show (i : Int) + (j : Int) <= (d : Int) by omega) le.2.2
  unfold cr
  grind
theorem aKl {C : List Q2} (hC : C ≠ []) {A : List Q2} (hA : A ≠ []) (h : ∀ f, mx A f = 0) : MV A C = 0 := by
 obtain ⟨E, e1, _⟩ := mY hC
 rw [xV hA hC e1, mZ (G := fun _ => 0) fun e _ => h _, aCn]
theorem aDd (a b : Nat) : sqP a b ≠ [] := fun z => by
 have : ((0, 0) : Q2) ∈ sqP a b := mem_sq.mpr ⟨0, 0, by omega, by omega, rfl⟩
 rw [z] at this
 cases this
theorem pS (d : Nat) : trP d ≠ [] := fun z => by
 have : ((0, 0) : Q2) ∈ trP d := mem_tr.mpr ⟨0, 0, by omega, rfl⟩
 rw [z] at this
 cases this
theorem rV (p q : Int) : stP p q ≠ [] := List.cons_ne_nil _ _
theorem aH9 (a b : Nat) {C : List Q2} (hC : C ≠ []) : MV (sqP a b) C = MV C (stP a 0) + MV C (stP 0 b) := by
 obtain ⟨E, e1, _⟩ := mY hC
 rw [kJ hC (rV _ _), kJ hC (rV _ _), xV (aDd a b) hC e1, xV (rV _ _) hC e1, xV (rV _ _) hC e1]
 have := sum2 (A := fun e : Q2 × Q2 => mx (sqP a b) (sb e.2 e.1)) (B := fun _ => 0) (C := fun e => mx (stP a 0) (sb e.2 e.1)) (D := fun e => mx (stP 0 b) (sb e.2 e.1)) (l := E) fun e _ => by
  rw [aC1, pZ, pZ]
  have x1 : (a : Int) * (sb e.2 e.1).2 - 0 * (sb e.2 e.1).1 = (a : Int) * (sb e.2 e.1).2 := by omega
  have x2 : 0 * (sb e.2 e.1).2 - (b : Int) * (sb e.2 e.1).1 = (b : Int) * (-(sb e.2 e.1).1) := by rw [Int.mul_neg]; omega
  rw [x1, x2]
  omega
 rw [aCn] at this
 omega
theorem aB4 (d : Nat) : d3 (trP d) = (d : Int) * (d : Int) := by
 have e := aCe (P := trP d) (Q := [(0, 0), ((d : Int), 0), (0, (d : Int))]) (pS d) (List.cons_ne_nil _ _) fun f => by
  rw [rS]
  symm
  refine sE ?_ fun s hs => ?_
  ·rcases aJ3 f.2 (-f.1) with h | h | h <;> rw [h]
   ·exact ⟨(0, 0), .head _, by unfold cr; grind⟩
   ·exact ⟨((d : Int), 0), .tail _ (.head _), by unfold cr; grind⟩
   ·exact ⟨(0, (d : Int)), .tail _ (.tail _ (.head _)), by unfold cr; grind⟩
  ·have : s ∈ trP d := by
    simp only [List.mem_cons, List.not_mem_nil, or_false] at hs
    rcases hs with h | h | h <;> rw [h]
    ·exact mem_tr.mpr ⟨0, 0, by omega, rfl⟩
    ·exact mem_tr.mpr ⟨d, 0, by omega, rfl⟩
    ·exact mem_tr.mpr ⟨0, d, by omega, rfl⟩
   have := aFa (f := f) this
   rw [rS] at this
   exact this
 rw [e]
 have h := (sL (ps := [(0, 0), ((d : Int), 0), (0, (d : Int))]) (List.cons_ne_nil _ _)).three
 have t : aA (0, 0) ((d : Int), 0) (0, (d : Int)) = (d : Int) * (d : Int) := by unfold aA; grind
 rw [t, if_neg (by have := uE (d : Int); omega)] at h
 exact h
theorem aI9 {d e : Nat} (hd : 1 <= d) : MV (trP e) (trP d) = (e : Int) * (d : Int) := by
 obtain ⟨E, e1, _⟩ := mY (pS d)
 have a := wV (pS d) e1
 rw [aB4] at a
 have m := xV (pS e) (pS d) e1
 have k := lR (e : Int) (f := fun x : Q2 × Q2 => (d : Int) * mx (trP e) (sb x.2 x.1)) (g := fun x => mx (trP d) (sb x.2 x.1)) (l := E) fun x _ => by rw [rS, rS]; grind
 have k2 := lR (d : Int) (f := fun x : Q2 × Q2 => (d : Int) * mx (trP e) (sb x.2 x.1)) (g := fun x => mx (trP e) (sb x.2 x.1)) (l := E) fun x _ => rfl
 rw [k2, <- m, <- a] at k
 refine Int.eq_of_mul_eq_mul_left (show (d : Int) ≠ 0 by omega) ?_
 grind
theorem cdl {i j : Int} (h0 : j ≠ 0) (h : j.natAbs < 2 ^ 90) : mL i j := ⟨h0, (show Sz 90 j from h).mono (by decide)⟩
theorem aIc {f g h : En -> Res Ev} {en : En} {a b d : D} (h1 : f en = .ok (.p a)) (h2 : g en = .ok (.p b)) (h3 : h en = .ok (.p d)) : aM cF (aD f (aD g (aD h aW))) en = .ok (.p (.tuple [a, b, d])) := by
 ktr_call 3 ⟨aM, aD, aW, h1, h2, h3, cF, jK, Res.bind, Ev.c⟩
theorem aIu {f g : En -> Res Bool} {en : En} (h1 : f en = .ok true) : mOr f g en = .ok true := by
 simp only [mOr, h1, Res.bind]
 rfl
theorem aJ4 {f g : En -> Res Bool} {en : En} {o : Res Bool} (h1 : f en = .ok false) (h2 : g en = o) : mOr f g en = o := by
 simp only [mOr, h1, Res.bind, h2]
 rfl
theorem aIp {f : En -> Res Ev} {en : En} {x : Ev} {ds : List D} (h : f en = .ok x) (h2 : aGr x.c = .ok ds) : o4 f en = .ok ds := by
 unfold o4
 rw [h]
 exact h2
theorem qR {r : List Ev -> Res Ev} {f : En -> Res (List Ev)} {en : En} {rs : List Ev} {o : Res Ev} (h1 : f en = .ok rs) (h : r rs = o) : aM r f en = o := by
 simp only [aM, h1, Res.bind, h]
inductive Kd where
 | tri (d : Nat)
 | box (a b : Nat)
 | str (p q : Int)
 | one
def Kd.nm : Kd -> D
 | .tri _ => .str "triangle"
 | .box _ _ => .str "rectangle"
 | .str _ _ => .str "stretch"
 | .one => .str "one"
def Kd.t : Kd -> Nat
 | .tri _ => 0
 | .box _ _ => 1
 | .str _ _ => 2
 | .one => 3
def Kd.x : Kd -> Int
 | .tri d => d
 | .box a _ => a
 | .str p _ => p
 | .one => 0
def Kd.y : Kd -> Int
 | .tri _ => 0
 | .box _ b => b
 | .str _ q => q
 | .one => 0
def kdD (k : Kd) : D := .tuple [k.nm, .int k.x, .int k.y]
def kdP : Kd -> List Q2
 | .tri d => trP d
 | .box a b => sqP a b
 | .str p q => stP p q
 | .one => [(0, 0), (0, 0)]
def oN : Kd -> Prop
 | .tri d => 1 <= d /\ d <= 4
 | .box a b => a <= 4 /\ b <= 4
 | .str p q => Sz 70 p /\ Sz 70 q
 | .one => True
theorem g8 (k : Kd) : kdP k ≠ [] := by
 cases k with
 | tri d => exact pS d
 | box a b => exact aDd a b
 | str p q => exact rV p q
 | one => exact List.cons_ne_nil _ _
theorem kq0 (k : Kd) : eqE false (.p k.nm) (.p (.str "triangle")) = .ok (.p (.bool (k.t == 0))) := by cases k <;> kernel_rfl
theorem kq1 (k : Kd) : eqE false (.p k.nm) (.p (.str "rectangle")) = .ok (.p (.bool (k.t == 1))) := by cases k <;> kernel_rfl
theorem kq2 (k : Kd) : eqE false (.p k.nm) (.p (.str "stretch")) = .ok (.p (.bool (k.t == 2))) := by cases k <;> kernel_rfl
theorem kq3 (k : Kd) : eqE false (.p k.nm) (.p (.str "one")) = .ok (.p (.bool (k.t == 3))) := by cases k <;> kernel_rfl
theorem kx0 (k : Kd) : ixE (.p (kdD k)) (.p (.int 0)) = .ok (.p k.nm) := mW _ _
theorem kx1 (k : Kd) : ixE (.p (kdD k)) (.p (.int 1)) = .ok (.p (.int k.x)) := nR _ _ _
theorem kx2 (k : Kd) : ixE (.p (kdD k)) (.p (.int 2)) = .ok (.p (.int k.y)) := vB _ _ _ _
theorem aBw {k : Kd} (h : oN k) : Sz 70 k.x /\ Sz 70 k.y := by
 cases k with
 | tri d => exact ⟨(show Sz 3 (d : Int) by have := h.2; unfold Sz; omega).mono (by decide), (show Sz 3 (0 : Int) by unfold Sz; decide).mono (by decide)⟩
 | box a b => exact ⟨(show Sz 3 (a : Int) by have := h.1; unfold Sz; omega).mono (by decide), (show Sz 3 (b : Int) by have := h.2; unfold Sz; omega).mono (by decide)⟩
 | str p q => exact h
 | one => exact ⟨(show Sz 3 (0 : Int) by unfold Sz; decide).mono (by decide), (show Sz 3 (0 : Int) by unfold Sz; decide).mono (by decide)⟩
theorem p18 : aBe 10 18 := ⟨by decide, by decide, by decide⟩
theorem w18 : (10 : Int) ^ Int.toNat 18 = 1000000000000000000 := by decide
theorem aH1 (en : En) : aE mR (mC (.int 10)) (mC (.int 18)) en = .ok (.p (.int 1000000000000000000)) := aG (x := .p (.int 10)) (y := .p (.int 18)) rfl rfl (by show mR (.p (.int 10)) (.p (.int 18)) = _; rw [wX p18, w18])
theorem p30 : aBe 10 30 := ⟨by decide, by decide, by decide⟩
theorem w30 : (10 : Int) ^ Int.toNat 30 = 1000000000000000000000000000000 := by decide
theorem aKd (en : En) : aE mR (mC (.int 10)) (mC (.int 30)) en = .ok (.p (.int 1000000000000000000000000000000)) := aG (x := .p (.int 10)) (y := .p (.int 30)) rfl rfl (by show mR (.p (.int 10)) (.p (.int 30)) = _; rw [wX p30, w30])
theorem aFb (en : En) : aE eD (aE iS (mC (.int 2)) (aE mR (mC (.int 10)) (mC (.int 18)))) (mC (.int 1)) en = .ok (.p (.int 2000000000000000001)) := aG (x := .p (.int 2000000000000000000)) (aG rfl (aH1 en) (cZ ⟨(show Sz 90 (2 : Int) by unfold Sz; decide).mono (by decide), (show Sz 90 (1000000000000000000 : Int) by unfold Sz; decide).mono (by decide)⟩)) rfl (cI _ _)
theorem b18 (x : Int) : Sz 70 (x.fmod 2000000000000000001 - 1000000000000000000) := by
 have := eH (a := x) (b := 2000000000000000001) (by decide)
 unfold Sz
 omega
noncomputable def b4 (K : PySem.W.Frag) (c : Cls) : MS := (b8 (eE 2 (aE fO (aI 0) (aE mR (mC (.int 10)) (mC (.int 30))))) (b8 (eE 3 (aE eD (aE iS (mC (.int 2)) (aE mR (mC (.int 10)) (mC (.int 18)))) (mC (.int 1)))) (b8 (fR (cH (aE (eqE false) (aE fO (aI 2) (mC (.int 4))) (mC (.int 0)))) (dI (aM cF (aD (mC (.str "triangle")) (aD (aE eD (mC (.int 1)) (aE fO (aE iM (aI 2) (mC (.int 4))) (mC (.int 4)))) (aD (mC (.int 0)) aW))))) cU) (b8 (fR (cH (aE (eqE false) (aE fO (aI 2) (mC (.int 4))) (mC (.int 1)))) (dI (aM cF (aD (mC (.str "rectangle")) (aD (aE fO (aE iM (aI 2) (mC (.int 4))) (mC (.int 5))) (aD (aE fO (aE iM (aI 2) (mC (.int 20))) (mC (.int 5))) aW))))) cU) (b8 (fR (cH (aE (eqE false) (aE fO (aI 2) (mC (.int 4))) (mC (.int 2)))) (dI (aM cF (aD (mC (.str "stretch")) (aD (aE lB (aE fO (aI 2) (aI 3)) (aE mR (mC (.int 10)) (mC (.int 18)))) (aD (aE lB (aE fO (aI 1) (aI 3)) (aE mR (mC (.int 10)) (mC (.int 18)))) aW))))) cU) (dI (aM cF (aD (mC (.str "one")) (aD (mC (.int 0)) (aD (mC (.int 0)) aW))))))))))
noncomputable def bI (K : PySem.W.Frag) (c : Cls) (ls : List L) : Res L := fM 4 (b4 K c) ls
theorem jF (K : PySem.W.Frag) (c : Cls) : ∀ ls, bI K c ls = .bad \/ fM 4 (b4 K c) ls = bI K c ls := fun _ => .inr rfl
theorem aCr (K : PySem.W.Frag) (c : Cls) (cell more : Int) : ∃ k, oN k /\ bI K c [.p (.int cell), .p (.int more)] = .ok (.p (kdD k)) := by
 have n30 : (1000000000000000000000000000000 : Int) ≠ 0 := by decide
 have n4 : (4 : Int) ≠ 0 := by decide
 have n5 : (5 : Int) ≠ 0 := by decide
 have nb : (2000000000000000001 : Int) ≠ 0 := by decide
 suffices h : ∃ k, oN k /\ b4 K c [some (.p (.int cell)), some (.p (.int more)), none, none] = some (.rt (.p (kdD k))) by
  obtain ⟨k, h1, h2⟩ := h
  exact ⟨k, h1, dO h2⟩
 have go : ∀ {o : Option Out}, (b8 (fR (cH (aE (eqE false) (aE fO (aI 2) (mC (.int 4))) (mC (.int 0)))) (dI (aM cF (aD (mC (.str "triangle")) (aD (aE eD (mC (.int 1)) (aE fO (aE iM (aI 2) (mC (.int 4))) (mC (.int 4)))) (aD (mC (.int 0)) aW))))) cU) (b8 (fR (cH (aE (eqE false) (aE fO (aI 2) (mC (.int 4))) (mC (.int 1)))) (dI (aM cF (aD (mC (.str "rectangle")) (aD (aE fO (aE iM (aI 2) (mC (.int 4))) (mC (.int 5))) (aD (aE fO (aE iM (aI 2) (mC (.int 20))) (mC (.int 5))) aW))))) cU) (b8 (fR (cH (aE (eqE false) (aE fO (aI 2) (mC (.int 4))) (mC (.int 2)))) (dI (aM cF (aD (mC (.str "stretch")) (aD (aE lB (aE fO (aI 2) (aI 3)) (aE mR (mC (.int 10)) (mC (.int 18)))) (aD (aE lB (aE fO (aI 1) (aI 3)) (aE mR (mC (.int 10)) (mC (.int 18)))) aW))))) cU) (dI (aM cF (aD (mC (.str "one")) (aD (mC (.int 0)) (aD (mC (.int 0)) aW)))))))) [some (.p (.int cell)), some (.p (.int more)), some (.p (.int (cell.fmod 1000000000000000000000000000000))), some (.p (.int 2000000000000000001))] = o -> b4 K c [some (.p (.int cell)), some (.p (.int more)), none, none] = o := fun e => (aJ (iL (aG rfl (aKd _) (eR n30)))).trans ((aJ (iL (aFb _))).trans e)
 generalize cell.fmod 1000000000000000000000000000000 = v at go
 have tt : ∀ n : Int, cH (aE (eqE false) (aE fO (aI 2) (mC (.int 4))) (mC (.int n))) [some (.p (.int cell)), some (.p (.int more)), some (.p (.int v)), some (.p (.int 2000000000000000001))] = .ok (v.fmod 4 == n) := fun n => fD (aG (aG rfl rfl (eR n4)) rfl aHj)
 have d4 : mL v 4 := cdl (by decide) (by decide)
 have d20 : mL v 20 := cdl (by decide) (by decide)
 have t0 := tt 0
 have t1 := tt 1
 have t2 := tt 2
 cases e0 : (v.fmod 4 == 0) with
 | true =>
  rw [e0] at t0
  have f := eH (a := v.fdiv 4) (b := 4) (by decide)
  refine ⟨.tri (1 + (v.fdiv 4).fmod 4).toNat, ⟨by omega, by omega⟩, go (bV ((iR t0).trans (eM ?_)))⟩
  have : ((1 + (v.fdiv 4).fmod 4).toNat : Int) = 1 + (v.fdiv 4).fmod 4 := by omega
  have e : kdD (.tri (1 + (v.fdiv 4).fmod 4).toNat) = .tuple [.str "triangle", .int (1 + (v.fdiv 4).fmod 4), .int 0] := congrArg (fun z : Int => (.tuple [.str "triangle", .int z, .int 0] : D)) this
  rw [e]
  exact aIc rfl (aG rfl (aG (aG rfl rfl (gZ d4)) rfl (eR n4)) (cI _ _)) rfl
 | false =>
  rw [e0] at t0
  cases e1 : (v.fmod 4 == 1) with
  | true =>
   rw [e1] at t1
   have f := eH (a := v.fdiv 4) (b := 5) (by decide)
   have g := eH (a := v.fdiv 20) (b := 5) (by decide)
   refine ⟨.box ((v.fdiv 4).fmod 5).toNat ((v.fdiv 20).fmod 5).toNat, ⟨by omega, by omega⟩, go ((aJ (dS t0)).trans (bV ((iR t1).trans (eM ?_))))⟩
   have h1 : (((v.fdiv 4).fmod 5).toNat : Int) = (v.fdiv 4).fmod 5 := by omega
   have h2 : (((v.fdiv 20).fmod 5).toNat : Int) = (v.fdiv 20).fmod 5 := by omega
   have e : kdD (.box ((v.fdiv 4).fmod 5).toNat ((v.fdiv 20).fmod 5).toNat) = .tuple [.str "rectangle", .int ((v.fdiv 4).fmod 5), .int ((v.fdiv 20).fmod 5)] := (congrArg (fun z : Int => (.tuple [.str "rectangle", .int z, .int (((v.fdiv 20).fmod 5).toNat : Int)] : D)) h1).trans (congrArg (fun z : Int => (.tuple [.str "rectangle", .int ((v.fdiv 4).fmod 5), .int z] : D)) h2)
   rw [e]
   exact aIc rfl (aG (aG rfl rfl (gZ d4)) rfl (eR n5)) (aG (aG rfl rfl (gZ d20)) rfl (eR n5))
  | false =>
   rw [e1] at t1
   cases e2 : (v.fmod 4 == 2) with
   | true =>
    rw [e2] at t2
    refine ⟨.str (v.fmod 2000000000000000001 - 1000000000000000000) (more.fmod 2000000000000000001 - 1000000000000000000), ⟨b18 _, b18 _⟩, go ((aJ (dS t0)).trans ((aJ (dS t1)).trans (bV ((iR t2).trans (eM ?_)))))⟩
    exact aIc rfl (aG (aG rfl rfl (eR nb)) (aH1 _) (iC _ _)) (aG (aG rfl rfl (eR nb)) (aH1 _) (iC _ _))
   | false =>
    rw [e2] at t2
    exact ⟨.one, trivial, go ((aJ (dS t0)).trans ((aJ (dS t1)).trans ((aJ (dS t2)).trans rfl)))⟩
noncomputable def eP (K : PySem.W.Frag) (c : Cls) : MS := (eJ 2 (aM cF (aD (aI 3) (aD (aI 4) aW))))
noncomputable def eQ (K : PySem.W.Frag) (c : Cls) : MS := (v7 (sA fX (aD (aE eD (aI 1) (mC (.int 1))) aW)) (bE 4) (eP K c))
noncomputable def dB (K : PySem.W.Frag) (c : Cls) : MS := (b8 (eE 2 (aM gC aW)) (b8 (v7 (sA fX (aD (aE eD (aI 0) (mC (.int 1))) aW)) (bE 3) (eQ K c)) (dI (aI 2))))
noncomputable def aX (K : PySem.W.Frag) (c : Cls) (ls : List L) : Res L := fM 5 (dB K c) ls
theorem kA (K : PySem.W.Frag) (c : Cls) : ∀ ls, aX K c ls = .bad \/ fM 5 (dB K c) ls = aX K c ls := fun _ => .inr rfl
theorem aHk (K : PySem.W.Frag) (c : Cls) (A B : Option L) (i : Int) : ∀ (js : List Nat) (acc : List Q2) (r : Option L), acc.length + js.length <= 60000 -> ∃ r', fQ (bE 4) (eP K c) (js.map fun j : Nat => PyData.int (j : Int)) [A, B, some (.o (.list (acc.map slD))), some (.p (.int i)), r] = some (.nx [A, B, some (.o (.list ((acc ++ js.map fun j : Nat => (i, (j : Int))).map slD))), some (.p (.int i)), r'])
 | [], acc, r, _ => ⟨r, by rw [List.map_nil, List.map_nil, List.append_nil]; rfl⟩
 | j :: js, acc, r, hl => by
  rw [List.length_cons] at hl
  obtain ⟨r', ih⟩ := aHk K c A B i js (acc ++ [(i, (j : Int))]) (some (.p (.int (j : Int)))) (by rw [List.length_append, List.length_singleton]; omega)
  refine ⟨r', (mE rfl (aCf rfl (d := slD (i, (j : Int))) (aEw rfl rfl) (by rw [List.length_map]; omega))).trans ?_⟩
  have em : (acc ++ [(i, (j : Int))]).map slD = acc.map slD ++ [slD (i, (j : Int))] := by rw [List.map_append]; rfl
  rw [em, List.append_assoc] at ih
  exact ih
theorem aA2 (K : PySem.W.Frag) (c : Cls) (A : Option L) {b : Nat} (hb : b <= 100) : ∀ (is : List Nat) (acc : List Q2) (r3 r4 : Option L), acc.length + 101 * is.length <= 60000 -> ∃ q3 q4, fQ (bE 3) (eQ K c) (is.map fun j : Nat => PyData.int (j : Int)) [A, some (.p (.int (b : Int))), some (.o (.list (acc.map slD))), r3, r4] = some (.nx [A, some (.p (.int (b : Int))), some (.o (.list ((acc ++ is.flatMap fun i : Nat => (List.range (b + 1)).map fun j : Nat => ((i : Int), (j : Int))).map slD))), q3, q4])
 | [], acc, r3, r4, _ => ⟨r3, r4, by rw [List.flatMap_nil, List.append_nil]; rfl⟩
 | i :: is, acc, r3, r4, hl => by
  rw [List.length_cons] at hl
  obtain ⟨q4, hin⟩ := aHk K c A (some (.p (.int (b : Int)))) (i : Int) (List.range (b + 1)) acc r4 (by rw [List.length_range]; omega)
  obtain ⟨s3, s4, ih⟩ := aA2 K c A hb is (acc ++ (List.range (b + 1)).map fun j : Nat => ((i : Int), (j : Int))) (some (.p (.int (i : Int)))) q4 (by rw [List.length_append, List.length_map, List.length_range]; omega)
  have hit : sA fX (aD (aE eD (aI 1) (mC (.int 1))) aW) [A, some (.p (.int (b : Int))), some (.o (.list (acc.map slD))), some (.p (.int (i : Int))), r4] = .ok ((List.range (b + 1)).map fun j : Nat => PyData.int (j : Int)) := by
   rw [<- pH]
   exact aH5 (a := .int ((b + 1 : Nat) : Int)) (aG rfl rfl (cI _ _)) (iP _ (by omega))
  refine ⟨s3, s4, (mE rfl ((o5 hit).trans hin)).trans ?_⟩
  rw [List.append_assoc] at ih
  exact ih
theorem mX (K : PySem.W.Frag) (c : Cls) {a b : Nat} (ha : a <= 100) (hb : b <= 100) : aX K c [.p (.int (a : Int)), .p (.int (b : Int))] = .ok (.o (.list ((sqP a b).map slD))) := by
 obtain ⟨q3, q4, h⟩ := aA2 K c (some (.p (.int (a : Int)))) hb (List.range (a + 1)) [] none none (by rw [List.length_nil, List.length_range]; omega)
 rw [List.nil_append] at h
 have hit : sA fX (aD (aE eD (aI 0) (mC (.int 1))) aW) [some (.p (.int (a : Int))), some (.p (.int (b : Int))), some (.o (.list [])), none, none] = .ok ((List.range (a + 1)).map fun j : Nat => PyData.int (j : Int)) := by
  rw [<- pH]
  exact aH5 (a := .int ((a + 1 : Nat) : Int)) (aG rfl rfl (cI _ _)) (iP _ (by omega))
 unfold aX
 refine dO ?_
 rw [show bZ 5 [.p (.int (a : Int)), .p (.int (b : Int))] = [some (.p (.int (a : Int))), some (.p (.int (b : Int))), none, none, none] from rfl]
 unfold dB
 exact (aJ (fP (d := .list []) rfl)).trans ((aJ ((o5 hit).trans h)).trans rfl)
theorem aAs (a b : Nat) : (sqP a b).length = (a + 1) * (b + 1) := by
 unfold sqP
 have : ∀ is : List Nat, (is.flatMap fun i : Nat => (List.range (b + 1)).map fun j : Nat => ((i : Int), (j : Int))).length = is.length * (b + 1) := fun is => by
  induction is with
  | nil => rw [List.flatMap_nil, List.length_nil, List.length_nil, Nat.zero_mul]
  | cons i is ih => rw [List.flatMap_cons, List.length_append, ih, List.length_map, List.length_range, List.length_cons, Nat.succ_mul, Nat.add_comm]
 rw [this, List.length_range]
noncomputable def fV (K : PySem.W.Frag) (c : Cls) : En -> Res Ev := (aM cF (aD (aI 0) (aD (aI 1) aW)))
noncomputable def b7 (K : PySem.W.Frag) (c : Cls) : MS := (b8 (fR (cH (aE (eqE false) (aE ixE (aI 0) (mC (.int 0))) (mC (.str "triangle")))) (dI (gN 2 [0] (o4 (a9 2 (aX K c) (aD (aE ixE (aI 0) (mC (.int 1))) (aD (aE ixE (aI 0) (mC (.int 1))) aW)))) (zC 2 (kO (bE 0) (kO (bE 1) zH))) (cH (aE leE (aE eD (aI 0) (aI 1)) (aE ixE (aI 2) (mC (.int 1))))) (fV K c))) cU) (b8 (fR (cH (aE (eqE false) (aE ixE (aI 0) (mC (.int 0))) (mC (.str "rectangle")))) (dI (a9 2 (aX K c) (aD (aE ixE (aI 0) (mC (.int 1))) (aD (aE ixE (aI 0) (mC (.int 2))) aW)))) cU) (b8 (fR (cH (aE (eqE false) (aE ixE (aI 0) (mC (.int 0))) (mC (.str "stretch")))) (dI (aM gC (aD (aM cF (aD (aE ixE (aI 0) (mC (.int 1))) (aD (aE ixE (aI 0) (mC (.int 2))) aW))) (aD (aM cF (aD (mC (.int 0)) (aD (mC (.int 0)) aW))) (aD (aM cF (aD (aE ixE (aI 0) (mC (.int 1))) (aD (aE ixE (aI 0) (mC (.int 2))) aW))) aW))))) cU) (dI (aM gC (aD (aM cF (aD (mC (.int 0)) (aD (mC (.int 0)) aW))) (aD (aM cF (aD (mC (.int 0)) (aD (mC (.int 0)) aW))) aW)))))))
noncomputable def aV (K : PySem.W.Frag) (c : Cls) (ls : List L) : Res L := fM 1 (b7 K c) ls
theorem gQ (K : PySem.W.Frag) (c : Cls) : ∀ ls, aV K c ls = .bad \/ fM 1 (b7 K c) ls = aV K c ls := fun _ => .inr rfl
theorem xO (K : PySem.W.Frag) (c : Cls) {k : Kd} (hk : oN k) : aV K c [.p (kdD k)] = .ok (.o (.list ((kdP k).map slD))) := by
 have t0 : cH (aE (eqE false) (aE ixE (aI 0) (mC (.int 0))) (mC (.str "triangle"))) [some (.p (kdD k))] = .ok (k.t == 0) := fD (aG (aG rfl rfl (kx0 k)) rfl (kq0 k))
 have t1 : cH (aE (eqE false) (aE ixE (aI 0) (mC (.int 0))) (mC (.str "rectangle"))) [some (.p (kdD k))] = .ok (k.t == 1) := fD (aG (aG rfl rfl (kx0 k)) rfl (kq1 k))
 have t2 : cH (aE (eqE false) (aE ixE (aI 0) (mC (.int 0))) (mC (.str "stretch"))) [some (.p (kdD k))] = .ok (k.t == 2) := fD (aG (aG rfl rfl (kx0 k)) rfl (kq2 k))
 have v1 := kx1 k
 have v2 := kx2 k
 unfold aV
 refine dO ?_
 rw [show bZ 1 [.p (kdD k)] = [some (.p (kdD k))] from rfl]
 unfold b7
 cases k with
 | tri d =>
  have hd : d <= 4 := hk.2
  have sq := mX K c (a := d) (b := d) (by omega) (by omega)
  have it : o4 (a9 2 (aX K c) (aD (aE ixE (aI 0) (mC (.int 1))) (aD (aE ixE (aI 0) (mC (.int 1))) aW))) [some (.p (kdD (.tri d)))] = .ok ((sqP d d).map slD) := aIp (aBy (cV (aG rfl rfl v1) (cV (aG rfl rfl v1) rfl)) rfl rfl sq) rfl
  refine bV ((iR t0).trans (aAc (kP it (by rw [List.length_map, aAs]; have := Nat.mul_le_mul (show d + 1 <= 5 by omega) (show d + 1 <= 5 by omega); omega) ?_)))
  show _ = some ((trP d).map slD)
  unfold trP
  refine rQ _ fun s _ => ?_
  have tst : cH (aE leE (aE eD (aI 0) (aI 1)) (aE ixE (aI 2) (mC (.int 1)))) [some (.p (.int s.1)), some (.p (.int s.2)), some (.p (kdD (.tri d)))] = .ok (decide (s.1 + s.2 <= (d : Int))) := fD (aG (aG rfl rfl (cI _ _)) (aG rfl rfl v1) (by show leE (.p (.int (s.1 + s.2))) (.p (.int (d : Int))) = _; simp [leE, eU]))
  have gg : zC 2 (kO (bE 0) (kO (bE 1) zH)) (slD s) [none, none, some (.p (kdD (.tri d)))] = some [some (.p (.int s.1)), some (.p (.int s.2)), some (.p (kdD (.tri d)))] := rfl
  have cap : zJ [0] [some (.p (kdD (.tri d)))] = [some (.p (kdD (.tri d)))] := rfl
  unfold bX
  rw [cap]
  simp only [List.replicate, List.cons_append, List.nil_append, gg, tst]
  cases z : decide (s.1 + s.2 <= (d : Int)) with
  | true => rfl
  | false => rfl
 | box a b =>
  refine (aJ (dS t0)).trans (bV ((iR t1).trans ?_))
  have sq := mX K c (a := a) (b := b) (by have := hk.1; omega) (by have := hk.2; omega)
  have v1 : ixE (.p (kdD (.box a b))) (.p (.int 1)) = .ok (.p (.int (a : Int))) := v1
  have v2 : ixE (.p (kdD (.box a b))) (.p (.int 2)) = .ok (.p (.int (b : Int))) := v2
  have e : a9 2 (aX K c) (aD (aE ixE (aI 0) (mC (.int 1))) (aD (aE ixE (aI 0) (mC (.int 2))) aW)) [some (.p (kdD (.box a b)))] = .ok (.f (.list ((sqP a b).map slD))) := aBy (r := .o (.list ((sqP a b).map slD))) (cV (aG rfl rfl v1) (cV (aG rfl rfl v2) rfl)) rfl rfl sq
  exact aAc e
 | str p q =>
  refine (aJ (dS t0)).trans ((aJ (dS t1)).trans (bV ((iR t2).trans (aAc (d := .list ((stP p q).map slD)) ?_))))
  have tp : aM cF (aD (aE ixE (aI 0) (mC (.int 1))) (aD (aE ixE (aI 0) (mC (.int 2))) aW)) [some (.p (kdD (.str p q)))] = .ok (.p (slD (p, q))) := aEw (aG rfl rfl v1) (aG rfl rfl v2)
  have tz : aM cF (aD (mC (.int 0)) (aD (mC (.int 0)) aW)) [some (.p (kdD (.str p q)))] = .ok (.p (slD (0, 0))) := aEw rfl rfl
  have tn : aW [some (.p (kdD (.str p q)))] = .ok [] := rfl
  exact qR (cV tp (cV tz (cV tp tn))) rfl
 | one => exact (aJ (dS t0)).trans ((aJ (dS t1)).trans ((aJ (dS t2)).trans rfl))
def ab (i : Int) : Int := if i < 0 then -i else i
def rch : Kd -> Int -> Int -> Int
 | .str p2 q2, p, q => ab (p * q2 - q * p2)
 | .box a b, p, q => ab p * b + ab q * a
 | .tri d, p, q => L2.sC 0 [p * d, -q * d] - L2.sG 0 [p * d, -q * d]
 | .one, _, _ => 0
theorem vZ (a : Int) : mx0 a + mx0 (-a) = ab a := by
 unfold mx0 ab
 split <;> split <;> split <;> omega
theorem aFg {n : Int} (h : 0 <= n) (a : Int) : ab (n * a) = n * ab a := by
 unfold ab
 by_cases z : a < 0
 ·rw [if_pos z]
  by_cases w : n = 0
  ·rw [w]; simp
  ·rw [if_pos (Int.mul_neg_of_pos_of_neg (by omega) z), Int.mul_neg]
 ·rw [if_neg z, if_neg (by have := Int.mul_nonneg h (show 0 <= a by omega); omega)]
theorem aDt (f : Q2) : mx [(0, 0), (0, 0)] f = 0 := sE ⟨_, .head _, by unfold cr; simp⟩ fun s hs => by
 simp only [List.mem_cons, List.not_mem_nil, or_false] at hs
 rcases hs with h | h <;> rw [h] <;> unfold cr <;> simp
theorem uP {d : Int} (h : 0 <= d) (a b : Int) : d * mx0 (mx2 a b) = mx0 (mx2 (d * a) (d * b)) := by
 rcases Int.lt_or_eq_of_le h with z | z
 ·unfold mx0 mx2
  by_cases w : a < b
  ·rw [if_pos w, if_pos (Int.mul_lt_mul_of_pos_left w z)]
   by_cases v : 0 < b
   ·rw [if_pos v, if_pos (Int.mul_pos z v)]
   ·rw [if_neg v, if_neg (by have := Int.mul_nonneg h (show 0 <= -b by omega); rw [Int.mul_neg] at this; omega), Int.mul_zero]
  ·have w2 : ¬ d * a < d * b := by
    have := Int.mul_le_mul_of_nonneg_left (show b <= a by omega) h
    omega
   rw [if_neg w, if_neg w2]
   by_cases v : 0 < a
   ·rw [if_pos v, if_pos (Int.mul_pos z v)]
   ·rw [if_neg v, if_neg (by have := Int.mul_nonneg h (show 0 <= -a by omega); rw [Int.mul_neg] at this; omega), Int.mul_zero]
 ·rw [<- z]
  simp [mx0, mx2]
theorem aD0 (x y : Int) : mx0 (mx2 y (-x)) + mx0 (mx2 (-y) x) = L2.sC 0 [x, -y] - L2.sG 0 [x, -y] := by
 unfold L2.sC L2.sG
 simp only [List.foldl_cons, List.foldl_nil]
 unfold mx0 mx2
 grind
theorem kZ {k : Kd} (p q : Int) : MV (kdP k) (stP p q) = rch k p q := by
 rw [aGs (g8 k)]
 cases k with
 | tri d =>
  show mx (trP d) (p, q) + mx (trP d) (-p, -q) = _
  rw [rS, rS, uP (by omega), uP (by omega)]
  dsimp only
  show _ = L2.sC 0 [p * (d : Int), -q * (d : Int)] - L2.sG 0 [p * (d : Int), -q * (d : Int)]
  rw [Int.neg_mul, <- aD0 (p * d) (q * d), Int.mul_neg, Int.mul_neg, Int.mul_neg, Int.mul_neg, Int.neg_neg, Int.mul_comm (d : Int) q, Int.mul_comm (d : Int) p]
 | box a b =>
  show mx (sqP a b) (p, q) + mx (sqP a b) (-p, -q) = _
  rw [aC1, aC1]
  dsimp only
  have h1 := vZ ((a : Int) * q)
  have h2 := vZ ((b : Int) * p)
  rw [aFg (by omega)] at h1 h2
  show _ = ab p * (b : Int) + ab q * (a : Int)
  rw [Int.mul_neg, Int.mul_neg, Int.neg_neg]
  grind
 | str p2 q2 =>
  show mx (stP p2 q2) (p, q) + mx (stP p2 q2) (-p, -q) = _
  rw [pZ, pZ]
  dsimp only
  have h := vZ (p * q2 - q * p2)
  show _ = ab (p * q2 - q * p2)
  have f1 : p2 * q - q2 * p = -(p * q2 - q * p2) := by grind
  have f2 : p2 * -q - q2 * -p = p * q2 - q * p2 := by grind
  rw [<- h, f1, f2, Int.add_comm]
 | one =>
  show mx [(0, 0), (0, 0)] (p, q) + mx [(0, 0), (0, 0)] (-p, -q) = _
  rw [aDt, aDt]
  rfl
def due : Kd -> Kd -> Int
 | .str p q, k => rch k p q
 | k, .str p q => rch k p q
 | .one, _ => 0
 | _, .one => 0
 | .tri d, .tri e => d * e
 | .tri d, .box a b => d * (a + b)
 | .box a b, .tri d => d * (a + b)
 | .box a b, .box a' b' => a * b' + b * a'
theorem aDx (p q : Int) (k : Kd) : MV (stP p q) (kdP k) = rch k p q := by rw [kJ (rV p q) (g8 k), kZ]
theorem oQ (a b : Nat) (k : Kd) : MV (sqP a b) (kdP k) = rch k a 0 + rch k 0 b := by rw [aH9 a b (g8 k), kZ, kZ]
theorem aA9 (n : Nat) : ab (n : Int) = n := by unfold ab; split <;> omega
theorem wH (d a b : Nat) : rch (.tri d) a 0 + rch (.tri d) 0 b = (d : Int) * ((a : Int) + (b : Int)) := by
 have h1 := Int.mul_nonneg (show (0 : Int) <= (a : Int) by omega) (show (0 : Int) <= (d : Int) by omega)
 have h2 := Int.mul_nonneg (show (0 : Int) <= (b : Int) by omega) (show (0 : Int) <= (d : Int) by omega)
 show (L2.sC 0 [(a : Int) * (d : Int), -0 * (d : Int)] - L2.sG 0 [(a : Int) * (d : Int), -0 * (d : Int)]) + (L2.sC 0 [0 * (d : Int), -(b : Int) * (d : Int)] - L2.sG 0 [0 * (d : Int), -(b : Int) * (d : Int)]) = _
 unfold L2.sC L2.sG
 simp only [List.foldl_cons, List.foldl_nil, Int.neg_zero, Int.zero_mul, Int.neg_mul]
 rw [Int.mul_add, Int.mul_comm (d : Int), Int.mul_comm (d : Int)]
 generalize (a : Int) * (d : Int) = x at *
 generalize (b : Int) * (d : Int) = y at *
 split <;> split <;> split <;> split <;> omega
theorem aD4 (a b a' b' : Nat) : rch (.box a' b') a 0 + rch (.box a' b') 0 b = (a : Int) * (b' : Int) + (b : Int) * (a' : Int) := by
 show (ab (a : Int) * (b' : Int) + ab 0 * (a' : Int)) + (ab 0 * (b' : Int) + ab (b : Int) * (a' : Int)) = _
 rw [aA9, aA9]
 have : ab 0 = 0 := rfl
 rw [this]
 omega
theorem aA5 {k l : Kd} (hk : oN k) (hl : oN l) : MV (kdP k) (kdP l) = due k l := by
 have z : ∀ k : Kd, MV [(0, 0), (0, 0)] (kdP k) = 0 := fun k => aKl (g8 k) (List.cons_ne_nil _ _) aDt
 have z2 : ∀ k : Kd, MV (kdP k) [(0, 0), (0, 0)] = 0 := fun k => by rw [kJ (g8 k) (List.cons_ne_nil _ _), z]
 cases k with
 | str p q => exact aDx p q l
 | tri d =>
  cases l with
  | str p q => exact kZ (k := .tri d) p q
  | one => exact z2 (.tri d)
  | tri e => exact aI9 hl.1
  | box a b =>
   show MV (trP d) (sqP a b) = _
   rw [kJ (pS d) (aDd a b)]
   exact (oQ a b (.tri d)).trans (wH d a b)
 | box a b =>
  cases l with
  | str p q => exact kZ (k := .box a b) p q
  | one => exact z2 (.box a b)
  | tri d => exact (oQ a b (.tri d)).trans (wH d a b)
  | box a' b' => exact (oQ a b (.box a' b')).trans (aD4 a b a' b')
 | one =>
  cases l with
  | str p q => exact kZ (k := .one) p q
  | one => exact z .one
  | tri e => exact z (.tri e)
  | box a b => exact z (.box a b)
theorem aE8 {f g : En -> Res Bool} {en : En} {o : Res Bool} (h1 : f en = .ok true) (h2 : g en = o) : sW f g en = o := by
 simp only [sW, h1, Res.bind, h2]
 rfl
theorem aHo {f g : En -> Res Bool} {en : En} (h1 : f en = .ok false) : sW f g en = .ok false := by
 simp only [sW, h1, Res.bind]
 rfl
theorem m70 {a b : Int} (h1 : Sz 200 a) (h2 : Sz 200 b) : CMulW a b := ⟨h1.mono (by decide), h2.mono (by decide)⟩
theorem aGj {n : Nat} {a : Int} (h : Sz n a) : Sz n (ab a) := by
 unfold ab
 split
 ·exact L2.Sz.neg h
 ·exact h
noncomputable def dN (K : PySem.W.Frag) (c : Cls) : MS := (b8 (fR (cH (aE (eqE false) (aE ixE (aI 0) (mC (.int 0))) (mC (.str "stretch")))) (dI (aM aBv (aD (aE lB (aE iS (aI 1) (aE ixE (aI 0) (mC (.int 2)))) (aE iS (aI 2) (aE ixE (aI 0) (mC (.int 1))))) aW))) cU) (b8 (fR (cH (aE (eqE false) (aE ixE (aI 0) (mC (.int 0))) (mC (.str "rectangle")))) (dI (aE eD (aE iS (aM aBv (aD (aI 1) aW)) (aE ixE (aI 0) (mC (.int 2)))) (aE iS (aM aBv (aD (aI 2) aW)) (aE ixE (aI 0) (mC (.int 1)))))) cU) (b8 (fR (cH (aE (eqE false) (aE ixE (aI 0) (mC (.int 0))) (mC (.str "triangle")))) (b8 (eE 3 (aM gC (aD (mC (.int 0)) (aD (aE iS (aI 1) (aE ixE (aI 0) (mC (.int 1)))) (aD (aE iS (mUn lM (aI 2)) (aE ixE (aI 0) (mC (.int 1)))) aW))))) (dI (aE lB (aM aEr (aD (aI 3) aW)) (aM aEo (aD (aI 3) aW))))) cU) (dI (mC (.int 0))))))
noncomputable def bH (K : PySem.W.Frag) (c : Cls) (ls : List L) : Res L := fM 4 (dN K c) ls
theorem lV (K : PySem.W.Frag) (c : Cls) : ∀ ls, bH K c ls = .bad \/ fM 4 (dN K c) ls = bH K c ls := fun _ => .inr rfl
theorem iQ (K : PySem.W.Frag) (c : Cls) {k : Kd} (hk : oN k) {p q : Int} (hp : Sz 70 p) (hq : Sz 70 q) : bH K c [.p (kdD k), .p (.int p), .p (.int q)] = .ok (.p (.int (rch k p q))) := by
 have t0 : cH (aE (eqE false) (aE ixE (aI 0) (mC (.int 0))) (mC (.str "triangle"))) [some (.p (kdD k)), some (.p (.int p)), some (.p (.int q)), none] = .ok (k.t == 0) := fD (aG (aG rfl rfl (kx0 k)) rfl (kq0 k))
 have t1 : cH (aE (eqE false) (aE ixE (aI 0) (mC (.int 0))) (mC (.str "rectangle"))) [some (.p (kdD k)), some (.p (.int p)), some (.p (.int q)), none] = .ok (k.t == 1) := fD (aG (aG rfl rfl (kx0 k)) rfl (kq1 k))
 have t2 : cH (aE (eqE false) (aE ixE (aI 0) (mC (.int 0))) (mC (.str "stretch"))) [some (.p (kdD k)), some (.p (.int p)), some (.p (.int q)), none] = .ok (k.t == 2) := fD (aG (aG rfl rfl (kx0 k)) rfl (kq2 k))
 have v1 := kx1 k
 have v2 := kx2 k
 obtain ⟨s1, s2⟩ := aBw hk
 have p2 := hp.mono (show 70 <= 200 by decide)
 have q2 := hq.mono (show 70 <= 200 by decide)
 have x2 := s1.mono (show 70 <= 200 by decide)
 have y2 := s2.mono (show 70 <= 200 by decide)
 unfold bH
 refine dO ?_
 rw [show bZ 4 [.p (kdD k), .p (.int p), .p (.int q)] = [some (.p (kdD k)), some (.p (.int p)), some (.p (.int q)), none] from rfl]
 unfold dN
 cases k with
 | str a b => exact bV ((iR t2).trans (eM (o8 (aG (aG rfl (aG rfl rfl v2) (cZ (m70 p2 y2))) (aG rfl (aG rfl rfl v1) (cZ (m70 q2 x2))) (iC _ _)) rfl)))
 | box a b => exact (aJ (dS t2)).trans (bV ((iR t1).trans (eM (aG (aG (o8 rfl (o := .ok (.p (.int (ab p)))) rfl) (aG rfl rfl v2) (cZ (m70 (aGj p2) y2))) (aG (o8 rfl (o := .ok (.p (.int (ab q)))) rfl) (aG rfl rfl v1) (cZ (m70 (aGj q2) x2))) (cI _ _)))))
 | tri d =>
  have ng : (mUn lM (aI 2)) [some (.p (kdD (.tri d))), some (.p (.int p)), some (.p (.int q)), none] = .ok (.p (.int (-q))) := rfl
  have ls : (aM gC (aD (mC (.int 0)) (aD (aE iS (aI 1) (aE ixE (aI 0) (mC (.int 1)))) (aD (aE iS (mUn lM (aI 2)) (aE ixE (aI 0) (mC (.int 1)))) aW)))) [some (.p (kdD (.tri d))), some (.p (.int p)), some (.p (.int q)), none] = .ok (.f (.list [.int 0, .int (p * (d : Int)), .int (-q * (d : Int))])) := qR (cV (x := .p (.int 0)) rfl (cV (aG rfl (aG rfl rfl v1) (cZ (m70 p2 x2))) (cV (aG ng (aG rfl rfl v1) (cZ (m70 (L2.Sz.neg q2) x2))) (xs := []) rfl))) rfl
  have mxe : aEr [.b (.list [.int 0, .int (p * (d : Int)), .int (-q * (d : Int))])] = .ok (.p (.int (L2.sC 0 [p * (d : Int), -q * (d : Int)]))) := rfl
  have mne : aEo [.b (.list [.int 0, .int (p * (d : Int)), .int (-q * (d : Int))])] = .ok (.p (.int (L2.sG 0 [p * (d : Int), -q * (d : Int)]))) := rfl
  refine (aJ (dS t2)).trans ((aJ (dS t1)).trans (bV ((iR t0).trans ((aJ (fP ls)).trans (eM ?_)))))
  exact aG (qR (cV rfl rfl) mxe) (qR (cV rfl rfl) mne) (iC _ _)
 | one => exact (aJ (dS t2)).trans ((aJ (dS t1)).trans ((aJ (dS t0)).trans rfl))
noncomputable def dC (K : PySem.W.Frag) (c : Cls) : MS := (b8 (fR (cH (aE (eqE false) (aE ixE (aI 0) (mC (.int 0))) (mC (.str "stretch")))) (dI (a9 3 (bH K c) (aD (aI 1) (aD (aE ixE (aI 0) (mC (.int 1))) (aD (aE ixE (aI 0) (mC (.int 2))) aW))))) cU) (b8 (fR (cH (aE (eqE false) (aE ixE (aI 1) (mC (.int 0))) (mC (.str "stretch")))) (dI (a9 3 (bH K c) (aD (aI 0) (aD (aE ixE (aI 1) (mC (.int 1))) (aD (aE ixE (aI 1) (mC (.int 2))) aW))))) cU) (b8 (fR (mOr (cH (aE (eqE false) (aE ixE (aI 0) (mC (.int 0))) (mC (.str "one")))) (cH (aE (eqE false) (aE ixE (aI 1) (mC (.int 0))) (mC (.str "one"))))) (dI (mC (.int 0))) cU) (b8 (fR (sW (cH (aE (eqE false) (aE ixE (aI 0) (mC (.int 0))) (mC (.str "triangle")))) (cH (aE (eqE false) (aE ixE (aI 1) (mC (.int 0))) (mC (.str "triangle"))))) (dI (aE iS (aE ixE (aI 0) (mC (.int 1))) (aE ixE (aI 1) (mC (.int 1))))) cU) (b8 (fR (cH (aE (eqE false) (aE ixE (aI 0) (mC (.int 0))) (mC (.str "triangle")))) (dI (aE iS (aE ixE (aI 0) (mC (.int 1))) (aE eD (aE ixE (aI 1) (mC (.int 1))) (aE ixE (aI 1) (mC (.int 2)))))) cU) (b8 (fR (cH (aE (eqE false) (aE ixE (aI 1) (mC (.int 0))) (mC (.str "triangle")))) (dI (aE iS (aE ixE (aI 1) (mC (.int 1))) (aE eD (aE ixE (aI 0) (mC (.int 1))) (aE ixE (aI 0) (mC (.int 2)))))) cU) (dI (aE eD (aE iS (aE ixE (aI 0) (mC (.int 1))) (aE ixE (aI 1) (mC (.int 2)))) (aE iS (aE ixE (aI 0) (mC (.int 2))) (aE ixE (aI 1) (mC (.int 1))))))))))))
noncomputable def bG (K : PySem.W.Frag) (c : Cls) (ls : List L) : Res L := fM 2 (dC K c) ls
theorem j7 (K : PySem.W.Frag) (c : Cls) : ∀ ls, bG K c ls = .bad \/ fM 2 (dC K c) ls = bG K c ls := fun _ => .inr rfl
theorem yC (K : PySem.W.Frag) (c : Cls) {k l : Kd} (hk : oN k) (hl : oN l) : bG K c [.p (kdD k), .p (kdD l)] = .ok (.p (.int (due k l))) := by
 have a0 : cH (aE (eqE false) (aE ixE (aI 0) (mC (.int 0))) (mC (.str "triangle"))) [some (.p (kdD k)), some (.p (kdD l))] = .ok (k.t == 0) := fD (aG (aG rfl rfl (kx0 k)) rfl (kq0 k))
 have a2 : cH (aE (eqE false) (aE ixE (aI 0) (mC (.int 0))) (mC (.str "stretch"))) [some (.p (kdD k)), some (.p (kdD l))] = .ok (k.t == 2) := fD (aG (aG rfl rfl (kx0 k)) rfl (kq2 k))
 have a3 : cH (aE (eqE false) (aE ixE (aI 0) (mC (.int 0))) (mC (.str "one"))) [some (.p (kdD k)), some (.p (kdD l))] = .ok (k.t == 3) := fD (aG (aG rfl rfl (kx0 k)) rfl (kq3 k))
 have b0 : cH (aE (eqE false) (aE ixE (aI 1) (mC (.int 0))) (mC (.str "triangle"))) [some (.p (kdD k)), some (.p (kdD l))] = .ok (l.t == 0) := fD (aG (aG rfl rfl (kx0 l)) rfl (kq0 l))
 have b2 : cH (aE (eqE false) (aE ixE (aI 1) (mC (.int 0))) (mC (.str "stretch"))) [some (.p (kdD k)), some (.p (kdD l))] = .ok (l.t == 2) := fD (aG (aG rfl rfl (kx0 l)) rfl (kq2 l))
 have b3 : cH (aE (eqE false) (aE ixE (aI 1) (mC (.int 0))) (mC (.str "one"))) [some (.p (kdD k)), some (.p (kdD l))] = .ok (l.t == 3) := fD (aG (aG rfl rfl (kx0 l)) rfl (kq3 l))
 have v1 := kx1 k
 have v2 := kx2 k
 have u1 := kx1 l
 have u2 := kx2 l
 obtain ⟨s1, s2⟩ := aBw hk
 obtain ⟨r1, r2⟩ := aBw hl
 have x1 := s1.mono (show 70 <= 200 by decide)
 have x2 := s2.mono (show 70 <= 200 by decide)
 have y1 := r1.mono (show 70 <= 200 by decide)
 have y2 := r2.mono (show 70 <= 200 by decide)
 have ss : ∀ {a b : Int}, Sz 70 a -> Sz 70 b -> Sz 200 (a + b) := fun h1 h2 => (N.Sz.addM h1 h2).mono (by decide)
 unfold bG
 refine dO ?_
 rw [show bZ 2 [.p (kdD k), .p (kdD l)] = [some (.p (kdD k)), some (.p (kdD l))] from rfl]
 unfold dC
 cases k with
 | str p q =>
  have rk := iQ K c hl hk.1 hk.2
  exact bV ((iR a2).trans (eM (nS rfl (aG rfl rfl v1) (aG rfl rfl v2) rk)))
 | tri d =>
  refine (aJ (dS a2)).trans ?_
  cases l with
  | str p q => exact bV ((iR b2).trans (eM (nS rfl (aG rfl rfl u1) (aG rfl rfl u2) (iQ K c hk hl.1 hl.2))))
  | one => exact (aJ (dS b2)).trans (bV ((iR (aJ4 a3 b3)).trans rfl))
  | tri e => exact (aJ (dS b2)).trans ((aJ (dS (aGa a3 b3))).trans (bV ((iR (aE8 a0 b0)).trans (eM (aG (aG rfl rfl v1) (aG rfl rfl u1) (cZ (m70 x1 y1)))))))
  | box a b => exact (aJ (dS b2)).trans ((aJ (dS (aGa a3 b3))).trans ((aJ (dS (aE8 a0 b0))).trans (bV ((iR a0).trans (eM (aG (aG rfl rfl v1) (aG (aG rfl rfl u1) (aG rfl rfl u2) (cI _ _)) (cZ (m70 x1 (ss r1 r2)))))))))
 | box a b =>
  refine (aJ (dS a2)).trans ?_
  cases l with
  | str p q => exact bV ((iR b2).trans (eM (nS rfl (aG rfl rfl u1) (aG rfl rfl u2) (iQ K c hk hl.1 hl.2))))
  | one => exact (aJ (dS b2)).trans (bV ((iR (aJ4 a3 b3)).trans rfl))
  | tri e => exact (aJ (dS b2)).trans ((aJ (dS (aGa a3 b3))).trans ((aJ (dS (aHo a0))).trans ((aJ (dS a0)).trans (bV ((iR b0).trans (eM (aG (aG rfl rfl u1) (aG (aG rfl rfl v1) (aG rfl rfl v2) (cI _ _)) (cZ (m70 y1 (ss s1 s2))))))))))
  | box a' b' =>
   refine (aJ (dS b2)).trans ((aJ (dS (aGa a3 b3))).trans ((aJ (dS (aHo a0))).trans ((aJ (dS a0)).trans ((aJ (dS b0)).trans ?_))))
   exact eM (aG (aG (aG rfl rfl v1) (aG rfl rfl u2) (cZ (m70 x1 y2))) (aG (aG rfl rfl v2) (aG rfl rfl u1) (cZ (m70 x2 y1))) (cI _ _))
 | one =>
  refine (aJ (dS a2)).trans ?_
  cases l with
  | str p q => exact bV ((iR b2).trans (eM (nS rfl (aG rfl rfl u1) (aG rfl rfl u2) (iQ K c hk hl.1 hl.2))))
  | one => exact (aJ (dS b2)).trans (bV ((iR (aIu a3)).trans rfl))
  | tri e => exact (aJ (dS b2)).trans (bV ((iR (aIu a3)).trans rfl))
  | box a b => exact (aJ (dS b2)).trans (bV ((iR (aIu a3)).trans rfl))
def ptM (t : Bool) (b x y : Int) (p : Q2) : Q2 := if t then swp (shr b x y p) else shr b x y p
noncomputable def eK (K : PySem.W.Frag) (c : Cls) : En -> Res Ev := (aM cF (aD (aE ixE (aI 0) (mC (.int 1))) (aD (aE ixE (aI 0) (mC (.int 0))) aW)))
noncomputable def eG (K : PySem.W.Frag) (c : Cls) : En -> Res Ev := (aM cF (aD (aE eD (aE eD (aE ixE (aI 0) (mC (.int 0))) (aE iS (aI 1) (aE ixE (aI 0) (mC (.int 1))))) (aI 2)) (aD (aE eD (aE ixE (aI 0) (mC (.int 1))) (aI 3)) aW)))
noncomputable def fL (K : PySem.W.Frag) (c : Cls) : MS := (b8 (eE 5 (gN 1 [1, 2, 3] (o4 (aI 0)) (bE 0) oK (eG K c))) (b8 (fR (cH (aI 4)) (fun en => (eE 5 (gN 1 [] (o4 (aI 5)) (bE 0) oK (eK K c))) (frz 5 en)) cU) (dI (aI 5))))
noncomputable def bW (K : PySem.W.Frag) (c : Cls) (ls : List L) : Res L := fM 6 (fL K c) ls
theorem oT (K : PySem.W.Frag) (c : Cls) : ∀ ls, bW K c ls = .bad \/ fM 6 (fL K c) ls = bW K c ls := fun _ => .inr rfl
theorem aGy (K : PySem.W.Frag) (c : Cls) (t : Bool) {b x y : Int} (hb : Sz 200 b) {ps : List Q2} (hl : ps.length <= 1000) (hg : ∀ p ∈ ps, Sz 200 p.2) : bW K c [.p (.list (ps.map slD)), .p (.int b), .p (.int x), .p (.int y), .p (.bool t)] = .ok (.o (.list ((ps.map (ptM t b x y)).map slD))) := by
 unfold bW
 refine dO ?_
 rw [show bZ 6 [.p (.list (ps.map slD)), .p (.int b), .p (.int x), .p (.int y), .p (.bool t)] = [some (.p (.list (ps.map slD))), some (.p (.int b)), some (.p (.int x)), some (.p (.int y)), some (.p (.bool t)), none] from rfl]
 unfold fL
 have c1 : gN 1 [1, 2, 3] (o4 (aI 0)) (bE 0) oK (eG K c) [some (.p (.list (ps.map slD))), some (.p (.int b)), some (.p (.int x)), some (.p (.int y)), some (.p (.bool t)), none] = .ok (.f (.list ((ps.map (shr b x y)).map slD))) := by
  rw [List.map_map]
  refine kP (ds := ps.map slD) rfl (by rw [List.length_map]; omega) (gO _ fun p hp => ?_)
  have he : eG K c [some (.p (slD p)), some (.p (.int b)), some (.p (.int x)), some (.p (.int y))] = .ok (.p (slD (shr b x y p))) := aEw (aG (aG (aG rfl rfl (aH2 p)) (aG rfl (aG rfl rfl (aF0 p)) (cZ (m70 hb (hg p hp)))) (cI _ _)) rfl (cI _ _)) (aG (aG rfl rfl (aF0 p)) rfl (cI _ _))
  unfold bX
  ktr_call 3 ⟨bE, oK, zJ, aEt, List.replicate, List.cons_append, List.nil_append, he, Ev.c⟩
  try rfl
 refine (aJ (fP c1)).trans ?_
 have tt : cH (aI 4) [some (.p (.list (ps.map slD))), some (.p (.int b)), some (.p (.int x)), some (.p (.int y)), some (.p (.bool t)), some (.o (.list ((ps.map (shr b x y)).map slD)))] = .ok t := fD rfl
 cases t with
 | false =>
  have e : ps.map (ptM false b x y) = ps.map (shr b x y) := rfl
  rw [e]
  exact (aJ ((dS tt).trans rfl)).trans rfl
 | true =>
  have e : ps.map (ptM true b x y) = (ps.map (shr b x y)).map swp := by rw [List.map_map]; rfl
  rw [e]
  have ql : (ps.map (shr b x y)).length <= 1000 := by rw [List.length_map]; exact hl
  generalize ps.map (shr b x y) = qs at *
  have c2 : gN 1 [] (o4 (aI 5)) (bE 0) oK (eK K c) [some (.p (.list (ps.map slD))), some (.p (.int b)), some (.p (.int x)), some (.p (.int y)), some (.p (.bool true)), some (.p (.list (qs.map slD)))] = .ok (.f (.list ((qs.map swp).map slD))) := by
   rw [List.map_map]
   refine kP (ds := qs.map slD) rfl (by rw [List.length_map]; omega) (gO _ fun p hp => ?_)
   have he : eK K c [some (.p (slD p))] = .ok (.p (slD (swp p))) := aEw (aG rfl rfl (aF0 p)) (aG rfl rfl (aH2 p))
   unfold bX
   ktr_call 3 ⟨bE, oK, zJ, List.replicate, List.append_nil, he, Ev.c⟩
   try rfl
  exact (aJ ((iR tt).trans (jV (i := 5) (e1 := [some (.p (.list (ps.map slD))), some (.p (.int b)), some (.p (.int x)), some (.p (.int y)), some (.p (.bool true)), some (.p (.list (qs.map slD)))]) rfl (fP c2)))).trans rfl
theorem aA7 (t : Bool) {A C : List Q2} (hA : A ≠ []) (hC : C ≠ []) (b x1 y1 x2 y2 : Int) : MV (A.map (ptM t b x1 y1)) (C.map (ptM t b x2 y2)) = MV A C := by
 cases t with
 | false => exact aA3 hA hC b x1 y1 x2 y2
 | true =>
  have e : ∀ (X : List Q2) (x y : Int), X.map (ptM true b x y) = (X.map (shr b x y)).map swp := fun X x y => by rw [List.map_map]; rfl
  rw [e, e, aFo (iF hA) (iF hC), aA3 hA hC]
def Mid (P V : List Q2) : Prop := ∀ p ∈ P, p ∈ V \/ ∃ e : Q2, e ≠ (0, 0) /\ N.ad p e ∈ P /\ sb p e ∈ P
theorem zX {R P : List Q2} {x : Q2} (ok : RingOk R P x) {r e : Q2} (hr : r ∈ R) (he : e ≠ (0, 0)) (h1 : N.ad r e ∈ P) (h2 : sb r e ∈ P) : False := by
 have h3 := ok.len
 obtain ⟨k, hk, z⟩ := uI hr
 have cv := ok.conv k hk
 have l1 := ok.left2 hk
 have l2 := ok.left k hk
 rw [z] at cv l1 l2
 generalize pr R k 2 = s at cv l1
 generalize R.getD k (0, 0) = t at cv l2
 have a1 := l1 _ h1
 have a2 := l1 _ h2
 have b1 := l2 _ h1
 have b2 := l2 _ h2
 have f1 : aA s r (N.ad r e) = cr (sb r s) e := by unfold aA N.ad sb cr; grind
 have f2 : aA s r (sb r e) = - cr (sb r s) e := by unfold aA sb cr; grind
 have f3 : aA r t (N.ad r e) = cr (sb t r) e := by unfold aA N.ad sb cr; grind
 have f4 : aA r t (sb r e) = - cr (sb t r) e := by unfold aA sb cr; grind
 have c1 : cr (sb r s) e = 0 := by omega
 have c2 : cr (sb t r) e = 0 := by omega
 have pe := fG he
 have i : aA s r t * dt e e = cr (sb r s) e * dt e (sb t r) - cr (sb t r) e * dt e (sb r s) := by unfold aA dt cr sb; grind
 rw [c1, c2] at i
 simp only [Int.zero_mul, Int.sub_self] at i
 rcases Int.mul_eq_zero.mp i with z | z <;> omega
theorem aB7 {P V : List Q2} (h0 : P ≠ []) (h : Mid P V) : (hlP P).length <= max 2 V.length := by
 rcases sL h0 with ⟨f, _⟩ | ⟨_, x, ok⟩
 ·have := (jI (gU P) (fun _ => rows_mem) (g5 h0) f).1
  have : (hlP P).length <= 2 := this
  omega
 ·have : (hlP P).length <= V.length := N.jY ok.nd fun r hr => by
   rcases h r (ok.sub r hr) with z | ⟨e, e0, e1, e2⟩
   ·exact z
   ·exact (zX ok hr e0 e1 e2).elim
  omega
theorem aCi {P V : List Q2} (t : Bool) (b x y : Int) (h : Mid P V) : Mid (P.map (ptM t b x y)) (V.map (ptM t b x y)) := fun p hp => by
 obtain ⟨q, hq, rfl⟩ := List.mem_map.mp hp
 rcases h q hq with z | ⟨e, e0, e1, e2⟩
 ·exact .inl (List.mem_map.mpr ⟨q, z, rfl⟩)
 ·right
  have ne : (e.1 + b * e.2, e.2) ≠ ((0, 0) : Q2) := fun z => e0 (by
   injection z with z1 z2
   rw [z2] at z1
   exact Prod.ext (by omega) z2)
  cases t with
  | false =>
   refine ⟨(e.1 + b * e.2, e.2), ne, List.mem_map.mpr ⟨_, e1, ?_⟩, List.mem_map.mpr ⟨_, e2, ?_⟩⟩
   ·show shr b x y (N.ad q e) = N.ad (shr b x y q) _
    unfold shr N.ad
    refine Prod.ext ?_ ?_ <;> dsimp only <;> grind
   ·show shr b x y (sb q e) = sb (shr b x y q) _
    unfold shr sb
    refine Prod.ext ?_ ?_ <;> dsimp only <;> grind
  | true =>
   refine ⟨(e.2, e.1 + b * e.2), fun z => ne (by injection z with z1 z2; exact Prod.ext z2 z1), List.mem_map.mpr ⟨_, e1, ?_⟩, List.mem_map.mpr ⟨_, e2, ?_⟩⟩
   ·show swp (shr b x y (N.ad q e)) = N.ad (swp (shr b x y q)) _
    unfold swp shr N.ad
    refine Prod.ext ?_ ?_ <;> dsimp only <;> grind
   ·show swp (shr b x y (sb q e)) = sb (swp (shr b x y q)) _
    unfold swp shr sb
    refine Prod.ext ?_ ?_ <;> dsimp only <;> grind
theorem aHy (k : Kd) : ∃ V : List Q2, V.length <= 4 /\ Mid (kdP k) V := by
 cases k with
 | str p q => exact ⟨stP p q, Nat.le_succ 3, fun s hs => .inl hs⟩
 | one => exact ⟨[(0, 0), (0, 0)], by decide, fun s hs => .inl hs⟩
 | tri d =>
  refine ⟨[(0, 0), ((d : Int), 0), (0, (d : Int))], Nat.le_succ 3, fun s hs => ?_⟩
  obtain ⟨i, j, h, rfl⟩ := mem_tr.mp hs
  by_cases c0 : i + j < d
  ·by_cases c1 : 1 <= i
   ·refine .inr ⟨(1, 0), by decide, mem_tr.mpr ⟨i + 1, j, by omega, ?_⟩, mem_tr.mpr ⟨i - 1, j, by omega, ?_⟩⟩
    ·unfold N.ad; refine Prod.ext ?_ ?_ <;> dsimp only <;> omega
    ·unfold sb; refine Prod.ext ?_ ?_ <;> dsimp only <;> omega
   ·by_cases c2 : 1 <= j
    ·refine .inr ⟨(0, 1), by decide, mem_tr.mpr ⟨i, j + 1, by omega, ?_⟩, mem_tr.mpr ⟨i, j - 1, by omega, ?_⟩⟩
     ·unfold N.ad; refine Prod.ext ?_ ?_ <;> dsimp only <;> omega
     ·unfold sb; refine Prod.ext ?_ ?_ <;> dsimp only <;> omega
    ·have : ((i : Int), (j : Int)) = ((0, 0) : Q2) := Prod.ext (by show (i : Int) = 0; omega) (by show (j : Int) = 0; omega)
     rw [this]
     exact .inl (.head _)
  ·by_cases c1 : 1 <= i /\ 1 <= j
   ·refine .inr ⟨(1, -1), by decide, mem_tr.mpr ⟨i + 1, j - 1, by omega, ?_⟩, mem_tr.mpr ⟨i - 1, j + 1, by omega, ?_⟩⟩
    ·unfold N.ad; refine Prod.ext ?_ ?_ <;> dsimp only <;> omega
    ·unfold sb; refine Prod.ext ?_ ?_ <;> dsimp only <;> omega
   ·by_cases c2 : i = 0
    ·have : ((i : Int), (j : Int)) = ((0, (d : Int)) : Q2) := Prod.ext (by show (i : Int) = 0; omega) (by show (j : Int) = d; omega)
     rw [this]
     exact .inl (.tail _ (.tail _ (.head _)))
    ·have : ((i : Int), (j : Int)) = (((d : Int), 0) : Q2) := Prod.ext (by show (i : Int) = d; omega) (by show (j : Int) = 0; omega)
     rw [this]
     exact .inl (.tail _ (.head _))
 | box a b =>
  refine ⟨[(0, 0), ((a : Int), 0), (0, (b : Int)), ((a : Int), (b : Int))], Nat.le_refl 4, fun s hs => ?_⟩
  obtain ⟨i, j, hi, hj, rfl⟩ := mem_sq.mp hs
  by_cases c1 : 1 <= i /\ i < a
  ·refine .inr ⟨(1, 0), by decide, mem_sq.mpr ⟨i + 1, j, by omega, hj, ?_⟩, mem_sq.mpr ⟨i - 1, j, by omega, hj, ?_⟩⟩
   ·unfold N.ad; refine Prod.ext ?_ ?_ <;> dsimp only <;> omega
   ·unfold sb; refine Prod.ext ?_ ?_ <;> dsimp only <;> omega
  ·by_cases c2 : 1 <= j /\ j < b
   ·refine .inr ⟨(0, 1), by decide, mem_sq.mpr ⟨i, j + 1, hi, by omega, ?_⟩, mem_sq.mpr ⟨i, j - 1, hi, by omega, ?_⟩⟩
    ·unfold N.ad; refine Prod.ext ?_ ?_ <;> dsimp only <;> omega
    ·unfold sb; refine Prod.ext ?_ ?_ <;> dsimp only <;> omega
   ·left
    have k1 : i = 0 \/ i = a := by omega
    have k2 : j = 0 \/ j = b := by omega
    rcases k1 with rfl | rfl <;> rcases k2 with rfl | rfl
    ·exact .head _
    ·exact .tail _ (.tail _ (.head _))
    ·exact .tail _ (.head _)
    ·exact .tail _ (.tail _ (.tail _ (.head _)))
theorem aKh {op : Ev -> Res Ev} {f : En -> Res Ev} {en : En} {x : Ev} {o : Res Ev} (h : f en = .ok x) (h2 : op x.c = o) : mUn op f en = o := by
 simp only [mUn, h, Res.bind, h2]
theorem kd_len (k : Kd) (h : oN k) : (kdP k).length <= 25 := by
 have m : ∀ a b : Nat, a <= 4 -> b <= 4 -> (sqP a b).length <= 25 := fun a b h1 h2 => by
  rw [aAs]
  exact Nat.mul_le_mul (show a + 1 <= 5 by omega) (show b + 1 <= 5 by omega)
 cases k with
 | tri d => exact Nat.le_trans (List.length_filter_le _ _) (m d d h.2 h.2)
 | box a b => exact m a b h.1 h.2
 | str p q => exact (show 3 <= 25 by decide)
 | one => exact (show 2 <= 25 by decide)
theorem aJ6 {k : Kd} (h : oN k) : ∀ p ∈ kdP k, Sz 70 p.1 /\ Sz 70 p.2 := fun s hs => by
 have sm : ∀ i : Nat, i <= 4 -> Sz 70 (i : Int) := fun i hi => (show Sz 3 (i : Int) by unfold Sz; omega).mono (by decide)
 have s0 : Sz 70 (0 : Int) := sm 0 (by omega)
 cases k with
 | tri d =>
  obtain ⟨i, j, e, rfl⟩ := mem_tr.mp hs
  have := h.2
  exact ⟨sm i (by omega), sm j (by omega)⟩
 | box a b =>
  obtain ⟨i, j, e1, e2, rfl⟩ := mem_sq.mp hs
  have := h.1
  have := h.2
  exact ⟨sm i (by omega), sm j (by omega)⟩
 | str p q =>
  have hs : s ∈ [(p, q), (0, 0), (p, q)] := hs
  simp only [List.mem_cons, List.not_mem_nil, or_false] at hs
  rcases hs with e | e | e <;> rw [e]
  ·exact h
  ·exact ⟨s0, s0⟩
  ·exact h
 | one =>
  have hs : s ∈ [((0 : Int), (0 : Int)), (0, 0)] := hs
  simp only [List.mem_cons, List.not_mem_nil, or_false] at hs
  rcases hs with e | e <;> rw [e] <;> exact ⟨s0, s0⟩
structure Put (k : Kd) (t : Bool) (b : Int) (X : List Q2) : Prop where
 e : ∃ x y, X = (kdP k).map (ptM t b x y)
 l : X.length <= 25
 h : (hlP X).length <= 4
 g : ∀ p ∈ X, G4 p
theorem aE7 {k : Kd} (h : oN k) (t : Bool) {b x y : Int} (hb : Sz 70 b) (hx : Sz 70 x) (hy : Sz 70 y) : Put k t b ((kdP k).map (ptM t b x y)) := by
 refine ⟨⟨x, y, rfl⟩, by rw [List.length_map]; exact kd_len k h, ?_, fun p hp => ?_⟩
 ·obtain ⟨V, v1, v2⟩ := aHy k
  have := aB7 (iF (g8 k)) (aCi t b x y v2)
  rw [List.length_map] at this
  omega
 ·obtain ⟨q, hq, rfl⟩ := List.mem_map.mp hp
  obtain ⟨q1, q2⟩ := aJ6 h q hq
  have a1 : Sz 4000 (shr b x y q).1 := (N.Sz.addM (N.Sz.addM q1 (Sz.mul hb q2)) hx).mono (by decide)
  have a2 : Sz 4000 (shr b x y q).2 := (N.Sz.addM q2 hy).mono (by decide)
  cases t with
  | false => exact ⟨a1, a2⟩
  | true => exact ⟨a2, a1⟩
noncomputable def lS (K : PySem.W.Frag) (c : Cls) : MS := (b8 (eE 11 (a9 2 (fT K c) (aD (aE ixE (aI 10) (aI 3)) (aD (aE ixE (aI 10) (aE lB (mC (.int 1)) (aI 3))) aW)))) (fR (mOr (aCj (cH (a9 1 (bS K c) (aD (aI 11) aW)))) (cH (aE (eqE true) (aI 11) (aI 9)))) (dI (mC (.bool false))) cU))
noncomputable def qP (K : PySem.W.Frag) (c : Cls) : En -> Res Ev := (aM listE (aD (aI 0) aW))
noncomputable def k9 (K : PySem.W.Frag) (c : Cls) : MS := (b8 (eE 7 (a9 2 (bF K c) (aD (a9 2 (aT K c) (aD (aI 0) (aD (aE eD (mC (.int 5)) (aI 3)) aW))) (aD (aI 3) aW)))) (b8 (eE 8 (a9 5 (bW K c) (aD (a9 1 (aV K c) (aD (aE ixE (aI 2) (aI 3)) aW)) (aD (aI 5) (aD (aE fO (aI 7) (aI 1)) (aD (mUn lM (aE fO (aE iM (aI 7) (mC (.int 7))) (aI 1))) (aD (aE (eqE false) (aE fO (aI 5) (mC (.int 2))) (mC (.int 1))) aW))))))) (fun en => (eJ 6 (aI 8)) (frz 8 en))))
noncomputable def lN (K : PySem.W.Frag) (c : Cls) : MS := (b8 (eE 4 (a9 2 (bF K c) (aD (a9 2 (aT K c) (aD (aI 0) (aD (aE eD (aE iS (mC (.int 2)) (aI 3)) (mC (.int 1))) aW))) (aD (aE eD (aI 3) (mC (.int 2))) aW)))) (eJ 2 (a9 2 (bI K c) (aD (a9 2 (bF K c) (aD (a9 2 (aT K c) (aD (aI 0) (aD (aE iS (mC (.int 2)) (aI 3)) aW))) (aD (aI 3) aW))) (aD (aI 4) aW)))))
noncomputable def aAa (K : PySem.W.Frag) (c : Cls) : MS := (b8 (eE 1 (aE eD (aE iS (mC (.int 2)) (aE mR (mC (.int 10)) (mC (.int 18)))) (mC (.int 1)))) (b8 (eE 2 (aM gC aW)) (b8 (v7 (sA fX (aD (mC (.int 2)) aW)) (bE 3) (lN K c)) (b8 (eE 5 (aE lB (aE fO (a9 2 (bF K c) (aD (a9 2 (aT K c) (aD (aI 0) (aD (mC (.int 4)) aW))) (aD (mC (.int 4)) aW))) (aI 1)) (aE mR (mC (.int 10)) (mC (.int 18))))) (fun en => (b8 (eE 6 (aM gC aW)) (b8 (v7 (sA fX (aD (mC (.int 2)) aW)) (bE 3) (k9 K c)) (b8 (eE 9 (a9 2 (bG K c) (aD (aE ixE (aI 2) (mC (.int 0))) (aD (aE ixE (aI 2) (mC (.int 1))) aW)))) (fun en => (b8 (eE 10 (gN 1 [] (o4 (aI 6)) (bE 0) oK (qP K c))) (b8 (v7 (sA fX (aD (mC (.int 2)) aW)) (bE 3) (lS K c)) (dI (aE (eqE false) (aI 10) (aI 6))))) (frz 6 en))))) (frz 2 en))))))
noncomputable def sP (K : PySem.W.Frag) (c : Cls) (ls : List L) : Res L := fM 12 (aAa K c) ls
theorem aFq (K : PySem.W.Frag) (c : Cls) : ∀ ls, sP K c ls = .bad \/ fM 12 (aAa K c) ls = sP K c ls := fun _ => .inr rfl
theorem m2k (k : Nat) (h : k <= 1) : CMulW 2 (k : Int) := ⟨(show Sz 90 (2 : Int) by unfold Sz; decide).mono (by decide), (show Sz 90 (k : Int) by unfold Sz; omega).mono (by decide)⟩
theorem aFl (K : PySem.W.Frag) (c : Cls) (ns : List Int) (k : Nat) (hk : k <= 1) (acc : List D) (hl : acc.length <= 10) (t1 t4 t5 t6 t7 t8 t9 t10 t11 : Option L) : ∃ kd r, oN kd /\ lN K c [some (.p (.list (ns.map .int))), t1, some (.o (.list acc)), some (.p (.int (k : Int))), t4, t5, t6, t7, t8, t9, t10, t11] = some (.nx [some (.p (.list (ns.map .int))), t1, some (.o (.list (acc ++ [kdD kd]))), some (.p (.int (k : Int))), r, t5, t6, t7, t8, t9, t10, t11]) := by
 have c1 := mJ K c ns (2 * k + 1)
 have c0 := mJ K c ns (2 * k)
 rw [show ((2 * k + 1 : Nat) : Int) = 2 * (k : Int) + 1 by omega] at c1
 rw [show ((2 * k : Nat) : Int) = 2 * (k : Int) by omega] at c0
 obtain ⟨v1, h1⟩ := lX K c (ns.getD (2 * k + 1) 0) (k := (k : Int) + 2) (by omega) (by omega)
 obtain ⟨v0, h0⟩ := lX K c (ns.getD (2 * k) 0) (k := (k : Int)) (by omega) (by omega)
 obtain ⟨kd, ok, hkd⟩ := aCr K c v0 v1
 refine ⟨kd, some (.p (.int v1)), ok, ?_⟩
 unfold lN
 refine (aJ (iL (eZ (eZ rfl (aG (aG rfl rfl (cZ (m2k k hk))) rfl (cI _ _)) c1) (aG rfl rfl (cI _ _)) h1))).trans ?_
 exact aCf rfl (eZ (eZ (eZ rfl (aG rfl rfl (cZ (m2k k hk))) c0) rfl h0) rfl hkd) (by omega)
theorem aFt (K : PySem.W.Frag) (c : Cls) (ns : List Int) (k : Nat) (hk : k <= 1) {ks : List D} {kd : Kd} (ok : oN kd) (hix : ixE (.p (.list ks)) (.p (.int (k : Int))) = .ok (.p (kdD kd))) {b : Int} (hb : Sz 70 b) (acc : List D) (hl : acc.length <= 10) (t4 t7 t8 t9 t10 t11 : Option L) : ∃ X q7 q8, Put kd (b.fmod 2 == 1) b X /\ k9 K c [some (.p (.list (ns.map .int))), some (.p (.int 2000000000000000001)), some (.p (.list ks)), some (.p (.int (k : Int))), t4, some (.p (.int b)), some (.o (.list acc)), t7, t8, t9, t10, t11] = some (.nx [some (.p (.list (ns.map .int))), some (.p (.int 2000000000000000001)), some (.p (.list ks)), some (.p (.int (k : Int))), t4, some (.p (.int b)), some (.o (.list (acc ++ [.list (X.map slD)]))), q7, q8, t9, t10, t11]) := by
 have c1 := mJ K c ns (5 + k)
 rw [show ((5 + k : Nat) : Int) = 5 + (k : Int) by omega] at c1
 obtain ⟨v, hv⟩ := lX K c (ns.getD (5 + k) 0) (k := (k : Int)) (by omega) (by omega)
 have nb : (2000000000000000001 : Int) ≠ 0 := by decide
 have n2 : (2 : Int) ≠ 0 := by decide
 have d7 : mL v 7 := cdl (by decide) (by decide)
 have f1 := eH (a := v) (b := 2000000000000000001) (by decide)
 have f2 := eH (a := v.fdiv 7) (b := 2000000000000000001) (by decide)
 have hx : Sz 70 (v.fmod 2000000000000000001) := by unfold Sz; omega
 have hy : Sz 70 (-((v.fdiv 7).fmod 2000000000000000001)) := by unfold Sz; omega
 have kl := kd_len kd ok
 have tu := xO K c ok
 have pu := aGy K c (b.fmod 2 == 1) (b := b) (x := v.fmod 2000000000000000001) (y := -((v.fdiv 7).fmod 2000000000000000001)) (hb.mono (by decide)) (ps := kdP kd) (by omega) fun p hp => (aJ6 ok p hp).2.mono (by decide)
 have po := aE7 ok (b.fmod 2 == 1) hb hx hy
 generalize (kdP kd).map (ptM (b.fmod 2 == 1) b (v.fmod 2000000000000000001) (-((v.fdiv 7).fmod 2000000000000000001))) = X at pu po
 refine ⟨X, some (.p (.int v)), some (.p (.list (X.map slD))), po, ?_⟩
 unfold k9
 refine (aJ (iL (eZ (eZ rfl (aG rfl rfl (cI _ _)) c1) rfl hv))).trans ?_
 have e8 : (a9 5 (bW K c) (aD (a9 1 (aV K c) (aD (aE ixE (aI 2) (aI 3)) aW)) (aD (aI 5) (aD (aE fO (aI 7) (aI 1)) (aD (mUn lM (aE fO (aE iM (aI 7) (mC (.int 7))) (aI 1))) (aD (aE (eqE false) (aE fO (aI 5) (mC (.int 2))) (mC (.int 1))) aW)))))) [some (.p (.list (ns.map .int))), some (.p (.int 2000000000000000001)), some (.p (.list ks)), some (.p (.int (k : Int))), t4, some (.p (.int b)), some (.o (.list acc)), some (.p (.int v)), t8, t9, t10, t11] = .ok (.f (.list (X.map slD))) := aBy (r := .o (.list (X.map slD))) (cV (i6 (aG rfl rfl hix) tu) (cV rfl (cV (aG rfl rfl (eR nb)) (cV (aKh (aG (aG rfl rfl (gZ d7)) rfl (eR nb)) rfl) (cV (aG (aG rfl rfl (eR n2)) rfl aHj) rfl))))) rfl rfl pu
 refine (aJ (fP e8)).trans ?_
 refine jV (i := 8) (e1 := [some (.p (.list (ns.map .int))), some (.p (.int 2000000000000000001)), some (.p (.list ks)), some (.p (.int (k : Int))), t4, some (.p (.int b)), some (.o (.list acc)), some (.p (.int v)), some (.p (.list (X.map slD))), t9, t10, t11]) rfl ?_
 exact aCf rfl rfl (by omega)
theorem aHd (K : PySem.W.Frag) (c : Cls) {k : Int} {hs : List D} {X Y : List Q2} (h : MxP (X, Y)) (i1 : ixE (.b (.list hs)) (.p (.int k)) = .ok (.p (.list (X.map slD)))) (i2 : ixE (.b (.list hs)) (.p (.int (1 - k))) = .ok (.p (.list (Y.map slD)))) {d : Int} (hd : MV X Y = d) (t0 t1 t2 t4 t5 t6 t7 t8 t11 : Option L) : lS K c [t0, t1, t2, some (.p (.int k)), t4, t5, t6, t7, t8, some (.p (.int d)), some (.o (.list hs)), t11] = some (.nx [t0, t1, t2, some (.p (.int k)), t4, t5, t6, t7, t8, some (.p (.int d)), some (.o (.list hs)), some (.p (.int d))]) := by
 have m := sF K c h
 rw [hd] at m
 unfold lS
 refine (aJ (iL (eZ (aG rfl rfl i1) (aG rfl (aG rfl rfl (iC _ _)) i2) m))).trans ?_
 exact (dS (aGa (aJm (b := true) (fD (i6 rfl (yV K c d)))) (fD (aG rfl rfl (eq_int true rfl))))).trans rfl
theorem aH8 (xs : List (List Q2)) : SeqAt.shaped (.list (xs.map fun ps => .list (ps.map slD))) = true := aEa (fun ps : List Q2 => PyData.list (ps.map slD)) (fun ps => by rw [PyData.canLay0]; exact pO slD aGo ps) (fun ps => by rw [PyData.depth]; have := pI slD 2 (fun p => by simp [slD, PyData.depth, PyData.depthAll]) ps; omega) xs
theorem mxq {k l : Kd} {t : Bool} {b : Int} {X Y : List Q2} (hx : Put k t b X) (hy : Put l t b Y) : MxP (X, Y) := by
 have ne : ∀ {k : Kd} {X : List Q2}, Put k t b X -> X ≠ [] := fun {k X} h => by
  obtain ⟨x, y, e⟩ := h.e
  rw [e]
  exact iF (g8 k)
 refine ⟨by have := hx.l; show X.length < 64; omega, ne hx, hx.g, by have := hy.l; show Y.length < 64; omega, ne hy, hy.g, ?_⟩
 have := Nat.mul_le_mul hx.h hy.h
 show (hlP X).length * (hlP Y).length < 64
 omega
theorem aIk {k l : Kd} (hk : oN k) (hl : oN l) {t : Bool} {b : Int} {X Y : List Q2} (hx : Put k t b X) (hy : Put l t b Y) : MV X Y = due k l /\ MV Y X = due k l := by
 obtain ⟨x1, y1, rfl⟩ := hx.e
 obtain ⟨x2, y2, rfl⟩ := hy.e
 refine ⟨by rw [aA7 t (g8 k) (g8 l), aA5 hk hl], ?_⟩
 rw [aA7 t (g8 l) (g8 k), kJ (g8 l) (g8 k), aA5 hk hl]
theorem aE4 (K : PySem.W.Frag) (c : Cls) (hk : lD K c) (ns : List Int) (hn : ns.length <= 63) : sP K c [.p (.list (ns.map .int))] = .ok (.p (.bool true)) := by
 have r2 : ∀ en : En, sA fX (aD (mC (.int 2)) aW) en = .ok [.int ((0 : Nat) : Int), .int ((1 : Nat) : Int)] := fun en => aH5 (a := .int 2) rfl (iP 2 (by decide))
 obtain ⟨ka, ra, oka, ha⟩ := aFl K c ns 0 (by omega) [] (by decide) (some (.p (.int 2000000000000000001))) none none none none none none none none
 obtain ⟨kb, rb, okb, hb⟩ := aFl K c ns 1 (by omega) [kdD ka] (show 1 <= 10 by decide) (some (.p (.int 2000000000000000001))) ra none none none none none none none
 have c4 : aT K c [.p (.list (ns.map .int)), .p (.int 4)] = .ok (.p (.int (ns.getD 4 0))) := mJ K c ns 4
 obtain ⟨v4, h4⟩ := lX K c (ns.getD 4 0) (k := 4) (by decide) (by decide)
 have nb : (2000000000000000001 : Int) ≠ 0 := by decide
 have hby := b18 v4
 generalize eb : v4.fmod 2000000000000000001 - 1000000000000000000 = b at hby
 have ix0 : ∀ x y : D, ixE (.p (.list [x, y])) (.p (.int ((0 : Nat) : Int))) = .ok (.p x) := fun x y => rfl
 have ix1 : ∀ x y : D, ixE (.p (.list [x, y])) (.p (.int ((1 : Nat) : Int))) = .ok (.p y) := fun x y => rfl
 obtain ⟨X, p7, p8, hX, gX⟩ := aFt K c ns 0 (by omega) oka (ix0 (kdD ka) (kdD kb)) hby [] (by decide) rb none none none none none
 obtain ⟨Y, q7, q8, hY, gY⟩ := aFt K c ns 1 (by omega) okb (ix1 (kdD ka) (kdD kb)) hby [.list (X.map slD)] (show 1 <= 10 by decide) rb p7 p8 none none none
 obtain ⟨m1, m2⟩ := aIk oka okb hX hY
 have du := yC K c oka okb
 have e0 := aHd K c (k := 0) (hs := [.list (X.map slD), .list (Y.map slD)]) (mxq hX hY) rfl rfl m1 (some (.p (.list (ns.map .int)))) (some (.p (.int 2000000000000000001))) (some (.p (.list [kdD ka, kdD kb]))) rb (some (.p (.int b))) (some (.p (.list [.list (X.map slD), .list (Y.map slD)]))) q7 q8 none
 have e1 := aHd K c (k := 1) (hs := [.list (X.map slD), .list (Y.map slD)]) (mxq hY hX) rfl rfl m2 (some (.p (.list (ns.map .int)))) (some (.p (.int 2000000000000000001))) (some (.p (.list [kdD ka, kdD kb]))) rb (some (.p (.int b))) (some (.p (.list [.list (X.map slD), .list (Y.map slD)]))) q7 q8 (some (.p (.int (due ka kb))))
 unfold sP
 refine dO ?_
 rw [show bZ 12 [.p (.list (ns.map .int))] = [some (.p (.list (ns.map .int))), none, none, none, none, none, none, none, none, none, none, none] from rfl]
 unfold aAa
 refine (aJ (iL (aFb _))).trans ((aJ (fP (d := .list []) rfl)).trans ?_)
 refine (aJ ((o5 (r2 _)).trans ((mE rfl ha).trans ((mE rfl hb).trans rfl)))).trans ?_
 refine (aJ (iL (d := .int b) (by rw [<- eb]; exact aG (aG (eZ (eZ rfl rfl c4) rfl h4) rfl (eR nb)) (aH1 _) (iC _ _)))).trans ?_
 refine jV (i := 2) (e1 := [some (.p (.list (ns.map .int))), some (.p (.int 2000000000000000001)), some (.p (.list [kdD ka, kdD kb])), some (.p (.int ((1 : Nat) : Int))), rb, some (.p (.int b)), none, none, none, none, none, none]) rfl ((aJ (fP (d := .list []) rfl)).trans ?_)
 refine (aJ ((o5 (r2 _)).trans ((mE rfl gX).trans ((mE rfl gY).trans rfl)))).trans ?_
 refine (aJ (iL (eZ (aG rfl rfl (ix0 _ _)) (aG rfl rfl (ix1 _ _)) du))).trans ?_
 refine jV (i := 6) (e1 := [some (.p (.list (ns.map .int))), some (.p (.int 2000000000000000001)), some (.p (.list [kdD ka, kdD kb])), some (.p (.int ((1 : Nat) : Int))), rb, some (.p (.int b)), some (.p (.list [.list (X.map slD), .list (Y.map slD)])), q7, q8, some (.p (.int (due ka kb))), none, none]) rfl ?_
 have cm : (gN 1 [] (o4 (aI 6)) (bE 0) oK (qP K c)) [some (.p (.list (ns.map .int))), some (.p (.int 2000000000000000001)), some (.p (.list [kdD ka, kdD kb])), some (.p (.int ((1 : Nat) : Int))), rb, some (.p (.int b)), some (.p (.list [.list (X.map slD), .list (Y.map slD)])), q7, q8, some (.p (.int (due ka kb))), none, none] = .ok (.f (.list [.list (X.map slD), .list (Y.map slD)])) := kP (ds := [.list (X.map slD), .list (Y.map slD)]) rfl (show 2 <= 100000 by decide) rfl
 refine (aJ (fP cm)).trans ?_
 refine (aJ ((o5 (r2 _)).trans ((mE rfl e0).trans ((mE rfl e1).trans rfl)))).trans ?_
 exact eM (aG rfl rfl (rK rfl rfl (aH8 [X, Y]) false))
section
variable {P : Program} {w : World} {K : PySem.W.Frag} {mg : Str -> Option Value} {base : Heap}
theorem sc_law : bJ ["_law_script", "_law_size", "_law_kinds", "_law_k", "_law_more", "_law_by", "_law_lists", "_law_shift", "_law_some", "_law_due", "_law_handed", "_law_found"] ["_law_script"] (aP oG) := ⟨rfl, rfl, rfl, by decide +kernel, rfl, by decide +kernel, by decide +kernel⟩
theorem aGv {c : Cls} {f : Addr} {fd : FuncData} (F : Fun K "law" "law" oG f fd) (B : Blt mg) (C : oJ mg c) (O : oM mg base c) (hk : lD K c) (c__law_whole : Cal P w K mg base 1 "_law_whole" 1 (bS K c)) (c_mixed : Cal P w K mg base 5 "mixed" 2 (fT K c)) (c__law_due_of : Cal P w K mg base 2 "_law_due_of" 2 (bG K c)) (c__law_put : Cal P w K mg base 1 "_law_put" 5 (bW K c)) (c__law_tuples_by : Cal P w K mg base 2 "_law_tuples_by" 1 (aV K c)) (c__law_stir : Cal P w K mg base 1 "_law_stir" 2 (bF K c)) (c__law_cell_at : Cal P w K mg base 1 "_law_cell_at" 2 (aT K c)) (c__law_kind_by : Cal P w K mg base 1 "_law_kind_by" 2 (bI K c)) : FnOk P w K mg base (CXr P w) 6 f fd ["_law_script"] (spM K 1 (sP K c)) := by
 refine fnM (k := 5) F sc_law rfl (fun cdv A outer s H E hr => ⟨aAa K c, ?_, aFq K c⟩)
 exact (aH (bM (i := 1) sc_law.nd rfl (Or.inl rfl) (aN bC bR bD (aN bQ cK aF aC (aN iG iE aF aC aC)) aC)) (aH (bM (i := 2) sc_law.nd rfl (Or.inl rfl) (iJ aK)) (aH (i9 PassesOwn.leaving rfl (eC rfl B.range_ (aB aC aK)) (cG (i := 3) sc_law.nd rfl (Or.inl rfl)) (aH (bM (i := 4) sc_law.nd rfl (Or.inl rfl) (aR c__law_stir hr cM (aB (aR c__law_cell_at hr cM (aB (dv 0) (aB (aN bC bR bD (aN bQ cK aF aC (dv 3)) aC) aK))) (aB (aN bC bR bD (dv 3) aC) aK)))) (aO (fZ (i := 2) (aR c__law_kind_by hr cM (aB (aR c__law_stir hr cM (aB (aR c__law_cell_at hr cM (aB (dv 0) (aB (aN bQ cK aF aC (dv 3)) aK))) (aB (dv 3) aK))) (aB (dv 4) aK))) (fun t q => hV (u4 PySem.F.plainAttrs_list PySem.F.slot_list_append PySem.F.type_list_append gA (pv 2) (fF q jW))))))) (aH (bM (i := 5) sc_law.nd rfl (Or.inl rfl) (aN dW dP aY (aN bU cX aF (aR c__law_stir hr cM (aB (aR c__law_cell_at hr cM (aB (dv 0) (aB aC aK))) (aB aC aK))) (dv 1)) (aN iG iE aF aC aC))) (eV 2 (aH (bM (i := 6) sc_law.nd rfl (Or.inl rfl) (iJ aK)) (aH (i9 PassesOwn.leaving rfl (eC rfl B.range_ (aB aC aK)) (cG (i := 3) sc_law.nd rfl (Or.inl rfl)) (aH (bM (i := 7) sc_law.nd rfl (Or.inl rfl) (aR c__law_stir hr cM (aB (aR c__law_cell_at hr cM (aB (dv 0) (aB (aN bC bR bD aC (dv 3)) aK))) (aB (dv 3) aK)))) (aH (bM (i := 8) sc_law.nd rfl (Or.inl rfl) (aR c__law_put hr cM (aB (aR c__law_tuples_by hr cM (aB (aQ (dv 2) (dv 3) (fun _ _ => rfl)) aK)) (aB (dv 5) (aB (aN bU cX aF (dv 7) (dv 1)) (aB (kK (aN bU cX aF (aN fY jC aF (dv 7) aC) (dv 1))) (aB (aAo (cC (u64 hr)) dZ b6 (aN bU cX aF (dv 5) aC) aC (bN _)) aK))))))) (eV 8 (aO (fZ (i := 6) (dv 8) (fun t q => hV (u4 PySem.F.plainAttrs_list PySem.F.slot_list_append PySem.F.type_list_append gA (pv 6) (fF q jW))))))))) (aH (bM (i := 9) sc_law.nd rfl (Or.inl rfl) (aR c__law_due_of hr cM (aB (aQ (dv 2) aC (fun _ _ => rfl)) (aB (aQ (dv 2) aC (fun _ _ => rfl)) aK)))) (eV 6 (aH (pJ (i := 10) sc_law.nd rfl (Or.inl rfl) (xs := ["_law_some"]) (ys := []) (js := []) (cl := []) rfl (fS (dv 6)) (rY (ys := []) (js := []) rfl (fun _ h => nomatch h) cY (by decide +kernel) (by decide +kernel)) cY (by decide +kernel) rfl (by decide +kernel) rfl (by decide) (fun C s₀ H₀ ex pn => (cG (i := 0) (show (["_law_some"] : List Str).Nodup by decide +kernel) rfl (Or.inl rfl))) (fun C s₀ H₀ ex pn => iW) (fun C s₀ H₀ ex pn => (vW nT aB1 zB rfl B.list_ aEb (aB (dv 0) aK)))) (aH (i9 PassesOwn.leaving rfl (eC rfl B.range_ (aB aC aK)) (cG (i := 3) sc_law.nd rfl (Or.inl rfl)) (aH (bM (i := 11) sc_law.nd rfl (Or.inl rfl) (aR c_mixed hr cM (aB (aQ (dv 10) (dv 3) (fun _ _ => rfl)) (aB (aQ (dv 10) (aN dW dP aY aC (dv 3)) (fun _ _ => rfl)) aK)))) (aO (eN (DW.t (aFr (aFn (aBc (aR c__law_whole hr cM (aB (dv 11) aK)))) (aBj (bT (aHm (u64 hr)) dZ b6 (dv 11) (dv 9) (bN _))))) (aO (bA aI7)) bL)))) (aO (bA (aAo (cC (u64 hr)) dZ b6 (dv 10) (dv 6) (bN _)))))))))))))))
end
section
variable {P : Program} {w : World} {K : PySem.W.Frag} {mg : Str -> Option Value} {base : Heap}
theorem sc_turn : bJ ["start", "middle", "end", "along", "across"] ["start", "middle", "end"] (aP qG) := ⟨rfl, rfl, rfl, by decide +kernel, rfl, by decide +kernel, by decide +kernel⟩
theorem aDq {c : Cls} (Df : Def K mg "turn" ["start", "middle", "end"] qG) (B : Blt mg) (C : oJ mg c) (O : oM mg base c) (hk : lD K c) : Cal P w K mg base 1 "turn" 3 (fE K c) := by
 refine rM (k := 0) Df sc_turn rfl (fun f cdv A outer s H E hr => ⟨tY K c, ?_, aBx K c⟩)
 exact (aH (bM (i := 3) sc_turn.nd rfl (Or.inl rfl) (aN bQ cK aF (aN dW dP aY (aQ (dv 1) aC (fun _ _ => rfl)) (aQ (dv 0) aC (fun _ _ => rfl))) (aN dW dP aY (aQ (dv 2) aC (fun _ _ => rfl)) (aQ (dv 0) aC (fun _ _ => rfl))))) (aH (bM (i := 4) sc_turn.nd rfl (Or.inl rfl) (aN bQ cK aF (aN dW dP aY (aQ (dv 1) aC (fun _ _ => rfl)) (aQ (dv 0) aC (fun _ _ => rfl))) (aN dW dP aY (aQ (dv 2) aC (fun _ _ => rfl)) (aQ (dv 0) aC (fun _ _ => rfl))))) (aO (bA (aN dW dP aY (dv 3) (dv 4))))))
theorem g6 : bJ ["_law_kind"] ["_law_kind"] (aP cA) := ⟨rfl, rfl, rfl, by decide +kernel, rfl, by decide +kernel, by decide +kernel⟩
theorem hU {c : Cls} (Df : Def K mg "_law_tuples_by" ["_law_kind"] cA) (B : Blt mg) (C : oJ mg c) (O : oM mg base c) (hk : lD K c) (c__law_square : Cal P w K mg base 1 "_law_square" 2 (aX K c)) : Cal P w K mg base 2 "_law_tuples_by" 1 (aV K c) := by
 refine rM (k := 1) Df g6 rfl (fun f cdv A outer s H E hr => ⟨b7 K c, ?_, gQ K c⟩)
 exact (aH (eN (bT (cC (u64 hr)) dZ b6 (aQ (dv 0) aC (fun _ _ => rfl)) cJ (bN _)) (aO (bA (o7 (xs := ["_law_i", "_law_j"]) (ys := ["_law_kind"]) (js := [0]) (cl := [("_law_kind", s.heap.objs.size + 1)]) rfl (fS (aR c__law_square hr cM (aB (aQ (dv 0) aC (fun _ _ => rfl)) (aB (aQ (dv 0) aC (fun _ _ => rfl)) aK)))) (rY (ys := ["_law_kind"]) (js := [0]) rfl (List.forall_mem_cons.mpr ⟨rfl, (fun _ h => nomatch h)⟩) (b9 ⟨rfl, .inl rfl, .inl rfl, rfl, rfl⟩ cY) (by decide +kernel) (by decide +kernel)) (b9 ⟨rfl, .inl rfl, .inl rfl, rfl, rfl⟩ cY) (by decide +kernel) rfl (by decide +kernel) rfl (by decide) (fun C s₀ H₀ ex pn => (aG2 (n := 2) rfl (qK (cG (i := 0) (show (["_law_i", "_law_j", "_law_kind"] : List Str).Nodup by decide +kernel) rfl (Or.inl rfl)) (qK (cG (i := 1) (show (["_law_i", "_law_j", "_law_kind"] : List Str).Nodup by decide +kernel) rfl (Or.inl rfl)) aD2)))) (fun C s₀ H₀ ex pn => (aCh (bT aG8 qD aY (aN bC bR bD (dv 0) (dv 1)) (aQ (dv 2) aC (fun _ _ => rfl)) (bN _)))) (fun C s₀ H₀ ex pn => (dF (aB (dv 0) (aB (dv 1) aK))))))) bL) (aH (eN (bT (cC (u64 hr)) dZ b6 (aQ (dv 0) aC (fun _ _ => rfl)) cJ (bN _)) (aO (bA (aR c__law_square hr cM (aB (aQ (dv 0) aC (fun _ _ => rfl)) (aB (aQ (dv 0) aC (fun _ _ => rfl)) aK))))) bL) (aH (eN (bT (cC (u64 hr)) dZ b6 (aQ (dv 0) aC (fun _ _ => rfl)) cJ (bN _)) (aO (bA (iJ (aB (dF (aB (aQ (dv 0) aC (fun _ _ => rfl)) (aB (aQ (dv 0) aC (fun _ _ => rfl)) aK))) (aB (dF (aB aC (aB aC aK))) (aB (dF (aB (aQ (dv 0) aC (fun _ _ => rfl)) (aB (aQ (dv 0) aC (fun _ _ => rfl)) aK))) aK)))))) bL) (aO (bA (iJ (aB (dF (aB aC (aB aC aK))) (aB (dF (aB aC (aB aC aK))) aK))))))))
end
section
variable {P : Program} {w : World} {K : PySem.W.Frag} {mg : Str -> Option Value} {base : Heap}
theorem sc_hull : bJ ["slopes", "rows", "there", "back"] ["slopes"] (aP qL) := ⟨rfl, rfl, rfl, by decide +kernel, rfl, by decide +kernel, by decide +kernel⟩
theorem aDz {c : Cls} (Df : Def K mg "hull" ["slopes"] qL) (B : Blt mg) (C : oJ mg c) (O : oM mg base c) (hk : lD K c) (c_chain : Cal P w K mg base 2 "chain" 1 (dY K c)) : Cal P w K mg base 3 "hull" 1 (d9 K c) := by
 refine rM (k := 2) Df sc_hull rfl (fun f cdv A outer s H E hr => ⟨vY K c, ?_, aCl K c⟩)
 exact (aH (bM (i := 1) sc_hull.nd rfl (Or.inl rfl) (sI rfl (u64 hr) rfl B.sorted_ rfl B.set_ (dv 0))) (aH (eN (bT (cC (u64 hr)) dZ b6 (cR dU rL mF rfl B.len_ PySem.boot_len (aB (dv 1) aK)) aC (bN _)) (aO (bA (dv 1))) bL) (aH (bM (i := 2) sc_hull.nd rfl (Or.inl rfl) (aR c_chain hr cM (aB (dv 1) aK))) (aH (bM (i := 3) sc_hull.nd rfl (Or.inl rfl) (aR c_chain hr cM (aB (sS rfl rfl B.list_ rfl B.reversed_ (dv 1)) aK))) (aO (bA (aN bC bR bD (aF6 (dv 2) uF (wW (kK aC))) (aF6 (dv 3) uF (wW (kK aC))))))))))
theorem kF : bJ ["_law_one", "_law_other"] ["_law_one", "_law_other"] (aP dD) := ⟨rfl, rfl, rfl, by decide +kernel, rfl, by decide +kernel, by decide +kernel⟩
theorem j9 {c : Cls} (Df : Def K mg "_law_due_of" ["_law_one", "_law_other"] dD) (B : Blt mg) (C : oJ mg c) (O : oM mg base c) (hk : lD K c) (c__law_reach : Cal P w K mg base 1 "_law_reach" 3 (bH K c)) : Cal P w K mg base 2 "_law_due_of" 2 (bG K c) := by
 refine rM (k := 1) Df kF rfl (fun f cdv A outer s H E hr => ⟨dC K c, ?_, j7 K c⟩)
 exact (aH (eN (bT (cC (u64 hr)) dZ b6 (aQ (dv 0) aC (fun _ _ => rfl)) cJ (bN _)) (aO (bA (aR c__law_reach hr cM (aB (dv 1) (aB (aQ (dv 0) aC (fun _ _ => rfl)) (aB (aQ (dv 0) aC (fun _ _ => rfl)) aK)))))) bL) (aH (eN (bT (cC (u64 hr)) dZ b6 (aQ (dv 1) aC (fun _ _ => rfl)) cJ (bN _)) (aO (bA (aR c__law_reach hr cM (aB (dv 0) (aB (aQ (dv 1) aC (fun _ _ => rfl)) (aB (aQ (dv 1) aC (fun _ _ => rfl)) aK)))))) bL) (aH (eN (DW.t (aFr (bT (cC (u64 hr)) dZ b6 (aQ (dv 0) aC (fun _ _ => rfl)) cJ (bN _)) (aBj (bT (cC (u64 hr)) dZ b6 (aQ (dv 1) aC (fun _ _ => rfl)) cJ (bN _))))) (aO (bA aC)) bL) (aH (eN (DW.t (aA6 (bT (cC (u64 hr)) dZ b6 (aQ (dv 0) aC (fun _ _ => rfl)) cJ (bN _)) (uX (bT (cC (u64 hr)) dZ b6 (aQ (dv 1) aC (fun _ _ => rfl)) cJ (bN _))))) (aO (bA (aN bQ cK aF (aQ (dv 0) aC (fun _ _ => rfl)) (aQ (dv 1) aC (fun _ _ => rfl))))) bL) (aH (eN (bT (cC (u64 hr)) dZ b6 (aQ (dv 0) aC (fun _ _ => rfl)) cJ (bN _)) (aO (bA (aN bQ cK aF (aQ (dv 0) aC (fun _ _ => rfl)) (aN bC bR bD (aQ (dv 1) aC (fun _ _ => rfl)) (aQ (dv 1) aC (fun _ _ => rfl)))))) bL) (aH (eN (bT (cC (u64 hr)) dZ b6 (aQ (dv 1) aC (fun _ _ => rfl)) cJ (bN _)) (aO (bA (aN bQ cK aF (aQ (dv 1) aC (fun _ _ => rfl)) (aN bC bR bD (aQ (dv 0) aC (fun _ _ => rfl)) (aQ (dv 0) aC (fun _ _ => rfl)))))) bL) (aO (bA (aN bC bR bD (aN bQ cK aF (aQ (dv 0) aC (fun _ _ => rfl)) (aQ (dv 1) aC (fun _ _ => rfl))) (aN bQ cK aF (aQ (dv 0) aC (fun _ _ => rfl)) (aQ (dv 1) aC (fun _ _ => rfl))))))))))))
end
section
variable {P : Program} {w : World} {K : PySem.W.Frag} {mg : Str -> Option Value} {base : Heap}
theorem sc__law_square : bJ ["_law_wide", "_law_tall", "_law_found", "_law_i", "_law_j"] ["_law_wide", "_law_tall"] (aP dA) := ⟨rfl, rfl, rfl, by decide +kernel, rfl, by decide +kernel, by decide +kernel⟩
theorem kB {c : Cls} (Df : Def K mg "_law_square" ["_law_wide", "_law_tall"] dA) (B : Blt mg) (C : oJ mg c) (O : oM mg base c) (hk : lD K c) : Cal P w K mg base 1 "_law_square" 2 (aX K c) := by
 refine rM (k := 0) Df sc__law_square rfl (fun f cdv A outer s H E hr => ⟨dB K c, ?_, kA K c⟩)
 exact (aH (bM (i := 2) sc__law_square.nd rfl (Or.inl rfl) (iJ aK)) (aH (i9 PassesOwn.leaving rfl (eC rfl B.range_ (aB (aN bC bR bD (dv 0) aC) aK)) (cG (i := 3) sc__law_square.nd rfl (Or.inl rfl)) (aO (i9 PassesOwn.leaving rfl (eC rfl B.range_ (aB (aN bC bR bD (dv 1) aC) aK)) (cG (i := 4) sc__law_square.nd rfl (Or.inl rfl)) (aO (fZ (i := 2) (dF (aB (dv 3) (aB (dv 4) aK))) (fun t q => hV (u4 PySem.F.plainAttrs_list PySem.F.slot_list_append PySem.F.type_list_append gA (pv 2) (fF q jW)))))))) (aO (bA (dv 2)))))
theorem sc__law_put : bJ ["_law_places", "_law_by", "_law_x", "_law_y", "_law_turned", "_law_found"] ["_law_places", "_law_by", "_law_x", "_law_y", "_law_turned"] (aP fI) := ⟨rfl, rfl, rfl, by decide +kernel, rfl, by decide +kernel, by decide +kernel⟩
theorem oV {c : Cls} (Df : Def K mg "_law_put" ["_law_places", "_law_by", "_law_x", "_law_y", "_law_turned"] fI) (B : Blt mg) (C : oJ mg c) (O : oM mg base c) (hk : lD K c) : Cal P w K mg base 1 "_law_put" 5 (bW K c) := by
 refine rM (k := 0) Df sc__law_put rfl (fun f cdv A outer s H E hr => ⟨fL K c, ?_, oT K c⟩)
 exact (aH (pJ (i := 5) sc__law_put.nd rfl (Or.inl rfl) (xs := ["_law_place"]) (ys := ["_law_by", "_law_x", "_law_y"]) (js := [1, 2, 3]) (cl := [("_law_y", s.heap.objs.size + 1 + 1 + 1), ("_law_x", s.heap.objs.size + 1 + 1), ("_law_by", s.heap.objs.size + 1)]) rfl (fS (dv 0)) (rY (ys := ["_law_by", "_law_x", "_law_y"]) (js := [1, 2, 3]) rfl (List.forall_mem_cons.mpr ⟨rfl, (List.forall_mem_cons.mpr ⟨rfl, (List.forall_mem_cons.mpr ⟨rfl, (fun _ h => nomatch h)⟩)⟩)⟩) (b9 ⟨rfl, .inl rfl, .inl rfl, rfl, rfl⟩ (b9 ⟨rfl, .inl rfl, .inl rfl, rfl, rfl⟩ (b9 ⟨rfl, .inl rfl, .inl rfl, rfl, rfl⟩ cY))) (by decide +kernel) (by decide +kernel)) (b9 ⟨rfl, .inl rfl, .inl rfl, rfl, rfl⟩ (b9 ⟨rfl, .inl rfl, .inl rfl, rfl, rfl⟩ (b9 ⟨rfl, .inl rfl, .inl rfl, rfl, rfl⟩ cY))) (by decide +kernel) rfl (by decide +kernel) rfl (by decide) (fun C s₀ H₀ ex pn => (cG (i := 0) (show (["_law_place", "_law_by", "_law_x", "_law_y"] : List Str).Nodup by decide +kernel) rfl (Or.inl rfl))) (fun C s₀ H₀ ex pn => iW) (fun C s₀ H₀ ex pn => (dF (aB (aN bC bR bD (aN bC bR bD (aQ (dv 0) aC (fun _ _ => rfl)) (aN bQ cK aF (dv 1) (aQ (dv 0) aC (fun _ _ => rfl)))) (dv 2)) (aB (aN bC bR bD (aQ (dv 0) aC (fun _ _ => rfl)) (dv 3)) aK))))) (aH (eN (aBc (dv 4)) (eV 5 (aO (pJ (i := 5) sc__law_put.nd rfl (Or.inl rfl) (xs := ["_law_place"]) (ys := []) (js := []) (cl := []) rfl (fS (dv 5)) (rY (ys := []) (js := []) rfl (fun _ h => nomatch h) cY (by decide +kernel) (by decide +kernel)) cY (by decide +kernel) rfl (by decide +kernel) rfl (by decide) (fun C s₀ H₀ ex pn => (cG (i := 0) (show (["_law_place"] : List Str).Nodup by decide +kernel) rfl (Or.inl rfl))) (fun C s₀ H₀ ex pn => iW) (fun C s₀ H₀ ex pn => (dF (aB (aQ (dv 0) aC (fun _ _ => rfl)) (aB (aQ (dv 0) aC (fun _ _ => rfl)) aK))))))) bL) (aO (bA (dv 5)))))
end
section
variable {P : Program} {w : World} {K : PySem.W.Frag} {mg : Str -> Option Value} {base : Heap}
theorem sc_chain : bJ ["points", "kept", "point"] ["points"] (aP lY) := ⟨rfl, rfl, rfl, by decide +kernel, rfl, by decide +kernel, by decide +kernel⟩
theorem yG {c : Cls} (Df : Def K mg "chain" ["points"] lY) (B : Blt mg) (C : oJ mg c) (O : oM mg base c) (hk : lD K c) (c_turn : Cal P w K mg base 1 "turn" 3 (fE K c)) : Cal P w K mg base 2 "chain" 1 (dY K c) := by
 refine rM (k := 1) Df sc_chain rfl (fun f cdv A outer s H E hr => ⟨pQ K c, ?_, yA K c⟩)
 exact (aH (bM (i := 1) sc_chain.nd rfl (Or.inl rfl) (iJ aK)) (aH (i9 PassesOwn.leaving rfl (fS (dv 0)) (cG (i := 2) sc_chain.nd rfl (Or.inl rfl)) (aH (zY PassesOwn.leaving (DW.t (aA6 (bT aIv qD aY (cR dU rL mF rfl B.len_ PySem.boot_len (aB (dv 1) aK)) aC (bN _)) (uX (bT aG8 qD aY (aR c_turn hr cM (aB (aQ (dv 1) (kK aC) (fun _ _ => rfl)) (aB (aQ (dv 1) (kK aC) (fun _ _ => rfl)) (aB (dv 2) aK)))) aC (bN _))))) (aO (aGh (i := 1) (hV (aFx PySem.F.plainAttrs_list PySem.F.slot_list_pop PySem.F.type_list_pop aGn (pv 1)))))) (aO (fZ (i := 1) (dv 2) (fun t q => hV (u4 PySem.F.plainAttrs_list PySem.F.slot_list_append PySem.F.type_list_append gA (pv 1) (fF q jW))))))) (aO (bA (dv 1)))))
theorem sc_mixed : bJ ["slopes", "others", "inner", "outer", "sums", "slope"] ["slopes", "others"] (aP lH) := ⟨rfl, rfl, rfl, by decide +kernel, rfl, by decide +kernel, by decide +kernel⟩
theorem y6 {c : Cls} (Df : Def K mg "mixed" ["slopes", "others"] lH) (B : Blt mg) (C : oJ mg c) (O : oM mg base c) (hk : lD K c) (c_area : Cal P w K mg base 4 "area" 1 (gJ K c)) (c_hull : Cal P w K mg base 3 "hull" 1 (d9 K c)) : Cal P w K mg base 5 "mixed" 2 (fT K c) := by
 refine rM (k := 4) Df sc_mixed rfl (fun f cdv A outer s H E hr => ⟨oS K c, ?_, yY K c⟩)
 exact (aH (bM (i := 2) sc_mixed.nd rfl (Or.inl rfl) (aR c_hull hr cM (aB (dv 0) aK))) (aH (bM (i := 3) sc_mixed.nd rfl (Or.inl rfl) (aR c_hull hr cM (aB (dv 1) aK))) (eV 2 (aH (bM (i := 4) sc_mixed.nd rfl (Or.inl rfl) (iJ aK)) (eV 3 (aH (i9 PassesOwn.leaving rfl (fS (dv 2)) (cG (i := 5) sc_mixed.nd rfl (Or.inr rfl)) (aO (tV (i := 4) (o7 (xs := ["other"]) (ys := ["slope"]) (js := [5]) (cl := [("slope", s.heap.objs.size + 1)]) rfl (fS (dv 3)) (rY (ys := ["slope"]) (js := [5]) rfl (List.forall_mem_cons.mpr ⟨rfl, (fun _ h => nomatch h)⟩) (b9 ⟨rfl, .inl rfl, .inl rfl, rfl, rfl⟩ cY) (by decide +kernel) (by decide +kernel)) (b9 ⟨rfl, .inl rfl, .inl rfl, rfl, rfl⟩ cY) (by decide +kernel) rfl (by decide +kernel) rfl (by decide) (fun C s₀ H₀ ex pn => (cG (i := 0) (show (["other", "slope"] : List Str).Nodup by decide +kernel) rfl (Or.inl rfl))) (fun C s₀ H₀ ex pn => iW) (fun C s₀ H₀ ex pn => (dF (aB (aN bC bR bD (aQ (dv 1) aC (fun _ _ => rfl)) (aQ (dv 0) aC (fun _ _ => rfl))) (aB (aN bC bR bD (aQ (dv 1) aC (fun _ _ => rfl)) (aQ (dv 0) aC (fun _ _ => rfl))) aK))))) (fun t q => hV (u4 PySem.F.plainAttrs_list PySem.F.slot_list_extend PySem.F.type_list_extend vI (pv 4) (fF q jW)))))) (eV 4 (aO (bA (aN fY jC aF (aN dW dP aY (aN dW dP aY (aR c_area hr cM (aB (dv 4) aK)) (aR c_area hr cM (aB (dv 2) aK))) (aR c_area hr cM (aB (dv 3) aK))) aC))))))))))
theorem lL : bJ ["_law_found"] ["_law_found"] (aP dQ) := ⟨rfl, rfl, rfl, by decide +kernel, rfl, by decide +kernel, by decide +kernel⟩
theorem lT {c : Cls} (Df : Def K mg "_law_whole" ["_law_found"] dQ) (B : Blt mg) (C : oJ mg c) (O : oM mg base c) (hk : lD K c) : Cal P w K mg base 1 "_law_whole" 1 (bS K c) := by
 refine rM (k := 0) Df lL rfl (fun f cdv A outer s H E hr => ⟨fC K c, ?_, lA K c hk⟩)
 exact (aO (bA (aGp (aAw (cv := .type "int") rfl B.isinstance_ (.inl ⟨_, rfl⟩) rfl (dv 0) (uD (v := .ty "int") rfl B.int_ aGq rfl)) (aEy (aFc (aAw (cv := .type "bool") rfl B.isinstance_ (.inl ⟨_, rfl⟩) rfl (dv 0) (uD (v := .ty "bool") rfl B.bool_ aBs rfl)))))))
end
section
variable {P : Program} {w : World} {K : PySem.W.Frag} {mg : Str -> Option Value} {base : Heap}
theorem jU : bJ ["_law_script", "_law_k"] ["_law_script", "_law_k"] (aP cS) := ⟨rfl, rfl, rfl, by decide +kernel, rfl, by decide +kernel, by decide +kernel⟩
theorem jR {c : Cls} (Df : Def K mg "_law_cell_at" ["_law_script", "_law_k"] cS) (B : Blt mg) (C : oJ mg c) (O : oM mg base c) (hk : lD K c) : Cal P w K mg base 1 "_law_cell_at" 2 (aT K c) := by
 refine rM (k := 0) Df jU rfl (fun f cdv A outer s H E hr => ⟨dX K c, ?_, jG K c⟩)
 exact (aH (eN (bT aIw qD aY (dv 1) (cR dU rL mF rfl B.len_ PySem.boot_len (aB (dv 0) aK)) (bN _)) (aO (bA (aQ (dv 0) (dv 1) (fun _ _ => rfl)))) bL) (aO (bA aC)))
theorem sc__law_stir : bJ ["_law_cell", "_law_k", "_law_c", "_law_low"] ["_law_cell", "_law_k"] (aP eL) := ⟨rfl, rfl, rfl, by decide +kernel, rfl, by decide +kernel, by decide +kernel⟩
theorem nE {c : Cls} (Df : Def K mg "_law_stir" ["_law_cell", "_law_k"] eL) (B : Blt mg) (C : oJ mg c) (O : oM mg base c) (hk : lD K c) : Cal P w K mg base 1 "_law_stir" 2 (bF K c) := by
 refine rM (k := 0) Df sc__law_stir rfl (fun f cdv A outer s H E hr => ⟨eF K c, ?_, mU K c⟩)
 exact (aH (bM (i := 2) sc__law_stir.nd rfl (Or.inl rfl) (aN bC bR bD (aN bC bR bD (aN bC bR bD (aN bU cX aF (dv 0) (aN iG iE aF aC aC)) aC) (aN eX e9 aF aC (dv 1))) (aN eX e9 aF (aN eX e9 aF aC (dv 1)) (dv 1)))) (aH (bM (i := 3) sc__law_stir.nd rfl (Or.inl rfl) (aN bU cX aF (aN eX e9 aF (aN bU cX aF (aN eX e9 aF (dv 2) aC) aC) aC) aC)) (aO (bA (aN bC bR bD (dv 3) (aN eX e9 aF aC (aN bU cX aF (aN eX e9 aF (aN eX e9 aF (dv 2) (dv 3)) aC) (aN bC bR bD (aN iG iE aF aC aC) aC))))))))
theorem sc__law_kind_by : bJ ["_law_cell", "_law_more", "_law_c", "_law_size"] ["_law_cell", "_law_more"] (aP cQ) := ⟨rfl, rfl, rfl, by decide +kernel, rfl, by decide +kernel, by decide +kernel⟩
theorem jH {c : Cls} (Df : Def K mg "_law_kind_by" ["_law_cell", "_law_more"] cQ) (B : Blt mg) (C : oJ mg c) (O : oM mg base c) (hk : lD K c) : Cal P w K mg base 1 "_law_kind_by" 2 (bI K c) := by
 refine rM (k := 0) Df sc__law_kind_by rfl (fun f cdv A outer s H E hr => ⟨b4 K c, ?_, jF K c⟩)
 exact (aH (bM (i := 2) sc__law_kind_by.nd rfl (Or.inl rfl) (aN bU cX aF (dv 0) (aN iG iE aF aC aC))) (aH (bM (i := 3) sc__law_kind_by.nd rfl (Or.inl rfl) (aN bC bR bD (aN bQ cK aF aC (aN iG iE aF aC aC)) aC)) (aH (eN (bT (cC (u64 hr)) dZ b6 (aN bU cX aF (dv 2) aC) aC (bN _)) (aO (bA (dF (aB cJ (aB (aN bC bR bD aC (aN bU cX aF (aN fY jC aF (dv 2) aC) aC)) (aB aC aK)))))) bL) (aH (eN (bT (cC (u64 hr)) dZ b6 (aN bU cX aF (dv 2) aC) aC (bN _)) (aO (bA (dF (aB cJ (aB (aN bU cX aF (aN fY jC aF (dv 2) aC) aC) (aB (aN bU cX aF (aN fY jC aF (dv 2) aC) aC) aK)))))) bL) (aH (eN (bT (cC (u64 hr)) dZ b6 (aN bU cX aF (dv 2) aC) aC (bN _)) (aO (bA (dF (aB cJ (aB (aN dW dP aY (aN bU cX aF (dv 2) (dv 3)) (aN iG iE aF aC aC)) (aB (aN dW dP aY (aN bU cX aF (dv 1) (dv 3)) (aN iG iE aF aC aC)) aK)))))) bL) (aO (bA (dF (aB cJ (aB aC (aB aC aK)))))))))))
end
section
variable {P : Program} {w : World} {K : PySem.W.Frag} {mg : Str -> Option Value} {base : Heap}
theorem sc_area : bJ ["slopes", "around"] ["slopes"] (aP qT) := ⟨rfl, rfl, rfl, by decide +kernel, rfl, by decide +kernel, by decide +kernel⟩
theorem aD9 {c : Cls} (Df : Def K mg "area" ["slopes"] qT) (B : Blt mg) (C : oJ mg c) (O : oM mg base c) (hk : lD K c) (c_turn : Cal P w K mg base 1 "turn" 3 (fE K c)) (c_hull : Cal P w K mg base 3 "hull" 1 (d9 K c)) : Cal P w K mg base 4 "area" 1 (gJ K c) := by
 refine rM (k := 3) Df sc_area rfl (fun f cdv A outer s H E hr => ⟨qX K c, ?_, aDg K c⟩)
 exact (aH (bM (i := 1) sc_area.nd rfl (Or.inr rfl) (aR c_hull hr cM (aB (dv 0) aK))) (eV 1 (aO (bA (cR (wO rfl rfl) aE6 aDc rfl B.sum_ aFi (aB (o7 (xs := ["k"]) (ys := ["around"]) (js := [1]) (cl := [("around", s.heap.objs.size + 1)]) rfl (eC rfl B.range_ (aB (cR dU rL mF rfl B.len_ PySem.boot_len (aB (dv 1) aK)) aK)) (rY (ys := ["around"]) (js := [1]) rfl (List.forall_mem_cons.mpr ⟨rfl, (fun _ h => nomatch h)⟩) (b9 ⟨rfl, .inl rfl, .inl rfl, rfl, rfl⟩ cY) (by decide +kernel) (by decide +kernel)) (b9 ⟨rfl, .inl rfl, .inl rfl, rfl, rfl⟩ cY) (by decide +kernel) rfl (by decide +kernel) rfl (by decide) (fun C s₀ H₀ ex pn => (cG (i := 0) (show (["k", "around"] : List Str).Nodup by decide +kernel) rfl (Or.inl rfl))) (fun C s₀ H₀ ex pn => iW) (fun C s₀ H₀ ex pn => (aR c_turn hr aIr (aB (dF (aB aC (aB aC aK))) (aB (aQ (dv 1) (aN dW dP aY (dv 0) aC) (fun _ _ => rfl)) (aB (aQ (dv 1) (dv 0) (fun _ _ => rfl)) aK)))))) aK))))))
theorem sc__law_reach : bJ ["_law_kind", "_law_p", "_law_q", "_law_some"] ["_law_kind", "_law_p", "_law_q"] (aP dR) := ⟨rfl, rfl, rfl, by decide +kernel, rfl, by decide +kernel, by decide +kernel⟩
theorem mG {c : Cls} (Df : Def K mg "_law_reach" ["_law_kind", "_law_p", "_law_q"] dR) (B : Blt mg) (C : oJ mg c) (O : oM mg base c) (hk : lD K c) : Cal P w K mg base 1 "_law_reach" 3 (bH K c) := by
 refine rM (k := 0) Df sc__law_reach rfl (fun f cdv A outer s H E hr => ⟨dN K c, ?_, lV K c⟩)
 exact (aH (eN (bT (cC (u64 hr)) dZ b6 (aQ (dv 0) aC (fun _ _ => rfl)) cJ (bN _)) (aO (bA (cR lQ wK oO rfl B.abs_ uB (aB (aN dW dP aY (aN bQ cK aF (dv 1) (aQ (dv 0) aC (fun _ _ => rfl))) (aN bQ cK aF (dv 2) (aQ (dv 0) aC (fun _ _ => rfl)))) aK)))) bL) (aH (eN (bT (cC (u64 hr)) dZ b6 (aQ (dv 0) aC (fun _ _ => rfl)) cJ (bN _)) (aO (bA (aN bC bR bD (aN bQ cK aF (cR lQ wK oO rfl B.abs_ uB (aB (dv 1) aK)) (aQ (dv 0) aC (fun _ _ => rfl))) (aN bQ cK aF (cR lQ wK oO rfl B.abs_ uB (aB (dv 2) aK)) (aQ (dv 0) aC (fun _ _ => rfl)))))) bL) (aH (eN (bT (cC (u64 hr)) dZ b6 (aQ (dv 0) aC (fun _ _ => rfl)) cJ (bN _)) (aH (bM (i := 3) sc__law_reach.nd rfl (Or.inl rfl) (iJ (aB aC (aB (aN bQ cK aF (dv 1) (aQ (dv 0) aC (fun _ _ => rfl))) (aB (aN bQ cK aF (kK (dv 2)) (aQ (dv 0) aC (fun _ _ => rfl))) aK))))) (aO (bA (aN dW dP aY (cR (xD rfl rfl) aEg aDo rfl B.max_ aE5 (aB (dv 3) aK)) (cR (vD rfl rfl) aDr x4 rfl B.min_ aHc (aB (dv 3) aK)))))) bL) (aO (bA aC)))))
end
theorem rX {α : Type} {us : List α} (h : us.length = 1) : ∃ a, us = [a] := List.length_eq_one_iff.mp h
theorem oW {α : Type} {us : List α} (h : us.length = 2) : ∃ a b, us = [a, b] := by
 cases us with
 | nil => cases h
 | cons a r => obtain ⟨b, rfl⟩ := rX (Nat.succ.inj h); exact ⟨a, b, rfl⟩
theorem aCg {α : Type} {us : List α} (h : us.length = 3) : ∃ a b c, us = [a, b, c] := by
 cases us with
 | nil => cases h
 | cons a r => obtain ⟨b, c, rfl⟩ := oW (Nat.succ.inj h); exact ⟨a, b, c, rfl⟩
def u5 (K : PySem.W.Frag) : Bool := K.all fun p => match p.2.cls with
 | .type n => !(n == "list")
 | _ => true
theorem lookup_mem {a : Addr} {o : Obj} : ∀ {l : List (Addr × Obj)}, l.lookup a = some o -> (a, o) ∈ l
 | (k, v) :: r, h => by
  unfold List.lookup at h
  split at h
  ·rename_i z
   have e : a = k := by simpa using z
   cases h
   rw [e]
   exact .head _
  ·exact .tail _ (lookup_mem h)
theorem sJ {K : PySem.W.Frag} (h : u5 K = true) {a : Addr} {o : Obj} (e : K.lookup a = some o) (hc : o.cls = .type "list") : False := by
 have := List.all_eq_true.mp h (a, o) (lookup_mem e)
 dsimp only at this
 rw [hc] at this
 cases this
def aAf : Sp := fun vs H Q _ => ∃ (a : Addr) (ns : List Int), vs = [.ref a] /\ Rd H a (.lst (ns.map V.int)) /\ ns.length <= 63 /\ ∀ H', Q (.bl true) H'
theorem nK {K : PySem.W.Frag} {G : Hp} : ∀ ns : List Int, Reps K G (ns.map V.int) (ns.map PyData.int)
 | [] => .nil
 | i :: r => .cons (.int i) (nK r)
theorem aF8 {P : Program} {w : World} {K : PySem.W.Frag} {mg : Str -> Option Value} {base : Heap} {f : Addr} {fd : FuncData} {c : Cls} (hk : lD K c) (F : FnOk P w K mg base (CXr P w) 6 f fd ["_law_script"] (spM K 1 (sP K c))) : FnOk P w K mg base (CXr P w) 6 f fd ["_law_script"] aAf :=
 F.imp fun vs H Q E h => by
  obtain ⟨a, ns, rfl, rd, hl, hq⟩ := h
  refine ⟨rfl, H, [.p (.list (ns.map .int))], Same.refl _, ⟨.lst rd (nK ns), trivial⟩, ?_⟩
  rw [aE4 K c hk ns hl]
  intro G' H' v st r
  cases r
  exact hq H'
theorem aI5 {α : Type} {us : List α} (h : us.length = 4) : ∃ a0 a1 a2 a3, us = [a0, a1, a2, a3] := by
 cases us with
 | nil => cases h
 | cons a0 r => obtain ⟨a1, a2, a3, rfl⟩ := aCg (Nat.succ.inj h); exact ⟨a0, a1, a2, a3, rfl⟩
theorem aIl {α : Type} {us : List α} (h : us.length = 5) : ∃ a0 a1 a2 a3 a4, us = [a0, a1, a2, a3, a4] := by
 cases us with
 | nil => cases h
 | cons a0 r => obtain ⟨a1, a2, a3, a4, rfl⟩ := aI5 (Nat.succ.inj h); exact ⟨a0, a1, a2, a3, a4, rfl⟩
structure FnAt (K : PySem.W.Frag) (x : Str) (st : Stmt) (f : Addr) (m : Value) (c : Addr) : Prop where
 a : PySem.W.nsIn K mainGlobals x = some (some (.ref f))
 l : K.lookup f = some ⟨.type "function", none, .func (PySem.W.fnOf x x (fA st) (dH st) (aP st) .none .none .none m none (.ref c) .none), #[]⟩
 c : PySem.W.codeIn K (.ref c) x = true
 k : PySem.W.keepIn K (.ref f) = true
theorem FnAt.df {K : PySem.W.Frag} {h : Heap} {mg : Str -> Option Value} {x : Str} {st : Stmt} {f c : Addr} {m : Value} {ps : List Str} (A : FnAt K x st f m c) (X : K.In h) (G : h.Ns mainGlobals mg)
  (hb : ∀ (kV doc pm : Value) (an : Option Addr) (cdv ct : Value) (us : List Value), us.length = ps.length -> bindArgs (PySem.W.fnOf x x (fA st) (dH st) (aP st) .none kV doc pm an cdv ct) ⟨us, []⟩ = pure (ps.zip us)) : Def K mg x ps st :=
 have F := aBm (st := st) A.l A.c A.k
 ⟨_, _, F, F.binds hb, A.k, PySem.W.mg_of X G A.a⟩
theorem all_mk {l : PySem.W.OpenLaw} {w : World} {K : PySem.W.Frag} {h : Heap} {mg : Str -> Option Value} {fa : Addr} {f1 c1 f2 c2 f3 c3 f4 c4 f5 c5 f6 c6 f7 c7 f8 c8 f9 c9 f10 c10 f11 c11 f12 c12 f13 c13 f14 c14 f15 c15  : Addr} (X : K.In h) (G : h.Ns mainGlobals mg) (hfa : mg "law" = some (.ref fa))
  {m1 m2 m3 m4 m5 m6 m7 m8 m9 m10 m11 m12 m13 m14 m15 : Value}
  (h1 : FnAt K "turn" qG f1 m1 c1)
  (h2 : FnAt K "chain" lY f2 m2 c2)
  (h3 : FnAt K "hull" qL f3 m3 c3)
  (h4 : FnAt K "area" qT f4 m4 c4)
  (h5 : FnAt K "mixed" lH f5 m5 c5)
  (h6 : FnAt K "_law_cell_at" cS f6 m6 c6)
  (h7 : FnAt K "_law_stir" eL f7 m7 c7)
  (h8 : FnAt K "_law_whole" dQ f8 m8 c8)
  (h9 : FnAt K "_law_kind_by" cQ f9 m9 c9)
  (h10 : FnAt K "_law_tuples_by" cA f10 m10 c10)
  (h11 : FnAt K "_law_square" dA f11 m11 c11)
  (h12 : FnAt K "_law_reach" dR f12 m12 c12)
  (h13 : FnAt K "_law_due_of" dD f13 m13 c13)
  (h14 : FnAt K "_law_put" fI f14 m14 c14)
  (h15 : FnAt K "law" oG f15 m15 c15)
  (z0 : PySem.W.nsIn K mainGlobals "abs" = some none)
  (z1 : PySem.W.nsIn K mainGlobals "bool" = some none)
  (z2 : PySem.W.nsIn K mainGlobals "int" = some none)
  (z3 : PySem.W.nsIn K mainGlobals "isinstance" = some none)
  (z4 : PySem.W.nsIn K mainGlobals "len" = some none)
  (z5 : PySem.W.nsIn K mainGlobals "list" = some none)
  (z6 : PySem.W.nsIn K mainGlobals "max" = some none)
  (z7 : PySem.W.nsIn K mainGlobals "min" = some none)
  (z8 : PySem.W.nsIn K mainGlobals "range" = some none)
  (z9 : PySem.W.nsIn K mainGlobals "reversed" = some none)
  (z10 : PySem.W.nsIn K mainGlobals "set" = some none)
  (z11 : PySem.W.nsIn K mainGlobals "sorted" = some none)
  (z12 : PySem.W.nsIn K mainGlobals "sum" = some none)
  (xii : PySem.W.kitOne K (.type "int") (.type "int") = some true)
  (xib : PySem.W.kitOne K (.type "int") (.type "bool") = some false)
  (xtt : PySem.W.kitOne K (.type "tuple") (.type "tuple") = some true)
  (xll : PySem.W.kitOne K (.type "list") (.type "list") = some true)
  : ∃ fd : FuncData, (∀ (s : Shared) (v : Value), BindsTo s fd ⟨[v], []⟩ [("_law_script", v)]) /\ ∀ base : Heap, K.In base -> base.Ns mainGlobals mg -> FnOk l.prog w K mg base (CXr l.prog w) 6 fa fd ["_law_script"] aAf := by
 have e := hfa.symm.trans (PySem.W.mg_of X G h15.a)
 cases e
 have D1 := h1.df (ps := ["start", "middle", "end"]) X G (fun _ _ _ _ _ _ us hl => by obtain ⟨_, _, _, rfl⟩ := aCg hl; rfl)
 have D2 := h2.df (ps := ["points"]) X G (fun _ _ _ _ _ _ us hl => by obtain ⟨_, rfl⟩ := rX hl; rfl)
 have D3 := h3.df (ps := ["slopes"]) X G (fun _ _ _ _ _ _ us hl => by obtain ⟨_, rfl⟩ := rX hl; rfl)
 have D4 := h4.df (ps := ["slopes"]) X G (fun _ _ _ _ _ _ us hl => by obtain ⟨_, rfl⟩ := rX hl; rfl)
 have D5 := h5.df (ps := ["slopes", "others"]) X G (fun _ _ _ _ _ _ us hl => by obtain ⟨_, _, rfl⟩ := oW hl; rfl)
 have D6 := h6.df (ps := ["_law_script", "_law_k"]) X G (fun _ _ _ _ _ _ us hl => by obtain ⟨_, _, rfl⟩ := oW hl; rfl)
 have D7 := h7.df (ps := ["_law_cell", "_law_k"]) X G (fun _ _ _ _ _ _ us hl => by obtain ⟨_, _, rfl⟩ := oW hl; rfl)
 have D8 := h8.df (ps := ["_law_found"]) X G (fun _ _ _ _ _ _ us hl => by obtain ⟨_, rfl⟩ := rX hl; rfl)
 have D9 := h9.df (ps := ["_law_cell", "_law_more"]) X G (fun _ _ _ _ _ _ us hl => by obtain ⟨_, _, rfl⟩ := oW hl; rfl)
 have D10 := h10.df (ps := ["_law_kind"]) X G (fun _ _ _ _ _ _ us hl => by obtain ⟨_, rfl⟩ := rX hl; rfl)
 have D11 := h11.df (ps := ["_law_wide", "_law_tall"]) X G (fun _ _ _ _ _ _ us hl => by obtain ⟨_, _, rfl⟩ := oW hl; rfl)
 have D12 := h12.df (ps := ["_law_kind", "_law_p", "_law_q"]) X G (fun _ _ _ _ _ _ us hl => by obtain ⟨_, _, _, rfl⟩ := aCg hl; rfl)
 have D13 := h13.df (ps := ["_law_one", "_law_other"]) X G (fun _ _ _ _ _ _ us hl => by obtain ⟨_, _, rfl⟩ := oW hl; rfl)
 have D14 := h14.df (ps := ["_law_places", "_law_by", "_law_x", "_law_y", "_law_turned"]) X G (fun _ _ _ _ _ _ us hl => by obtain ⟨_, _, _, _, _, rfl⟩ := aIl hl; rfl)
 have B : Blt mg := ⟨PySem.W.mg_none_of X G z0, PySem.W.mg_none_of X G z1, PySem.W.mg_none_of X G z2, PySem.W.mg_none_of X G z3, PySem.W.mg_none_of X G z4, PySem.W.mg_none_of X G z5, PySem.W.mg_none_of X G z6, PySem.W.mg_none_of X G z7, PySem.W.mg_none_of X G z8, PySem.W.mg_none_of X G z9, PySem.W.mg_none_of X G z10, PySem.W.mg_none_of X G z11, PySem.W.mg_none_of X G z12⟩
 let c : Cls := ⟨⟩
 have C : oJ mg c := ⟨⟩
 have hk : lD K c := ⟨xii, xib, xtt, xll⟩
 refine ⟨PySem.W.fnOf "law" "law" (fA oG) (dH oG) (aP oG) .none .none .none m15 none (.ref c15) .none, fun s v => .of_eq rfl, fun base kb nb => ?_⟩
 have O : oM mg base c := ⟨⟩
 have G1 : Cal l.prog w K mg base 1 "turn" 3 (fE K c) := aDq D1 B C O hk
 have G6 : Cal l.prog w K mg base 1 "_law_cell_at" 2 (aT K c) := jR D6 B C O hk
 have G7 : Cal l.prog w K mg base 1 "_law_stir" 2 (bF K c) := nE D7 B C O hk
 have G8 : Cal l.prog w K mg base 1 "_law_whole" 1 (bS K c) := lT D8 B C O hk
 have G9 : Cal l.prog w K mg base 1 "_law_kind_by" 2 (bI K c) := jH D9 B C O hk
 have G11 : Cal l.prog w K mg base 1 "_law_square" 2 (aX K c) := kB D11 B C O hk
 have G12 : Cal l.prog w K mg base 1 "_law_reach" 3 (bH K c) := mG D12 B C O hk
 have G14 : Cal l.prog w K mg base 1 "_law_put" 5 (bW K c) := oV D14 B C O hk
 have G2 : Cal l.prog w K mg base 2 "chain" 1 (dY K c) := yG D2 B C O hk G1
 have G10 : Cal l.prog w K mg base 2 "_law_tuples_by" 1 (aV K c) := hU D10 B C O hk G11
 have G13 : Cal l.prog w K mg base 2 "_law_due_of" 2 (bG K c) := j9 D13 B C O hk G12
 have G3 : Cal l.prog w K mg base 3 "hull" 1 (d9 K c) := aDz D3 B C O hk G2
 have G4 : Cal l.prog w K mg base 4 "area" 1 (gJ K c) := aD9 D4 B C O hk G1 G3
 have G5 : Cal l.prog w K mg base 5 "mixed" 2 (fT K c) := y6 D5 B C O hk G4 G3
 exact aF8 hk (aGv (aBm (st := oG) h15.l h15.c h15.k) B C O hk G8 G5 G13 G14 G10 G7 G6 G9)
theorem walk {l : PySem.W.OpenLaw} {q : Program} {loose : List Str} {XP : (Str -> Option Value) -> Heap -> Prop} {YP : World -> Heap -> Prop} {d : DefRec} {K : Params -> PySem.W.Frag} (hn : l.most = some 63) (hdf : d.params.defaults = [])
  (hY : ∀ (w : World) (h : Heap), YP w h -> (K w.params).In h) (hK : ∀ w : World, u5 (K w.params) = true)
  (F : ∀ (w : World) (mg : Str -> Option Value) (fa : Addr) (h : Heap), (K w.params).In h -> h.Ns mainGlobals mg -> mg d.name = some (.ref fa) ->
   ∃ fd : FuncData, (∀ (s : Shared) (u : Value), BindsTo s fd ⟨[u], []⟩ [("_law_script", u)]) /\ ∀ base : Heap, (K w.params).In base -> base.Ns mainGlobals mg -> FnOk l.prog w (K w.params) mg base (CXr l.prog w) 6 fa fd ["_law_script"] aAf) :
  PySem.W.WalkO q loose XP YP l.row.toRowW d [] (fun f vs => PySem.call f vs) :=
 L2.aDk (n := 63) (k := 6) (x := "_law_script") (CX := fun w => CXr l.prog w) (sp := fun _ => aAf) hn (by decide) hdf ⟨rfl, by decide, by decide⟩ hY F (fun w _ a ns hl _ hS => ⟨a, ns, rfl, hS.elim id (fun ⟨_, _, _, e, hc, _⟩ => (sJ (hK w) e hc).elim), hl, fun _ => rfl⟩) fun _ _ _ _ _ ⟨_, _, _, _, _, _, _, z⟩ => z
end My
namespace Hd
open PySem PySem.W PyProof.Rows L2 My
abbrev pr : Program := PySem.Challenge.pw_creasecurve_k36_mixed_areas_known
noncomputable def vs (s : String) (t : Nat) : Value := .str (Str.ofString s) t
noncomputable def en (P : Params) (s : String) (t : Nat) (v : Value) : DictEntry := ⟨PyData.keyHash P (Str.ofString s), .str (Str.ofString s) t, v⟩
noncomputable def fd (n q : String) (a : Arguments) (b : FuncBody) (s : Scope) (g : Nat) (c : List (Str × Nat)) (d k dc m : Value) (an : Option Nat) (co ct : Value) (bl : Nat) : FuncData := ⟨Str.ofString n, Str.ofString q, a, b, s, g, c, d, k, dc, m, an, co, ct, bl⟩
noncomputable def pE (e : DictEntry) : Obj -> Obj
 | ⟨c, d, .dict es n, s⟩ => ⟨c, d, .dict (es.push e) (n + 1), s⟩
 | o => o
noncomputable def rE (i : Nat) (v : Value) : Obj -> Obj
 | ⟨c, d, .dict es n, s⟩ => ⟨c, d, .dict (es.modify i fun e => ⟨e.hash, e.key, v⟩) n, s⟩
 | o => o
noncomputable def pF (vs : List Value) : Obj -> Obj
 | ⟨c, d, .fields xs, s⟩ => ⟨c, d, .fields (xs ++ vs.toArray), s⟩
 | o => o
noncomputable def tu (xs : List Value) : Obj := ⟨.type "tuple", none, .seq xs.toArray 0, #[]⟩
noncomputable def fl (xs : List Value) : Obj := ⟨.none, none, .fields xs.toArray, #[]⟩
noncomputable def fo (i : Nat) (nm : String) (g : Nat) (m co c : Value) : Obj := ⟨c, none, .func (fd nm nm (fA (top i)) (.stmts (dH (top i))) (aP (top i)) g [] .none .none .none m none co .none 0), #[]⟩
noncomputable def co (nm : String) (t u l k a c : Nat) (v x : Value) (f : Nat) : Obj := ⟨.type "code", none, .fields #[vs nm t, vs nm (t + 1), vs "/claim/cut.py" (t + 2), .int l 0, .int k 0, .int 0 0, .int 0 0, .int 3 0, .ref a, .bool true, .int 181 0, .ref c, .none, v, x, .ref f, .int u 0, .int l 0, vs "/claim/cut.py" (u + 1)], #[]⟩
noncomputable def vL (t : Nat) : List String -> List Value
 | [] => []
 | s :: r => vs s t :: vL (t + 1) r
noncomputable def d7 (P : Params) (i : Nat) (nm : String) (m : Value) (l k : Nat) (vn : List String) (n t u : Nat) (T : BT) : BT := ((((((((T.set 3 (pE (en P nm (u + 2) (.ref (n + 6))))).set 12 (pF [.int l 0, .int 0 0, .ref (n + 5)])).ins n (tu [])).ins (n + 1) (fl [])).ins (n + 2) (tu (vL (t + 3) vn))).ins (n + 3) (tu [])).ins (n + 4) (fo i nm 0 .none .none .none)).ins (n + 5) (co nm t u l k n (n + 1) (.ref (n + 2)) (.ref (n + 3)) (n + 4))).ins (n + 6) (fo i nm 3 m (.ref (n + 5)) (.type "function"))
noncomputable def d5 (P : Params) (i : Nat) (nm : String) (m : Value) (l k n t u : Nat) (T : BT) : BT := ((((((T.set 3 (pE (en P nm (u + 2) (.ref (n + 4))))).set 12 (pF [.int l 0, .int 0 0, .ref (n + 3)])).ins n (tu [])).ins (n + 1) (fl [])).ins (n + 2) (fo i nm 0 .none .none .none)).ins (n + 3) (co nm t u l k n (n + 1) .none .none (n + 2))).ins (n + 4) (fo i nm 3 m (.ref (n + 3)) (.type "function"))
noncomputable def aHz : Env := { scope := pr.main.scope, locals := mainNs, globals := mainNs, cells := [], code := (.ref 13), frame := some 14 }
noncomputable def cE : Code := .body (behindTheImports pr) aHz
noncomputable def ol (P : Params) : List Obj := [boot_o_0 P, boot_o_1 P, boot_o_2 P, boot_o_3 P, boot_o_4 P, boot_o_5 P, boot_o_6 P, boot_o_7 P, boot_o_8 P, boot_o_9 P, boot_o_10 P, (⟨(.type "tuple"), none, (.seq #[] 0), #[]⟩ : Obj), (⟨.none, none, (.fields #[]), #[]⟩ : Obj), (⟨(.type "code"), none, (.fields #[(vs "<module>" 182), (vs "<module>" 183), (vs "/claim/cut.py" 184), (.int 1 0), (.int 0 0), (.int 0 0), (.int 0 0), (.int 0 0), (.ref 11), (.bool false), (.int 181 0), (.ref 12), .none, .none, .none, .none, (.int 185 0), (.int 1 0), (vs "/claim/cut.py" 186)]), #[]⟩ : Obj), (⟨(.type "frame"), none, .plain, #[(some (.ref 13)), (some (.ref 3)), (some (.ref 3)), none, (some (vs "__main__" 164)), none, (some (.ref 0))]⟩ : Obj)]
noncomputable def bt : Nat -> List Obj -> BT -> BT
 | _, [], T => T
 | i, o :: r, T => bt (i + 1) r (T.ins i o)
noncomputable def t0 (P : Params) : BT := bt 0 (ol P) .nil
noncomputable abbrev sT (t : Params -> BT) (n k : Nat) (w : World) (os : OsState) : SharedT := ⟨t w.params, n, {}, ⟨[]⟩, boot_drawn, k, os⟩
abbrev B : List Frame := [topFrame ⟨0, 0, 0, 0⟩]
theorem aEu (w : World) : (fun os => topGo treeTable pr w 11 (some (.ref 6)) 12 ⟨boot_heap w.params, ⟨[]⟩, boot_drawn, boot_toks, os⟩ (topStub pr)) = (fun os => some ((⟨⟨⟨ol w.params⟩, {}⟩, ⟨[]⟩, boot_drawn, 187, os⟩ : Shared), ⟨denote treeTable cE, cE, ⟨0, 0, 0, 0⟩, B⟩)) := by
 rw [PySem.W.Fast.te15667345088766844465, PySem.W.Fast.te14364793385576792824, PySem.W.Fast.te11892475500146522536]
 kernel_rfl
theorem aHg (w : World) : (fun os => segRun treeTable pr w 11 (some (.ref 6)) 1 1 ⟨⟨⟨ol w.params⟩, {}⟩, ⟨[]⟩, boot_drawn, 187, os⟩ (blockOf (behindTheImports pr) aHz cE ⟨0, 0, 0, 0⟩ B)) = (fun os => some (.next, (sT t0 15 187 w os).abs, cE, ⟨0, 0, 0, 0⟩)) := by
 rw [PySem.W.Fast.te14374325043358763698, PySem.W.Fast.te14364793385576792824]
 kernel_rfl
noncomputable def t1 (P : Params) : BT :=
 (t0 P) |>
 (fun T => T.set 3 (rE 0 (vs "creasecurve.hulls" 187))) |>
 (d7 P 1 "turn" (vs "creasecurve.hulls" 187) 2 3 ["start", "middle", "end", "along", "across"] 15 189 197) |>
 (d7 P 2 "chain" (vs "creasecurve.hulls" 187) 6 1 ["points", "kept", "point"] 22 200 206) |>
 (d7 P 3 "hull" (vs "creasecurve.hulls" 187) 13 1 ["slopes", "rows", "there", "back"] 29 209 216) |>
 (d5 P 4 "area" (vs "creasecurve.hulls" 187) 20 1 36 219 222) |>
 (fun T => T.set 3 (rE 0 (vs "creasecurve.meetings" 225))) |>
 (d5 P 6 "mixed" (vs "creasecurve.meetings" 225) 24 2 41 227 230) |>
 (fun T => T.set 3 (rE 0 (vs "law_creasecurve_k36_mixed_areas_known" 233))) |>
 (d7 P 8 "_law_cell_at" (vs "law_creasecurve_k36_mixed_areas_known" 233) 32 2 ["_law_script", "_law_k"] 46 235 240) |>
 (d7 P 9 "_law_stir" (vs "law_creasecurve_k36_mixed_areas_known" 233) 36 2 ["_law_cell", "_law_k", "_law_c", "_law_low"] 53 243 250) |>
 (d7 P 10 "_law_whole" (vs "law_creasecurve_k36_mixed_areas_known" 233) 40 1 ["_law_found"] 60 253 257) |>
 (d7 P 11 "_law_kind_by" (vs "law_creasecurve_k36_mixed_areas_known" 233) 42 2 ["_law_cell", "_law_more", "_law_c", "_law_size"] 67 260 267) |>
 (d5 P 12 "_law_tuples_by" (vs "law_creasecurve_k36_mixed_areas_known" 233) 52 1 74 270 273) |>
 (d7 P 13 "_law_square" (vs "law_creasecurve_k36_mixed_areas_known" 233) 60 2 ["_law_wide", "_law_tall", "_law_found", "_law_i", "_law_j"] 79 276 284) |>
 (d7 P 14 "_law_reach" (vs "law_creasecurve_k36_mixed_areas_known" 233) 66 3 ["_law_kind", "_law_p", "_law_q", "_law_some"] 86 287 294)
noncomputable def g0 : List Stmt := [top 0, top 1, top 2, top 3, top 4, top 5, top 6, top 7, top 8, top 9, top 10, top 11, top 12, top 13, top 14]
theorem hg0 (w : World) : (fun os => segRunT treeTable pr w 11 (some (.ref 6)) 1 390 (sT t0 15 187 w os) (piecesOf g0 aHz cE ⟨0, 0, 0, 0⟩ B)) = (fun os => some (.next, sT t1 93 297 w os, cE, ⟨66, 0, 74, 12⟩)) := by
 rw [PySem.W.Fast.te10110043849684766642, PySem.W.Fast.te14364793385576792824]
 kernel_rfl
noncomputable def t2 (P : Params) : BT :=
 (t1 P) |>
 (d7 P 15 "_law_due_of" (vs "law_creasecurve_k36_mixed_areas_known" 233) 75 2 ["_law_one", "_law_other"] 93 297 302) |>
 (d5 P 16 "_law_put" (vs "law_creasecurve_k36_mixed_areas_known" 233) 89 5 100 305 308) |>
 (d5 P 17 "law" (vs "law_creasecurve_k36_mixed_areas_known" 233) 94 1 105 311 314)
noncomputable def g1 : List Stmt := [top 15, top 16, top 17]
theorem hg1 (w : World) : (fun os => segRunT treeTable pr w 11 (some (.ref 6)) 1 83 (sT t1 93 297 w os) (piecesOf g1 aHz cE ⟨66, 0, 74, 12⟩ B)) = (fun os => some (.next, sT t2 110 317 w os, cE, ⟨94, 0, 112, 36⟩)) := by
 rw [PySem.W.Fast.te10110043849684766642, PySem.W.Fast.te14364793385576792824]
 kernel_rfl
noncomputable def hF (P : Params) : Heap := absHeap (t2 P) 110 {}
theorem aJp (w : World) : (fun os => topRun treeTable pr w 11 (some (.ref 6)) 2 (sT t2 110 317 w os).abs ⟨doneF .next, cE, ⟨94, 0, 112, 36⟩, B⟩) = (fun os => some ((⟨hF w.params, ⟨[]⟩, boot_drawn, 317, os⟩ : Shared))) := by
 rw [PySem.W.Fast.te14082659384304107361, PySem.W.Fast.te14364793385576792824]
 kernel_rfl
theorem hb : behindTheImports pr = g0 ++ (g1 ++ []) := by kernel_rfl
theorem aKq (w : World) (os : OsState) : topRun treeTable pr w 11 (some (.ref 6)) (12 + (1 + (390 + (83 + (2))))) ⟨boot_heap w.params, ⟨[]⟩, boot_drawn, boot_toks, os⟩ (topStub pr) = some ⟨hF w.params, ⟨[]⟩, boot_drawn, 317, os⟩ := go_top (congrFun (aEu w) os) (piece_block (congrFun (aHg w) os) (by
 rw [hb]
 exact piece_app (segRun_of (congrFun (hg0 w) os)) (piece_app (segRun_of (congrFun (hg1 w) os)) (piece_nil (congrFun (aJp w) os)))))
noncomputable def qv : Program := { pr with main := { pr.main with body := [top 1, top 2, top 3, top 4, top 6, top 8, top 9, top 10, top 11, top 12, top 13, top 14, top 15, top 16, top 17] } }
noncomputable def ks : List Nat := [3, 20, 21, 27, 28, 34, 35, 39, 40, 44, 45, 51, 52, 58, 59, 65, 66, 72, 73, 77, 78, 84, 85, 91, 92, 98, 99, 103, 104, 108, 109]
noncomputable def K (P : Params) : Frag := ks.map fun a => (a, ((t2 P).get a).getD default)
theorem ksE (P : Params) : ks = (K P).map (·.1) := by kernel_rfl
noncomputable abbrev hk : Hook := kHook K ks ksE
noncomputable abbrev xt : Shared -> Bool := fun s => xlAt qv [] s && recOk [] s
theorem aIi (w : World) : ((boot_heap w.params).isNs mainGlobals && (⟨[]⟩ : Array GenState).size == 0, (boot_heap w.params).objs.size, (boot_heap w.params).nsMap mainGlobals "__annotations__") = (true, 11, (some (.ref 6))) := by kernel_rfl
theorem aJg (w : World) : (fun os : OsState => (staticsOk (importedModules pr.main.body) (boot_heap w.params) (hF w.params) && namesBound pr (hF w.params) && gensDone ⟨hF w.params, ⟨[]⟩, boot_drawn, 317, os⟩ && laidKept (boot_heap w.params) (hF w.params))) = fun _ => true := by
 rw [PySem.W.Fast.te5923862056798008813]
 kernel_rfl
theorem aIf (w : World) : (fun os : OsState => openSeen qv [] (importedModules pr.main.body) xt true ⟨hF w.params, ⟨[]⟩, boot_drawn, 317, os⟩) = fun _ => openGood qv [] := by
 rw [PySem.W.Fast.te4187177175401517315, PySem.W.Fast.te5923862056798008813]
 kernel_rfl
theorem aJf (w : World) : (fun os : OsState => hk.obs ⟨hF w.params, ⟨[]⟩, boot_drawn, 317, os⟩) = fun _ => hk.val w := by kernel_rfl
theorem left : LeftO pr qv [] xt hk.obs hk.val 1068 := LeftO.of_pieces (boot_open (by kernel_rfl) (by decide) (fun _ => by kernel_rfl)) aIi aKq (by decide) fun w => funext fun os => looks_pair (congrFun (aJg w) os) (looks_pair (congrFun (aIf w) os) (congrFun (aJf w) os))
theorem h1 (w : World) : FnAt (K w.params) "turn" qG 21 (vs "creasecurve.hulls" 187) 20 := by constructor <;> kernel_rfl
theorem h2 (w : World) : FnAt (K w.params) "chain" lY 28 (vs "creasecurve.hulls" 187) 27 := by constructor <;> kernel_rfl
theorem h3 (w : World) : FnAt (K w.params) "hull" qL 35 (vs "creasecurve.hulls" 187) 34 := by constructor <;> kernel_rfl
theorem h4 (w : World) : FnAt (K w.params) "area" qT 40 (vs "creasecurve.hulls" 187) 39 := by constructor <;> kernel_rfl
theorem h5 (w : World) : FnAt (K w.params) "mixed" lH 45 (vs "creasecurve.meetings" 225) 44 := by constructor <;> kernel_rfl
theorem h6 (w : World) : FnAt (K w.params) "_law_cell_at" cS 52 (vs "law_creasecurve_k36_mixed_areas_known" 233) 51 := by constructor <;> kernel_rfl
theorem h7 (w : World) : FnAt (K w.params) "_law_stir" eL 59 (vs "law_creasecurve_k36_mixed_areas_known" 233) 58 := by constructor <;> kernel_rfl
theorem h8 (w : World) : FnAt (K w.params) "_law_whole" dQ 66 (vs "law_creasecurve_k36_mixed_areas_known" 233) 65 := by constructor <;> kernel_rfl
theorem h9 (w : World) : FnAt (K w.params) "_law_kind_by" cQ 73 (vs "law_creasecurve_k36_mixed_areas_known" 233) 72 := by constructor <;> kernel_rfl
theorem h10 (w : World) : FnAt (K w.params) "_law_tuples_by" cA 78 (vs "law_creasecurve_k36_mixed_areas_known" 233) 77 := by constructor <;> kernel_rfl
theorem h11 (w : World) : FnAt (K w.params) "_law_square" dA 85 (vs "law_creasecurve_k36_mixed_areas_known" 233) 84 := by constructor <;> kernel_rfl
theorem h12 (w : World) : FnAt (K w.params) "_law_reach" dR 92 (vs "law_creasecurve_k36_mixed_areas_known" 233) 91 := by constructor <;> kernel_rfl
theorem h13 (w : World) : FnAt (K w.params) "_law_due_of" dD 99 (vs "law_creasecurve_k36_mixed_areas_known" 233) 98 := by constructor <;> kernel_rfl
theorem h14 (w : World) : FnAt (K w.params) "_law_put" fI 104 (vs "law_creasecurve_k36_mixed_areas_known" 233) 103 := by constructor <;> kernel_rfl
theorem h15 (w : World) : FnAt (K w.params) "law" oG 109 (vs "law_creasecurve_k36_mixed_areas_known" 233) 108 := by constructor <;> kernel_rfl
end Hd
open PySem PySem.W PyProof.Rows
theorem Hd.said : PySem.Challenge.rw_creasecurve_k36_mixed_areas_known.wellSaid = true := by kernel_rfl
set_option maxRecDepth 100000 in
set_option maxHeartbeats 0 in
theorem PySem.Challenge.cw_creasecurve_k36_mixed_areas_known_holds : PySem.Challenge.rw_creasecurve_k36_mixed_areas_known.Holds := by
 refine holds_law Hd.said fun said => ?_
 refine holds_open (q := Hd.qv) (Xt := Hd.xt) (XP := XL Hd.qv []) (YP := Hd.hk.says) (N := 1068) Hd.left Hd.hk.of Hd.hk.keeps (fun s e => xl_of s (Bool.and_eq_true_iff.mp e).1) XL.keeps (by rfl) (by rfl) (by rfl) (fun s e => recFacts_of (Bool.and_eq_true_iff.mp e).2) (by rfl) said (by decide +kernel) ⟨rfl, rfl, rfl, rfl, rfl, by decide +kernel⟩ ?hw ?hc
 case hw => w_witness2
 refine My.walk (l := PySem.Challenge.rw_creasecurve_k36_mixed_areas_known) rfl rfl (fun w h Y => PySem.W.kIn_of Y) (fun w => by kernel_rfl) ?F
 case F =>
  intro w mg fa h KX G hmg
  exact My.all_mk KX G hmg (Hd.h1 w) (Hd.h2 w) (Hd.h3 w) (Hd.h4 w) (Hd.h5 w) (Hd.h6 w) (Hd.h7 w) (Hd.h8 w) (Hd.h9 w) (Hd.h10 w) (Hd.h11 w) (Hd.h12 w) (Hd.h13 w) (Hd.h14 w) (Hd.h15 w) (by kernel_rfl) (by kernel_rfl) (by kernel_rfl) (by kernel_rfl) (by kernel_rfl) (by kernel_rfl) (by kernel_rfl) (by kernel_rfl) (by kernel_rfl) (by kernel_rfl) (by kernel_rfl) (by kernel_rfl) (by kernel_rfl) (by kernel_rfl) (by kernel_rfl) (by kernel_rfl) (by kernel_rfl)

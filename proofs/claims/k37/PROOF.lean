import PyProof.Rows.All
import Wide.All
import OpenK.AllK
import Wide.FinOn
import Lean
import PyProof.EqAt
import PyProof.EqKinds
import PyProof.TupleCall
import PySem.Challenge.RW_creasecurve_k37_mixed_areas_add
set_option Elab.async false
set_option linter.all false
set_option maxRecDepth 100000
namespace L2
open PySem PySem.Spec PyProof.Rows
abbrev Key := Sum Int Str
def aEo : Key -> Value -> Bool
 | .inl k, v => Value.isInt k v
 | .inr x, v => Value.isStrOf x v
def aHu (w : World) : Key -> Int
 | .inl k => hashInt k
 | .inr x => hashStr w x
theorem bP : ∀ {k : Key} {v : Value}, aEo k v = true -> (∃ i t, k = Sum.inl i /\ v = Value.int i t) \/ (∃ x t, k = Sum.inr x /\ v = Value.str x t)
 | .inl i, v, h => by
  obtain ⟨t, e⟩ := Value.isInt_shape (k := i) (v := v) h
  exact .inl ⟨i, t, rfl, e⟩
 | .inr x, v, h => by
  obtain ⟨t, e⟩ := Value.isStrOf_shape (x := x) (v := v) h
  exact .inr ⟨x, t, rfl, e⟩
theorem aE4 (a b : Int) : decide ((Sum.inl a : Key) = Sum.inl b) = (a == b) := by
 by_cases e : a = b
 ·subst e; simp
 ·have h : ¬ (Sum.inl a : Key) = Sum.inl b := fun q => e (Sum.inl.inj q)
  rw [decide_eq_false h]
  exact (beq_eq_false_iff_ne.mpr e).symm
theorem aD8 (a b : Str) : decide ((Sum.inr a : Key) = Sum.inr b) = decide (a = b) := by
 by_cases e : a = b
 ·subst e; simp
 ·have h : ¬ (Sum.inr a : Key) = Sum.inr b := fun q => e (Sum.inr.inj q)
  rw [decide_eq_false h, decide_eq_false e]
theorem aFj (a : Int) (b : Str) : decide ((Sum.inl a : Key) = Sum.inr b) = false := decide_eq_false (fun q => nomatch q)
theorem aE5 (a : Str) (b : Int) : decide ((Sum.inr a : Key) = Sum.inl b) = false := decide_eq_false (fun q => nomatch q)
def vQ (prog : Program) (w : World) : PySem.KeyKind prog w Key where
 is := aEo
 hash := aHu w
 inj := fun v a b ha hb => by
  rcases bP ha with ⟨i, t, rfl, rfl⟩ | ⟨x, t, rfl, rfl⟩
  ·rcases bP hb with ⟨j, u, rfl, e⟩ | ⟨y, u, rfl, e⟩
   ·injection e with e1 _; rw [e1]
   ·exact nomatch e
  ·rcases bP hb with ⟨j, u, rfl, e⟩ | ⟨y, u, rfl, e⟩
   ·exact nomatch e
   ·injection e with e1 _; rw [e1]
 byValue := fun k v h => by
  rcases bP h with ⟨i, t, rfl, rfl⟩ | ⟨x, t, rfl, rfl⟩ <;> rfl
 pyHash := fun hv h => by
  rcases bP hv with ⟨i, t, rfl, rfl⟩ | ⟨x, t, rfl, rfl⟩
  ·exact wpAny_pyHash_int h
  ·exact wpAny_pyHash_str h
 eqBool := fun hu hv h => by
  rcases bP hu with ⟨i, t, rfl, rfl⟩ | ⟨x, t, rfl, rfl⟩
  ·rcases bP hv with ⟨j, u, rfl, rfl⟩ | ⟨y, u, rfl, rfl⟩
   ·rw [aE4] at h; exact wpAny_eqBool_int h
   ·rw [aFj] at h; exact SeqAt.EqAt.int_str i t y u _ _ _ _ h
  ·rcases bP hv with ⟨j, u, rfl, rfl⟩ | ⟨y, u, rfl, rfl⟩
   ·rw [aE5] at h; exact SeqAt.EqAt.str_int x t j u _ _ _ _ h
   ·rw [aD8] at h; exact wpAny_eqBool_str h
 «strs» := fun k x t v h => by
  rcases bP h with ⟨i, u, rfl, e⟩ | ⟨y, u, rfl, e⟩
  ·exact nomatch e
  ·injection e with e1 _
   subst e1
   cases v <;> rfl
inductive V where
 | non | bl (b : Bool) | int (i : Int) | str (x : Str) | byt (b : Array UInt8) | flt (b : UInt64) | ref (a : Addr) | ty (n : String)
 deriving DecidableEq
def RelV : V -> Value -> Prop
 | .non, u => u = Value.none
 | .bl b, u => u = Value.bool b
 | .int i, u => ∃ t, u = Value.int i t
 | .str x, u => ∃ t, u = Value.str x t
 | .byt b, u => ∃ t, u = Value.bytes b t
 | .flt b, u => ∃ t, u = Value.float b t
 | .ref a, u => u = Value.ref a
 | .ty n, u => u = Value.type n
abbrev Vals : List V -> List Value -> Prop := Paired RelV
theorem Vals.length {xs : List V} {us : List Value} (r : Vals xs us) : xs.length = us.length := Paired.length r
theorem Vals.get : ∀ {xs : List V} {us : List Value} {i : Nat} {x : V}, Vals xs us -> xs[i]? = some x -> ∃ u, us[i]? = some u /\ RelV x u
 | _, _, _, _, .nil, e => by simp at e
 | _, _, 0, _, .cons r _, e => by simp at e; subst e; exact ⟨_, rfl, r⟩
 | _, _, i + 1, x, .cons _ t, e => by
  obtain ⟨u, h1, h2⟩ := Vals.get (i := i) (x := x) t (by simpa using e)
  exact ⟨u, by simpa using h1, h2⟩
theorem Vals.append : ∀ {xs ys : List V} {us ws : List Value}, Vals xs us -> Vals ys ws -> Vals (xs ++ ys) (us ++ ws)
 | _, _, _, _, .nil, s => s
 | _, _, _, _, .cons r t, s => .cons r (Vals.append t s)
theorem Vals.take : ∀ {xs : List V} {us : List Value} (n : Nat), Vals xs us -> Vals (xs.take n) (us.take n)
 | _, _, 0, _ => .nil
 | _, _, _ + 1, .nil => .nil
 | _, _, n + 1, .cons r t => .cons r (Vals.take n t)
theorem Vals.drop : ∀ {xs : List V} {us : List Value} (n : Nat), Vals xs us -> Vals (xs.drop n) (us.drop n)
 | _, _, 0, r => r
 | _, _, _ + 1, .nil => .nil
 | _, _, n + 1, .cons _ t => Vals.drop n t
def aH3 : Option V -> Option Value -> Prop
 | some v, some u => RelV v u
 | none, none => True
 | _, _ => False
def KV {κ : Type} : List (κ × V) -> List (κ × Value) -> Prop := Paired fun (p : κ × V) (q : κ × Value) => p.1 = q.1 /\ RelV p.2 q.2
def kV : Key -> V
 | .inl i => .int i
 | .inr x => .str x
inductive HO where
 /-- a list -/
 | lst (xs : List V)
 /-- a tuple (never changes) -/
 | tup (xs : List V)
 /-- a dict whose keys are ints and texts; one whose keys are tuples of ints and texts (the empty one is both) -/
 | dK (kvs : List (Key × V)) | dT (kvs : List (List Key × V))
 /-- a set of ints: its members, its size -/
 | set (S : Int -> Bool) (n : Nat)
 /-- an instance of the class at C, its dict at dx, its attributes -/
 | ins (C dx : Addr) (fs : List (Str × V))
 /-- the dict of the instance at x -/
 | own (x : Addr)
 /-- the dict of an exception -/
 | xd (fs : List (Str × V))
 /-- a bound method, f of x -/
 | met (f x : Addr)
 /-- a range object lo, lo + 1, .. below hi -/
 | rng (lo hi : Int)
 /-- a thing that is known to the object (the script; a dict while a loop walks it): read, never written while it is so -/
 | frz (o : Obj) (u : HO)
 /-- a code object's table -/
 | tbl (ps : Array Value)
 /-- any other thing, by what is true of its one object (a def of one's own: SetO a S n := HO.ext fun h => ..) -/
 | ext (φ : Heap -> Prop)
abbrev Hp := Addr -> Option HO
def upd (H : Hp) (a : Addr) (o : HO) : Hp := fun b => if b = a then some o else H b
theorem a9 {H : Hp} {a : Addr} {o : HO} : upd H a o a = some o := by unfold upd; rw [if_pos rfl]
theorem a7 {H : Hp} {a b : Addr} {o : HO} (h : b ≠ a) : upd H a o b = H b := by unfold upd; rw [if_neg h]
theorem bR {H : Hp} {a b : Addr} {o : HO} (h : H a = some o) (h' : H b = none) : a ≠ b := by
 intro e; subst e; rw [h] at h'; cases h'
section
variable (P : Program) (w : World)
def ObjOk (H : Hp) (h : Heap) (a : Addr) : HO -> Prop
 | .lst xs => xs.length <= sizeLine /\ ∃ (its : List Value) (n : Nat), Vals xs its /\ h.get? a = some { cls := .type "list", data := .seq its.toArray n }
 | .tup xs => xs.length <= sizeLine /\ ∃ its : List Value, Vals xs its /\ IsTup h a its.toArray
 | .dK kvs => kvs.length <= sizeLine /\ (a == sysModules) = false /\ ∃ vs, KV kvs vs /\ h.DictOf (vQ P w) a vs
 | .dT kvs => kvs.length <= sizeLine /\ (a == sysModules) = false /\ ∃ xs : List (List Key × Addr × Value),
   Paired (fun (p : List Key × V) (q : List Key × Addr × Value) => p.1 = q.1 /\ H q.2.1 = some (.tup (p.1.map kV)) /\ RelV p.2 q.2.2) kvs xs /\
   ∃ o es ep, h.get? a = some o /\ o.ExactDict /\ o.data = .dict es ep /\ es.toList = xs.map (entryOfKey (tupleKind (vQ P w))) /\ (xs.map (·.1)).Nodup
 | .set S n => h.SetOf (intKind P w) a S n
 | .ins C dx fs => H dx = some (.own a) /\ fs.length <= 1000 /\ dx ≠ a /\ h.get? a = some (PySem.W.instObj C dx) /\
   ∃ mA, h.Ns1 dx mA /\ (∀ f, aH3 (fs.lookup f) (mA f)) /\ PySem.Within mA (fs.map (·.1))
 | .own _ => ∃ o, h.get? a = some o
 | .xd fs => ∃ mA, h.Ns1 a mA /\ ∀ f, aH3 (fs.lookup f) (mA f)
 | .rng lo hi => ∃ t u v, h.get? a = some { cls := .type "range", data := .fields #[.int lo t, .int hi u, .int 1 v] }
 | .frz o u => h.get? a = some o /\ ObjOk H h a u
 | .tbl ps => h.get? a = some { cls := .none, data := .fields ps }
 | .met f x => h.get? a = some (PySem.W.methodObj (.ref f) (.ref x))
 | .ext φ => φ h /\ (∃ o, h.get? a = some o) /\ ∀ h1 h2 : Heap, φ h1 -> (∀ o, h1.get? a = some o -> h2.get? a = some o) -> φ h2
def HOk (H : Hp) (h : Heap) : Prop := ∀ a o, H a = some o -> ObjOk P w H h a o
end
section
variable {P : Program} {w : World} {H H' : Hp} {h h' : Heap} {a : Addr} {o : HO}
theorem ObjOk.lt (x : ObjOk P w H h a o) : a < h.objs.size := by
 cases o with
 | lst xs => obtain ⟨_, _, _, _, e⟩ := x; exact Heap.lt_size e
 | tup xs => obtain ⟨_, _, _, p⟩ := x; exact p.lt
 | dK kvs => obtain ⟨_, _, _, _, o, _, _, e, _⟩ := x; exact Heap.lt_size e
 | dT kvs => obtain ⟨_, _, _, _, o, _, _, e, _⟩ := x; exact Heap.lt_size e
 | set S n => obtain ⟨o, _, _, _, e, _⟩ := x; exact Heap.lt_size e
 | ins C dx fs => obtain ⟨_, _, _, e, _⟩ := x; exact Heap.lt_size e
 | own y => obtain ⟨_, e⟩ := x; exact Heap.lt_size e
 | xd fs => obtain ⟨_, ⟨_, _, _, e, _⟩, _⟩ := x; exact Heap.lt_size e
 | rng lo hi => obtain ⟨_, _, _, e⟩ := x; exact Heap.lt_size e
 | frz ob u => obtain ⟨e, _⟩ := x; exact Heap.lt_size e
 | tbl ps => exact Heap.lt_size (show h.get? a = some _ from x)
 | met f y => exact Heap.lt_size (show h.get? a = some _ from x)
 | ext φ => obtain ⟨_, ⟨_, e⟩, _⟩ := x; exact Heap.lt_size e
theorem Paired.mapP {α β : Type} {F G : α -> β -> Prop} : ∀ {l₁ : List α} {l₂ : List β}, Paired F l₁ l₂ -> (∀ a b, F a b -> G a b) -> Paired G l₁ l₂
 | _, _, .nil, _ => .nil
 | _, _, .cons r t, f => .cons (f _ _ r) (Paired.mapP t f)
theorem ObjOk.stay (x : ObjOk P w H h a o) (k : ∀ b u, (b = a \/ H b = some (.own a)) -> h.get? b = some u -> h'.get? b = some u)
  (ho : ∀ b, H b = some (.own a) -> H' b = some (.own a)) (ht : ∀ b xs, H b = some (.tup xs) -> H' b = some (.tup xs)) : ObjOk P w H' h' a o := by
 induction o with
 | lst xs => obtain ⟨z, its, n, r, e⟩ := x; exact ⟨z, its, n, r, k _ _ (.inl rfl) e⟩
 | tup xs => obtain ⟨z, its, r, ob, e, c⟩ := x; exact ⟨z, its, r, ob, k _ _ (.inl rfl) e, c⟩
 | dK kvs => obtain ⟨z, y, vs, r, ob, es, ep, e, c⟩ := x; exact ⟨z, y, vs, r, ob, es, ep, k _ _ (.inl rfl) e, c⟩
 | dT kvs =>
  obtain ⟨z, y, xs, r, ob, es, ep, e, c⟩ := x
  exact ⟨z, y, xs, Paired.mapP r fun p q z => ⟨z.1, ht _ _ z.2.1, z.2.2⟩, ob, es, ep, k _ _ (.inl rfl) e, c⟩
 | set S n => obtain ⟨ob, es, ep, t, e, c⟩ := x; exact ⟨ob, es, ep, t, k _ _ (.inl rfl) e, c⟩
 | ins C dx fs =>
  obtain ⟨d, z, ne, e, mA, ⟨od, es, ep, e2, c⟩, r⟩ := x
  exact ⟨ho _ d, z, ne, k _ _ (.inl rfl) e, mA, ⟨od, es, ep, k _ _ (.inr d) e2, c⟩, r⟩
 | own y => obtain ⟨ob, e⟩ := x; exact ⟨ob, k _ _ (.inl rfl) e⟩
 | xd fs => obtain ⟨mA, ⟨od, es, ep, e, c⟩, r⟩ := x; exact ⟨mA, ⟨od, es, ep, k _ _ (.inl rfl) e, c⟩, r⟩
 | rng lo hi => obtain ⟨t, u, v, e⟩ := x; exact ⟨t, u, v, k _ _ (.inl rfl) e⟩
 | frz ob u ih => obtain ⟨e, q⟩ := x; exact ⟨k _ _ (.inl rfl) e, ih q⟩
 | tbl ps =>
  have e : h.get? a = some { cls := .none, data := .fields ps } := x
  show h'.get? a = some { cls := .none, data := .fields ps }
  exact k a _ (.inl rfl) e
 | met f y =>
  have e : h.get? a = some (PySem.W.methodObj (.ref f) (.ref y)) := x
  show h'.get? a = some (PySem.W.methodObj (.ref f) (.ref y))
  exact k a _ (.inl rfl) e
 | ext φ => obtain ⟨p, ⟨o, e⟩, st⟩ := x; exact ⟨st _ _ p fun o q => k _ _ (.inl rfl) q, ⟨o, k _ _ (.inl rfl) e⟩, st⟩
theorem HOk.lt (x : HOk P w H h) (e : H a = some o) : a < h.objs.size := (x a o e).lt
theorem HOk.fresh (x : HOk P w H h) (e : h.objs.size <= a) : H a = none := by
 cases q : H a with
 | none => rfl
 | some u => exact absurd (Nat.lt_of_lt_of_le (x.lt q) e) (Nat.lt_irrefl _)
theorem HOk.kept (x : HOk P w H h) (k : ∀ b u, h.get? b = some u -> h'.get? b = some u) : HOk P w H h' := fun a o e =>
 (x a o e).stay (fun b u _ q => k b u q) (fun _ q => q) fun _ _ q => q
theorem HOk.laid (x : HOk P w H h) (k : ∀ b u, h.get? b = some u -> h'.get? b = some u) (hp : h.objs.size <= a) (new : ObjOk P w (upd H a o) h' a o) : HOk P w (upd H a o) h' := fun b u e => by
 have hn := x.fresh hp
 by_cases hb : b = a
 ·subst hb; rw [a9] at e; cases e; exact new
 ·rw [a7 hb] at e
  exact (x b u e).stay (fun c v _ q => k c v q) (fun c q => by rw [a7 (bR q hn)]; exact q) fun c xs q => by rw [a7 (bR q hn)]; exact q
end
def Rd (H : Hp) (a : Addr) (u : HO) : Prop := H a = some u \/ ∃ o, H a = some (.frz o u)
theorem Rd.ok {P : Program} {w : World} {H : Hp} {h : Heap} {a : Addr} {u : HO} (r : Rd H a u) (x : HOk P w H h) : ObjOk P w H h a u := by
 rcases r with r | ⟨o, r⟩
 ·exact x a u r
 ·obtain ⟨_, q⟩ := x a _ r
  exact q
def Mut : Option HO -> Prop
 | some (.lst _) => True
 | some (.dK _) => True
 | some (.dT _) => True
 | some (.set _ _) => True
 | some (.ins _ _ _) => True
 | some (.ext _) => True
 | _ => False
section
variable {P : Program} {w : World} {H : Hp} {h h' : Heap} {x e : Addr} {o' : HO}
theorem HOk.write (ok : HOk P w H h) (mu : Mut (H x)) (he : e = x \/ H e = some (.own x)) (k : ∀ b u, b ≠ e -> h.get? b = some u -> h'.get? b = some u) (heo : ∃ u, h'.get? e = some u)
  (new : ObjOk P w (upd H x o') h' x o') : HOk P w (upd H x o') h' := fun b u q => by
 have nown : ∀ c y, H c = some (.own y) -> c ≠ x := fun c y r z => by subst z; rw [r] at mu; exact mu
 have ntup : ∀ c xs, H c = some (.tup xs) -> c ≠ x := fun c xs r z => by subst z; rw [r] at mu; exact mu
 by_cases hb : b = x
 ·subst hb; rw [a9] at q; cases q; exact new
 ·rw [a7 hb] at q
  by_cases hbe : b = e
  ·have q' : H b = some (.own x) := by
    rcases he with z | z
    ·exact absurd (hbe.trans z) hb
    ·rw [hbe]; exact z
   rw [q] at q'; cases q'
   obtain ⟨v, hv⟩ := heo
   exact ⟨v, by rw [hbe]; exact hv⟩
  ·refine (ok b u q).stay (fun c v hc r => k c v ?_ r) (fun c r => by rw [a7 (nown c b r)]; exact r) fun c xs r => by rw [a7 (ntup c xs r)]; exact r
   rcases hc with rfl | hc
   ·exact hbe
   ·rintro rfl
    rcases he with z | z
    ·exact nown c b hc z
    ·rw [hc] at z; cases z; exact hb rfl
end
structure Un (fs ex : List Addr) (H H' : Hp) (h h' : Heap) : Prop where
 keep : ∀ b o, h.get? b = some o -> H b = none -> b ∉ fs -> b ∉ ex -> h'.get? b = some o
 slot : ∀ b o, h.get? b = some o -> H b = none -> b ∈ fs -> b ∉ ex -> ∃ sl, h'.get? b = some { o with slots := sl }
 free : ∀ b o, h.get? b = some o -> H b = none -> b ∉ ex -> H' b = none
 there : ∀ b o, h.get? b = some o -> b ∉ ex -> ∃ o', h'.get? b = some o'
 tups : ∀ b xs, H b = some (.tup xs) -> H' b = some (.tup xs)
 frzs : ∀ b o u, H b = some (.frz o u) -> H' b = some (.frz o u)
 tbls : ∀ b ps, H b = some (.tbl ps) -> ∃ more, H' b = some (.tbl (ps ++ more))
section
variable {fs fs' ex ex' : List Addr} {H H1 H2 : Hp} {h h1 h2 h' : Heap} {a x e : Addr} {o : HO}
theorem Un.any (u : Un fs ex H H1 h h1) {b : Addr} {ob : Obj} (q : h.get? b = some ob) (n : H b = none) (hx : b ∉ ex) : ∃ sl, h1.get? b = some { ob with slots := sl } := by
 by_cases hb : b ∈ fs
 ·exact u.slot b ob q n hb hx
 ·exact ⟨ob.slots, u.keep b ob q n hb hx⟩
theorem Un.kept (k : ∀ b u, h.get? b = some u -> h'.get? b = some u) : Un fs ex H H h h' :=
 ⟨fun b ob q _ _ _ => k b ob q, fun b ob q _ _ _ => ⟨ob.slots, k b ob q⟩, fun _ _ _ n _ => n, fun b ob q _ => ⟨ob, k b ob q⟩, fun _ _ q => q, fun _ _ _ q => q, fun _ ps q => ⟨#[], by rw [q]; simp⟩⟩
theorem Un.refl : Un fs ex H H h h := Un.kept fun _ _ q => q
theorem Un.laid (k : ∀ b u, h.get? b = some u -> h'.get? b = some u) (hp : h.objs.size <= a) (hn : H a = none) : Un fs ex H (upd H a o) h h' where
 keep := fun b u q _ _ _ => k b u q
 slot := fun b u q _ _ _ => ⟨u.slots, k b u q⟩
 free := fun b u q n _ => by rw [a7 (Nat.ne_of_lt (Nat.lt_of_lt_of_le (Heap.lt_size q) hp))]; exact n
 there := fun b u q _ => ⟨u, k b u q⟩
 tups := fun b xs q => by rw [a7 (bR q hn)]; exact q
 frzs := fun b u xs q => by rw [a7 (bR q hn)]; exact q
 tbls := fun b ps q => ⟨#[], by rw [a7 (bR q hn), q]; simp⟩
theorem Un.write (mu : Mut (H x)) (he : e = x \/ H e = some (.own x)) (k : ∀ b u, b ≠ e -> h.get? b = some u -> h'.get? b = some u) (heo : ∃ u, h'.get? e = some u) : Un fs ex H (upd H x o) h h' := by
 have hx : ∀ b, H b = none -> b ≠ x := fun b n z => by subst z; rw [n] at mu; exact mu
 have hb : ∀ b, H b = none -> b ≠ e := fun b n z => by
  subst z
  rcases he with r | r
  ·exact hx b n r
  ·rw [n] at r; cases r
 have hm : ∀ b u, H b = some u -> ¬ Mut (some u) -> b ≠ x := fun b u q nm z => by subst z; rw [q] at mu; exact nm mu
 refine ⟨fun b u q n _ _ => k b u (hb b n) q, fun b u q n _ _ => ⟨u.slots, k b u (hb b n) q⟩, fun b u q n _ => by rw [a7 (hx b n)]; exact n, fun b u q _ => ?_,
  fun b xs q => by rw [a7 (hm b _ q fun z => z)]; exact q, fun b u xs q => by rw [a7 (hm b _ q fun z => z)]; exact q, fun b ps q => ⟨#[], by rw [a7 (hm b _ q fun z => z), q]; simp⟩⟩
 by_cases hbe : b = e
 ·subst hbe; exact heo
 ·exact ⟨u, k b u hbe q⟩
end
def trk (h : Heap) (H : Hp) : List Addr := (List.range h.objs.size).filter fun a => (H a).isSome
def zQ (h : Heap) (H : Hp) : Heap := PySem.W.hideAll h (trk h H)
theorem wG (h : Heap) (H : Hp) : (zQ h H).objs.size = h.objs.size := PySem.W.hideAll_size _ _
theorem yP {h : Heap} {H : Hp} {b : Addr} {o : Obj} (e : h.get? b = some o) (n : H b = none) : (zQ h H).get? b = some o :=
 PySem.W.hideAll_get _ e fun hm => by
  have q : (H b).isSome = true := (List.mem_filter.mp hm).2
  rw [n] at q; simp at q
theorem aCp {h : Heap} {H : Hp} {b : Addr} {o : Obj} (e : (zQ h H).get? b = some o) : h.get? b = some o /\ H b = none := by
 have e' : h.get? b = some o := PySem.W.of_hideAll (trk h H) e
 refine ⟨e', ?_⟩
 cases q : H b with
 | none => rfl
 | some x =>
  have hm : b ∈ trk h H := List.mem_filter.mpr ⟨List.mem_range.mpr (Heap.lt_size e'), by simp [q]⟩
  have z : (zQ h H).get? b = none := PySem.W.hideAll_none (trk h H) hm
  rw [z] at e; cases e
def aCf (g h : Heap) (L : Addr) : List (Addr × Obj) := (List.range h.objs.size).filterMap fun a => if a = L \/ (g.get? a).isSome = true then none else (h.get? a).map fun o => (a, o)
def rest (g h : Heap) (L d : Addr) : List (Addr × Obj) := (aCf g h L).filter fun p => decide (p.1 ≠ d)
structure Mod (K : PySem.W.Frag) (mg : Str -> Option Value) (base : Heap) : Prop where
 kin : K.In base
 glob : base.Ns mainGlobals mg
 blt : ∃ mb, base.Ns builtinsNs mb /\ ∀ x : Str, x ≠ "__name__" -> mb x = bootBuiltins x
 nolimit : base.NoLimit
structure Cx where
 prog : Program
 w : World
 K : PySem.W.Frag
 mg : Str -> Option Value
 base : Heap
 A : Around
 N : List Str
 s₀ : Shared
 H₀ : Hp
 env : Env
 outer : List Env
 stack : List Env
 ex : List Addr
 fn : Str -> Bool
 calm : Bool
 pn : List (Addr × Obj)
 xe : Value -> Shared -> Prop
def frs (l : List Env) : List Addr := l.filterMap (·.frame)
abbrev Cx.fs (X : Cx) : List Addr := frs X.outer
def Vis (sc : Scope) (x : Str) : Prop := sc.names.lookup x = some .local \/ sc.names.lookup x = some .cell \/ sc.names.lookup x = some .free
def Loc (sc : Scope) (x : Str) : Prop := sc.names.lookup x = some .local \/ sc.names.lookup x = some .cell
def Look (env : Env) (h : Heap) (m : Str -> Option Value) (x : Str) (u : Value) : Prop :=
 (env.kindOf x = some .local /\ m x = some u) \/ ((env.kindOf x = some .cell \/ env.kindOf x = some .free) /\ ∃ c, env.cells.lookup x = some c /\ h.IsCell c (some u))
structure Cx.Ok (X : Cx) : Prop where
 mod : Mod X.K X.mg X.base
 kind : X.env.scope.kind = .function
 glob : X.env.globals = mainGlobals
 blt : X.env.builtins = builtinsNs
 above : X.s₀.heap.objs.size <= X.env.locals
 inj : ∀ x y c, X.env.cells.lookup x = some c -> X.env.cells.lookup y = some c -> x = y
 has : ∀ x, (X.env.kindOf x = some .cell \/ X.env.kindOf x = some .free) -> ∃ c, X.env.cells.lookup x = some c
 cab : ∀ x c, X.fn x = true -> X.env.cells.lookup x = some c -> X.s₀.heap.objs.size <= c
 hd : X.calm = true -> X.A.handled = none
 frames : X.A.frames = some X.stack
 stk : X.stack = X.outer \/ (X.stack = X.env :: X.outer /\ X.env.frame = some X.env.locals)
 exf : ∀ b ∈ X.ex, b ≠ X.env.locals /\ ∀ x c, X.env.cells.lookup x = some c -> c ≠ b
 bs : ∀ b o, X.base.get? b = some o -> X.s₀.heap.get? b = some o /\ X.H₀ b = none
 bsz : X.base.objs.size <= X.s₀.heap.objs.size
 noex : ∀ b o, X.base.get? b = some o -> b ∉ X.ex
 exfs : ∀ b ∈ X.ex, b ∉ X.fs
 funs : X.s₀.heap.FunFrames X.base X.outer
 frf : ∀ b ∈ X.fs, X.H₀ b = none
structure Inv (X : Cx) (pins : List (Addr × Obj)) (σ : List (Option V)) (H : Hp) (s : Shared) : Prop where
 ok : X.Ok
 os : s.os = X.s₀.os
 bare : AllBare s.gens
 base : Un X.fs X.ex X.H₀ H X.s₀.heap s.heap
 loc : ∃ m, s.heap.Ns X.env.locals m /\ ∀ (i : Nat) (x : Str) (v : V), X.N[i]? = some x -> σ[i]? = some (some v) -> Vis X.env.scope x -> ∃ u, RelV v u /\ Look X.env s.heap m x u
 cell : ∀ x c, X.env.cells.lookup x = some c -> ∃ v, s.heap.IsCell c v
 free : H X.env.locals = none
 freeC : ∀ x c, X.env.cells.lookup x = some c -> H c = none
 pin : ∀ p ∈ X.pn ++ pins, s.heap.get? p.1 = some p.2 /\ H p.1 = none /\ p.1 ≠ X.env.locals /\ p.1 ∉ X.fs /\ ∀ v, p.2.data ≠ .cell v
 hok : HOk X.prog X.w H s.heap
 len : σ.length = X.N.length
section
variable {X : Cx} {pins : List (Addr × Obj)} {σ : List (Option V)} {H H' : Hp} {s : Shared} {h' : Heap}
theorem Cx.Ok.nofr (ok : X.Ok) {b : Addr} {o : Obj} (e : X.base.get? b = some o) : b ∉ X.fs := fun hb => by
 have := (ok.funs.mem hb).1
 rw [e] at this; cases this
theorem Inv.bs (I : Inv X pins σ H s) : ∀ b o, X.base.get? b = some o -> s.heap.get? b = some o /\ H b = none := fun b o e =>
 ⟨I.base.keep b o (I.ok.bs b o e).1 (I.ok.bs b o e).2 (I.ok.nofr e) (I.ok.noex b o e), I.base.free b o (I.ok.bs b o e).1 (I.ok.bs b o e).2 (I.ok.noex b o e)⟩
theorem Inv.bk (I : Inv X pins σ H s) : ∀ b o, X.base.get? b = some o -> s.heap.get? b = some o := fun b o e => (I.bs b o e).1
theorem Inv.mod (I : Inv X pins σ H s) : Mod X.K X.mg X.base := I.ok.mod
theorem Inv.kIn (I : Inv X pins σ H s) : X.K.In s.heap := I.ok.mod.kin.keeps I.bk
theorem Inv.lt (I : Inv X pins σ H s) : X.env.locals < s.heap.objs.size := let ⟨_, hn, _⟩ := I.loc; hn.lt
theorem Inv.sz (I : Inv X pins σ H s) : X.s₀.heap.objs.size <= s.heap.objs.size := Nat.le_trans I.ok.above (Nat.le_of_lt I.lt)
theorem Inv.nofs (I : Inv X pins σ H s) {a : Addr} (h : s.heap.objs.size <= a) : a ∉ X.fs := fun hb => by
 obtain ⟨_, o, ho, _⟩ := I.ok.funs.mem hb
 exact absurd (Nat.lt_of_lt_of_le (Heap.lt_size ho) (Nat.le_trans I.sz h)) (Nat.lt_irrefl _)
theorem Inv.cne (I : Inv X pins σ H s) : ∀ x c, X.env.cells.lookup x = some c -> c ≠ X.env.locals := fun x c e z => by
 obtain ⟨v, o, ho, hd⟩ := I.cell x c e
 obtain ⟨m, ⟨o', es, ep, ho', hd', _⟩, _⟩ := I.loc
 rw [z, ho'] at ho; cases ho; rw [hd'] at hd; cases hd
theorem Inv.funs (I : Inv X pins σ H s) : s.heap.FunFrames X.base X.outer := by
 have all : ∀ (l : List Env), (∀ b ∈ frs l, b ∈ X.fs) -> X.s₀.heap.FunFrames X.base l -> s.heap.FunFrames X.base l := by
  intro l
  induction l with
  | nil => intro _ _; trivial
  | cons env r ih =>
   intro hs hl
   obtain ⟨hk, ⟨L, o, hf, hn, ho, hd⟩, hr⟩ := hl
   have hL : L ∈ X.fs := hs L (by unfold frs; rw [List.filterMap_cons, hf]; exact List.mem_cons_self)
   obtain ⟨sl, e⟩ := I.base.slot L o ho (I.ok.frf L hL) hL fun z => I.ok.exfs L z hL
   exact ⟨hk, ⟨L, _, hf, hn, e, hd⟩, ih (fun b hb => hs b (by unfold frs; rw [List.filterMap_cons, hf]; exact List.mem_cons_of_mem _ hb)) hr⟩
 exact all X.outer (fun _ hb => hb) I.ok.funs
theorem Inv.stack (I : Inv X pins σ H s) : s.heap.FunFrames X.base X.stack := by
 rcases I.ok.stk with e | ⟨e, hf⟩
 ·rw [e]; exact I.funs
 ·rw [e]
  obtain ⟨m, hn, _⟩ := I.loc
  refine .cons (by rw [I.ok.kind]; decide) hf hn ?_ I.funs
  exact Heap.get?_none_of_le (Nat.le_trans I.ok.bsz I.ok.above)
theorem Inv.stkSub (I : Inv X pins σ H s) : ∀ b ∈ frs X.stack, b ∈ X.env.locals :: X.fs := fun b hb => by
 rcases I.ok.stk with e | ⟨e, hf⟩
 ·rw [e] at hb; exact List.mem_cons_of_mem _ hb
 ·rw [e] at hb
  unfold frs at hb
  rw [List.filterMap_cons, hf] at hb
  exact hb
theorem Inv.stkFree (I : Inv X pins σ H s) : ∀ b ∈ frs X.stack, H b = none := fun b hb => by
 rcases List.mem_cons.mp (I.stkSub b hb) with e | hb
 ·rw [e]; exact I.free
 ·obtain ⟨_, o, ho, _⟩ := I.ok.funs.mem hb
  exact I.base.free b o ho (I.ok.frf b hb) fun z => I.ok.exfs b z hb
theorem Inv.step {g' : Array GenState} {t' : Nat} {d' : Drawn} {ch : List Addr} (I : Inv X pins σ H s)
  (hch : ∀ b ∈ ch, (b ∈ X.ex \/ X.s₀.heap.objs.size <= b) /\ b ≠ X.env.locals /\ (∀ x c, X.env.cells.lookup x = some c -> c ≠ b) /\ ∀ p ∈ X.pn ++ pins, p.1 ≠ b)
  (keep : ∀ b o, b ≠ X.env.locals -> b ∉ X.fs -> b ∉ ch -> s.heap.get? b = some o -> H b = none -> h'.get? b = some o)
  (slot : ∀ b o, b ≠ X.env.locals -> b ∈ X.fs -> b ∉ ch -> s.heap.get? b = some o -> H b = none -> ∃ sl, h'.get? b = some { o with slots := sl }) (free : ∀ b o, b ∉ ch -> s.heap.get? b = some o -> H b = none -> H' b = none)
  (there : ∀ b o, b ∉ ch -> s.heap.get? b = some o -> ∃ o', h'.get? b = some o')
  (tups : ∀ b xs, H b = some (.tup xs) -> H' b = some (.tup xs)) (frzs : ∀ b o u, H b = some (.frz o u) -> H' b = some (.frz o u)) (tbls : ∀ b ps, H b = some (.tbl ps) -> ∃ more, H' b = some (.tbl (ps ++ more)))
  (ns : ∀ m, s.heap.Ns X.env.locals m -> h'.Ns X.env.locals m) (hok : HOk X.prog X.w H' h') (hg : AllBare g') :
  Inv X pins σ H' { s with heap := h', gens := g', drawn := d', toks := t' } := by
 have neL : ∀ b o, X.s₀.heap.get? b = some o -> b ≠ X.env.locals := fun b o e => Nat.ne_of_lt (Nat.lt_of_lt_of_le (Heap.lt_size e) I.ok.above)
 have neC : ∀ b o, X.s₀.heap.get? b = some o -> b ∉ X.ex -> b ∉ ch := fun b o e hx hb => by
  rcases (hch b hb).1 with z | z
  ·exact hx z
  ·exact absurd (Nat.lt_of_lt_of_le (Heap.lt_size e) z) (Nat.lt_irrefl _)
 have cellK : ∀ x c, X.env.cells.lookup x = some c -> ∀ v, s.heap.IsCell c v -> h'.IsCell c v := fun x c e v ⟨o, ho, hd⟩ => by
  have nch : c ∉ ch := fun z => (hch c z).2.2.1 x c e rfl
  by_cases hc : c ∈ X.fs
  ·obtain ⟨sl, q⟩ := slot c o (I.cne x c e) hc nch ho (I.freeC x c e)
   exact ⟨_, q, hd⟩
  ·exact ⟨o, keep c o (I.cne x c e) hc nch ho (I.freeC x c e), hd⟩
 refine ⟨I.ok, I.os, hg, ⟨fun b o e n hb hx => ?_, fun b o e n hb hx => ?_, fun b o e n hx => ?_, fun b o e hx => ?_, fun b xs e => tups b xs (I.base.tups b xs e), fun b o xs e => frzs b o xs (I.base.frzs b o xs e), fun b ps e => ?_⟩, ?_, fun x c e => ?_, ?_, fun x c e => ?_, fun p hp => ?_, hok, I.len⟩
 ·exact keep b o (neL b o e) hb (neC b o e hx) (I.base.keep b o e n hb hx) (I.base.free b o e n hx)
 ·obtain ⟨sl, e1⟩ := I.base.slot b o e n hb hx
  obtain ⟨sl', e2⟩ := slot b _ (neL b o e) hb (neC b o e hx) e1 (I.base.free b o e n hx)
  exact ⟨sl', e2⟩
 ·obtain ⟨o', e1⟩ := I.base.there b o e hx
  exact free b o' (neC b o e hx) e1 (I.base.free b o e n hx)
 ·obtain ⟨o', e1⟩ := I.base.there b o e hx
  exact there b o' (neC b o e hx) e1
 ·obtain ⟨m1, e1⟩ := I.base.tbls b ps e
  obtain ⟨m2, e2⟩ := tbls b _ e1
  exact ⟨m1 ++ m2, by rw [e2, Array.append_assoc]⟩
 ·obtain ⟨m, hn, hl⟩ := I.loc
  refine ⟨m, ns m hn, fun i x v e1 e2 e3 => ?_⟩
  obtain ⟨u, r, l⟩ := hl i x v e1 e2 e3
  refine ⟨u, r, ?_⟩
  rcases l with l | ⟨k, c, e, z⟩
  ·exact .inl l
  ·exact .inr ⟨k, c, e, cellK x c e _ z⟩
 ·obtain ⟨v, z⟩ := I.cell x c e
  exact ⟨v, cellK x c e v z⟩
 ·obtain ⟨m, ⟨o, _, _, ho, _⟩, _⟩ := I.loc
  exact free _ o (fun z => (hch _ z).2.1 rfl) ho I.free
 ·obtain ⟨v, o, ho, hd⟩ := I.cell x c e
  exact free c o (fun z => (hch c z).2.2.1 x c e rfl) ho (I.freeC x c e)
 ·obtain ⟨e, n, ne, nf, d⟩ := I.pin p hp
  have nch : p.1 ∉ ch := fun z => (hch p.1 z).2.2.2 p hp rfl
  exact ⟨keep p.1 p.2 ne nf nch e n, free p.1 p.2 nch e n, ne, nf, d⟩
theorem Inv.un {t' : Nat} (I : Inv X pins σ H s) (u : Un X.fs [] H H' s.heap h') (hok : HOk X.prog X.w H' h') : Inv X pins σ H' { s with heap := h', toks := t' } := by
 obtain ⟨m, ⟨o, es, ep, ho, r⟩, _⟩ := id I.loc
 obtain ⟨sl, hL⟩ := u.any ho I.free (by simp)
 exact I.step (g' := s.gens) (d' := s.drawn) (ch := []) (fun _ z => nomatch z) (fun b o _ hb _ e n => u.keep b o e n hb (by simp)) (fun b o _ hb _ e n => u.slot b o e n hb (by simp)) (fun b o _ e n => u.free b o e n (by simp)) (fun b o _ e => u.there b o e (by simp)) u.tups u.frzs u.tbls (fun m' hm => by
  obtain ⟨o', es', ep', ho', r'⟩ := hm
  rw [ho] at ho'; cases ho'
  exact ⟨_, es', ep', hL, r'⟩) hok I.bare
theorem Inv.call {g' : Array GenState} {t' : Nat} {d' : Drawn} {ch : List Addr} (I : Inv X pins σ H s) (u : Un (frs X.stack) ch H H' s.heap h') (hok : HOk X.prog X.w H' h') (hg : AllBare g')
  (hch : ∀ b ∈ ch, (b ∈ X.ex \/ X.s₀.heap.objs.size <= b) /\ b ≠ X.env.locals /\ (∀ x c, X.env.cells.lookup x = some c -> c ≠ b) /\ ∀ p ∈ X.pn ++ pins, p.1 ≠ b) :
  Inv X pins σ H' { s with heap := h', gens := g', drawn := d', toks := t' } := by
 obtain ⟨m, ⟨o, es, ep, ho, r⟩, _⟩ := id I.loc
 obtain ⟨sl, hL⟩ := u.any ho I.free fun z => (hch _ z).2.1 rfl
 exact I.step (ch := ch) hch (fun b o hL hb hc e n => u.keep b o e n (fun z => (List.mem_cons.mp (I.stkSub b z)).elim hL hb) hc) (fun b o _ _ hc e n => u.any e n hc) (fun b o hc e n => u.free b o e n hc) (fun b o hc e => u.there b o e hc) u.tups u.frzs u.tbls (fun m' hm => by
  obtain ⟨o', es', ep', ho', r'⟩ := hm
  rw [ho] at ho'; cases ho'
  exact ⟨_, es', ep', hL, r'⟩) hok hg
theorem Inv.turned {t' : Nat} {it : Addr} (I : Inv X pins σ H s) (k : ∀ b o, b ≠ it -> s.heap.get? b = some o -> h'.get? b = some o) (hn : H it = none) (hL : it ≠ X.env.locals)
  (h1 : it ∈ X.ex \/ X.s₀.heap.objs.size <= it) (h2 : ∀ x c, X.env.cells.lookup x = some c -> c ≠ it) (h3 : ∀ p ∈ X.pn ++ pins, p.1 ≠ it) : Inv X pins σ H { s with heap := h', toks := t' } := by
 have nit : ∀ b u, H b = some u -> b ≠ it := fun b u e z => by rw [z, hn] at e; cases e
 refine I.step (g' := s.gens) (d' := s.drawn) (ch := [it]) (fun b hb => ?_) (fun b o _ _ hc e _ => k b o (fun z => hc (by simp [z])) e) (fun b o _ _ hc e _ => ⟨o.slots, k b o (fun z => hc (by simp [z])) e⟩) (fun _ _ _ _ n => n)
  (fun b o hc e => ⟨o, k b o (fun z => hc (by simp [z])) e⟩) (fun _ _ e => e) (fun _ _ _ e => e) (fun b ps e => ⟨#[], by rw [e]; simp⟩) (fun m hm => ?_) (fun b u e => ?_) I.bare
 ·have e : b = it := by simpa using hb
  subst e
  exact ⟨h1, hL, h2, h3⟩
 ·obtain ⟨o, es, ep, ho, r⟩ := hm
  exact ⟨o, es, ep, k _ o (Ne.symm hL) ho, r⟩
 ·refine (I.hok b u e).stay (fun c v hc q => k c v ?_ q) (fun _ q => q) fun _ _ q => q
  rcases hc with z | z
  ·rw [z]; exact nit b u e
  ·exact nit c _ z
theorem Inv.tok (I : Inv X pins σ H s) (t : Nat) : Inv X pins σ H { s with toks := t } := I.un (h' := s.heap) (t' := t) Un.refl I.hok
theorem Inv.kept {t' : Nat} (I : Inv X pins σ H s) (k : ∀ b u, s.heap.get? b = some u -> h'.get? b = some u) : Inv X pins σ H { s with heap := h', toks := t' } := I.un (Un.kept k) (I.hok.kept k)
theorem Inv.laid {a : Addr} {o : HO} {t' : Nat} (I : Inv X pins σ H s) (k : ∀ b u, s.heap.get? b = some u -> h'.get? b = some u) (hp : s.heap.objs.size <= a) (new : ObjOk X.prog X.w (upd H a o) h' a o) :
  Inv X pins σ (upd H a o) { s with heap := h', toks := t' } := I.un (Un.laid k hp (I.hok.fresh hp)) (I.hok.laid k hp new)
theorem Inv.write {x e : Addr} {o : HO} {t' : Nat} (I : Inv X pins σ H s) (mu : Mut (H x)) (he : e = x \/ H e = some (.own x)) (k : ∀ b u, b ≠ e -> s.heap.get? b = some u -> h'.get? b = some u) (heo : ∃ u, h'.get? e = some u)
  (new : ObjOk X.prog X.w (upd H x o) h' x o) : Inv X pins σ (upd H x o) { s with heap := h', toks := t' } := I.un (Un.write mu he k heo) (I.hok.write mu he k heo new)
theorem Inv.weak {σ' : List (Option V)} (I : Inv X pins σ H s) (hl : σ'.length = σ.length) (w : ∀ (i : Nat) v, σ'[i]? = some (some v) -> σ[i]? = some (some v)) : Inv X pins σ' H s :=
 ⟨I.ok, I.os, I.bare, I.base, let ⟨m, hn, hl'⟩ := I.loc; ⟨m, hn, fun i x v e1 e2 e3 => hl' i x v e1 (w i v e2) e3⟩, I.cell, I.free, I.freeC, I.pin, I.hok, hl.trans I.len⟩
theorem Inv.pins_of {pins' : List (Addr × Obj)} (I : Inv X pins σ H s) (h : ∀ p ∈ pins', s.heap.get? p.1 = some p.2 /\ H p.1 = none /\ p.1 ≠ X.env.locals /\ p.1 ∉ X.fs /\ ∀ v, p.2.data ≠ .cell v) : Inv X pins' σ H s :=
 ⟨I.ok, I.os, I.bare, I.base, I.loc, I.cell, I.free, I.freeC, fun p hp => (List.mem_append.mp hp).elim (fun z => I.pin p (List.mem_append_left _ z)) (h p), I.hok, I.len⟩
theorem pX {N : List Str} (hN : N.Nodup) {i j : Nat} {x : Str} (a : N[i]? = some x) (b : N[j]? = some x) : i = j := by
 obtain ⟨h1, e1⟩ := List.getElem?_eq_some_iff.mp a
 obtain ⟨h2, e2⟩ := List.getElem?_eq_some_iff.mp b
 exact (List.getElem_inj hN).mp (e1.trans e2.symm)
theorem vA {M : Model} {A : Around} {E : Value -> Shared -> Prop} {i : Nat} {x : Str} {v : V} {u : Value} {Q : Unit -> Shared -> Prop} (I : Inv X pins σ H s) (hN : X.N.Nodup) (hi : X.N[i]? = some x) (hx : Loc X.env.scope x) (r : RelV v u)
  (h : ∀ s', Inv X pins (σ.set i (some v)) H s' -> (∃ a, Heap.SameBut a s.heap s'.heap /\ (a = X.env.locals \/ X.env.cells.lookup x = some a)) -> Q () s') (hf : X.fn x = true \/ X.env.scope.names.lookup x = some .local := by first | exact .inl rfl | exact .inr rfl | assumption) : wpAny M A (storeName X.env x u) Q E s := by
 obtain ⟨m, hn, hl⟩ := id I.loc
 have hcls : (X.env.scope.kind == .class || (X.env.scope.kind == .module && X.env.locals != X.env.globals)) = false := by rw [I.ok.kind]; rfl
 have hiσ : i < σ.length := by rw [I.len]; exact (List.getElem?_eq_some_iff.mp hi).1
 have cne := I.cne
 have tracked : ∀ {a : Addr} {h' : Heap}, (∃ o, s.heap.get? a = some o /\ H a = none) -> Heap.SameBut a s.heap h' -> HOk X.prog X.w H h' := fun {a h'} ha hs b ob e => by
  obtain ⟨_, _, hfree⟩ := ha
  refine (I.hok b ob e).stay (fun c w' hc q => (hs.2 c ?_).trans q) (fun _ q => q) fun _ _ q => q
  rintro rfl
  rcases hc with rfl | hc
  ·rw [hfree] at e; cases e
  ·rw [hfree] at hc; cases hc
 rcases hx with hk | hk
 ·refine wpAny_storeName_local hk hn (fun h' hn' hs => ?_) hcls
  obtain ⟨oL, _, _, hoL, _⟩ := id hn
  refine h _ ⟨I.ok, I.os, I.bare, ⟨fun b o e n hb hx => ?_, fun b o e n hb hx => ?_, I.base.free, fun b o e hx => ?_, I.base.tups, I.base.frzs, I.base.tbls⟩, ⟨_, hn', fun j y v' e1 e2 e3 => ?_⟩, fun y c e => ?_, I.free, I.freeC, fun p hp => ?_, tracked ⟨oL, hoL, I.free⟩ hs, by simpa using I.len⟩ ⟨_, hs, .inl rfl⟩
  ·exact (hs.2 b (Nat.ne_of_lt (Nat.lt_of_lt_of_le (Heap.lt_size e) I.ok.above))).trans (I.base.keep b o e n hb hx)
  ·obtain ⟨sl, e1⟩ := I.base.slot b o e n hb hx
   exact ⟨sl, (hs.2 b (Nat.ne_of_lt (Nat.lt_of_lt_of_le (Heap.lt_size e) I.ok.above))).trans e1⟩
  ·obtain ⟨o', e1⟩ := I.base.there b o e hx
   exact ⟨o', (hs.2 b (Nat.ne_of_lt (Nat.lt_of_lt_of_le (Heap.lt_size e) I.ok.above))).trans e1⟩
  ·by_cases hj : j = i
   ·subst hj
    rw [hi] at e1; cases e1
    rw [List.getElem?_set_self hiσ] at e2
    cases e2
    exact ⟨u, r, .inl ⟨hk, by simp⟩⟩
   ·rw [List.getElem?_set_ne (Ne.symm hj)] at e2
    obtain ⟨u', r', q⟩ := hl j y v' e1 e2 e3
    refine ⟨u', r', ?_⟩
    rcases q with ⟨k, e⟩ | ⟨k, c, e, z⟩
    ·refine .inl ⟨k, ?_⟩
     have : y ≠ x := fun e => hj (pX hN e1 (e ▸ hi))
     simp [this, e]
    ·exact .inr ⟨k, c, e, z.sameBut hs (cne y c e)⟩
  ·obtain ⟨w', z⟩ := I.cell y c e
   exact ⟨w', z.sameBut hs (cne y c e)⟩
  ·obtain ⟨e, n, ne, nf, d⟩ := I.pin p hp
   exact ⟨(hs.2 p.1 ne).trans e, n, ne, nf, d⟩
 ·have hfn : X.fn x = true := by
   rcases hf with z | z
   ·exact z
   ·rw [z] at hk; cases hk
  obtain ⟨c, hc⟩ := I.ok.has x (.inl hk)
  obtain ⟨w', z⟩ := I.cell x c hc
  refine wpAny_storeName_cell I.ok.kind hk hc z (fun h' hc' hs => ?_)
  obtain ⟨oc, hoc, hocd⟩ := id z
  refine h { s with heap := h' } ⟨I.ok, I.os, I.bare, ⟨fun b o e n hb hx => ?_, fun b o e n hb hx => ?_, I.base.free, fun b o e hx => ?_, I.base.tups, I.base.frzs, I.base.tbls⟩, ⟨m, hn.sameBut hs (Ne.symm (cne x c hc)), fun j y v' e1 e2 e3 => ?_⟩, fun y c' e => ?_, I.free, I.freeC, fun p hp => ?_, tracked ⟨oc, hoc, I.freeC x c hc⟩ hs, by simpa using I.len⟩ ⟨c, hs, .inr hc⟩
  ·exact (hs.2 b (Nat.ne_of_lt (Nat.lt_of_lt_of_le (Heap.lt_size e) (I.ok.cab x c hfn hc)))).trans (I.base.keep b o e n hb hx)
  ·obtain ⟨sl, e1⟩ := I.base.slot b o e n hb hx
   exact ⟨sl, (hs.2 b (Nat.ne_of_lt (Nat.lt_of_lt_of_le (Heap.lt_size e) (I.ok.cab x c hfn hc)))).trans e1⟩
  ·obtain ⟨o', e1⟩ := I.base.there b o e hx
   exact ⟨o', (hs.2 b (Nat.ne_of_lt (Nat.lt_of_lt_of_le (Heap.lt_size e) (I.ok.cab x c hfn hc)))).trans e1⟩
  ·by_cases hj : j = i
   ·subst hj
    rw [hi] at e1; cases e1
    rw [List.getElem?_set_self hiσ] at e2
    cases e2
    exact ⟨u, r, .inr ⟨.inl hk, c, hc, hc'⟩⟩
   ·rw [List.getElem?_set_ne (Ne.symm hj)] at e2
    obtain ⟨u', r', q⟩ := hl j y v' e1 e2 e3
    refine ⟨u', r', ?_⟩
    rcases q with q | ⟨k, c', e, z'⟩
    ·exact .inl q
    ·refine .inr ⟨k, c', e, z'.sameBut hs ?_⟩
     rintro rfl
     exact hj (pX hN e1 (I.ok.inj _ _ _ e hc ▸ hi))
  ·by_cases hcc : c' = c
   ·subst hcc; exact ⟨_, hc'⟩
   ·obtain ⟨w2, z2⟩ := I.cell y c' e
    exact ⟨w2, z2.sameBut hs hcc⟩
  ·obtain ⟨e, n, ne, nf, d⟩ := I.pin p hp
   refine ⟨(hs.2 p.1 ?_).trans e, n, ne, nf, d⟩
   intro q
   rw [q, hoc] at e
   have q' : oc = p.2 := Option.some.inj e
   exact d w' (by rw [<- q']; exact hocd)
theorem qQ {M : Model} {A : Around} {E : Value -> Shared -> Prop} {i : Nat} {x : Str} {v : V} {u : Value} {Q : Unit -> Shared -> Prop} (I : Inv X pins σ H s) (hN : X.N.Nodup) (hi : X.N[i]? = some x) (hx : Loc X.env.scope x) (r : RelV v u)
  (h : ∀ s', Inv X pins (σ.set i (some v)) H s' -> Q () s') (hf : X.fn x = true \/ X.env.scope.names.lookup x = some .local := by first | exact .inl rfl | exact .inr rfl | assumption) : wpAny M A (storeName X.env x u) Q E s :=
 vA I hN hi hx r (fun s' I' _ => h s' I') hf
theorem Inv.call' {s' : Shared} {ch : List Addr} (I : Inv X pins σ H s) (ho : s'.os = s.os) (u : Un (frs X.stack) ch H H' s.heap s'.heap) (hok : HOk X.prog X.w H' s'.heap) (hg : AllBare s'.gens)
  (hch : ∀ b ∈ ch, (b ∈ X.ex \/ X.s₀.heap.objs.size <= b) /\ b ≠ X.env.locals /\ (∀ x c, X.env.cells.lookup x = some c -> c ≠ b) /\ ∀ p ∈ X.pn ++ pins, p.1 ≠ b) : Inv X pins σ H' s' := by
 obtain ⟨h', g', d', t', o'⟩ := s'
 have e : o' = s.os := ho
 subst e
 exact I.call (g' := g') (t' := t') (d' := d') u hok hg hch
end
abbrev XK := Value -> Option Addr -> Hp -> Prop
abbrev St := List (Option V)
abbrev VK := V -> Hp -> Prop
abbrev TE := St -> Hp -> VK -> Prop
abbrev TT := St -> Hp -> (Bool -> Hp -> Prop) -> Prop
abbrev TA := St -> Hp -> (List V -> Hp -> Prop) -> Prop
structure Ends where
 nx : St -> Hp -> Prop
 rt : VK
 bk : St -> Hp -> Prop := fun _ _ => False
 ct : St -> Hp -> Prop := fun _ _ => False
abbrev TS := Ends -> St -> Hp -> Prop
def EP (X : Cx) (pins : List (Addr × Obj)) (σ : St) (Q : VK) (u : Value) (s' : Shared) : Prop := ∃ v H', Inv X pins σ H' s' /\ RelV v u /\ Q v H'
def TP (X : Cx) (pins : List (Addr × Obj)) (σ : St) (Q : Bool -> Hp -> Prop) (b : Bool) (s' : Shared) : Prop := ∃ H', Inv X pins σ H' s' /\ Q b H'
def AP (X : Cx) (pins : List (Addr × Obj)) (σ : St) (Q : List V -> Hp -> Prop) (us : List Value) (s' : Shared) : Prop := ∃ vs H', Inv X pins σ H' s' /\ Vals vs us /\ Q vs H'
def SP (X : Cx) (pins : List (Addr × Obj)) (D : Ends) (f : Flow) (s' : Shared) : Prop :=
 match f with
 | .next => ∃ σ' H', Inv X pins σ' H' s' /\ D.nx σ' H'
 | .brk => ∃ σ' H', Inv X pins σ' H' s' /\ D.bk σ' H'
 | .cont => ∃ σ' H', Inv X pins σ' H' s' /\ D.ct σ' H'
 | .ret u => ∃ v σ' H', Inv X pins σ' H' s' /\ RelV v u /\ D.rt v H'
def PE (X : Cx) (e : Expr) (t : TE) : Prop :=
 ∀ (pins : List (Addr × Obj)) (s : Shared) (σ : St) (H : Hp) (Q : VK), Inv X pins σ H s -> t σ H Q -> wpAny (model X.prog X.w) X.A (eval e X.env) (EP X pins σ Q) X.xe s
def PT (X : Cx) (e : Expr) (t : TT) : Prop :=
 ∀ (pins : List (Addr × Obj)) (s : Shared) (σ : St) (H : Hp) (Q : Bool -> Hp -> Prop), Inv X pins σ H s -> t σ H Q -> wpAny (model X.prog X.w) X.A (isTrue e X.env (eval e X.env)) (TP X pins σ Q) X.xe s
def PW (X : Cx) (e : Expr) (t : TT) : Prop :=
 ∀ (whole : Sem Value) (pins : List (Addr × Obj)) (s : Shared) (σ : St) (H : Hp) (Q : Bool -> Hp -> Prop), Inv X pins σ H s -> t σ H Q -> wpAny (model X.prog X.w) X.A (isTrue e X.env whole) (TP X pins σ Q) X.xe s
def PA (X : Cx) (es : List Expr) (t : TA) : Prop :=
 ∀ (pos : Pos) (pins : List (Addr × Obj)) (s : Shared) (σ : St) (H : Hp) (Q : List V -> Hp -> Prop), Inv X pins σ H s -> t σ H Q -> wpAny (model X.prog X.w) X.A (spliced (backTo pos (starEach es X.env))) (AP X pins σ Q) X.xe s
def PS (X : Cx) (st : Stmt) (t : TS) : Prop :=
 ∀ (pins : List (Addr × Obj)) (s : Shared) (σ : St) (H : Hp) (D : Ends), Inv X pins σ H s -> t D σ H -> wpAny (model X.prog X.w) X.A (exec st X.env) (SP X pins D) X.xe s
def PSs (X : Cx) (st : List Stmt) (t : TS) : Prop :=
 ∀ (pins : List (Addr × Obj)) (s : Shared) (σ : St) (H : Hp) (D : Ends), Inv X pins σ H s -> t D σ H -> wpAny (model X.prog X.w) X.A (execs st X.env) (SP X pins D) X.xe s
theorem thn {α : Type} {t : Sem α} {Q Q' : α -> Shared -> Prop} {M : Model} {A : Around} {E : Value -> Shared -> Prop} {s : Shared} (h : wpAny M A t Q E s) (hQ : ∀ a s, Q a s -> Q' a s) : wpAny M A t Q' E s := wpAny_mono h hQ fun _ _ x => x
section
variable {X : Cx}
def aDs (i : Nat) : TE := fun σ H Q => ∃ v, σ[i]? = some (some v) /\ Q v H
def tC (v : V) : TE := fun _ H Q => Q v H
theorem aA5 {i : Nat} {x : Str} {pos : Pos} (hN : X.N[i]? = some x) (hv : Vis X.env.scope x) (hd : (x == ("__debug__" : Str)) = false := by decide) (hcd : (x == ("__classdict__" : Str)) = false := by decide) : PE X (.Name x pos) (aDs i) := by
 intro pins s σ H Q I h
 obtain ⟨v, e, h⟩ := h
 obtain ⟨m, hn, hl⟩ := I.loc
 obtain ⟨u, r, l⟩ := hl i x v hN e hv
 have fin : EP X pins σ Q u s := ⟨v, H, I, r, h⟩
 rcases l with ⟨hk, hm⟩ | ⟨hk, c, hc, hcell⟩
 ·exact wpAny_Name (wpAny_loadName_local I.ok.kind hk hn hm fin) hd
 ·rcases hk with hk | hk
  ·exact wpAny_Name (wpAny_loadName_cell I.ok.kind hk hc hcell fin) hd
  ·exact wpAny_Name (wpAny_loadName_free I.ok.kind hk hc hcell fin hcd) hd
theorem aD6 {i j pos} : PE X (.Constant (.int i) j pos) (tC (.int i)) := fun _ _ _ H _ I h => wpAny_Constant_int ⟨.int i, H, I.tok _, ⟨_, rfl⟩, h⟩
theorem aHs {b j pos} : PE X (.Constant (.bool b) j pos) (tC (.bl b)) := fun _ _ _ H _ I h => Constant_bool ⟨.bl b, H, I, rfl, h⟩
theorem aEe {j pos} : PE X (.Constant .none j pos) (tC .non) := fun _ _ _ H _ I h => Constant_none ⟨.non, H, I, rfl, h⟩
def Gl (X : Cx) (x : Str) : Prop := X.env.kindOf x = some .globalImplicit
theorem aCm {E : Value -> Shared -> Prop} {pins : List (Addr × Obj)} {s : Shared} {σ : St} {H : Hp} {x : Str} {u : Value} {pos : Pos} {Q : Value -> Shared -> Prop} (I : Inv X pins σ H s) (hg : Gl X x) (hm : X.mg x = some u) (h : Q u s)
  (hd : (x == ("__debug__" : Str)) = false := by decide) : wpAny (model X.prog X.w) X.A (eval (.Name x pos) X.env) Q E s :=
 Calls.Name_function_global I.ok.kind hg (Calls.loadGlobal_global (by rw [I.ok.glob]; exact I.mod.glob.keeps I.bk) hm h) hd
theorem hX {E : Value -> Shared -> Prop} {pins : List (Addr × Obj)} {s : Shared} {σ : St} {H : Hp} {x : Str} {u : Value} {pos : Pos} {Q : Value -> Shared -> Prop} (I : Inv X pins σ H s) (hg : Gl X x) (hm : X.mg x = none) (hv : bootBuiltins x = some u) (h : Q u s)
  (hn : x ≠ "__name__" := by decide) (hd : (x == ("__debug__" : Str)) = false := by decide) : wpAny (model X.prog X.w) X.A (eval (.Name x pos) X.env) Q E s := by
 obtain ⟨mb, h1, h2⟩ := I.mod.blt
 exact Calls.Name_function_global I.ok.kind hg (Calls.loadGlobal_builtin (by rw [I.ok.glob]; exact I.mod.glob.keeps I.bk) hm (by rw [I.ok.blt]; exact h1.keeps I.bk) ((h2 x hn).trans hv) h) hd
theorem tN {x : Str} {v : V} {u : Value} {pos : Pos} (hg : Gl X x) (hm : X.mg x = none) (hv : bootBuiltins x = some u) (r : RelV v u) (hn : x ≠ "__name__" := by decide) (hd : (x == ("__debug__" : Str)) = false := by decide) : PE X (.Name x pos) (tC v) :=
 fun _ _ _ H _ I h => hX I hg hm hv ⟨v, H, I, r, h⟩ hn hd
variable {a b : Expr} {ta tb : TE} {pos : Pos}
def PC (X : Cx) (op : CmpOp) (a b : Expr) (t : TE) : Prop :=
 ∀ (pins : List (Addr × Obj)) (s : Shared) (σ : St) (H : Hp) (Q : VK), Inv X pins σ H s -> t σ H Q ->
  wpAny (model X.prog X.w) X.A (eval a X.env) (fun v s₁ => wpAny (model X.prog X.w) X.A (eval b X.env) (fun u s₂ => wpAny (model X.prog X.w) X.A (compareOp op v u) (EP X pins σ Q) X.xe s₂) X.xe s₁) X.xe s
theorem pZ (b : Expr) {op : CmpOp} (h : op ≠ .In) (h2 : op ≠ .NotIn) : behindInMarks op b = false := by
 have e1 : (op == CmpOp.In) = false := by cases op <;> first | rfl | exact absurd rfl h
 have e2 : (op == CmpOp.NotIn) = false := by cases op <;> first | rfl | exact absurd rfl h2
 cases b <;> simp [behindInMarks, e1, e2]
def aIr (ta : TE) : TE := fun σ H Q => ta σ H fun x H1 => Q (.bl (decide (x = .non))) H1
theorem RelV.none_iff {x : V} {v : Value} (r : RelV x v) : (v == Value.none) = decide (x = .non) := by
 cases x with
 | non => cases r; rfl
 | bl _ => cases r; rfl
 | int _ => obtain ⟨t, rfl⟩ := r; rfl
 | str _ => obtain ⟨t, rfl⟩ := r; rfl
 | byt _ => obtain ⟨t, rfl⟩ := r; rfl
 | flt _ => obtain ⟨t, rfl⟩ := r; rfl
 | ref _ => cases r; rfl
 | ty _ => cases r; rfl
theorem aAd {j pos'} (ha : PE X a ta) : PC X .Is a (.Constant .none j pos') (aIr ta) := by
 intro pins s σ H Q I h
 refine thn (ha pins s σ H _ I h) fun v s1 ⟨x, H1, I1, r1, q1⟩ => ?_
 exact Constant_none (is_none_gen ⟨.bl _, H1, I1, by rw [r1.none_iff]; rfl, q1⟩)
def tB (t : TE) : TT := fun σ H Q => t σ H fun x H1 => ∃ c, x = .bl c /\ Q c H1
theorem aGb {op : CmpOp} {t : TE} (h : PC X op a b t) (h1 : behindInMarks op b = false := by first | exact pZ _ (by decide) (by decide) | rfl) : PE X (.Compare a [op] [b] pos) t := fun pins s σ H Q I hw => wpAny_Compare1 (h pins s σ H Q I hw) h1
theorem aE9 {op : CmpOp} {t : TE} (h : PC X op a b t) (h1 : behindInMarks op b = false := by first | exact pZ _ (by decide) (by decide) | rfl) : PT X (.Compare a [op] [b] pos) (tB t) := by
 intro pins s σ H Q I hw
 refine wpAny_isTrue_Compare1 (thn (h pins s σ H _ I hw) fun v s1 h1 => thn h1 fun u s2 h2 => thn h2 fun c s3 ⟨x, H1, I1, r1, q1⟩ => ?_) h1
 obtain ⟨d, rfl, q⟩ := q1
 cases r1
 exact wpAny_truthy_bool ⟨H1, I1, q⟩
theorem aGr {e : Expr} {t : TE} (h : PE X e t) (he : ∀ whole, isTrue e X.env whole = (do let v <- whole; standAt e.pos; holding [v] (truthy v)) := by intro _; rfl) : PT X e (tB t) := by
 intro pins s σ H Q I hw
 refine isTrue_plain (thn (h pins s σ H _ I hw) fun v s1 ⟨x, H1, I1, r1, q1⟩ => ?_) (he _)
 obtain ⟨d, rfl, q⟩ := q1
 cases r1
 exact wpAny_truthy_bool ⟨H1, I1, q⟩
variable {tA tB' : TT} {rest : List Expr}
def aI6 (t u : TT) : TT := fun σ H Q => t σ H fun c H1 => if c = true then u σ H1 Q else Q false H1
def tOr (t u : TT) : TT := fun σ H Q => t σ H fun c H1 => if c = true then Q true H1 else u σ H1 Q
def aI2 (t : TT) : TT := fun σ H Q => t σ H fun c H1 => Q (!c) H1
theorem aBy (ha : PT X a tA) : PW X (.BoolOp .And [a] pos) tA := by
 intro wh pins s σ H Q I h
 refine isTrue_and (thn (ha pins s σ H Q I h) fun c s1 e => ?_)
 cases c with
 | true => exact isTrue_and_nil e
 | false => exact e
theorem aE7 (ha : PT X a tA) : PW X (.BoolOp .Or [a] pos) tA := by
 intro wh pins s σ H Q I h
 refine isTrue_or (thn (ha pins s σ H Q I h) fun c s1 e => ?_)
 cases c with
 | false => exact isTrue_or_nil e
 | true => exact e
theorem aD2 (ha : PT X a tA) (hb : PW X (.BoolOp .And (b :: rest) pos) tB') : PW X (.BoolOp .And (a :: b :: rest) pos) (aI6 tA tB') := by
 intro wh pins s σ H Q I h
 refine isTrue_and (thn (ha pins s σ H _ I h) fun c s1 ⟨H1, I1, q1⟩ => ?_)
 cases c with
 | true => exact hb wh pins s1 σ H1 Q I1 q1
 | false => exact ⟨H1, I1, q1⟩
theorem aH0 (ha : PT X a tA) (hb : PW X (.BoolOp .Or (b :: rest) pos) tB') : PW X (.BoolOp .Or (a :: b :: rest) pos) (tOr tA tB') := by
 intro wh pins s σ H Q I h
 refine isTrue_or (thn (ha pins s σ H _ I h) fun c s1 ⟨H1, I1, q1⟩ => ?_)
 cases c with
 | true => exact ⟨H1, I1, q1⟩
 | false => exact hb wh pins s1 σ H1 Q I1 q1
theorem aFi (ha : PT X a tA) : PT X (.UnaryOp .Not a pos) (aI2 tA) := by
 intro pins s σ H Q I h
 exact isTrue_not (ha pins s σ H (fun c H1 => Q (!c) H1) I h)
def aHe (ta tb : TE) : TE := fun σ H Q => ta σ H fun x H1 => ∃ c, x = .bl c /\ if c = true then tb σ H1 Q else Q (.bl false) H1
def aHd (ta : TE) : TE := fun σ H Q => ta σ H fun x H1 => ∃ c, x = .bl c /\ Q (.bl (!c)) H1
theorem aGq {op} {t : TE} (h : PE X a t) : PE X (.BoolOp op [a] pos) t := fun pins s σ H Q I hw => BoolOp_one (h pins s σ H Q I hw)
theorem aEz (ha : PE X a ta) (hb : PE X (.BoolOp .And (b :: rest) pos) tb) : PE X (.BoolOp .And (a :: b :: rest) pos) (aHe ta tb) := by
 intro pins s σ H Q I h
 refine BoolOp_and (thn (ha pins s σ H _ I h) fun v s1 ⟨x, H1, I1, r1, q1⟩ => ?_)
 obtain ⟨c, rfl, q1⟩ := q1
 cases r1
 refine wpAny_truthy_bool ?_
 cases c with
 | true => exact hb pins s1 σ H1 Q I1 q1
 | false => exact ⟨.bl false, H1, I1, rfl, q1⟩
theorem aEv (ha : PE X a ta) : PE X (.UnaryOp .Not a pos) (aHd ta) := by
 intro pins s σ H Q I h
 refine UnaryOp_ (thn (ha pins s σ H _ I h) fun v s1 ⟨x, H1, I1, r1, q1⟩ => ?_)
 obtain ⟨c, rfl, q1⟩ := q1
 cases r1
 exact not_of (wpAny_truthy_bool ⟨.bl (!c), H1, I1, rfl, q1⟩)
end
def SqL (K : PySem.W.Frag) (H : Hp) (a : Addr) (xs : List V) : Prop :=
 Rd H a (.lst xs) \/
  ∃ (o : Obj) (its : Array Value) (n : Nat), K.lookup a = some o /\ o.cls = .type "list" /\ o.dict = none /\ o.data = .seq its n /\ its.size <= sizeLine /\ Vals xs its.toList
def SqT (K : PySem.W.Frag) (H : Hp) (a : Addr) (xs : List V) : Prop :=
 Rd H a (.tup xs) \/
  ∃ (o : Obj) (its : Array Value) (n : Nat), K.lookup a = some o /\ o.cls = .type "tuple" /\ o.data = .seq its n /\ its.size <= sizeLine /\ Vals xs its.toList
def aJd : Value -> Option V
 | .none => some .non
 | .bool b => some (.bl b)
 | .int i _ => some (.int i)
 | .str x _ => some (.str x)
 | .bytes b _ => some (.byt b)
 | .float b _ => some (.flt b)
 | .ref a => some (.ref a)
 | .type n => some (.ty n)
 | _ => none
theorem RelV.abs {x : V} {u : Value} (r : RelV x u) : aJd u = some x := by
 cases x with
 | non => cases r; rfl
 | bl _ => cases r; rfl
 | int _ => obtain ⟨t, rfl⟩ := r; rfl
 | str _ => obtain ⟨t, rfl⟩ := r; rfl
 | byt _ => obtain ⟨t, rfl⟩ := r; rfl
 | flt _ => obtain ⟨t, rfl⟩ := r; rfl
 | ref _ => cases r; rfl
 | ty _ => cases r; rfl
theorem RelV.inj {x y : V} {u : Value} (r : RelV x u) (q : RelV y u) : x = y := Option.some.inj (r.abs.symm.trans q.abs)
theorem Vals.inj : ∀ {xs ys : List V} {us : List Value}, Vals xs us -> Vals ys us -> xs = ys
 | _, _, _, .nil, .nil => rfl
 | _, _, _, .cons r t, .cons r' t' => by rw [r.inj r', Vals.inj t t']
section
variable {X : Cx} {pins : List (Addr × Obj)} {σ : St} {H : Hp} {s : Shared} {a : Addr} {xs ys : List V}
theorem SqL.of {K : PySem.W.Frag} (h : H a = some (.lst xs)) : SqL K H a xs := .inl (.inl h)
theorem SqT.of {K : PySem.W.Frag} (h : H a = some (.tup xs)) : SqT K H a xs := .inl (.inl h)
theorem Inv.list (I : Inv X pins σ H s) (h : SqL X.K H a xs) : ∃ its : List Value, Vals xs its /\ PlainL s.heap a its.toArray /\ xs.length <= sizeLine := by
 rcases h with h | ⟨o, its, n, hk, hc, hd, hs, hz, r⟩
 ·obtain ⟨z, its, n, r, e⟩ := h.ok I.hok
  exact ⟨its, r, ⟨_, n, e, rfl, rfl, rfl⟩, z⟩
 ·refine ⟨its.toList, r, ⟨o, n, I.kIn a o hk, hc, hd, by simpa using hs⟩, ?_⟩
  have e := r.length
  simp only [Array.length_toList] at e
  omega
theorem Inv.tuple (I : Inv X pins σ H s) (h : SqT X.K H a xs) : ∃ its : List Value, Vals xs its /\ IsTup s.heap a its.toArray /\ xs.length <= sizeLine := by
 rcases h with h | ⟨o, its, n, hk, hc, hs, hz, r⟩
 ·obtain ⟨z, its, r, p⟩ := h.ok I.hok
  exact ⟨its, r, p, z⟩
 ·refine ⟨its.toList, r, ⟨o, I.kIn a o hk, hc, n, by simpa using hs⟩, ?_⟩
  have e := r.length
  simp only [Array.length_toList] at e
  omega
theorem Inv.list_inj (I : Inv X pins σ H s) (h : SqL X.K H a xs) (h' : SqL X.K H a ys) : xs = ys := by
 obtain ⟨its, r, ⟨o, n, e, _, _, d⟩, _⟩ := I.list h
 obtain ⟨its', r', ⟨o', n', e', _, _, d'⟩, _⟩ := I.list h'
 rw [e] at e'; cases e'
 rw [d] at d'
 injection d' with d1 _
 have : its = its' := by simpa using congrArg Array.toList d1
 subst this
 exact r.inj r'
theorem Inv.tuple_inj (I : Inv X pins σ H s) (h : SqT X.K H a xs) (h' : SqT X.K H a ys) : xs = ys := by
 obtain ⟨its, r, ⟨o, e, _, n, d⟩, _⟩ := I.tuple h
 obtain ⟨its', r', ⟨o', e', _, n', d'⟩, _⟩ := I.tuple h'
 rw [e] at e'; cases e'
 rw [d] at d'
 injection d' with d1 _
 have : its = its' := by simpa using congrArg Array.toList d1
 subst this
 exact r.inj r'
end
section
variable {X : Cx} {pins : List (Addr × Obj)} {σ : St} {H : Hp} {s : Shared} {E : Value -> Shared -> Prop}
end
section
variable {X : Cx} {st : Stmt} {rest : List Stmt} {t u : TS} {e : Expr} {te : TE} {pos : Pos}
def aH5 : TS := fun D σ H => D.nx σ H
def aI3 (t u : TS) : TS := fun D σ H => t { D with nx := u D } σ H
theorem aCv : PSs X [] aH5 := fun _ _ σ H _ I h => wpAny_execs_nil ⟨σ, H, I, h⟩
theorem xV (h1 : PS X st t) (h2 : PSs X rest u) : PSs X (st :: rest) (aI3 t u) := by
 intro pins s σ H D I h
 refine wpAny_execs_cons (thn (h1 pins s σ H { D with nx := u D } I h) fun f s1 q => ?_)
 cases f with
 | next =>
  obtain ⟨σ', H', I', q⟩ := q
  exact h2 pins s1 σ' H' D I' q
 | ret v => exact q
 | brk => exact q
 | cont => exact q
theorem aCn (h1 : PS X st t) : PSs X [st] t := by
 intro pins s σ H D I h
 refine wpAny_execs_cons (thn (h1 pins s σ H D I h) fun f s1 q => ?_)
 cases f with
 | next => exact wpAny_execs_nil q
 | ret v => exact q
 | brk => exact q
 | cont => exact q
def aEm : TS := fun D σ H => D.bk σ H
theorem y0 : PS X (.Break pos) aEm := fun _ _ σ H _ I h => wpAny_Break ⟨σ, H, I, h⟩
theorem Inv.quiet {pins : List (Addr × Obj)} {σ : St} {H : Hp} {s : Shared} (I : Inv X pins σ H s) : interactive X.env = false := by simp [interactive, I.ok.kind]
def vY (te : TE) : TS := fun D σ H => te σ H fun _ H1 => D.nx σ H1
theorem fC (he : PE X e te) (hs : swapsWith e none pos.line X.env = pure false := by rfl) : PS X (.Expr e pos) (vY te) := by
 intro pins s σ H D I h
 exact wpAny_Expr_any (thn (he pins s σ H _ I h) fun v s1 ⟨x, H1, I1, r1, q1⟩ => ⟨σ, H1, I1, q1⟩) I.quiet hs
def aJc (te : TE) : TS := fun D σ H => te σ H D.rt
theorem aGt (he : PE X e te) : PS X (.Return (some e) pos) (aJc te) := by
 intro pins s σ H D I h
 exact wpAny_Return_some (thn (he pins s σ H _ I h) fun v s1 ⟨x, H1, I1, r1, q1⟩ => ⟨x, σ, H1, I1, r1, q1⟩)
def aJi (c : TT) (t u : TS) : TS := fun D σ H => c σ H fun b H1 => if b = true then t D σ H1 else u D σ H1
theorem aH9 {c : Expr} {a b : List Stmt} {tc : TT} (hc : PT X c tc) (ha : PSs X a t) (hb : PSs X b u) : PS X (.If c a b pos) (aJi tc t u) := by
 intro pins s σ H D I h
 refine wpAny_If (thn (hc pins s σ H _ I h) fun d s1 ⟨H1, I1, q1⟩ => ?_)
 cases d with
 | true => exact ha pins s1 σ H1 D I1 q1
 | false => exact hb pins s1 σ H1 D I1 q1
end
abbrev TG := V -> St -> Hp -> (St -> Hp -> Prop) -> Prop
def PG (X : Cx) (target : Expr) (t : TG) : Prop :=
 ∀ (pins : List (Addr × Obj)) (s : Shared) (σ : St) (H : Hp) (v : V) (u : Value) (Q : St -> Hp -> Prop), Inv X pins σ H s -> RelV v u -> t v σ H Q ->
  wpAny (model X.prog X.w) X.A (assign target X.env u) (fun _ s' => ∃ σ' H', Inv X pins σ' H' s' /\ Q σ' H') X.xe s
section
variable {X : Cx} {pos : Pos}
def aE3 (i : Nat) : TG := fun v σ H Q => Q (σ.set i (some v)) H
theorem aCx {i : Nat} {x : Str} (hN : X.N.Nodup) (hi : X.N[i]? = some x) (hx : Loc X.env.scope x) (hf : X.fn x = true \/ X.env.scope.names.lookup x = some .local := by first | exact .inl rfl | exact .inr rfl | assumption) : PG X (.Name x pos) (aE3 i) := by
 intro pins s σ H v u Q I r h
 exact wpAny_assign_Name (qQ I hN hi hx r (fun s' I' => ⟨_, H, I', h⟩) hf)
def aI8 (te : TE) (g : TG) : TS := fun D σ H => te σ H fun x H1 => g x σ H1 D.nx
theorem aGf {i : Nat} {x : Str} {e : Expr} {te : TE} {pos' : Pos} (hN : X.N.Nodup) (hi : X.N[i]? = some x) (hx : Loc X.env.scope x) (he : PE X e te) (hs : swapsWith e (some (.Name x pos')) pos.line X.env = pure false := by rfl) (hf : X.fn x = true \/ X.env.scope.names.lookup x = some .local := by first | exact .inl rfl | exact .inr rfl | assumption) :
  PS X (.Assign [.Name x pos'] e pos) (aI8 te (aE3 i)) := by
 intro pins s σ H D I h
 refine wpAny_Assign_Name (thn (he pins s σ H _ I h) fun v s1 ⟨y, H1, I1, r1, q1⟩ => ?_) hs
 exact qQ I1 hN hi hx r1 (fun s2 I2 => ⟨_, H1, I2, q1⟩) hf
end
section
variable {X : Cx} {pos : Pos}
def aEx (c : TT) (tb : TS) : TS := fun D σ H => ∃ W : Nat -> St -> Hp -> Prop, (∃ m, W m σ H) /\ ∀ m σ H, W m σ H ->
 c σ H fun b H1 => if b = true then ∃ N : St -> Hp -> Prop, (∀ σ' H', N σ' H' -> ∃ m', m' < m /\ W m' σ' H') /\ tb { D with nx := N, ct := N, bk := D.nx } σ H1 else D.nx σ H1
theorem x3 {c : Expr} {body : List Stmt} {tc : TT} {tb : TS} (hp : PassesOwn (model X.prog X.w) X.A X.env X.xe) (hc : PT X c tc) (hb : PSs X body tb) : PS X (.While c body [] pos) (aEx tc tb) := by
 intro pins s σ H D I h
 obtain ⟨W, ⟨m0, w0⟩, turn⟩ := h
 refine wpAny_While (codeAny_whileLoop (fun n s' => ∃ σ' H', Inv X pins σ' H' s' /\ W n σ' H') ?_ m0 ⟨σ, H, I, w0⟩)
 rintro n s1 ⟨σ1, H1, I1, w1⟩
 refine wpAny_passesOwn hp (thn (hc pins s1 σ1 H1 _ I1 (turn n σ1 H1 w1)) fun b s2 ⟨H2, I2, q2⟩ => ?_)
 cases b with
 | true =>
  obtain ⟨N, hN, q2⟩ := q2
  rw [if_pos rfl]
  refine wpAny_passesOwn hp (thn (hb pins s2 σ1 H2 _ I2 q2) fun f s3 q3 => ?_)
  cases f with
  | next =>
   obtain ⟨σ3, H3, I3, n3⟩ := q3
   obtain ⟨m', hm, w3⟩ := hN σ3 H3 n3
   exact ⟨m', hm, σ3, H3, I3, w3⟩
  | cont =>
   obtain ⟨σ3, H3, I3, n3⟩ := q3
   obtain ⟨m', hm, w3⟩ := hN σ3 H3 n3
   exact ⟨m', hm, σ3, H3, I3, w3⟩
  | brk => exact q3
  | ret v => exact q3
 | false =>
  rw [if_neg Bool.false_ne_true]
  exact wpAny_execs_nil ⟨σ1, H2, I2, q2⟩
end
structure It where
 go : Nat -> Hp -> Prop
 yld : Nat -> Hp -> V -> Hp -> Prop
 stop : Nat -> Hp -> Prop
def yA (X : Cx) (pins : List (Addr × Obj)) (H : Hp) (b : Addr) : Prop :=
 H b = none /\ b ≠ X.env.locals /\ b ∉ X.fs /\ (b ∈ X.ex \/ X.s₀.heap.objs.size <= b) /\ (∀ x c, X.env.cells.lookup x = some c -> c ≠ b) /\ ∀ p ∈ X.pn ++ pins, p.1 ≠ b
theorem Inv.fpOk {X : Cx} {pins : List (Addr × Obj)} {σ : St} {H H' : Hp} {s : Shared} {b : Addr} (I : Inv X pins σ H s) (hb : s.heap.objs.size <= b) (hn : H' b = none) : yA X pins H' b := by
 refine ⟨hn, Nat.ne_of_gt (Nat.lt_of_lt_of_le I.lt hb), I.nofs hb, .inr (Nat.le_trans I.sz hb), fun x c e z => ?_, fun p hp z => ?_⟩
 ·obtain ⟨v, q⟩ := I.cell x c e
  exact absurd (Nat.lt_of_lt_of_le q.lt (by rw [z]; exact hb)) (Nat.lt_irrefl _)
 ·exact absurd (Nat.lt_of_lt_of_le (Heap.lt_size (I.pin p hp).1) (by rw [z]; exact hb)) (Nat.lt_irrefl _)
structure Turn (P : Program) (w : World) (K : PySem.W.Frag) (tg : Expr) (J : It) (fp : List Addr) (it : Addr) (tn : Nat -> Heap -> Prop) : Prop where
 mem : it ∈ fp
 obj : ∀ i h, tn i h -> ∀ b ∈ fp, ∃ o, h.get? b = some o /\ ∀ v, o.data ≠ .cell v
 keep : ∀ i h h', tn i h -> (∀ b ∈ fp, ∀ o, h.get? b = some o -> h'.get? b = some o) -> tn i h'
 item : ∀ (X : Cx), X.prog = P -> X.w = w -> X.K = K -> X.calm = true -> ∀ (i : Nat) (pins : List (Addr × Obj)) (s : Shared) (σ : St) (H : Hp) (E : Value -> Shared -> Prop), Inv X pins σ H s -> (∀ b ∈ fp, yA X pins H b) -> tn i s.heap -> J.go i H ->
  wpAny (model P w) X.A (pyNext (.ref it)) (fun r s1 => ∃ u, r = some u /\
   wpAny (model P w) X.A (letOwnedTupleGo tg (.ref it) u) (fun _ s2 => ∃ x H', Inv X pins σ H' s2 /\ RelV x u /\ J.yld i H x H' /\ tn (i + 1) s2.heap /\ ∀ b ∈ fp, H' b = none) E s1) E s
 done : ∀ (X : Cx), X.prog = P -> X.w = w -> X.K = K -> X.calm = true -> ∀ (i : Nat) (pins : List (Addr × Obj)) (s : Shared) (σ : St) (H : Hp) (E : Value -> Shared -> Prop), Inv X pins σ H s -> (∀ b ∈ fp, yA X pins H b) -> tn i s.heap -> J.stop i H ->
  wpAny (model P w) X.A (pyNext (.ref it)) (fun r s1 => r = none /\ Inv X pins σ H s1) E s
 self : ∀ (A : Around) (i : Nat) (s : Shared) (Q : Value -> Shared -> Prop) (E : Value -> Shared -> Prop), tn i s.heap -> Q (.ref it) s -> wpAny (model P w) A (pyIter (.ref it)) Q E s
abbrev TI := St -> Hp -> (It -> Hp -> Prop) -> Prop
def PIE (X : Cx) (pins : List (Addr × Obj)) (σ : St) (tg : Expr) (R : It -> Hp -> Prop) (itv : Value) (s2 : Shared) : Prop :=
 ∃ (it : Addr) (fp : List Addr) (tn : Nat -> Heap -> Prop) (J : It) (H' : Hp), itv = .ref it /\ Inv X pins σ H' s2 /\ Turn X.prog X.w X.K tg J fp it tn /\ tn 0 s2.heap /\ (∀ b ∈ fp, yA X pins H' b) /\ R J H'
def PI (X : Cx) (tg iter : Expr) (wi : TI) : Prop :=
 ∀ (pins : List (Addr × Obj)) (s : Shared) (σ : St) (H : Hp) (R : It -> Hp -> Prop), Inv X pins σ H s -> wi σ H R ->
  wpAny (model X.prog X.w) X.A (eval iter X.env) (fun v s1 => wpAny (model X.prog X.w) X.A (pyIter v) (PIE X pins σ tg R) X.xe s1) X.xe s
theorem aCr {M : Model} {A : Around} {E : Value -> Shared -> Prop} {s : Shared} {tg : Expr} {it : Addr} {u : Value} {o : Obj} {n : String} {vs : Array Value} {Q : Unit -> Shared -> Prop} (ho : s.heap.get? it = some o) (hc : o.cls = .type n) (hd : o.data = .fields vs)
  (hn : ["enumerate", "zip", "dict_itemiterator", "dict_reverseitemiterator", "odict_iterator", "itertools.zip_longest", "itertools.pairwise"].contains n = false) (hQ : Q () s) : wpAny M A (letOwnedTupleGo tg (.ref it) u) Q E s := by
 unfold letOwnedTupleGo
 cases tg <;> first
  | exact wpAny_pure hQ
  | (cases u <;> first
    | exact wpAny_pure hQ
    | (refine wpAny_bind (wpAny_load ho ?_)
       rw [hc, hd]
       show wpAny M A (if (["enumerate", "zip", "dict_itemiterator", "dict_reverseitemiterator", "odict_iterator", "itertools.zip_longest", "itertools.pairwise"].contains n && vs[0]? == some (rawInt _)) = true then _ else _) Q E s
       rw [if_neg (by intro h; rw [hn, Bool.false_and] at h; cases h)]
       exact wpAny_pure hQ))
def Itl (K : PySem.W.Frag) (a : Addr) : It :=
 ⟨fun i H => ∃ xs x, SqL K H a xs /\ xs[i]? = some x, fun i H x H' => H' = H /\ ∀ xs, SqL K H a xs -> xs[i]? = some x, fun i H => ∃ xs, SqL K H a xs /\ xs.length <= i⟩
def Itt (K : PySem.W.Frag) (a : Addr) : It :=
 ⟨fun i H => ∃ xs x, SqT K H a xs /\ xs[i]? = some x, fun i H x H' => H' = H /\ ∀ xs, SqT K H a xs -> xs[i]? = some x, fun i H => ∃ xs, SqT K H a xs /\ xs.length <= i⟩
def Itr (lo : Int) (n : Nat) : It := ⟨fun i _ => i < n, fun i H x H' => H' = H /\ x = .int (lo + i), fun i _ => n <= i⟩
theorem vW {P : Program} {w : World} {K : PySem.W.Frag} {tg : Expr} (a it : Addr) : Turn P w K tg (Itl K a) [it] it (fun i h => h.IsListIter it a i) where
 mem := by simp
 obj := fun i h st b hb => by
  have e : b = it := by simpa using hb
  subst e
  obtain ⟨o, e, c, d⟩ := st
  exact ⟨o, e, fun v z => by rw [d] at z; cases z⟩
 keep := fun i h h' st k => st.at fun o e => k it (by simp) o e
 item := by
  intro X hP hw hK hc i pins s σ H E I hf st hg
  subst hP hw hK
  obtain ⟨xs, x, hq, hx⟩ := hg
  obtain ⟨its, rv, p, hz⟩ := I.list hq
  obtain ⟨u, hu, ru⟩ := rv.get hx
  obtain ⟨f0, f1, f2, f3, f4, f5⟩ := hf it (by simp)
  refine wpAny_pyNext_list_item st p.isList (x := u) (by simpa using hu) fun h' st' sb => ?_
  have I1 : Inv X pins σ H { s with heap := h' } := I.turned (t' := s.toks) (fun b o hb e => (sb.2 b hb).trans e) f0 f1 f3 f4 f5
  obtain ⟨o, e, c, d⟩ := id st'
  exact ⟨u, rfl, aCr (s := { s with heap := h' }) e c d (by decide) ⟨x, H, I1, ru, ⟨rfl, fun ys hy => by rw [I.list_inj hy hq]; exact hx⟩, st', fun b hb => (hf b hb).1⟩⟩
 done := by
  intro X hP hw hK hc i pins s σ H E I hf st hg
  subst hP hw hK
  obtain ⟨xs, hq, hx⟩ := hg
  obtain ⟨its, rv, p, hz⟩ := I.list hq
  obtain ⟨f0, f1, f2, f3, f4, f5⟩ := hf it (by simp)
  have hl := rv.length
  exact wpAny_pyNext_list_end (I.ok.hd hc) st p.isList (by simp; omega) fun h' eb => ⟨rfl, I.turned (t' := s.toks) (fun b o hb e => eb b o hb e) f0 f1 f3 f4 f5⟩
 self := fun _ _ _ _ _ st h => wpAny_pyIter_listiter st h
theorem rL {P : Program} {w : World} {K : PySem.W.Frag} {tg : Expr} (a it : Addr) : Turn P w K tg (Itt K a) [it] it (fun i h => h.IsTupleIter it a i) where
 mem := by simp
 obj := fun i h st b hb => by
  have e : b = it := by simpa using hb
  subst e
  obtain ⟨o, e, c, d⟩ := st
  exact ⟨o, e, fun v z => by rw [d] at z; cases z⟩
 keep := fun i h h' st k => st.at fun o e => k it (by simp) o e
 item := by
  intro X hP hw hK hc i pins s σ H E I hf st hg
  subst hP hw hK
  obtain ⟨xs, x, hq, hx⟩ := hg
  obtain ⟨its, rv, p, hz⟩ := I.tuple hq
  obtain ⟨u, hu, ru⟩ := rv.get hx
  obtain ⟨f0, f1, f2, f3, f4, f5⟩ := hf it (by simp)
  refine wpAny_pyNext_tuple_item st (show s.heap.IsTuple a its.toArray from p) (x := u) (by simpa using hu) fun h' st' sb => ?_
  have I1 : Inv X pins σ H { s with heap := h' } := I.turned (t' := s.toks) (fun b o hb e => (sb.2 b hb).trans e) f0 f1 f3 f4 f5
  obtain ⟨o, e, c, d⟩ := id st'
  exact ⟨u, rfl, aCr (s := { s with heap := h' }) e c d (by decide) ⟨x, H, I1, ru, ⟨rfl, fun ys hy => by rw [I.tuple_inj hy hq]; exact hx⟩, st', fun b hb => (hf b hb).1⟩⟩
 done := by
  intro X hP hw hK hc i pins s σ H E I hf st hg
  subst hP hw hK
  obtain ⟨xs, hq, hx⟩ := hg
  obtain ⟨its, rv, p, hz⟩ := I.tuple hq
  obtain ⟨f0, f1, f2, f3, f4, f5⟩ := hf it (by simp)
  have hl := rv.length
  exact wpAny_pyNext_tuple_end (I.ok.hd hc) st (show s.heap.IsTuple a its.toArray from p) (by simp; omega) fun h' eb => ⟨rfl, I.turned (t' := s.toks) (fun b o hb e => eb b o hb e) f0 f1 f3 f4 f5⟩
 self := fun _ _ _ _ _ st h => wpAny_pyIter_tupleiter st h
theorem rO {P : Program} {w : World} {K : PySem.W.Frag} {tg : Expr} (it : Addr) (lo : Int) (n : Nat) : Turn P w K tg (Itr lo n) [it] it (fun i h => IsRangeIter h it (lo + (i : Nat) * 1) ((n : Int) - (i : Nat)) 1) where
 mem := by simp
 obj := fun i h st b hb => by
  have e : b = it := by simpa using hb
  subst e
  exact ⟨_, st, fun v z => by
   have z' : Data.fields _ = Data.cell v := z
   cases z'⟩
 keep := fun i h h' st k => k it (by simp) _ st
 item := by
  intro X hP hw hK hc i pins s σ H E I hf st hg
  subst hP hw hK
  obtain ⟨f0, f1, f2, f3, f4, f5⟩ := hf it (by simp)
  have W := Walks.range (prog := X.prog) (w := X.w) (I.ok.hd hc) it lo 1 n
  refine W.item i s _ _ hg st fun v h' tk hv st' kk => ?_
  obtain ⟨t, rfl⟩ := hv
  have I1 : Inv X pins σ H { s with heap := h', toks := tk } := I.turned (fun b o hb e => kk b o (by simpa using hb) e) f0 f1 f3 f4 f5
  refine ⟨_, rfl, aCr (s := { s with heap := h', toks := tk }) (n := "range_iterator") st' rfl rfl (by decide) ⟨.int (lo + i), H, I1, ⟨t, ?_⟩, ⟨rfl, rfl⟩, st', fun b hb => (hf b hb).1⟩⟩
  rw [Int.mul_one]
 done := by
  intro X hP hw hK hc i pins s σ H E I hf st hg
  subst hP hw hK
  obtain ⟨f0, f1, f2, f3, f4, f5⟩ := hf it (by simp)
  exact wpAny_pyNext_range_end (I.ok.hd hc) st (by have : n <= i := hg; omega) fun h' eb => ⟨rfl, I.turned (t' := s.toks) (fun b o hb e => eb b o hb e) f0 f1 f3 f4 f5⟩
 self := fun _ _ _ _ _ st h => wpAny_pyIter_rangeiter st h
section
variable {X : Cx} {tg : Expr}
def aIh (K : PySem.W.Frag) (tl : TE) : TI := fun σ H R => tl σ H fun x H1 => ∃ a, x = .ref a /\ (∃ xs, SqL K H1 a xs) /\ R (Itl K a) H1
def aI1 (K : PySem.W.Frag) (tl : TE) : TI := fun σ H R => tl σ H fun x H1 => ∃ a, x = .ref a /\ (∃ xs, SqT K H1 a xs) /\ R (Itt K a) H1
theorem aBp {l : Expr} {tl : TE} (hl : PE X l tl) : PI X tg l (aIh X.K tl) := by
 intro pins s σ H R I h
 refine thn (hl pins s σ H _ I h) fun v s1 ⟨x, H1, I1, r1, q1⟩ => ?_
 obtain ⟨a, e, ⟨xs, hq⟩, q⟩ := q1
 subst e
 cases r1
 obtain ⟨its, rv, p, hz⟩ := I1.list hq
 refine wpAny_pyIter_list p.isList ?_
 refine ⟨s1.heap.objs.size, [s1.heap.objs.size], _, _, H1, rfl, I1.kept (t' := s1.toks) fun b o e => Heap.get?_push_of_some _ e, vW a _, ⟨_, Heap.get?_push_size _ rfl, rfl, rfl⟩, fun b hb => ?_, q⟩
 have e : b = s1.heap.objs.size := by simpa using hb
 subst e
 exact I1.fpOk (Nat.le_refl _) (I1.hok.fresh (Nat.le_refl _))
theorem aD3 {l : Expr} {tl : TE} (hl : PE X l tl) : PI X tg l (aI1 X.K tl) := by
 intro pins s σ H R I h
 refine thn (hl pins s σ H _ I h) fun v s1 ⟨x, H1, I1, r1, q1⟩ => ?_
 obtain ⟨a, e, ⟨xs, hq⟩, q⟩ := q1
 subst e
 cases r1
 obtain ⟨its, rv, p, hz⟩ := I1.tuple hq
 refine wpAny_pyIter_tuple (show s1.heap.IsTuple a its.toArray from p) ?_
 refine ⟨s1.heap.objs.size, [s1.heap.objs.size], _, _, H1, rfl, I1.kept (t' := s1.toks) fun b o e => Heap.get?_push_of_some _ e, rL a _, ⟨_, Heap.get?_push_size _ rfl, rfl, rfl⟩, fun b hb => ?_, q⟩
 have e : b = s1.heap.objs.size := by simpa using hb
 subst e
 exact I1.fpOk (Nat.le_refl _) (I1.hok.fresh (Nat.le_refl _))
theorem yL {pins : List (Addr × Obj)} {σ : St} {H : Hp} {s : Shared} {R : It -> Hp -> Prop} {E : Value -> Shared -> Prop} {lo hi : Int} {t u v : Tok} {tk : Nat} (I : Inv X pins σ H s) (h1 : -(2 ^ 62) <= lo) (h2 : lo < 2 ^ 62) (h3 : -(2 ^ 62) <= hi) (h4 : hi < 2 ^ 62)
  (q : R (Itr lo (hi - lo).toNat) H) : wpAny (model X.prog X.w) X.A (pyIter (.ref s.heap.objs.size)) (PIE X pins σ tg R) E { s with heap := s.heap.push { cls := .type "range", data := .fields #[.int lo t, .int hi u, .int 1 v] }, toks := tk } := by
 refine wpAny_pyIter_range (IsRange.new ..) (small_one h1 h2 h3 h4) ?_
 have I1 : Inv X pins σ H { s with heap := s.heap.push { cls := .type "range", data := .fields #[.int lo t, .int hi u, .int 1 v] }, toks := tk } := I.kept fun b o e => Heap.get?_push_of_some _ e
 refine ⟨(s.heap.push { cls := .type "range", data := .fields #[.int lo t, .int hi u, .int 1 v] }).objs.size, [(s.heap.push { cls := .type "range", data := .fields #[.int lo t, .int hi u, .int 1 v] }).objs.size], _, _, H, rfl,
  I1.kept (t' := tk) fun b o e => Heap.get?_push_of_some _ e, rO _ lo (hi - lo).toNat, ?_, fun b hb => ?_, q⟩
 ·have e1 : lo + ((0 : Nat) : Int) * 1 = lo := by simp
  have e2 : (((hi - lo).toNat : Nat) : Int) - ((0 : Nat) : Int) = Builtin.Range.rangeSize lo hi 1 := by rw [rangeSize_one]; split <;> omega
  show IsRangeIter _ _ (lo + ((0 : Nat) : Int) * 1) ((((hi - lo).toNat : Nat) : Int) - ((0 : Nat) : Int)) 1
  rw [e1, e2]
  exact Heap.get?_push_size _ rfl
 ·have e : b = (s.heap.push { cls := .type "range", data := .fields #[.int lo t, .int hi u, .int 1 v] }).objs.size := by simpa using hb
  subst e
  exact I1.fpOk (Nat.le_refl _) (I1.hok.fresh (Nat.le_refl _))
def aHz (ta : TA) : TI := fun σ H R => ta σ H fun vs H1 => ∃ j : Int, vs = [.int j] /\ -(2 ^ 62) <= j /\ j < 2 ^ 62 /\ R (Itr 0 j.toNat) H1
theorem vE {a : Expr} {ta : TA} {p pos : Pos} (hg : Gl X "range") (hm : X.mg "range" = none) (ha : PA X [a] ta) (hs : starEach [a] X.env = [(false, eval a X.env)] := by rfl) : PI X tg (.Call (.Name "range" p) [a] [] pos) (aHz ta) := by
 intro pins s σ H R I h
 refine Call_ (hX I hg hm boot_range (PyProof.Rows.callWith_type1 (thn (ha pos pins s σ H _ I h) fun us s1 ⟨vs, H1, I1, r1, q1⟩ => ?_) hs rfl))
 obtain ⟨j, e, q1, q2, q⟩ := q1
 subst e
 cases r1 with
 | cons r rr =>
  cases rr
  obtain ⟨t, rfl⟩ := r
  exact call_range_1 (yL I1 (by omega) (by omega) q1 q2 (by simpa using q))
def aJh (wi : TI) (g : TG) (tb : TS) : TS := fun D σ H => wi σ H fun J H1 => ∃ W : Nat -> Nat -> St -> Hp -> Prop, (∃ m, W 0 m σ H1) /\ ∀ i m σ H, W i m σ H ->
 (J.stop i H /\ D.nx σ H) \/ (J.go i H /\ ∃ N : St -> Hp -> Prop, (∀ σ' H', N σ' H' -> ∃ m', m' < m /\ W (i + 1) m' σ' H') /\ ∀ x H', J.yld i H x H' -> g x σ H' fun σ2 H2 => tb { D with nx := N, ct := N, bk := D.nx } σ2 H2)
def rD (fp : List Addr) (h : Heap) : List (Addr × Obj) := fp.filterMap fun b => (h.get? b).map fun o => (b, o)
theorem dB {fp : List Addr} {h : Heap} {b : Addr} {o : Obj} (hb : b ∈ fp) (e : h.get? b = some o) : (b, o) ∈ rD fp h := List.mem_filterMap.mpr ⟨b, hb, by rw [e]; rfl⟩
theorem vU {fp : List Addr} {h : Heap} {p : Addr × Obj} (hp : p ∈ rD fp h) : p.1 ∈ fp /\ h.get? p.1 = some p.2 := by
 obtain ⟨b, hb, e⟩ := List.mem_filterMap.mp hp
 cases q : h.get? b with
 | none => rw [q] at e; cases e
 | some o =>
  rw [q] at e
  have e' : (b, o) = p := Option.some.inj e
  subst e'
  exact ⟨hb, q⟩
theorem Inv.pinned {pins : List (Addr × Obj)} {σ : St} {H : Hp} {s : Shared} {fp : List Addr} (I : Inv X pins σ H s) (hf : ∀ b ∈ fp, yA X pins H b) (ho : ∀ b ∈ fp, ∃ o, s.heap.get? b = some o /\ ∀ v, o.data ≠ .cell v) : Inv X (pins ++ rD fp s.heap) σ H s :=
 I.pins_of fun p hp => (List.mem_append.mp hp).elim (fun z => I.pin p (List.mem_append_right _ z)) fun z => by
  obtain ⟨hb, e⟩ := vU z
  obtain ⟨f0, f1, f2, _⟩ := hf p.1 hb
  obtain ⟨o, e', d⟩ := ho p.1 hb
  rw [e] at e'; cases e'
  exact ⟨e, f0, f1, f2, d⟩
theorem Inv.unpinned {pins pl : List (Addr × Obj)} {σ : St} {H : Hp} {s : Shared} (I : Inv X (pins ++ pl) σ H s) : Inv X pins σ H s := I.pins_of fun p hp => I.pin p (List.mem_append_right _ (List.mem_append_left _ hp))
theorem aE1 {iter : Expr} {body : List Stmt} {wi : TI} {g : TG} {tb : TS} {pos : Pos} (hp : PassesOwn (model X.prog X.w) X.A X.env X.xe) (hc : X.calm = true) (hi : PI X tg iter wi) (hg : PG X tg g) (hb : PSs X body tb)
  (hs : ∀ x, foldedSetIterable iter X.env x = pure x := by intro _; rfl) : PS X (.For tg iter body [] pos) (aJh wi g tb) := by
 intro pins s σ H D I h
 refine wpAny_For (thn (hi pins s σ H _ I h) fun v s1 h1 => thn h1 fun itv s2 h2 => ?_) hs
 obtain ⟨it, fp, tn, J, H2, e, I2, T, st2, f2, W, ⟨m0, w0⟩, turn⟩ := h2
 subst e
 have stat : ∀ {H' : Hp}, (∀ b ∈ fp, H' b = none) -> ∀ b ∈ fp, yA X pins H' b := fun hn b hb => ⟨hn b hb, (f2 b hb).2⟩
 refine codeAny_forLoop_any (fun n s' => ∃ i σ' H', Inv X pins σ' H' s' /\ tn i s'.heap /\ (∀ b ∈ fp, H' b = none) /\ W i n σ' H') ?_ m0 ⟨0, σ, H2, I2, st2, fun b hb => (f2 b hb).1, w0⟩
 rintro n s3 ⟨i, σ3, H3, I3, st3, fr3, w3⟩
 rcases turn i n σ3 H3 w3 with ⟨stop, qn⟩ | ⟨go, N, hN, step⟩
 ·refine wpAny_passesOwn hp (thn (T.done X rfl rfl rfl hc i pins s3 σ3 H3 X.xe I3 (stat fr3) st3 stop) fun r s4 ⟨hr, I4⟩ => ?_)
  subst hr
  exact wpAny_execs_nil ⟨σ3, H3, I4, qn⟩
 ·refine wpAny_passesOwn hp (thn (T.item X rfl rfl rfl hc i pins s3 σ3 H3 X.xe I3 (stat fr3) st3 go) fun r s4 ⟨u, hr, h4⟩ => ?_)
  subst hr
  refine wpAny_passesOwn hp (thn h4 fun _ s5 ⟨x, H5, I5, r5, y5, st5, fr5⟩ => ?_)
  have I5' := I5.pinned (stat fr5) (T.obj _ _ st5)
  refine wpAny_passesOwn hp (thn (hg _ s5 σ3 H5 x u _ I5' r5 (step x H5 y5)) fun _ s6 ⟨σ6, H6, I6, q6⟩ => ?_)
  refine wpAny_passesOwn hp (thn (hb _ s6 σ6 H6 _ I6 q6) fun f s7 q7 => ?_)
  have again : ∀ {σ7 : St} {H7 : Hp}, Inv X (pins ++ rD fp s5.heap) σ7 H7 s7 -> N σ7 H7 -> ∃ m, m < n /\ ∃ i σ' H', Inv X pins σ' H' s7 /\ tn i s7.heap /\ (∀ b ∈ fp, H' b = none) /\ W i m σ' H' := fun {σ7 H7} I7 n7 => by
   obtain ⟨m', hm, w7⟩ := hN σ7 H7 n7
   refine ⟨m', hm, i + 1, σ7, H7, I7.unpinned, T.keep _ _ _ st5 fun b hb o e => (I7.pin (b, o) (List.mem_append_right _ (List.mem_append_right _ (dB hb e)))).1, fun b hb => ?_, w7⟩
   obtain ⟨o, e, d⟩ := T.obj _ _ st5 b hb
   exact (I7.pin (b, o) (List.mem_append_right _ (List.mem_append_right _ (dB hb e)))).2.1
  cases f with
  | next => obtain ⟨σ7, H7, I7, n7⟩ := q7; exact again I7 n7
  | cont => obtain ⟨σ7, H7, I7, n7⟩ := q7; exact again I7 n7
  | brk => obtain ⟨σ7, H7, I7, q7⟩ := q7; exact ⟨σ7, H7, I7.unpinned, q7⟩
  | ret v => obtain ⟨x7, σ7, H7, I7, r7, q7⟩ := q7; exact ⟨x7, σ7, H7, I7.unpinned, r7, q7⟩
end
abbrev R2 := V -> V -> Hp -> VK -> Prop
def OpR (X : Cx) (f : Value -> Value -> Sem Value) (r : R2) : Prop :=
 ∀ (pins : List (Addr × Obj)) (s : Shared) (σ : St) (H : Hp) (x y : V) (v u : Value) (Q : VK), Inv X pins σ H s -> RelV x v -> RelV y u -> r x y H Q ->
  wpAny (model X.prog X.w) X.A (f v u) (EP X pins σ Q) X.xe s
def UnR (X : Cx) (f : Value -> Sem Value) (r : V -> Hp -> VK -> Prop) : Prop :=
 ∀ (pins : List (Addr × Obj)) (s : Shared) (σ : St) (H : Hp) (x : V) (v : Value) (Q : VK), Inv X pins σ H s -> RelV x v -> r x H Q ->
  wpAny (model X.prog X.w) X.A (f v) (EP X pins σ Q) X.xe s
def kF (X : Cx) (f : Value) (r : List V -> Hp -> VK -> Prop) : Prop :=
 ∀ (pins : List (Addr × Obj)) (s : Shared) (σ : St) (H : Hp) (xs : List V) (us : List Value) (Q : VK), Inv X pins σ H s -> Vals xs us -> r xs H Q ->
  wpAny (model X.prog X.w) X.A (call f us) (EP X pins σ Q) X.xe s
def tOp (r : R2) (ta tb : TE) : TE := fun σ H Q => ta σ H fun x H1 => tb σ H1 fun y H2 => r x y H2 Q
def tUn (r : V -> Hp -> VK -> Prop) (ta : TE) : TE := fun σ H Q => ta σ H fun x H1 => r x H1 Q
def rI (C : Int -> Int -> Prop) (g : Int -> Int -> V) : R2 := fun x y H Q => ∃ i j, x = .int i /\ y = .int j /\ C i j /\ Q (g i j) H
def rI0 (g : Int -> Int -> V) : R2 := fun x y H Q => ∃ i j, x = .int i /\ y = .int j /\ Q (g i j) H
def rU (g : Int -> V) : V -> Hp -> VK -> Prop := fun x H Q => ∃ i, x = .int i /\ Q (g i) H
section
variable {X : Cx} {a b c : Expr} {ta tb tc : TE} {pos : Pos}
theorem aHi (ha : PE X a ta) (hb : PE X b tb) {pins : List (Addr × Obj)} {s : Shared} {σ : St} {H : Hp} {R : V -> V -> Hp -> Prop} (I : Inv X pins σ H s)
  (h : ta σ H fun x H1 => tb σ H1 fun y H2 => R x y H2) {Q : Value -> Shared -> Prop} {f : Value -> Value -> Sem Value}
  (hf : ∀ v u s2 x y H2, Inv X pins σ H2 s2 -> RelV x v -> RelV y u -> R x y H2 -> wpAny (model X.prog X.w) X.A (f v u) Q X.xe s2) :
  wpAny (model X.prog X.w) X.A (eval a X.env) (fun v s₁ => wpAny (model X.prog X.w) X.A (eval b X.env) (fun u s₂ => wpAny (model X.prog X.w) X.A (f v u) Q X.xe s₂) X.xe s₁) X.xe s := by
 refine thn (ha pins s σ H _ I h) fun v s1 ⟨x, H1, I1, r1, q1⟩ => ?_
 refine thn (hb pins s1 σ H1 _ I1 q1) fun u s2 ⟨y, H2, I2, r2, q2⟩ => ?_
 exact hf v u s2 x y H2 I2 r1 r2 q2
theorem aHm {op : Operator} {r : R2} (ho : OpR X (binaryOp op) r) (ha : PE X a ta) (hb : PE X b tb) : PE X (.BinOp a op b pos) (tOp r ta tb) := by
 intro pins s σ H Q I h
 exact wpAny_BinOp (aHi ha hb I h fun v u s2 x y H2 I2 rx ry q => ho pins s2 σ H2 x y v u Q I2 rx ry q)
theorem aHg {op : UnaryOp} {r : V -> Hp -> VK -> Prop} (ho : UnR X (unaryOp op) r) (ha : PE X a ta) : PE X (.UnaryOp op a pos) (tUn r ta) := by
 intro pins s σ H Q I h
 exact UnaryOp_ (thn (ha pins s σ H _ I h) fun v s1 ⟨x, H1, I1, r1, q1⟩ => ho pins s1 σ H1 x v Q I1 r1 q1)
theorem opI {f : Value -> Value -> Sem Value} {C : Int -> Int -> Prop} {g : Int -> Int -> Int}
  (rule : ∀ (i j : Int) (t u : Tok) (s : Shared) (Q : Value -> Shared -> Prop) (E : Value -> Shared -> Prop), C i j -> Q (.int (g i j) s.toks) { s with toks := s.toks + 1 } -> wpAny (model X.prog X.w) X.A (f (.int i t) (.int j u)) Q E s) :
  OpR X f (rI C fun i j => .int (g i j)) := by
 intro pins s σ H x y v u Q I rx ry h
 obtain ⟨i, j, rfl, rfl, hc, q⟩ := h
 obtain ⟨t, rfl⟩ := rx
 obtain ⟨t', rfl⟩ := ry
 exact rule i j t t' s _ _ hc ⟨.int (g i j), H, I.tok _, ⟨_, rfl⟩, q⟩
theorem aI0 {f : Value -> Value -> Sem Value} {g : Int -> Int -> Int}
  (rule : ∀ (i j : Int) (t u : Tok) (s : Shared) (Q : Value -> Shared -> Prop) (E : Value -> Shared -> Prop), Q (.int (g i j) s.toks) { s with toks := s.toks + 1 } -> wpAny (model X.prog X.w) X.A (f (.int i t) (.int j u)) Q E s) :
  OpR X f (rI0 fun i j => .int (g i j)) := by
 intro pins s σ H x y v u Q I rx ry h
 obtain ⟨i, j, rfl, rfl, q⟩ := h
 obtain ⟨t, rfl⟩ := rx
 obtain ⟨t', rfl⟩ := ry
 exact rule i j t t' s _ _ ⟨.int (g i j), H, I.tok _, ⟨_, rfl⟩, q⟩
theorem aG2 {f : Value -> Value -> Sem Value} {g : Int -> Int -> Bool}
  (rule : ∀ (i j : Int) (t u : Tok) (s : Shared) (Q : Value -> Shared -> Prop) (E : Value -> Shared -> Prop), Q (.bool (g i j)) s -> wpAny (model X.prog X.w) X.A (f (.int i t) (.int j u)) Q E s) :
  OpR X f (rI0 fun i j => .bl (g i j)) := by
 intro pins s σ H x y v u Q I rx ry h
 obtain ⟨i, j, rfl, rfl, q⟩ := h
 obtain ⟨t, rfl⟩ := rx
 obtain ⟨t', rfl⟩ := ry
 exact rule i j t t' s _ _ ⟨.bl (g i j), H, I, rfl, q⟩
def aAm (i j : Int) : Prop := 0 <= j /\ j <= 1000000 /\ i.natAbs < 2 ^ 64
def CMul (i j : Int) : Prop := (-(2 ^ 64) < i /\ i < 2 ^ 64) \/ (-(2 ^ 64) < j /\ j < 2 ^ 64)
theorem CMul.ok {i j : Int} (h : CMul i j) : IntMulOk i j := by
 rcases h with ⟨h1, h2⟩ | ⟨h1, h2⟩
 ·exact .of_left (intBits_le_64 h1 h2)
 ·exact .of_right (intBits_le_64 h1 h2)
theorem aFx : OpR X (binaryOp .Add) (rI0 fun i j => .int (i + j)) := aI0 fun _ _ _ _ _ _ _ q => add_int q
theorem bU : OpR X (binaryOp .Sub) (rI0 fun i j => .int (i - j)) := aI0 fun _ _ _ _ _ _ _ q => sub_int q
theorem b9 : OpR X (binaryOp .Mod) (rI (fun _ j => j ≠ 0) fun i j => .int (i.fmod j)) := opI fun _ _ _ _ _ _ _ hc q => mod_int' hc q
theorem jW : OpR X (binaryOp .Pow) (rI aAm fun i j => .int (i ^ j.toNat)) := opI fun _ _ _ _ _ _ _ hc q => pow_int_small hc.1 hc.2.1 hc.2.2 q
theorem unI {f : Value -> Sem Value} {g : Int -> Int}
  (rule : ∀ (i : Int) (t : Tok) (s : Shared) (Q : Value -> Shared -> Prop) (E : Value -> Shared -> Prop), Q (.int (g i) s.toks) { s with toks := s.toks + 1 } -> wpAny (model X.prog X.w) X.A (f (.int i t)) Q E s) :
  UnR X f (rU fun i => .int (g i)) := by
 intro pins s σ H x v Q I rx h
 obtain ⟨i, rfl, q⟩ := h
 obtain ⟨t, rfl⟩ := rx
 exact rule i t s _ _ ⟨.int (g i), H, I.tok _, ⟨_, rfl⟩, q⟩
theorem aD7 : UnR X (unaryOp .USub) (rU fun i => .int (-i)) := unI fun _ _ _ _ _ q => neg_int q
end
section
variable {X : Cx} {a b c : Expr} {ta tb tc : TE} {pos : Pos}
theorem aBx : OpR X (compareOp .Lt) (rI0 fun i j => .bl (decide (i < j))) := aG2 fun _ _ _ _ _ _ _ q => lt_int q
theorem aH6 : OpR X (compareOp .LtE) (rI0 fun i j => .bl (decide (i <= j))) := aG2 fun _ _ _ _ _ _ _ q => le_int q
theorem aEw : OpR X (compareOp .Gt) (rI0 fun i j => .bl (decide (j < i))) := aG2 fun _ _ _ _ _ _ _ q => gt_int q
theorem aHk : OpR X (compareOp .GtE) (rI0 fun i j => .bl (decide (j <= i))) := aG2 fun _ _ _ _ _ _ _ q => ge_int q
theorem OpR.or {f : Value -> Value -> Sem Value} {r r' : R2} (h : OpR X f r) (h' : OpR X f r') : OpR X f (fun x y H Q => r x y H Q \/ r' x y H Q) := by
 intro pins s σ H x y v u Q I rx ry q
 rcases q with q | q
 ·exact h pins s σ H x y v u Q I rx ry q
 ·exact h' pins s σ H x y v u Q I rx ry q
theorem dD (b : Expr) {op : CmpOp} (h : op ≠ .In := by decide) (h2 : op ≠ .NotIn := by decide) : behindInMarks op b = false := by
 have e1 : (op == CmpOp.In) = false := by cases op <;> first | rfl | exact absurd rfl h
 have e2 : (op == CmpOp.NotIn) = false := by cases op <;> first | rfl | exact absurd rfl h2
 cases b <;> simp [behindInMarks, e1, e2]
theorem aB1 {op : CmpOp} {r : R2} (ho : OpR X (compareOp op) r) (ha : PE X a ta) (hb : PE X b tb) (hm : behindInMarks op b = false) : PE X (.Compare a [op] [b] pos) (tOp r ta tb) := by
 intro pins s σ H Q I h
 exact wpAny_Compare1 (aHi ha hb I h fun v u s2 x y H2 I2 rx ry q => ho pins s2 σ H2 x y v u Q I2 rx ry q) hm
def aIj (t : TE) : TT := fun σ H Q => t σ H fun x H' => ∃ k, x = .bl k /\ Q k H'
theorem aBf {op : CmpOp} {r : R2} (ho : OpR X (compareOp op) r) (ha : PE X a ta) (hb : PE X b tb) (hm : behindInMarks op b = false) : PT X (.Compare a [op] [b] pos) (aIj (tOp r ta tb)) := by
 intro pins s σ H Q I h
 refine wpAny_isTrue_Compare1 (thn (ha pins s σ H _ I h) fun v s1 ⟨x, H1, I1, r1, q1⟩ => thn (hb pins s1 σ H1 _ I1 q1) fun u s2 ⟨y, H2, I2, r2, q2⟩ =>
  thn (ho pins s2 σ H2 x y v u _ I2 r1 r2 q2) fun c s3 ⟨z, H3, I3, r3, k, e, q3⟩ => ?_) hm
 subst e
 cases r3
 exact wpAny_truthy_bool ⟨H3, I3, q3⟩
theorem uU : (sizeLine : Nat) < 2 ^ 63 := by rw [sizeLine_eq]; decide
theorem rZ : OpR X (binaryOp .Add) (fun x y H Q => ∃ i j, x = .str i /\ y = .str j /\ i.length + j.length <= sizeLine /\ Q (.str (i ++ j)) H) := by
 intro pins s σ H x y v u Q I rx ry h
 obtain ⟨i, j, rfl, rfl, hz, q⟩ := h
 obtain ⟨t, rfl⟩ := rx
 obtain ⟨t', rfl⟩ := ry
 exact add_str (fun t' tk => ⟨.str (i ++ j), H, I.tok _, ⟨_, rfl⟩, q⟩) hz
theorem vals1 {x : V} {us : List Value} (r : Vals [x] us) : ∃ u, us = [u] /\ RelV x u := by
 cases r with
 | cons r1 r2 => cases r2; exact ⟨_, rfl, r1⟩
theorem vals2 {x y : V} {us : List Value} (r : Vals [x, y] us) : ∃ u w', us = [u, w'] /\ RelV x u /\ RelV y w' := by
 cases r with
 | cons r1 r2 =>
  cases r2 with
  | cons r3 r4 => cases r4; exact ⟨_, _, rfl, r1, r3⟩
theorem iE : kF X (.builtin "abs") (fun xs H Q => ∃ i, xs = [.int i] /\ Q (.int (if i < 0 then -i else i)) H) := by
 intro pins s σ H xs us Q I r h
 obtain ⟨i, rfl, q⟩ := h
 obtain ⟨u, rfl, t, rfl⟩ := vals1 r
 exact call_abs_int fun u tk => ⟨.int (if i < 0 then -i else i), H, I.tok _, ⟨_, rfl⟩, q⟩
theorem t7 (hc : X.calm = true) : kF X (.builtin "max") (fun xs H Q => ∃ i j, xs = [.int i, .int j] /\ Q (.int (if j > i then j else i)) H) := by
 intro pins s σ H xs us Q I r h
 obtain ⟨i, j, rfl, q⟩ := h
 obtain ⟨u, w', rfl, ⟨t, rfl⟩, ⟨t', rfl⟩⟩ := vals2 r
 refine max_two_ints (I.ok.hd hc) fun h' tk k => ⟨_, H, I.kept k, ?_, q⟩
 by_cases hj : j > i
 ·rw [if_pos hj, if_pos hj]; exact ⟨_, rfl⟩
 ·rw [if_neg hj, if_neg hj]; exact ⟨_, rfl⟩
end
structure ObjM (h : Heap) (x dx C : Addr) (mA : Str -> Option Value) : Prop where
 obj : h.get? x = some (PySem.W.instObj C dx)
 ns : h.Ns1 dx mA
 ne : dx ≠ x
theorem wX {h : Heap} {dx : Addr} {mA : Str -> Option Value} (n : h.Ns1 dx mA) : ∃ od, h.get? dx = some od /\ ∀ name, PySem.W.lookIn name od = some (mA name) := by
 obtain ⟨o, es, ep, ho, hd, hk, _, hm⟩ := n
 refine ⟨o, ho, fun name => ?_⟩
 have e := hm name
 unfold nsFind findBy at e
 rw [<- Array.find?_toList] at e
 unfold PySem.W.lookIn
 rw [hd]
 dsimp only
 split
 ·rename_i y q
  rw [q] at e
  exact congrArg some e
 ·rename_i q
  rw [q] at e
  have a : es.toList.any (·.refKey) = false := by
   rw [List.any_eq_false]
   intro y hy
   obtain ⟨z, t, hkey⟩ := hk y (Array.mem_toList_iff.mp hy)
   simp [DictEntry.refKey, hkey]
  have a' : ¬ es.toList.any (·.refKey) = true := by rw [a]; exact Bool.false_ne_true
  rw [if_neg a']
  exact congrArg some e
theorem ObjM.look {h : Heap} {x dx C : Addr} {mA : Str -> Option Value} (I : ObjM h x dx C mA) : ∃ od, PySem.W.InstAt h x (PySem.W.instObj C dx) C (some od) /\ ∀ name, PySem.W.lookIn name od = some (mA name) :=
 let ⟨od, ho, hl⟩ := wX I.ns
 ⟨od, ⟨I.obj, rfl, rfl, ho⟩, hl⟩
section
variable {prog : Program} {w : World} {A : Around} {E : Value -> Shared -> Prop} {s : Shared} {K : PySem.W.Frag} {x dx C f : Addr} {mA : Str -> Option Value} {name : Str} {v : Value}
end
section
variable {P : Program} {w : World} {H H' : Hp} {h h' : Heap} {a C dx : Addr} {fs fs' : List (Str × V)}
theorem aC3 (hok : HOk P w H h) (e : H a = some (.ins C dx fs)) : ∃ mA, ObjM h a dx C mA /\ (∀ f, aH3 (fs.lookup f) (mA f)) /\ PySem.Within mA (fs.map (·.1)) /\ fs.length <= 1000 /\ H dx = some (.own a) := by
 obtain ⟨d, z, ne, ob, mA, n, r, q⟩ := (show ObjOk P w H h a (.ins C dx fs) from hok a _ e)
 exact ⟨mA, ⟨ob, n, ne⟩, r, q, z, d⟩
end
structure Cls (K : PySem.W.Frag) (C : Addr) : Prop where
 pg : PySem.W.plainGet K C Str.empty = true
 hd : PySem.W.hasDictIn K C = true
 po : PySem.W.plainOver K C = true
 sa : PySem.W.findIn K (.ref C) "__setattr__" = some (some (.builtin "object.__setattr__"))
theorem Cls.get {K : PySem.W.Frag} {C : Addr} (c : Cls K C) (f : Str) : PySem.W.plainGet K C f = true := c.pg
section
variable {X : Cx} {pins : List (Addr × Obj)} {σ : St} {H : Hp} {s : Shared} {a C dx : Addr} {fs : List (Str × V)} {f : Str} {v : V} {A : Around} {E : Value -> Shared -> Prop}
end
section
variable {X : Cx} {o e value : Expr} {f : Str} {pos pos' tpos : Pos} {ta tv : TE}
end
section
variable {X : Cx} {pins : List (Addr × Obj)} {σ : St} {H : Hp} {s : Shared} {A : Around} {E : Value -> Shared -> Prop} {Q : Value -> Shared -> Prop} {c : Value} {b : Bool}
inductive q9 (K : PySem.W.Frag) (H : Hp) : V -> Value -> Prop where
 | non : q9 K H .non (.type "NoneType")
 | bl (x : Bool) : q9 K H (.bl x) (.type "bool")
 | int (i : Int) : q9 K H (.int i) (.type "int")
 | str (x : Str) : q9 K H (.str x) (.type "str")
 | flt (x : UInt64) : q9 K H (.flt x) (.type "float")
 | lst {a : Addr} {xs : List V} (e : H a = some (.lst xs)) : q9 K H (.ref a) (.type "list")
 | frz {a : Addr} {o : Obj} {xs : List V} (e : H a = some (.frz o (.lst xs))) : q9 K H (.ref a) (.type "list")
 | tup {a : Addr} {xs : List V} (e : H a = some (.tup xs)) : q9 K H (.ref a) (.type "tuple")
 | dK {a : Addr} {kvs : List (Key × V)} (e : H a = some (.dK kvs)) : q9 K H (.ref a) (.type "dict")
 | dT {a : Addr} {kvs : List (List Key × V)} (e : H a = some (.dT kvs)) : q9 K H (.ref a) (.type "dict")
 | ins {a C dx : Addr} {fs : List (Str × V)} (e : H a = some (.ins C dx fs)) (cl : Cls K C) (ha : PySem.W.findIn K (.ref C) "__class__" = some (some (.builtin "object.__class__")))
   (hn : PySem.W.specialIn K (.builtin "object.__class__") "__get__" = some (some (.builtin "getset_descriptor.__get__"))) (htk : PySem.W.takesIn K (.builtin "object.__class__") = some true)
   (hm : PySem.W.mroIn K C (.type "object") = some true) : q9 K H (.ref a) (.ref C)
theorem xA {x : V} {u t : Value} (I : Inv X pins σ H s) (rx : RelV x u) (ty : q9 X.K H x t) (e : PySem.W.kitOne X.K t c = some b) (h : ∀ tk, Q (.bool b) { s with toks := tk }) :
  wpAny (model X.prog X.w) A (call (.builtin "isinstance") [u, c]) Q E s := by
 cases ty with
 | non => cases (show u = Value.none from rx); exact PySem.W.kia_one PySem.W.kitx_none I.kIn True.intro e (fun z => nomatch z) h
 | bl y => cases (show u = Value.bool y from rx); exact PySem.W.kia_one PySem.W.kitx_bool I.kIn True.intro e (fun z => nomatch z) h
 | int i => obtain ⟨t, q⟩ := (show ∃ t, u = Value.int i t from rx); cases q; exact PySem.W.kia_one PySem.W.kitx_int I.kIn True.intro e (fun z => nomatch z) h
 | str y => obtain ⟨t, q⟩ := (show ∃ t, u = Value.str y t from rx); cases q; exact PySem.W.kia_one PySem.W.kitx_str I.kIn True.intro e (fun z => nomatch z) h
 | flt y => obtain ⟨t, q⟩ := (show ∃ t, u = Value.float y t from rx); cases q; exact PySem.W.kia_one PySem.W.kitx_float I.kIn True.intro e (fun z => nomatch z) h
 | @lst a xs ea =>
  cases (show u = Value.ref a from rx)
  obtain ⟨_, _, n, _, h1⟩ := (show ObjOk X.prog X.w H s.heap a (.lst xs) from I.hok a _ ea)
  exact PySem.W.kia_one PySem.W.kitx_list I.kIn ⟨_, h1, rfl⟩ e (fun z => nomatch z) h
 | @frz a ob xs ea =>
  cases (show u = Value.ref a from rx)
  obtain ⟨_, _, _, n, _, h1⟩ := (show ObjOk X.prog X.w H s.heap a (.frz ob (.lst xs)) from I.hok a _ ea)
  exact PySem.W.kia_one PySem.W.kitx_list I.kIn ⟨_, h1, rfl⟩ e (fun z => nomatch z) h
 | @tup a xs ea =>
  cases (show u = Value.ref a from rx)
  obtain ⟨_, _, _, p⟩ := (show ObjOk X.prog X.w H s.heap a (.tup xs) from I.hok a _ ea)
  obtain ⟨o, h1, h2, _⟩ := p
  exact PySem.W.kia_one PySem.W.kitx_tuple I.kIn ⟨o, h1, h2⟩ e (fun z => nomatch z) h
 | @dK a kvs ea =>
  cases (show u = Value.ref a from rx)
  obtain ⟨_, _, vs, _, p⟩ := (show ObjOk X.prog X.w H s.heap a (.dK kvs) from I.hok a _ ea)
  obtain ⟨o, es, ep, h1, h2, _⟩ := p
  exact PySem.W.kia_one PySem.W.kitx_dict I.kIn ⟨o, h1, h2.1⟩ e (fun z => nomatch z) h
 | @dT a kvs ea =>
  cases (show u = Value.ref a from rx)
  obtain ⟨_, _, xs, _, o, es, ep, h1, h2, _⟩ := (show ObjOk X.prog X.w H s.heap a (.dT kvs) from I.hok a _ ea)
  exact PySem.W.kia_one PySem.W.kitx_dict I.kIn ⟨o, h1, h2.1⟩ e (fun z => nomatch z) h
 | @ins a C dx fs ea cl ha hn htk hm =>
  cases (show u = Value.ref a from rx)
  obtain ⟨mA, O, _⟩ := aC3 I.hok ea
  obtain ⟨od, J, _⟩ := O.look
  exact PySem.W.kia_one (PySem.W.kitx_own (cl.get _) cl.hd ha hn htk hm) I.kIn J e (fun z => nomatch z) h
end
structure Room (k : Nat) (A : Around) : Prop where
 hd : A.handled = none
 dp : A.depth + 3 * k + 5 < recursionLimit
 un : A.units + 16 * k + 200 < cLine
theorem Room.mono {j k : Nat} {A : Around} (r : Room k A) (h : j <= k) : Room j A := ⟨r.hd, by have := r.dp; omega, by have := r.un; omega⟩
theorem Room.deeper {k : Nat} {A : Around} (r : Room (k + 1) A) (env : Env) : Room k (A.deeper env) :=
 ⟨r.hd, by have := r.dp; show A.depth + 1 + 3 * k + 5 < _; omega, by have := r.un; show A.units + 3 + 16 * k + 200 < _; omega⟩
theorem Room.depth {k : Nat} {A : Around} (r : Room k A) : A.depth < recursionLimit := by have := r.dp; omega
def aHb : TA := fun _ H Q => Q [] H
def aC9 (ta : TE) (tr : TA) : TA := fun σ H Q => ta σ H fun x H1 => tr σ H1 fun xs H2 => Q (x :: xs) H2
section
variable {X : Cx} {e : Expr} {es : List Expr} {te : TE} {t : TA} {pos : Pos}
theorem gI : PA X [] aHb := fun _ _ _ _ H Q I h => Calls.spliced_nil ⟨[], H, I, .nil, h⟩
theorem dR (ha : PE X e te) (hr : PA X es t) (hs : starEach (e :: es) X.env = (false, eval e X.env) :: starEach es X.env := by rfl) : PA X (e :: es) (aC9 te t) := by
 intro pos pins s σ H Q I h
 rw [hs]
 show wpAny _ _ (spliced ((false, eval e X.env) :: backTo pos (starEach es X.env))) _ _ s
 refine Calls.spliced_cons (thn (ha pins s σ H _ I h) fun u s1 ⟨x, H1, I1, r1, q1⟩ => ?_)
 exact thn (hr pos pins s1 σ H1 _ I1 q1) fun us s2 ⟨xs, H2, I2, r2, q2⟩ => ⟨x :: xs, H2, I2, .cons r1 r2, q2⟩
def aJb (t : TA) : TE := fun σ H Q => t σ H fun xs H1 => xs.length <= sizeLine /\ ∀ p, H1 p = none -> Q (.ref p) (upd H1 p (.tup xs))
def aI4 (t : TA) : TE := fun σ H Q => t σ H fun xs H1 => xs.length <= sizeLine /\ ∀ p, H1 p = none -> Q (.ref p) (upd H1 p (.lst xs))
theorem aEt {x1} (h : PA X es t) : PE X (.Tuple es x1 pos) (aJb t) := by
 intro pins s σ H Q I hq
 refine wpAny_Tuple_spliced (thn (h pos pins s σ H _ I hq) fun us s1 ⟨xs, H1, I1, r, z, q⟩ => ⟨by rw [<- r.length]; exact z, ?_⟩)
 have hf : H1 s1.heap.objs.size = none := I1.hok.fresh (Nat.le_refl _)
 refine ⟨.ref s1.heap.objs.size, upd H1 s1.heap.objs.size (.tup xs), I1.laid (t' := s1.toks) (fun b u e => Heap.get?_push_of_some _ e) (Nat.le_refl _) ?_, rfl, q _ hf⟩
 exact ⟨z, us, r, ⟨_, Heap.get?_push_size _ rfl, rfl, _, rfl⟩⟩
theorem aFs (h : PA X es t) : PE X (.List es pos) (aI4 t) := by
 intro pins s σ H Q I hq
 refine wpAny_List_spliced (thn (h pos pins s σ H _ I hq) fun us s1 ⟨xs, H1, I1, r, z, q⟩ => ⟨by rw [<- r.length]; exact z, ?_⟩)
 have hf : H1 s1.heap.objs.size = none := I1.hok.fresh (Nat.le_refl _)
 refine ⟨.ref s1.heap.objs.size, upd H1 s1.heap.objs.size (.lst xs), I1.laid (t' := s1.toks) (fun b u e => Heap.get?_push_of_some _ e) (Nat.le_refl _) ?_, rfl, q _ hf⟩
 exact ⟨z, us, 0, r, Heap.get?_push_size _ rfl⟩
end
abbrev Sp := List V -> Hp -> VK -> XK -> Prop
abbrev CXT := List Env -> Hp -> Shared -> XK -> Value -> Shared -> Prop
structure aGx (P : Program) (w : World) (K : PySem.W.Frag) (mg : Str -> Option Value) (base : Heap) (A : Around) (outer : List Env) (s : Shared) (H : Hp) : Prop where
 frames : A.frames = some outer
 mod : Mod K mg base
 bs : ∀ b o, base.get? b = some o -> s.heap.get? b = some o /\ H b = none
 bsz : base.objs.size <= s.heap.objs.size
 funs : s.heap.FunFrames base outer
 frf : ∀ b ∈ frs outer, H b = none
 hok : HOk P w H s.heap
 bare : AllBare s.gens
def CE (outer : List Env) (P : Program) (w : World) (H : Hp) (s : Shared) (Q : VK) (u : Value) (s' : Shared) : Prop :=
 ∃ v H', s'.os = s.os /\ AllBare s'.gens /\ Un (frs outer) [] H H' s.heap s'.heap /\ HOk P w H' s'.heap /\ RelV v u /\ Q v H'
def CR (CX : CXT) (outer : List Env) (P : Program) (w : World) (H : Hp) (s : Shared) (Q : VK) (E : XK) (r : Result) (s' : Shared) : Prop :=
 match r with
 | .ok (.ret u) => CE outer P w H s Q u s'
 | .ok _ => False
 | .error e => CX outer H s E e s'
structure FnOk (P : Program) (w : World) (K : PySem.W.Frag) (mg : Str -> Option Value) (base : Heap) (CX : CXT) (k : Nat) (f : Addr) (fd : FuncData) (ps : List Str) (sp : Sp) : Prop where
 len : ∀ vs H Q E, sp vs H Q E -> vs.length = ps.length
 run : ∀ (A : Around) (outer : List Env) (s : Shared) (H : Hp) (args : Args) (us : List Value) (vs : List V) (Q : VK) (E : XK), Room k A -> aGx P w K mg base A outer s H -> BindsTo s fd args (ps.zip us) -> Vals vs us -> sp vs H Q E ->
  codeAny (model P w) A (.call (.ref f) args) (CR CX outer P w H s Q E) s
theorem FnOk.mono {P : Program} {w : World} {K : PySem.W.Frag} {mg : Str -> Option Value} {base : Heap} {CX : CXT} {j k : Nat} {f : Addr} {fd : FuncData} {ps : List Str} {sp : Sp} (F : FnOk P w K mg base CX j f fd ps sp) (h : j <= k) :
  FnOk P w K mg base CX k f fd ps sp := ⟨F.len, fun A outer s H args us vs Q E hr => F.run A outer s H args us vs Q E (hr.mono h)⟩
theorem FnOk.imp {P : Program} {w : World} {K : PySem.W.Frag} {mg : Str -> Option Value} {base : Heap} {CX : CXT} {k : Nat} {f : Addr} {fd : FuncData} {ps : List Str} {sp sp' : Sp} (F : FnOk P w K mg base CX k f fd ps sp)
  (h : ∀ vs H Q E, sp' vs H Q E -> sp vs H Q E) : FnOk P w K mg base CX k f fd ps sp' :=
 ⟨fun vs H Q E q => F.len vs H Q E (h _ _ _ _ q), fun A outer s H args us vs Q E hr he hb hv hs => F.run A outer s H args us vs Q E hr he hb hv (h _ _ _ _ hs)⟩
section
variable {X : Cx} {pins : List (Addr × Obj)} {σ : St} {H : Hp} {s s' : Shared}
theorem Inv.env0 (I : Inv X pins σ H s) : aGx X.prog X.w X.K X.mg X.base X.A X.stack s H :=
 ⟨I.ok.frames, I.ok.mod, I.bs, Nat.le_trans I.ok.bsz I.sz, I.stack, I.stkFree, I.hok, I.bare⟩
theorem Inv.after {Q : VK} {u : Value} (I : Inv X pins σ H s) (h : CE X.stack X.prog X.w H s Q u s') : EP X pins σ Q u s' := by
 obtain ⟨v, H', os, bare, un, hok, r, q⟩ := h
 obtain ⟨hh, g, d, t, os'⟩ := s'
 obtain rfl : os' = s.os := os
 exact ⟨v, H', I.call (h' := hh) (g' := g) (d' := d) (t' := t) (ch := []) un hok bare (fun b z => absurd z (by simp)), r, q⟩
end
def Binds (K : PySem.W.Frag) (fd : FuncData) (ps : List Str) (ds : List Value) : Prop :=
 ∀ (s : Shared) (us : List Value), K.In s.heap -> (us ++ ds).length = ps.length -> BindsTo s fd ⟨us, []⟩ (ps.zip (us ++ ds))
theorem Binds.all {K : PySem.W.Frag} {fd : FuncData} {ps : List Str} (h : ∀ us : List Value, us.length = ps.length -> bindArgs fd ⟨us, []⟩ = pure (ps.zip us)) : Binds K fd ps [] := fun s us _ hl => by
 rw [List.append_nil] at hl ⊢
 exact .of_eq (h us hl)
def aEf (CX : CXT) (X : Cx) (E : XK) : Prop := ∀ (pins : List (Addr × Obj)) (σ : St) (H : Hp) (s : Shared) (e : Value) (s' : Shared), Inv X pins σ H s -> CX X.stack H s E e s' -> X.xe e s'
section
variable {X : Cx} {CX : CXT} {k : Nat} {f C : Addr} {fd : FuncData} {ps : List Str} {sp : Sp} {dvs : List V} {ds : List Value} {E : XK} {x m : Str} {p pos apos : Pos} {e o : Expr} {es : List Expr} {ta : TE} {t : TA}
end
section
variable {X : Cx} {CX : CXT} {k : Nat} {f C : Addr} {fd : FuncData} {ps ks : List Str} {sp : Sp} {E : XK} {x m : Str} {p pos apos kpos : Pos} {e o : Expr} {es : List Expr} {kws : List Keyword} {te ta : TE} {t tk : TA} {nm : Option Str}
variable {g : List Value -> List Value -> List Value} {gV : List V -> List V -> List V}
end
structure bL (N P : List Str) (sc : Scope) : Prop where
 kind : sc.kind = .function
 co : sc.isCoroutine = false
 gen : sc.isGenerator = false
 nd : N.Nodup
 pre : N.take P.length = P
 par : ∀ x ∈ P, sc.names.lookup x = some .local \/ sc.names.lookup x = some .cell
 nofree : ∀ y ∈ sc.names, y.2 ≠ .free
theorem oE {kindOf : Str -> Option NameKind} {x : Str} : ∀ {binds : List (Str × Value)} {m : Str -> Option Value}, (∀ v, (x, v) ∉ binds) -> bindL kindOf binds m x = m x
 | [], _, _ => rfl
 | (n, v) :: r, m, h => by
  unfold bindL
  rw [oE fun w hw => h w (List.mem_cons_of_mem _ hw)]
  split
  ·have : x ≠ n := by rintro rfl; exact h v List.mem_cons_self
   simp [this]
  ·rfl
theorem mO {kindOf : Str -> Option NameKind} {x : Str} : ∀ {binds : List (Str × Value)} {m : Str -> Option Value}, (∀ v, (x, v) ∉ binds) -> bindC kindOf binds m x = m x
 | [], _, _ => rfl
 | (n, v) :: r, m, h => by
  unfold bindC
  rw [mO fun w hw => h w (List.mem_cons_of_mem _ hw)]
  split
  ·rfl
  ·have : x ≠ n := by rintro rfl; exact h v List.mem_cons_self
   simp [this]
theorem nH {kindOf : Str -> Option NameKind} {x : Str} {v : Value} : ∀ {P : List Str} {vs : List Value} {i : Nat} {m : Str -> Option Value}, P.Nodup -> P[i]? = some x -> vs[i]? = some v -> kindOf x = some .local ->
  bindL kindOf (P.zip vs) m x = some v
 | [], _, _, _, _, h, _, _ => by simp at h
 | _ :: _, [], _, _, _, _, h, _ => by simp at h
 | p :: P, w :: vs, 0, m, nd, h1, h2, hk => by
  simp at h1 h2; subst h1; subst h2
  show bindL kindOf ((p, w) :: P.zip vs) m p = _
  unfold bindL
  rw [oE fun v hv => (List.nodup_cons.mp nd).1 (List.of_mem_zip hv).1, if_pos hk]
  simp
 | p :: P, w :: vs, i + 1, m, nd, h1, h2, hk => by
  show bindL kindOf ((p, w) :: P.zip vs) m x = _
  unfold bindL
  exact nH (i := i) (List.nodup_cons.mp nd).2 (by simpa using h1) (by simpa using h2) hk
theorem nW {kindOf : Str -> Option NameKind} {x : Str} {v : Value} : ∀ {P : List Str} {vs : List Value} {i : Nat} {m : Str -> Option Value}, P.Nodup -> P[i]? = some x -> vs[i]? = some v -> kindOf x ≠ some .local ->
  bindC kindOf (P.zip vs) m x = some v
 | [], _, _, _, _, h, _, _ => by simp at h
 | _ :: _, [], _, _, _, _, h, _ => by simp at h
 | p :: P, w :: vs, 0, m, nd, h1, h2, hk => by
  simp at h1 h2; subst h1; subst h2
  show bindC kindOf ((p, w) :: P.zip vs) m p = _
  unfold bindC
  rw [mO fun v hv => (List.nodup_cons.mp nd).1 (List.of_mem_zip hv).1, if_neg hk]
  simp
 | p :: P, w :: vs, i + 1, m, nd, h1, h2, hk => by
  show bindC kindOf ((p, w) :: P.zip vs) m x = _
  unfold bindC
  exact nW (i := i) (List.nodup_cons.mp nd).2 (by simpa using h1) (by simpa using h2) hk
def start (N : List Str) (vs : List V) : St := vs.map some ++ List.replicate (N.length - vs.length) none
def pM (CX : CXT) (P : Program) (w : World) (K : PySem.W.Frag) (mg : Str -> Option Value) (base : Heap) (N : List Str) (qual : Str) (scope : Scope) (f : Addr) (cd : Value) (A : Around) (outer : List Env) (s : Shared) (H : Hp) (E : XK) : Cx where
 prog := P
 w := w
 K := K
 mg := mg
 base := base
 A := A.deeper (envOfC qual scope s.heap.objs.size f cd)
 N := N
 s₀ := s
 H₀ := H
 env := envOfC qual scope s.heap.objs.size f cd
 outer := outer
 stack := envOfC qual scope s.heap.objs.size f cd :: outer
 ex := []
 calm := true
 fn := fun _ => true
 pn := []
 xe := fun e s' => wpAny (model P w) (A.deeper (envOfC qual scope s.heap.objs.size f cd)) (leaving (envOfC qual scope s.heap.objs.size f cd) e) (fun _ s'' => CX outer H s E e s'') (fun e' s'' => CX outer H s E e' s'') s'
theorem qM {sc : Scope} {n : Nat} {x : Str} (h : sc.names.lookup x = some .cell) : ∃ c, (cellsFrom n sc.names []).lookup x = some c := by
 have q := PySem.W.cellsFrom_some sc.names n [] (.inl h)
 exact Option.isSome_iff_exists.mp q
theorem u5 {CX : CXT} {P : Program} {w : World} {K : PySem.W.Frag} {mg : Str -> Option Value} {base : Heap} {N ps : List Str} {qual : Str} {scope : Scope} {f : Addr} {cd : Value} {A : Around} {outer : List Env} {s s1 : Shared} {H : Hp} {E : XK} {us : List Value} {vs : List V}
  (S : bL N ps scope) (hd : A.handled = none) (e0 : aGx P w K mg base A outer s H) (hl : vs.length = ps.length) (r : Vals vs us)
  (x : InCallC s s.heap.objs.size (bindL (envOfC qual scope s.heap.objs.size f cd).kindOf (ps.zip us) fun _ => none) (cellsFrom (s.heap.objs.size + 1) scope.names []) (bindC (envOfC qual scope s.heap.objs.size f cd).kindOf (ps.zip us) fun _ => none) s1) :
  Inv (pM CX P w K mg base N qual scope f cd A outer s H E) [] (start N vs) H s1 := by
 have hpl : ps.length <= N.length := by have := congrArg List.length S.pre; rw [List.length_take] at this; omega
 obtain ⟨h1, tk, rfl, hk⟩ := x.done
 have noA : ∀ b : Addr, b ∉ (pM CX P w K mg base N qual scope f cd A outer s H E).ex := fun b z => absurd (show b ∈ ([] : List Addr) from z) (by simp)
 refine ⟨⟨e0.mod, S.kind, rfl, rfl, Nat.le_refl _, fun y z c h1 h2 => ?_, fun y hy => ?_, fun y c _ h => ?_, fun _ => hd, Around.frames_deeper e0.frames, .inr ⟨rfl, rfl⟩, fun b z => absurd z (noA b), e0.bs, e0.bsz, fun b _ _ => noA b, fun b z => absurd z (noA b), e0.funs, e0.frf⟩,
  rfl, e0.bare, Un.kept hk, ⟨_, x.toInCall.ns, fun i y v h1 h2 h3 => ?_⟩, fun y c h => ⟨_, x.cell y c h⟩, e0.hok.fresh (Nat.le_refl _), fun y c h => ?_, fun p hp => absurd (show p ∈ ([] : List (Addr × Obj)) from hp) (by simp), e0.hok.kept hk, ?_⟩
 ·exact name_of_addr x.apart (PySem.mem_of_lookup h1) (PySem.mem_of_lookup h2)
 ·have hy : scope.names.lookup y = some .cell \/ scope.names.lookup y = some .free := hy
  rcases hy with hy | hy
  ·exact qM hy
  ·exact absurd rfl (S.nofree _ (PySem.mem_of_lookup hy))
 ·exact Nat.le_of_lt (x.above y c (PySem.mem_of_lookup h))
 ·have hi : i < vs.length := by
   unfold start at h2
   by_cases hi : i < vs.length
   ·exact hi
   ·rw [List.getElem?_append_right (by simpa using hi)] at h2
    rw [List.getElem?_replicate] at h2
    split at h2 <;> cases h2
  have ha : vs[i]? = some v := by
   unfold start at h2
   rw [List.getElem?_append_left (by simpa using hi), List.getElem?_map] at h2
   cases e : vs[i]? with
   | none => rw [e] at h2; cases h2
   | some a => rw [e] at h2; cases h2; rfl
  obtain ⟨u, hu, rv⟩ := r.get ha
  have hp : ps[i]? = some y := by
   rw [<- S.pre, List.getElem?_take_of_lt (by omega)]; exact h1
  have ndP : ps.Nodup := by rw [<- S.pre]; exact S.nd.sublist (List.take_sublist _ _)
  refine ⟨u, rv, ?_⟩
  rcases S.par y (List.mem_of_getElem? hp) with k | k
  ·exact .inl ⟨k, nH ndP hp hu k⟩
  ·obtain ⟨c, e⟩ := qM (n := s.heap.objs.size + 1) k
   refine .inr ⟨.inl k, c, e, ?_⟩
   have q := x.cell y c e
   rw [nW ndP hp hu (by show scope.names.lookup y ≠ _; rw [k]; decide)] at q
   exact q
 ·exact e0.hok.fresh (Nat.le_of_lt (x.above y c (PySem.mem_of_lookup h)))
 ·unfold start
  show _ = N.length
  rw [List.length_append, List.length_map, List.length_replicate]
  omega
theorem aIi {CX : CXT} {P : Program} {w : World} {K : PySem.W.Frag} {mg : Str -> Option Value} {base : Heap} {k : Nat} {f : Addr} {name qual : Str} {params : Arguments} {body : List Stmt} {scope : Scope} {dV kV doc pm cdv ct oc : Value} {an od : Option Addr}
  {osl : Array (Option Value)} {N ps : List Str} {sp : Sp} (lk : K.lookup f = some ⟨oc, od, .func (PySem.W.fnOf name qual params body scope dV kV doc pm an cdv ct), osl⟩) (hcd : PySem.W.codeIn K cdv qual = true) (S : bL N ps scope)
  (len : ∀ vs H Q E, sp vs H Q E -> vs.length = ps.length)
  (hbody : ∀ (A : Around) (outer : List Env) (s : Shared) (H : Hp) (vs : List V) (Q : VK) (E : XK), Room k (A.deeper (envOfC qual scope s.heap.objs.size f cdv)) -> sp vs H Q E ->
   ∃ t, PSs (pM CX P w K mg base N qual scope f cdv A outer s H E) body t /\ t { nx := fun _ H' => Q .non H', rt := Q } (start N vs) H) :
  FnOk P w K mg base CX (k + 1) f (PySem.W.fnOf name qual params body scope dV kV doc pm an cdv ct) ps sp := by
 refine ⟨len, fun A outer s H args us vs Q E hr e0 hb r hsp => ?_⟩
 have hl := len _ _ _ _ hsp
 have KX : K.In s.heap := e0.mod.kin.keeps fun b o e => (e0.bs b o e).1
 have lim : s.heap.NoLimit := e0.mod.nolimit.keeps fun b o e => (e0.bs b o e).1
 have hkind : ∀ y ∈ ps.zip us, scope.names.lookup y.1 = some .local \/ (scope.names.lookup y.1 = some .cell /\ ((cellsFrom (s.heap.objs.size + 1) scope.names []).lookup y.1).isSome = true) := fun ⟨n, v⟩ hy => by
  rcases S.par n (List.of_mem_zip hy).1 with q | q
  ·exact .inl q
  ·exact .inr ⟨q, PySem.W.cellsFrom_some _ _ _ (.inl q)⟩
 refine codeAny_call_function hr.depth (KX _ _ lk) rfl S.co S.gen rfl (PySem.W.codeRec_of KX hcd) (hb _ _ _ _ ?_)
 refine wpAny_newFunctionEnv_cells S.kind hkind fun env he s1 x => ?_
 subst he
 refine ⟨lim.keeps x.toInCall.keep, codeAny_func ?_⟩
 obtain ⟨t, ht, hq⟩ := hbody A outer s H vs Q E (hr.deeper _) hsp
 have I : Inv (pM CX P w K mg base N qual scope f cdv A outer s H E) [] (start N vs) H s1 := u5 S hr.hd e0 hl r x
 refine wpAny_mono (ht [] s1 (start N vs) H _ I hq) (fun fl s' hs => ?_) fun e s' hs => hs
 have fin : ∀ {σ' : St} {H' : Hp} {v : V} {u : Value}, Inv (pM CX P w K mg base N qual scope f cdv A outer s H E) [] σ' H' s' -> RelV v u -> Q v H' -> CE outer P w H s Q u s' :=
  fun {σ' H' v u} J rv q => ⟨v, H', J.os, J.bare, J.base, J.hok, rv, q⟩
 cases fl with
 | ret u =>
  obtain ⟨v, σ', H', J, rv, q⟩ := hs
  exact fin J rv q
 | next =>
  obtain ⟨σ', H', J, q⟩ := hs
  exact fin (v := V.non) (u := Value.none) J rfl q
 | brk =>
  obtain ⟨_, _, _, q⟩ := hs
  exact False.elim q
 | cont =>
  obtain ⟨_, _, _, q⟩ := hs
  exact False.elim q
section
variable {X : Cx} {x : Str} {p pos : Pos} {e : Expr} {es : List Expr} {t : TA} {id T : String} {r : List V -> Hp -> VK -> Prop}
def tCB (r : List V -> Hp -> VK -> Prop) (t : TA) : TE := fun σ H Q => t σ H fun vs H1 => r vs H1 Q
theorem rB (hc : kF X (.builtin id) r) (hg : Gl X x) (hm : X.mg x = none) (hv : bootBuiltins x = some (.builtin id)) (ha : PA X (e :: es) t) (hn : x ≠ "__name__" := by decide) (hdb : (x == ("__debug__" : Str)) = false := by decide)
  (he : starEach (e :: es) X.env = (false, eval e X.env) :: starEach es X.env := by rfl) (hpl : (backTo pos (starEach es X.env)).any (·.1) = false := by rfl) : PE X (.Call (.Name x p) (e :: es) [] pos) (tCB r t) := by
 intro pins s σ H Q I h
 refine wpAny_Call_Name_kw (hX I hg hm hv ?_ hn hdb)
 exact PyProof.Rows.callWith_builtin1 (thn (ha pos pins s σ H _ I h) fun us s1 ⟨vs, H1, I1, r1, q1⟩ => hc pins s1 σ H1 vs us Q I1 r1 q1) he hpl
theorem u6 (hc : kF X (.type T) r) (hg : Gl X x) (hm : X.mg x = none) (hv : bootBuiltins x = some (.type T)) (ha : PA X (e :: es) t) (hn : x ≠ "__name__" := by decide) (hdb : (x == ("__debug__" : Str)) = false := by decide)
  (he : starEach (e :: es) X.env = (false, eval e X.env) :: starEach es X.env := by rfl) (hpl : (backTo pos (starEach es X.env)).any (·.1) = false := by rfl) : PE X (.Call (.Name x p) (e :: es) [] pos) (tCB r t) := by
 intro pins s σ H Q I h
 refine wpAny_Call_Name_kw (hX I hg hm hv ?_ hn hdb)
 exact PyProof.Rows.callWith_type1 (thn (ha pos pins s σ H _ I h) fun us s1 ⟨vs, H1, I1, r1, q1⟩ => hc pins s1 σ H1 vs us Q I1 r1 q1) he hpl
end
end L2
namespace HT
open PySem PyProof.Rows
def lexLt : List Int -> List Int -> Bool
 | [], [] => false
 | [], _ :: _ => true
 | _ :: _, [] => false
 | x :: xs, y :: ys => if x = y then lexLt xs ys else decide (x < y)
theorem dA (x y : Int) (xs ys : List Int) : lexLt (x :: xs) (y :: ys) = if x = y then lexLt xs ys else decide (x < y) := rfl
theorem lU : lexLt [] [] = false := rfl
section
open PySem.SeqAt
open PySem.AutoSeq1 (wpAny_loadPart')
open PySem.MeetsSeq PySem.MeetsSeq2 PySem.MeetsSeq3
end
section
variable {prog : Program} {w : World} {A : Around} {E : Value -> Shared -> Prop} {s : Shared}
def sIx (n d : Nat) : Option Int -> Nat
 | none => d
 | some v => if v < 0 then (v + (n : Int)).toNat else min v.toNat n
theorem zI (n d : Nat) : sIx n d none = d := rfl
theorem tO (n d k : Nat) : sIx n d (some (k : Int)) = min k n := by
 show (if (k : Int) < 0 then ((k : Int) + (n : Int)).toNat else min (k : Int).toNat n) = min k n
 rw [if_neg (by omega), Int.toNat_natCast]
end
end HT
namespace L2
open PySem PySem.Spec PyProof.Rows
abbrev TO := St -> Hp -> (Option Int -> Hp -> Prop) -> Prop
def PO (X : Cx) (e : Option Expr) (t : TO) : Prop :=
 ∀ (pins : List (Addr × Obj)) (s : Shared) (σ : St) (H : Hp) (Q : Option Int -> Hp -> Prop), Inv X pins σ H s -> t σ H Q ->
  wpAny (model X.prog X.w) X.A (evalPart e X.env) (fun u s' => ∃ o H', Inv X pins σ H' s' /\ IsPart u o /\ Q o H') X.xe s
def aB6 : TO := fun _ H Q => Q none H
def aIg (t : TE) : TO := fun σ H Q => t σ H fun x H1 => ∃ i, x = .int i /\ Q (some i) H1
theorem intsAre_of {ns : List Int} : ∀ {us : List Value}, Vals (ns.map V.int) us -> IntsAre us ns := by
 induction ns with
 | nil => intro us r; rw [List.map_nil] at r; cases r; exact .nil
 | cons n ns ih =>
  intro us r
  rw [List.map_cons] at r
  cases r with
  | cons r1 r2 =>
   obtain ⟨t, e⟩ := r1
   subst e
   exact .cons n t (ih r2)
section
variable {X : Cx} {e : Expr} {te : TE} {lo hi : Option Expr} {tl th : TO} {pos p2 : Pos}
theorem aC1 : PO X none aB6 := by
 intro pins s σ H Q I h
 rw [evalPart_none]
 exact wpAny_pure ⟨none, H, I, .none, h⟩
theorem aDe (h : PE X e te) : PO X (some e) (aIg te) := by
 intro pins s σ H Q I hw
 rw [evalPart_some]
 refine thn (h pins s σ H _ I hw) fun u s1 ⟨x, H1, I1, r1, q1⟩ => ?_
 obtain ⟨i, rfl, q⟩ := q1
 obtain ⟨t, rfl⟩ := r1
 exact ⟨some i, H1, I1, .int i t, q⟩
def SlR (X : Cx) (r : V -> Option Int -> Option Int -> Hp -> VK -> Prop) : Prop :=
 ∀ (pins : List (Addr × Obj)) (s : Shared) (σ : St) (H : Hp) (x : V) (v vl vu : Value) (lo hi : Option Int) (sl : Addr) (Q : VK), Inv X pins σ H s -> RelV x v -> s.heap.IsSliceOf sl vl vu .none -> IsPart vl lo -> IsPart vu hi -> r x lo hi H Q ->
  ∃ T id, typeLookup (.type T) "__getitem__" = pure (some (.builtin id)) /\ s.TypeIs v T /\ wpAny (model X.prog X.w) X.A (getItem v (.ref sl)) (EP X pins σ Q) X.xe s
def tSl (r : V -> Option Int -> Option Int -> Hp -> VK -> Prop) (te : TE) (tl th : TO) : TE := fun σ H Q => te σ H fun x H1 => tl σ H1 fun l H2 => th σ H2 fun u H3 => r x l u H3 Q
theorem xU {r : V -> Option Int -> Option Int -> Hp -> VK -> Prop} (hr : SlR X r) (he : PE X e te) (hl : PO X lo tl) (hu : PO X hi th) : PE X (.Subscript e (.Slice lo hi none p2) pos) (tSl r te tl th) := by
 intro pins s σ H Q I h
 refine Subscript_ (thn (he pins s σ H _ I h) fun v s1 ⟨x, H1, I1, r1, q1⟩ => ?_)
 refine wpAny_Slice (thn (hl pins s1 σ H1 _ I1 q1) fun vl s2 ⟨l, H2, I2, pl, q2⟩ => thn (hu pins s2 σ H2 _ I2 q2) fun vu s3 ⟨u, H3, I3, pu, q3⟩ => ?_)
 rw [evalPart_none]
 refine wpAny_pure ?_
 have I4 : Inv X pins σ H3 { s3 with heap := s3.heap.push { cls := .type "slice", data := .fields #[vl, vu, .none] } } := I3.kept (t' := s3.toks) fun b ob q => Heap.get?_push_of_some _ q
 obtain ⟨T, id, hT, ht, hg⟩ := hr pins { s3 with heap := s3.heap.push { cls := .type "slice", data := .fields #[vl, vu, .none] } } σ H3 x v vl vu l u s3.heap.objs.size Q I4 r1 (Heap.IsSliceOf.new ..) pl pu q3
 show wpAny (model X.prog X.w) X.A (subscriptTail e (.Slice lo hi none p2) v (.ref s3.heap.objs.size)) (EP X pins σ Q) X.xe { s3 with heap := s3.heap.push { cls := .type "slice", data := .fields #[vl, vu, .none] } }
 exact tail_any (ops := [.ref s3.heap.objs.size, v]) ht hT hg (by with_unfolding_all rfl)
def aDp (xs : List V) (lo hi : Option Int) : List V := (xs.drop (HT.sIx xs.length 0 lo)).take (HT.sIx xs.length xs.length hi - HT.sIx xs.length 0 lo)
theorem o8 (xs : List V) (lo hi : Option Int) : (aDp xs lo hi).length <= xs.length := by
 unfold aDp
 rw [List.length_take, List.length_drop]
 omega
end
def ixN (n : Nat) (i : Int) : Option Nat := if 0 <= i then (if i < n then some i.toNat else none) else if -(n : Int) <= i then some (i + n).toNat else none
def atI {α : Type} (xs : List α) (i : Int) : Option α := (ixN xs.length i).bind fun j => xs[j]?
theorem aB8 {n : Nat} {i : Int} {j : Nat} (h : ixN n i = some j) : seqIndex? i n = some j /\ j < n /\ -(n : Int) <= i /\ i < n := by
 unfold ixN at h
 by_cases h0 : 0 <= i
 ·rw [if_pos h0] at h
  by_cases h1 : i < n
  ·rw [if_pos h1] at h
   have e : i.toNat = j := Option.some.inj h
   exact ⟨by rw [seqIndex_of h0 h1, e], by omega, by omega, h1⟩
  ·rw [if_neg h1] at h; cases h
 ·rw [if_neg h0] at h
  by_cases h1 : -(n : Int) <= i
  ·rw [if_pos h1] at h
   have e : (i + n).toNat = j := Option.some.inj h
   exact ⟨by rw [seqIndex_neg (by omega) h1, e], by omega, h1, by omega⟩
  ·rw [if_neg h1] at h; cases h
theorem tY {α : Type} {xs : List α} {i : Int} {v : α} (h : atI xs i = some v) : ∃ j, seqIndex? i xs.length = some j /\ xs[j]? = some v /\ j < xs.length /\ -(xs.length : Int) <= i /\ i < xs.length := by
 unfold atI at h
 cases e : ixN xs.length i with
 | none => rw [e] at h; cases h
 | some j =>
  rw [e] at h
  obtain ⟨h1, h2, h3, h4⟩ := aB8 e
  exact ⟨j, h1, h, h2, h3, h4⟩
theorem jQ {α : Type} {xs : List α} {j : Nat} {v : α} (h : xs[j]? = some v) : atI xs (j : Int) = some v := by
 have hj : j < xs.length := (List.getElem?_eq_some_iff.mp h).1
 have e : ixN xs.length (j : Int) = some j := by
  unfold ixN
  rw [if_pos (by omega), if_pos (by omega)]; simp
 unfold atI; rw [e]; exact h
theorem pT {α : Type} (xs : List α) (v : α) : atI (xs ++ [v]) (-1) = some v := by
 have hl : (xs ++ [v]).length = xs.length + 1 := by simp
 have e : ixN (xs ++ [v]).length (-1) = some xs.length := by
  unfold ixN
  rw [hl, if_neg (by decide), if_pos (by omega)]
  congr 1
  omega
 unfold atI
 rw [e]
 show (xs ++ [v])[xs.length]? = some v
 simp
def vR (b : Expr) : Prop := ∀ o i, subscripted b false o i = operate [o, i] (getItem o i)
def IxR (X : Cx) (r : R2) : Prop :=
 ∀ (value slice : Expr) (pins : List (Addr × Obj)) (s : Shared) (σ : St) (H : Hp) (x y : V) (v u : Value) (Q : VK), Inv X pins σ H s -> RelV x v -> RelV y u -> r x y H Q ->
  subscripted slice false v u = operate [v, u] (getItem v u) -> wpAny (model X.prog X.w) X.A (subscriptTail value slice v u) (EP X pins σ Q) X.xe s
def MtR (X : Cx) (id : String) (r : V -> List V -> Hp -> VK -> Prop) : Prop :=
 ∀ (pins : List (Addr × Obj)) (s : Shared) (σ : St) (H : Hp) (x : V) (xs : List V) (v : Value) (us : List Value) (Q : VK), Inv X pins σ H s -> RelV x v -> Vals xs us -> r x xs H Q ->
  wpAny (model X.prog X.w) X.A (call (.builtin id) (v :: us)) (EP X pins σ Q) X.xe s
section
variable {X : Cx} {a b : Expr} {ta tb : TE} {pos : Pos}
theorem IxR.or {r r' : R2} (h : IxR X r) (h' : IxR X r') : IxR X (fun x y H Q => r x y H Q \/ r' x y H Q) := by
 intro value slice pins s σ H x y v u Q I rx ry q hs
 rcases q with q | q
 ·exact h value slice pins s σ H x y v u Q I rx ry q hs
 ·exact h' value slice pins s σ H x y v u Q I rx ry q hs
theorem aH1 {r : R2} (hr : IxR X r) (ha : PE X a ta) (hb : PE X b tb) (hs : vR b) : PE X (.Subscript a b pos) (tOp r ta tb) := by
 intro pins s σ H Q I h
 exact Subscript_ (aHi ha hb I h fun v u s2 x y H2 I2 rx ry q => hr a b pins s2 σ H2 x y v u Q I2 rx ry q (hs _ _))
def aIt (K : PySem.W.Frag) : R2 := fun x y H Q => ∃ p xs i v, x = .ref p /\ y = .int i /\ SqL K H p xs /\ atI xs i = some v /\ Q v H
def aIm (K : PySem.W.Frag) : R2 := fun x y H Q => ∃ p xs i v, x = .ref p /\ y = .int i /\ SqT K H p xs /\ atI xs i = some v /\ Q v H
theorem ix_list : IxR X (aIt X.K) := by
 intro value slice pins s σ H x y v u Q I rx ry h hs
 obtain ⟨p, xs, i, z, rfl, rfl, hq, he, q⟩ := h
 cases rx
 obtain ⟨t, rfl⟩ := ry
 obtain ⟨its, r, pl, hz⟩ := I.list hq
 obtain ⟨j, h1, h2, h3, h4, h5⟩ := tY he
 obtain ⟨w, ew, rw'⟩ := r.get h2
 have hl := r.length
 have hn := uU
 have fin : EP X pins σ Q w s := ⟨z, H, I, rw', q⟩
 by_cases h0 : 0 <= i
 ·have hj : i.toNat = j := by
   rw [seqIndex_of h0 h5] at h1
   exact Option.some.inj h1
  exact item_listR pl.isList h0 (by omega) (by rw [hj]; simpa using ew) fin hs
 ·have hj : (i + (its.toArray.size : Int)).toNat = j := by
   rw [seqIndex_neg (by omega) h4] at h1
   rw [List.size_toArray, <- hl]
   exact Option.some.inj h1
  exact subscriptTail_builtinR (x := w) pl.isList.typeIs slot_list_getitem.lookup
   (wpAny_getItem_list_neg (Q := fun r s' => r = w /\ EP X pins σ Q r s') pl.isList (by omega) (by rw [List.size_toArray] <;> omega) (by omega) (by rw [hj]; simpa using ew) ⟨rfl, fin⟩) hs
theorem aEj : IxR X (aIm X.K) := by
 intro value slice pins s σ H x y v u Q I rx ry h hs
 obtain ⟨p, xs, i, z, rfl, rfl, hq, he, q⟩ := h
 cases rx
 obtain ⟨t, rfl⟩ := ry
 obtain ⟨its, r, pl, hz⟩ := I.tuple hq
 obtain ⟨j, h1, h2, h3, h4, h5⟩ := tY he
 obtain ⟨w, ew, rw'⟩ := r.get h2
 have hl := r.length
 have hn := uU
 have fin : EP X pins σ Q w s := ⟨z, H, I, rw', q⟩
 exact subscriptTail_builtinR (x := w) pl.typeIs slot_tuple_getitem.lookup
  (getItem_tuple (j := j) (Q := fun r s' => r = w /\ EP X pins σ Q r s') pl (by omega) (by omega) (by rw [List.size_toArray, <- hl]; exact h1) (by simpa using ew) ⟨rfl, fin⟩) hs
theorem oC (lo hi : Option Int) (n : Nat) : (sliceBounds lo hi none n).1 = ((HT.sIx n 0 lo : Nat) : Int) /\ (sliceBounds lo hi none n).2.1 = ((HT.sIx n n hi : Nat) : Int) /\ (sliceBounds lo hi none n).2.2 = 1 := by
 refine ⟨?_, ?_, rfl⟩
 ·cases lo with
  | none => simp [sliceBounds, HT.sIx]
  | some i =>
   simp only [sliceBounds, HT.sIx, Option.getD_none, show (1 : Int) > 0 by decide, if_true]
   by_cases h : i < 0
   ·simp only [h, if_true] <;> omega
   ·simp only [h, if_false] <;> omega
 ·cases hi with
  | none => simp [sliceBounds, HT.sIx]
  | some i =>
   simp only [sliceBounds, HT.sIx, Option.getD_none, show (1 : Int) > 0 by decide, if_true]
   by_cases h : i < 0
   ·simp only [h, if_true] <;> omega
   ·simp only [h, if_false] <;> omega
theorem lE (its : List Value) (lo hi : Option Int) : slicePick its.toArray lo hi none = ((its.drop (HT.sIx its.length 0 lo)).take (HT.sIx its.length its.length hi - HT.sIx its.length 0 lo)).toArray := by
 obtain ⟨h1, h2, h3⟩ := oC lo hi its.toArray.size
 unfold slicePick
 rw [h1, h2, h3]
 simp only [sliceRange_one, pick_run, List.size_toArray] <;> rfl
def aI7 (K : PySem.W.Frag) : V -> Option Int -> Option Int -> Hp -> VK -> Prop := fun x lo hi H Q => ∃ a xs, x = .ref a /\ SqL K H a xs /\ ∀ p, H p = none -> Q (.ref p) (upd H p (.lst (aDp xs lo hi)))
theorem aCd : SlR X (aI7 X.K) := by
 intro pins s σ H x v vl vu lo hi sl Q I rx hs pl pu h
 obtain ⟨a, xs, rfl, hx, q⟩ := h
 cases rx
 obtain ⟨its, r, ht, hz⟩ := I.list hx
 have hlen := r.length
 refine ⟨"list", _, slot_list_getitem.lookup, ht.isList.typeIs, ?_⟩
 refine wpAny_getItem_list_slice ht.isList hs pl pu .none (by simp) ?_ (by rw [List.size_toArray] <;> omega)
 rw [lE, <- hlen]
 refine ⟨.ref s.heap.objs.size, _, I.laid (t' := s.toks) (o := .lst (aDp xs lo hi)) (fun b ob q => Heap.get?_push_of_some _ q) (Nat.le_refl _) ?_, rfl, q _ (I.hok.fresh (Nat.le_refl _))⟩
 exact ⟨Nat.le_trans (o8 xs lo hi) hz, _, 0, (r.drop (HT.sIx xs.length 0 lo)).take (HT.sIx xs.length xs.length hi - HT.sIx xs.length 0 lo), Heap.get?_push_size _ rfl⟩
theorem cA : kF X (.builtin "len") (fun xs H Q => ∃ p ys, xs = [.ref p] /\ (SqL X.K H p ys \/ SqT X.K H p ys) /\ Q (.int ys.length) H) := by
 intro pins s σ H xs us Q I r h
 obtain ⟨p, ys, rfl, hq, q⟩ := h
 obtain ⟨u, rfl, rx⟩ := vals1 r
 cases rx
 have hn := uU
 rcases hq with hq | hq
 ·obtain ⟨its, r', pl, hz⟩ := I.list hq
  have hlen := r'.length
  exact Calls.call_len_list pl.isList (by simp only [List.size_toArray] <;> omega) ⟨.int ys.length, H, I.tok _, ⟨s.toks + 1, by rw [List.size_toArray, hlen]⟩, q⟩
 ·obtain ⟨its, r', pl, hz⟩ := I.tuple hq
  have hlen := r'.length
  exact len_tuple pl (by simp only [List.size_toArray] <;> omega) ⟨.int ys.length, H, I.tok _, ⟨s.toks + 1, by rw [List.size_toArray, hlen]⟩, q⟩
theorem bN : kF X (.type "list") (fun xs H Q => ∃ p ys, xs = [.ref p] /\ (SqL X.K H p ys \/ SqT X.K H p ys) /\ ∀ l, H l = none -> Q (.ref l) (upd H l (.lst ys))) := by
 intro pins s σ H xs us Q I r h
 obtain ⟨p, ys, rfl, hq, q⟩ := h
 obtain ⟨u, rfl, rx⟩ := vals1 r
 cases rx
 have fin : ∀ (its : List Value), Vals ys its -> ys.length <= sizeLine -> ∀ (h' : Heap) (c' : Nat), (∀ b o', s.heap.get? b = some o' -> h'.get? b = some o') ->
   h'.get? s.heap.objs.size = some { cls := .type "list", dict := none, data := .seq its.toArray c', slots := #[] } -> EP X pins σ Q (.ref s.heap.objs.size) { s with heap := h' } := fun its r' hz h' c' kp e =>
  ⟨.ref s.heap.objs.size, _, I.laid (t' := s.toks) kp (Nat.le_refl _) (show ObjOk X.prog X.w _ h' _ (.lst ys) from ⟨hz, its, c', r', e⟩), rfl, q _ (I.hok.fresh (Nat.le_refl _))⟩
 rcases hq with hq | hq
 ·obtain ⟨its, r', pl, hz⟩ := I.list hq
  have hlen := r'.length
  obtain ⟨o, ho, hc, n, hd⟩ := pl.isList
  exact call_list_seq p (.inl rfl) ho hc hd (fun h' c' kp e => fin its r' hz h' c' kp e) (by simp only [List.size_toArray] <;> omega)
 ·obtain ⟨its, r', pl, hz⟩ := I.tuple hq
  have hlen := r'.length
  obtain ⟨o, ho, hc, n, hd⟩ := pl
  exact call_list_seq p (.inr rfl) ho hc hd (fun h' c' kp e => fin its r' hz h' c' kp e) (by simp only [List.size_toArray] <;> omega)
def tyV (K : PySem.W.Frag) (T : String) (x : V) (H : Hp) : Prop := match x with
 | .str _ => T = "str"
 | .int _ => T = "int"
 | .ref p => (T = "list" /\ ∃ xs, SqL K H p xs) \/ (T = "tuple" /\ ∃ o, K.lookup p = some o /\ o.cls = .type "tuple" /\ o.dict = none) \/
   (T = "dict" /\ ((∃ kvs, H p = some (.dK kvs)) \/ ∃ kvs, H p = some (.dT kvs))) \/ (T = "set" /\ ∃ S n, H p = some (.set S n))
 | _ => False
theorem aA0 {pins : List (Addr × Obj)} {σ : St} {H : Hp} {s : Shared} {T : String} {x : V} {v : Value} (I : Inv X pins σ H s) (r : RelV x v) (ty : tyV X.K T x H) :
  s.TypeIs v T /\ ∀ a, v = .ref a -> ∃ ob, s.heap.get? a = some ob /\ ob.dict = none := by
 cases x with
 | str z =>
  obtain ⟨t, rfl⟩ := r
  cases (show T = "str" from ty)
  exact ⟨typeIs_str s z t, fun _ e => nomatch e⟩
 | int i =>
  obtain ⟨t, rfl⟩ := r
  cases (show T = "int" from ty)
  exact ⟨typeIs_int s i t, fun _ e => nomatch e⟩
 | ref p =>
  cases r
  rcases ty with ⟨rfl, xs, hq⟩ | ⟨rfl, o, hk, hc, hd⟩ | ⟨rfl, hk⟩ | ⟨rfl, S, n, hk⟩
  ·obtain ⟨its, _, pl, _⟩ := I.list hq
   refine ⟨pl.isList.typeIs, fun a e => ?_⟩
   cases e
   obtain ⟨o, n, e, c, hd, _⟩ := pl
   exact ⟨o, e, hd⟩
  ·refine ⟨⟨o, I.kIn p o hk, hc⟩, fun a e => ?_⟩
   cases e
   exact ⟨o, I.kIn _ o hk, hd⟩
  ·have z : ∃ o, s.heap.get? p = some o /\ o.ExactDict := by
    rcases hk with ⟨kvs, hk⟩ | ⟨kvs, hk⟩
    ·obtain ⟨_, _, _, _, o, _, _, e, ex, _⟩ := I.hok p _ hk
     exact ⟨o, e, ex⟩
    ·obtain ⟨_, _, _, _, o, _, _, e, ex, _⟩ := I.hok p _ hk
     exact ⟨o, e, ex⟩
   obtain ⟨o, e, ex⟩ := z
   refine ⟨⟨o, e, ex.1⟩, fun a e2 => ?_⟩
   cases e2
   exact ⟨o, e, ex.2.1⟩
  ·obtain ⟨o, _, _, _, e, ex, _⟩ := I.hok p _ hk
   refine ⟨⟨o, e, ex.1⟩, fun a e2 => ?_⟩
   cases e2
   exact ⟨o, e, ex.2.1⟩
 | _ => exact False.elim ty
def aIc (K : PySem.W.Frag) (T : String) (r : V -> List V -> Hp -> VK -> Prop) (to : TE) : TE := fun σ H Q => to σ H fun x H1 => tyV K T x H1 /\ r x [] H1 Q
def tBM (K : PySem.W.Frag) (T : String) (r : V -> List V -> Hp -> VK -> Prop) (to : TE) (t : TA) : TE := fun σ H Q => to σ H fun x H1 => tyV K T x H1 /\ t σ H1 fun xs H2 => r x xs H2 Q
variable {o e : Expr} {es : List Expr} {to : TE} {t : TA} {name : Str} {apos cpos : Pos} {T id : String} {r : V -> List V -> Hp -> VK -> Prop}
theorem aD1 (pa : PlainAttrs T) (slot : Slot T name id) (hty : typeOf (.builtin id) = pure (.type "method_descriptor")) (hm : MtR X id r) (ho : PE X o to)
  (hbase : attributeBase o name X.env (eval o X.env) = eval o X.env := by rfl) (hline : (apos.endLine == cpos.line) = true := by rfl) : PE X (.Call (.Attribute o name apos) [] [] cpos) (aIc X.K T r to) := by
 intro pins s σ H Q I h
 refine wpAny_Call_method0_late hbase hline (thn (ho pins s σ H _ I h) fun v s1 ⟨x, H1, I1, r1, ty, q1⟩ => ?_)
 obtain ⟨h1, h2⟩ := aA0 I1 r1 ty
 exact ⟨T, id, pa, slot, hty, h1, h2, Calls.callWith_builtin rfl (PySem.evalArgs_none (hm pins s1 σ H1 x [] v [] Q I1 r1 .nil q1))⟩
theorem pB (pa : PlainAttrs T) (slot : Slot T name id) (hty : typeOf (.builtin id) = pure (.type "method_descriptor")) (hm : MtR X id r) (ho : PE X o to) (ha : PA X (e :: es) t)
  (hbase : attributeBase o name X.env (eval o X.env) = eval o X.env := by rfl)
  (hfew : ((backTo cpos (starEach (e :: es) X.env)).all (fun x => !x.1) && (backToKw cpos (keywordEach [] X.env)).all (fun x => x.1.isSome)
   && decide ((e :: es).length + ([] : List Keyword).length + (if ([] : List Keyword).isEmpty then 0 else 1) < 30)) = true := by rfl)
  (hline : (apos.endLine == cpos.line) = true := by rfl) (hs : starEach (e :: es) X.env = (false, eval e X.env) :: starEach es X.env := by rfl) (hplain : (backTo cpos (starEach es X.env)).any (·.1) = false := by rfl) :
  PE X (.Call (.Attribute o name apos) (e :: es) [] cpos) (tBM X.K T r to t) := by
 intro pins s σ H Q I h
 refine wpAny_Call_method_late hbase hfew hline rfl (thn (ho pins s σ H _ I h) fun v s1 ⟨x, H1, I1, r1, ty, q1⟩ => ?_)
 obtain ⟨h1, h2⟩ := aA0 I1 r1 ty
 refine ⟨T, id, pa, slot, hty, h1, h2, ?_⟩
 have hA := ha cpos pins s1 σ H1 _ I1 q1
 rw [hs] at hA ⊢
 refine Calls.callWith_builtin (by show (false || (backTo cpos (starEach es X.env)).any (·.1)) = false; rw [hplain] <;> rfl) (Calls.evalArgs_plain ?_)
 exact thn hA fun us s2 ⟨vs, H2, I2, r2, q2⟩ => hm pins s2 σ H2 x vs v us Q I2 r1 r2 q2
end
def MtM (X : Cx) (id : String) (r : V -> List V -> Hp -> VK -> Prop) : Prop :=
 ∀ (pins : List (Addr × Obj)) (s : Shared) (σ : St) (H : Hp) (x : V) (xs : List V) (v : Value) (us : List Value) (Q : VK), Inv X pins σ H s -> RelV x v -> Vals xs us -> r x xs H Q ->
  wpAny (model X.prog X.w) X.A (call (.builtin id) (v :: us)) (EP X pins σ Q) X.xe s
theorem Vals.one : ∀ {x : V} {us : List Value}, Vals [x] us -> ∃ u, us = [u] /\ RelV x u
 | _, _, .cons r .nil => ⟨_, rfl, r⟩
theorem Vals.zero : ∀ {us : List Value}, Vals [] us -> us = []
 | _, .nil => rfl
theorem Vals.dropLast {xs : List V} {us : List Value} (h : Vals xs us) : Vals xs.dropLast us.dropLast := by
 induction h with
 | nil => exact .nil
 | cons r t ih =>
  cases t with
  | nil => exact .nil
  | cons q t' => exact .cons r ih
theorem sE {α : Type} (l : List α) : l.eraseIdx (l.length - 1) = l.dropLast := by
 induction l with
 | nil => rfl
 | cons a r ih =>
  cases r with
  | nil => rfl
  | cons b r =>
   have e : (a :: b :: r).length - 1 = ((b :: r).length - 1) + 1 := by
    have h1 : (a :: b :: r).length = r.length + 2 := rfl
    have h2 : (b :: r).length = r.length + 1 := rfl
    omega
   rw [e, List.eraseIdx_cons_succ, ih]
   all_goals rfl
section
variable {X : Cx} {pins : List (Addr × Obj)} {σ : St} {H : Hp} {s : Shared} {l b : Addr} {xs ys zs : List V}
theorem Inv.lset {its its' : List Value} {n : Nat} {f : Array Value -> Array Value} {t' : Nat} (I : Inv X pins σ H s) (hH : H l = some (.lst xs))
  (e : s.heap.get? l = some { cls := .type "list", data := .seq its.toArray n }) (hf : f its.toArray = its'.toArray) (hv : Vals ys its') (hz : ys.length <= sizeLine) :
  Inv X pins σ (upd H l (.lst ys)) { s with heap := s.heap.update l (Obj.mapSeq f), toks := t' } := by
 have q := PySem.IsL.update e f
 rw [hf] at q
 refine I.write (x := l) (e := l) (by rw [hH]; exact trivial) (.inl rfl) (fun b' u hb hu => (Heap.get?_update_other s.heap (Obj.mapSeq f) (Ne.symm hb)).trans hu) ⟨_, q⟩ ?_
 exact ⟨hz, its', _, hv, q⟩
theorem Inv.lnew {its : List Value} {t' : Nat} (I : Inv X pins σ H s) (hv : Vals ys its) (hz : ys.length <= sizeLine) :
  Inv X pins σ (upd H s.heap.objs.size (.lst ys)) { s with heap := s.heap.push { cls := .type "list", data := .seq its.toArray }, toks := t' } :=
 I.laid (fun _ _ q => Heap.get?_push_of_some _ q) (Nat.le_refl _) ⟨hz, its, 0, hv, Heap.get?_push_size _ rfl⟩
theorem Inv.fresh (I : Inv X pins σ H s) : H s.heap.objs.size = none := I.hok.fresh (Nat.le_refl _)
theorem Inv.lstM (I : Inv X pins σ H s) (hH : H l = some (.lst xs)) : xs.length <= sizeLine /\ ∃ (its : List Value) (n : Nat), Vals xs its /\ xs.length = its.length /\ s.heap.get? l = some { cls := .type "list", data := .seq its.toArray n } := by
 obtain ⟨z, its, n, r, e⟩ := I.hok l _ hH
 exact ⟨z, its, n, r, r.length, e⟩
theorem xS {n : Nat} (h : n <= sizeLine) : Builtin.List.listTooLong n = false := by
 unfold Builtin.List.listTooLong
 exact decide_eq_false (by omega)
end
section
variable {X : Cx}
def wI : V -> List V -> Hp -> VK -> Prop := fun x vs H Q => ∃ l xs y, x = .ref l /\ vs = [y] /\ H l = some (.lst xs) /\ xs.length < sizeLine /\ Q .non (upd H l (.lst (xs ++ [y])))
theorem eD : MtM X "list.append" wI := by
 intro pins s σ H x vs v us Q I rx rv h
 obtain ⟨l, xs, y, rfl, rfl, hH, hz, q⟩ := h
 cases rx
 obtain ⟨u, rfl, ru⟩ := rv.one
 obtain ⟨z, its, n, r, hl, e⟩ := I.lstM hH
 refine call_meets F.slot_list_append ⟨_, e, rfl⟩ F.entry_list_append (F.args_list_append_2 _ _) (PySem.list_append l its.toArray n u (by rw [List.size_toArray]; omega)) ⟨e, ?_⟩
 refine ⟨.non, _, I.lset (its' := its ++ [u]) hH e (by simp) (r.append (.cons ru .nil)) ?_, rfl, q⟩
 rw [List.length_append, List.length_singleton]
 omega
def wO : V -> List V -> Hp -> VK -> Prop := fun x vs H Q => ∃ l b xs zs, x = .ref l /\ vs = [.ref b] /\ H l = some (.lst xs) /\ H b = some (.lst zs) /\ xs.length + zs.length <= sizeLine /\ Q .non (upd H l (.lst (xs ++ zs)))
theorem uD : MtM X "list.extend" wO := by
 intro pins s σ H x vs v us Q I rx rv h
 obtain ⟨l, b, xs, zs, rfl, rfl, hH, hB, hz, q⟩ := h
 cases rx
 obtain ⟨u, rfl, ru⟩ := rv.one
 cases ru
 obtain ⟨z, its, n, r, hl, e⟩ := I.lstM hH
 obtain ⟨z2, its2, n2, r2, hl2, e2⟩ := I.lstM hB
 have hsz : its.toArray.size + its2.toArray.size <= sizeLine := by rw [List.size_toArray, List.size_toArray]; omega
 have hlong : ¬ (!its.toArray.isEmpty && Builtin.List.listTooLong (its.toArray.size + its2.toArray.size)) = true := by
  rw [xS hsz, Bool.and_false]
  exact Bool.false_ne_true
 refine call_meets F.slot_list_extend ⟨_, e, rfl⟩ F.entry_list_extend (F.args_list_extend_2 _ _)
  (AutoSeq1.list_extend_list_list_0 l its.toArray n b its2.toArray n2 hlong (by rw [List.size_toArray]; omega) (by omega)) ⟨e, e2, ?_⟩
 refine ⟨.non, _, I.lset (its' := its ++ its2) hH e (by simp) (r.append r2) ?_, rfl, q⟩
 rw [List.length_append]
 omega
def aIz : V -> List V -> Hp -> VK -> Prop := fun x vs H Q => ∃ l xs y, x = .ref l /\ vs = [] /\ H l = some (.lst xs) /\ xs[xs.length - 1]? = some y /\ Q y (upd H l (.lst xs.dropLast))
theorem aEi : MtM X "list.pop" aIz := by
 intro pins s σ H x vs v us Q I rx rv h
 obtain ⟨l, xs, y, rfl, rfl, hH, hy, q⟩ := h
 cases rx
 have hus := rv.zero
 subst hus
 obtain ⟨z, its, n, r, hl, e⟩ := I.lstM hH
 obtain ⟨u, hu, ru⟩ := r.get hy
 have hy' : its.toArray[its.toArray.size - 1]? = some u := by
  show its.toArray[its.length - 1]? = some u
  rw [<- Array.getElem?_toList, <- hl]
  exact hu
 refine call_meets F.slot_list_pop ⟨_, e, rfl⟩ F.entry_list_pop (F.args_list_pop_1 _) (MeetsSeq.list_pop_last l its.toArray n u hy' (by rw [List.size_toArray]; omega)) ⟨e, ?_⟩
 refine ⟨y, _, I.lset (its' := its.dropLast) hH e ?_ r.dropLast ?_, ru, q⟩
 ·show its.toArray.eraseIdxIfInBounds (its.toArray.size - 1) = its.dropLast.toArray
  rw [List.size_toArray, List.eraseIdxIfInBounds_toArray, sE]
 ·rw [List.length_dropLast]
  omega
end
section
variable {prog : Program} {w : World} {A : Around} {E : Value -> Shared -> Prop} {s : Shared}
set_option maxRecDepth 100000 in
end
section
variable {X : Cx}
end
section
variable {κ : Type} [DecidableEq κ]
end
section
variable {P : Program} {w : World} {H : Hp} {h : Heap} {a : Addr}
end
section
variable {X : Cx} {pins : List (Addr × Obj)} {σ : St} {H : Hp} {s : Shared} {a : Addr} {y v : V} {u r : Value} {o : Option V} {A : Around} {E : Value -> Shared -> Prop}
end
section
variable {X : Cx} {pins : List (Addr × Obj)} {σ : St} {H : Hp} {s : Shared} {a : Addr} {kvs : List (Key × V)} {k : Key} {u : Value} {A : Around} {E : Value -> Shared -> Prop}
end
section
variable {X : Cx} {o i e value : Expr} {pos pos' tpos : Pos} {td ty tv : TE}
end
section
variable {X : Cx} {pos : Pos}
end
section
variable {X : Cx} {pins : List (Addr × Obj)} {σ : St} {H : Hp} {s : Shared} {a : Addr} {y d : V} {u r : Value} {o : Option V} {A : Around} {E : Value -> Shared -> Prop}
end
section
variable {X : Cx} {o e f : Expr} {apos cpos : Pos} {td ty tx : TE}
end
section
variable {X : Cx} {pins : List (Addr × Obj)} {σ : St} {H : Hp} {s : Shared} {a : Addr} {kvs : List (Key × V)} {A : Around} {E : Value -> Shared -> Prop}
end
section
variable {X : Cx} {pins : List (Addr × Obj)} {σ : St} {H : Hp} {s : Shared} {a : Addr} {y : V} {u : Value} {A : Around} {E : Value -> Shared -> Prop}
end
end L2
namespace Att
open PySem PySem.W PySem.Calls PyProof.Rows
theorem i9 {P : Params} {h : Heap} : ∀ (ns : List Int) (vs : List Value), WellAll P h vs (ns.map WData.int) -> IntsAre vs ns := by
 intro ns
 induction ns with
 | nil =>
  intro vs w
  rw [List.map_nil] at w
  cases w
  exact .nil
 | cons n ns ih =>
  intro vs w
  rw [List.map_cons] at w
  cases w with
  | cons a b =>
   cases a
   exact .cons _ _ (ih _ b)
theorem vX {l : OpenLaw} {n : Nat} (hn : l.most = some n) {P : Params} {h : Heap} {args : List WData} {vals : List Value}
  (aDq : l.row.toRowW.claim.pre args = true) (hwl : WellAll P h vals args) :
  ∃ a vs ns, vals = [Value.ref a] /\ args = [WData.list (ns.map WData.int)] /\ h.get? a = some { cls := .type "list", data := .seq vs.toArray } /\ IntsAre vs ns /\ ns.length <= n := by
 have hsh : WShape.hasAll [] args [.list .int] = true := (pre_splitW aDq).1
 have hc : l.pre.holds [] { args := args } = true := (pre_splitW aDq).2
 obtain ⟨d, r, rfl, h1, h2⟩ := hasAllW_cons hsh
 obtain rfl := hasAllW_nil h2
 obtain ⟨xs, rfl, h3⟩ := hasW_list h1
 obtain ⟨ns, rfl⟩ := items_int h3
 have hlen : ns.length <= n := by
  unfold OpenLaw.pre at hc
  have h4 : (WTm.not (.lt (.lit (.int (n : Int))) (.len (.arg 0)))).holds [] { args := [.list (ns.map .int)] } = true := by
   have h4 := (holds_andW hc).1
   rw [hn] at h4
   exact h4
  have h5 := condW_of h4 (w_not (w_lt w_lit (w_len_list (w_arg rfl))))
  rw [List.length_map] at h5
  refine Nat.le_of_not_lt fun q => ?_
  have q' : (n : Int) < ((ns.length : Nat) : Int) := by omega
  first
   | (rw [decide_eq_true q'] at h5; exact absurd h5 (by decide))
   | (simp at h5; omega)
 cases hwl with
 | cons w1 w2 =>
  cases w2
  cases w1 with
  | list ho hall => exact ⟨_, _, ns, rfl, rfl, ho, i9 ns _ hall, hlen⟩
theorem tD (l : OpenLaw) (args : List WData) : l.row.toRowW.claim.post args (.bool true) args = true :=
 postW_of (r := l.row.toRowW) (X := (true == true))
  (show WShape.has [] (.bool true) .bool = true by first | rfl | decide | simp [WShape.has, WShape.arms, WShape.armsAll])
  (show (WTm.eq .res (.lit (.bool true))).value [] { args := args, res := some (.bool true), after := args } = some (.bool (true == true)) from w_eq_bool (w_res rfl) w_lit) rfl
theorem oX {l : OpenLaw} {n : Nat} {q : Program} {loose : List Str} {XP : (Str -> Option Value) -> Heap -> Prop} {YP : World -> Heap -> Prop} {d : DefRec}
  (hn : l.most = some n) (hdf : d.params.defaults = [])
  (call : ∀ (w : World) (s₀ s₁ : Shared) (mg mb : Str -> Option Value) (fa : Addr) (o : Obj) (pm cd doc : Value) (a : Addr) (vs : List Value) (ns : List Int),
   Ground q loose [] XP w s₀ mg mb s₁.heap -> YP w s₁.heap ->
   s₁.heap.get? fa = some o -> o.data = .func (docDef d.name d.params d.body d.scope pm cd doc) -> s₁.heap.CodeRec cd d.name -> mg d.name = some (.ref fa) ->
   s₁.heap.get? a = some { cls := .type "list", data := .seq vs.toArray } -> IntsAre vs ns -> ns.length <= n -> s₁.gens = #[] ->
   codeAny (model l.prog w) callerA (.call (.ref fa) ⟨[.ref a], []⟩) (fun r s' => r = .ok (.ret (.bool true)) /\ OldK s₁.heap s'.heap /\ s'.os = s₁.os /\ AllBare s'.gens) s₁) :
  WalkO q loose XP YP l.row.toRowW d [] (fun f vs => PySem.call f vs) := by
 intro w s₀ s₁ mg mb G Y fa o pm cd doc dV kV ho hd hcd hD hmg hg args vals as aDq hlay hrd hwl hlo
 obtain rfl : dV = .none := Dflts.none hD hdf
 obtain rfl : kV = .none := Dflts.noKw hD
 obtain ⟨a, vs, ns, rfl, rfl, hobj, hints, hlen⟩ := vX hn aDq hwl
 refine enter_call (codeAny_mono (call w s₀ s₁ mg mb fa o pm cd doc a vs ns G Y ho (fd_plain hd) hcd hmg hobj hints hlen hg) fun r s' hq => ?_)
 obtain ⟨rfl, h2, h3, h4⟩ := hq
 exact ⟨.inl ⟨.bool true, .bool true, [], rfl, fun _ => rfl, .bool true, tD l _, fun _ => ⟨List.Pairwise.nil, fun _ hm => (nomatch hm)⟩⟩, h2, h3, h4⟩
section
variable {prog : Program} {w : World} {A : Around} {E : Value -> Shared -> Prop} {s : Shared} {K : Frag}
end
end Att
namespace L2
open PySem PySem.Spec PyProof.Rows
theorem nS : ∀ {vs : List Value} {ns : List Int}, IntsAre vs ns -> Vals (ns.map V.int) vs
 | _, _, .nil => .nil
 | _, _, .cons n t h => .cons ⟨t, rfl⟩ (nS h)
def aHp (H : Hp) : Prop := ∀ b, H b = none \/ ∃ o xs, H b = some (.frz o (.lst xs))
theorem y8 {P : Program} {w : World} {K : PySem.W.Frag} {mg mb : Str -> Option Value} {CX : CXT} {k : Nat} {fa a : Addr} {fd : FuncData} {x : Str} {sp : Sp} {s₁ : Shared} {vs : List Value} {ns : List Int}
  (KX : K.In s₁.heap) (hns : s₁.heap.Ns mainGlobals mg) (hb : s₁.heap.Ns builtinsNs mb) (hbb : ∀ x : Str, x ≠ "__name__" -> mb x = bootBuiltins x) (hlim : s₁.heap.NoLimit) (hg : s₁.gens = #[])
  (ha : s₁.heap.get? a = some { cls := .type "list", data := .seq vs.toArray }) (hi : IntsAre vs ns) (hl : ns.length <= sizeLine) (hr : Room k callerA)
  (F : ∀ base : Heap, K.In base -> base.Ns mainGlobals mg -> FnOk P w K mg base CX k fa fd [x] sp) (hbind : ∀ (s : Shared) (u : Value), BindsTo s fd ⟨[u], []⟩ [(x, u)])
  (hsp : ∀ H : Hp, aHp H -> SqL K H a (ns.map V.int) -> sp [.ref a] H (fun v _ => v = .bl true) fun _ _ _ => False)
  (hCX : ∀ H e s', CX [] H s₁ (fun _ _ _ => False) e s' -> False) :
  codeAny (model P w) callerA (.call (.ref fa) ⟨[.ref a], []⟩) (fun r s' => r = .ok (.ret (.bool true)) /\ OldK s₁.heap s'.heap /\ s'.os = s₁.os /\ AllBare s'.gens) s₁ := by
 have rv := nS hi
 have lenV := hi.length
 have core : ∀ H : Hp, aHp H -> SqL K H a (ns.map V.int) -> HOk P w H s₁.heap -> (∀ b, H b ≠ none -> b = a) -> (H a ≠ none -> K.lookup a = none) ->
   codeAny (model P w) callerA (.call (.ref fa) ⟨[.ref a], []⟩) (fun r s' => r = .ok (.ret (.bool true)) /\ OldK s₁.heap s'.heap /\ s'.os = s₁.os /\ AllBare s'.gens) s₁ := by
  intro H hO hS hok hA hK
  have base_of : ∀ {b : Addr} {o : Obj}, s₁.heap.get? b = some o -> H b = none -> (zQ s₁.heap H).get? b = some o := fun e n => yP e n
  have noA : ∀ {b : Addr} {o : Obj} {es : Array DictEntry} {ep : Nat}, s₁.heap.get? b = some o -> o.data = .dict es ep -> H b = none := fun {b o es ep} e d => by
   cases q : H b with
   | none => rfl
   | some u =>
    have e' : b = a := hA b (by rw [q]; simp)
    subst e'
    rw [ha] at e; cases e
    have d' : Data.seq vs.toArray _ = Data.dict es ep := d
    cases d'
  have nsK : ∀ {b : Addr} {m : Str -> Option Value}, s₁.heap.Ns b m -> (zQ s₁.heap H).Ns b m := fun {b m} ⟨o, es, ep, e, d, r⟩ => ⟨o, es, ep, base_of e (noA e d), d, r⟩
  have hKb : K.In (zQ s₁.heap H) := fun b o e => base_of (KX b o e) (by
   cases q : H b with
   | none => rfl
   | some u =>
    have e' : b = a := hA b (by rw [q]; simp)
    subst e'
    rw [hK (by rw [q]; simp)] at e; cases e)
  have hM : Mod K mg (zQ s₁.heap H) := ⟨hKb, nsK hns, ⟨mb, nsK hb, hbb⟩, let ⟨mc, h1, h2⟩ := hlim; ⟨mc, nsK h1, h2⟩⟩
  have e0 : aGx P w K mg (zQ s₁.heap H) callerA [] s₁ H := ⟨rfl, hM, fun b o e => aCp e, Nat.le_of_eq (wG _ _), trivial, fun b hb => absurd (show b ∈ ([] : List Addr) from hb) (by simp), hok, .of_eq hg⟩
  refine codeAny_mono ((F _ hKb (nsK hns)).run callerA [] s₁ H ⟨[.ref a], []⟩ [.ref a] [.ref a] _ _ hr e0 (hbind s₁ (.ref a)) (.cons rfl .nil) (hsp H hO hS)) fun r s' h => ?_
  cases r with
  | error e => exact (hCX H e s' h).elim
  | ok fl =>
   cases fl with
   | next => exact False.elim h
   | brk => exact False.elim h
   | cont => exact False.elim h
   | ret u =>
    obtain ⟨v, H', os, bare, un, hok', r', q⟩ := h
    have q' : v = .bl true := q
    subst q'
    obtain rfl : u = Value.bool true := r'
    refine ⟨rfl, OldK.of_keep fun b o e => ?_, os, bare⟩
    cases q : H b with
    | none => exact un.keep b o e q (by intro z; exact absurd (show b ∈ ([] : List Addr) from z) (by simp)) (by simp)
    | some u =>
     rcases hO b with z | ⟨ob, xs, z⟩
     ·rw [q] at z; cases z
     ·have z2 := un.frzs b ob _ z
      obtain ⟨e1, _⟩ := hok b _ z
      obtain ⟨e2, _⟩ := hok' b _ z2
      rw [e] at e1; cases e1
      exact e2
 cases hk : K.lookup a with
 | some o =>
  have e := KX a o hk
  rw [ha] at e
  cases e
  refine core (fun _ => none) (fun _ => .inl rfl) (.inr ⟨_, vs.toArray, _, hk, rfl, rfl, rfl, by rw [List.size_toArray, lenV]; exact hl, by simpa using rv⟩) (fun b u z => by have z' : (none : Option HO) = some u := z; cases z') (fun b z => absurd rfl z) fun z => absurd rfl z
 | none =>
  refine core (fun b => if b = a then some (.frz { cls := .type "list", data := .seq vs.toArray } (.lst (ns.map V.int))) else none) (fun b => ?_) (.inl (.inr ⟨{ cls := .type "list", data := .seq vs.toArray }, if_pos rfl⟩)) (fun b u z => ?_) (fun b z => ?_) fun _ => hk
  ·by_cases hb : b = a
   ·exact .inr ⟨_, _, if_pos hb⟩
   ·exact .inl (if_neg hb)
  ·by_cases hb : b = a
   ·have z' := (if_pos hb).symm.trans z
    cases z'
    subst hb
    exact ⟨ha, by rw [List.length_map]; exact hl, vs, _, rv, ha⟩
   ·have z' := (if_neg hb).symm.trans z
    cases z'
  ·by_cases hb : b = a
   ·exact hb
   ·exact absurd (if_neg hb) z
theorem aBh {l : PySem.W.OpenLaw} {n k : Nat} {q : Program} {loose : List Str} {XP : (Str -> Option Value) -> Heap -> Prop} {YP : World -> Heap -> Prop} {d : DefRec} {K : Params -> PySem.W.Frag} {CX : World -> CXT} {sp : World -> Sp} {x : Str}
  (hn : l.most = some n) (hn2 : n <= sizeLine) (hdf : d.params.defaults = []) (hr : Room k callerA)
  (hY : ∀ (w : World) (h : Heap), YP w h -> (K w.params).In h)
  (F : ∀ (w : World) (mg : Str -> Option Value) (fa : Addr) (h : Heap), (K w.params).In h -> h.Ns mainGlobals mg -> mg d.name = some (.ref fa) ->
   ∃ fd : FuncData, (∀ (s : Shared) (u : Value), BindsTo s fd ⟨[u], []⟩ [(x, u)]) /\
    ∀ base : Heap, (K w.params).In base -> base.Ns mainGlobals mg -> FnOk l.prog w (K w.params) mg base (CX w) k fa fd [x] (sp w))
  (hsp : ∀ (w : World) (H : Hp) (a : Addr) (ns : List Int), ns.length <= n -> aHp H -> SqL (K w.params) H a (ns.map V.int) -> sp w [.ref a] H (fun v _ => v = .bl true) fun _ _ _ => False)
  (hCX : ∀ (w : World) (H : Hp) (s : Shared) (e : Value) (s' : Shared), CX w [] H s (fun _ _ _ => False) e s' -> False) :
  PySem.W.WalkO q loose XP YP l.row.toRowW d [] (fun f vs => PySem.call f vs) := by
 refine Att.oX hn hdf fun w s₀ s₁ mg mb fa o pm cd doc a vs ns G Y ho hd hcd hmg hobj hints hlen hg => ?_
 have KX := hY w _ Y
 obtain ⟨fd, hb, hF⟩ := F w mg fa _ KX G.T.g hmg
 exact y8 KX G.T.g G.T.b G.T.builtins G.T.nolimit hg hobj hints (Nat.le_trans hlen hn2) hr hF hb (fun H hO hS => hsp w H a ns hlen hO hS) fun H e s' => hCX w H s₁ e s'
def fH (s : Stmt) : Arguments := match s with
 | .FunctionDef _ a _ _ _ _ _ _ _ _ => a
 | _ => { posonlyargs := [], args := [], vararg := none, kwonlyargs := [], kw_defaults := [], kwarg := none, defaults := [] }
def dF (s : Stmt) : List Stmt := match s with
 | .FunctionDef _ _ b _ _ _ _ _ _ _ => b
 | _ => []
def aN (s : Stmt) : Scope := match s with
 | .FunctionDef _ _ _ _ _ _ sc _ _ _ => sc
 | _ => { kind := .function, names := [], isGenerator := false, isCoroutine := false }
abbrev E0 : XK := fun _ _ _ => False
structure Fun (K : PySem.W.Frag) (x qual : Str) (st : Stmt) (f : Addr) (fd : FuncData) : Prop where
 ex : ∃ (oc : Value) (od : Option Addr) (kV doc pm : Value) (an : Option Addr) (cdv ct : Value) (osl : Array (Option Value)),
  fd = PySem.W.fnOf x qual (fH st) (dF st) (aN st) .none kV doc pm an cdv ct /\ K.lookup f = some ⟨oc, od, .func fd, osl⟩ /\ PySem.W.codeIn K cdv qual = true
 kp : PySem.W.keepIn K (.ref f) = true
section
variable {P : Program} {w : World} {K : PySem.W.Frag} {mg : Str -> Option Value} {base : Heap}
theorem Fun.binds {x qual : Str} {st : Stmt} {f : Addr} {fd : FuncData} {ps : List Str} (F : Fun K x qual st f fd)
  (h : ∀ (kV doc pm : Value) (an : Option Addr) (cdv ct : Value) (us : List Value), us.length = ps.length -> bindArgs (PySem.W.fnOf x qual (fH st) (dF st) (aN st) .none kV doc pm an cdv ct) ⟨us, []⟩ = pure (ps.zip us)) : Binds K fd ps [] := by
 obtain ⟨oc, od, kV, doc, pm, an, cdv, ct, osl, rfl, lk, hcd⟩ := F.ex
 exact .all (h kV doc pm an cdv ct)
theorem aAb {x qual : Str} {st : Stmt} {f : Addr} {oc : Value} {od an : Option Addr} {osl : Array (Option Value)} {kV doc pm cdv ct : Value} (l : K.lookup f = some ⟨oc, od, .func (PySem.W.fnOf x qual (fH st) (dF st) (aN st) .none kV doc pm an cdv ct), osl⟩)
  (c : PySem.W.codeIn K cdv qual = true) (k : PySem.W.keepIn K (.ref f) = true) : Fun K x qual st f (PySem.W.fnOf x qual (fH st) (dF st) (aN st) .none kV doc pm an cdv ct) := ⟨⟨oc, od, kV, doc, pm, an, cdv, ct, osl, rfl, l, c⟩, k⟩
end
section
variable {X : Cx}
theorem pv (i : Nat) {x : Str} {pos : Pos} (hN : X.N[i]? = some x := by rfl) (hv : Vis X.env.scope x := by first | exact Or.inl rfl | exact Or.inr (Or.inl rfl) | exact Or.inr (Or.inr rfl)) (hd : (x == ("__debug__" : Str)) = false := by decide)
  (hcd : (x == ("__classdict__" : Str)) = false := by decide) : PE X (.Name x pos) (aDs i) := aA5 hN hv hd hcd
end
def Same (H H' : Hp) : Prop := ∀ b o, H b = some o -> H' b = some o
theorem Same.refl (H : Hp) : Same H H := fun _ _ h => h
theorem Same.trans {H H1 H2 : Hp} (a : Same H H1) (b : Same H1 H2) : Same H H2 := fun c o h => b c o (a c o h)
theorem Same.free {H H' : Hp} (e : Same H H') {l : Addr} (h : H' l = Option.none) : H l = Option.none := by
 cases q : H l with
 | none => rfl
 | some o =>
  rw [e l o q] at h
  cases h
theorem Same.seq {K : PySem.W.Frag} {H H' : Hp} {a : Addr} {xs : List V} (e : Same H H') (h : SqL K H a xs) : SqL K H' a xs := by
 rcases h with (h | ⟨o, h⟩) | h
 ·exact .inl (.inl (e _ _ h))
 ·exact .inl (.inr ⟨o, e _ _ h⟩)
 ·exact .inr h
section
variable {X : Cx}
end
section
variable {κ : Type} [DecidableEq κ]
end
end L2
set_option maxHeartbeats 4000000
namespace PySem.W
open PySem PySem.Spec PySem.Calls PyProof.Rows Builtin Builtin.ObjectAttr Builtin.Getset_descriptor
section
variable {prog : Program} {w : World} {A : Around} {E : Value -> Shared -> Prop} {K : Frag} {h : Heap} {g : Array GenState} {d : Drawn} {t : Nat} {os : OsState} {a C : Addr}
structure ExcK (K : Frag) (C : Addr) : Prop where
 ga : findIn K (.ref C) "__getattribute__" = some (some (.builtin "BaseException.__getattribute__"))
 gt : findIn K (.ref C) "__getattr__" = some none
 cl : findIn K (.ref C) "__class__" = some (some (.builtin "object.__class__"))
 mo : mroIn K C (.type "object") = some true
 mb : mroIn K C (.type "BaseException") = some true
 ic : (clsIn K C).isSome = true
def ExcAt (a : Addr) (cls : Value) (h : Heap) : Prop := ∃ o, h.get? a = some o /\ o.cls = cls /\ ∃ vs, o.data = .fields vs
theorem ExcAt.ty {cls : Value} (p : ExcAt a cls h) (M : Model) : Looks M h (typeOf (.ref a)) cls := by
 obtain ⟨o, h1, h2, _⟩ := p
 exact h2 ▸ (Looks.ld h1).andThen .now
theorem aF9 {tp : Value} {R : Result -> Shared -> Prop} (X : K.In h) (T : ExcK K C) (p : ExcAt a (.ref C) h) (hq : R (.ok (.ret (.ref C))) ⟨h, g, d, t, os⟩) :
  codeAny (model prog w) A (.call (.builtin "getset_descriptor.__get__") ⟨[.builtin "object.__class__", .ref a, tp], []⟩) R ⟨h, g, d, t, os⟩ := by
 have La := p.ty (model prog w)
 have Lb := looks_mroIn (M := model prog w) X T.mo
 refine codeAny_call_builtin KF.slot_gs.plain KF.entry_gs (KF.slot_gs.check _ _ _ _ _ _ _ _ KF.type_class (KF.args_gs _ _ _) ?_)
 unfold Builtin.«getset_descriptor.__get__» descrGet
 rw [dga_obj]
 refine wpAny_bind (wpAny_pure ?_)
 unfold descrGetter descrCheckInstance descrNameAndClass isInstance
 simp only [KF.owner_class]
 repeat lk
 refine ⟨Code.quiet_builtin _ (by decide +kernel), codeAny_builtin KF.entry_class ?_⟩
 unfold Builtin.«object.__class__» shownTypeOf
 repeat lk
 exact hq
theorem zA {tk : Tok} {Q : Fin -> Shared -> Prop} (X : K.In h) (T : ExcK K C) (p : ExcAt a (.ref C) h) (hq : Q (.done (.ret (.ref C))) ⟨h, g, d, t, os⟩) :
  wpAny (model prog w) A (Builtin.«object.__getattribute__» ⟨[.ref a, .str "__class__" tk], []⟩) Q E ⟨h, g, d, t, os⟩ := by
 have La := p.ty (model prog w)
 have Lc := looks_findIn (M := model prog w) X T.cl
 have hT5 : (⟨h, g, d, t, os⟩ : Shared).TypeIs (.builtin "object.__class__") "getset_descriptor" := F.typeOf_object_class
 have e5 := F.typeOf_object_class
 have e6 := F.slot_gs_get.lookup
 have e7 := F.slot_gs_set.lookup
 repeat (any_goals (first | assumption | with_reducible refine Looks.at (by assumption) ?_ | wp_step))
 refine aF9 X T p ?_
 repeat (any_goals (first | assumption | wp_step))
theorem xG {M : Model} {nameV : Value} {Q : Unit -> Shared -> Prop} (X : K.In h) (T : ExcK K C) (p : ExcAt a (.ref C) h) (hq : Q () ⟨h, g, d, t, os⟩) :
  wpAny M A (checkBuiltinCall "BaseException.__getattribute__" ⟨[.ref a, nameV], []⟩) Q E ⟨h, g, d, t, os⟩ := by
 have hk : builtinKind "BaseException.__getattribute__" = some .slot := by decide +kernel
 have hsp : splitId "BaseException.__getattribute__" = some ("BaseException", "__getattribute__") := by decide +kernel
 have La := p.ty M
 have Lb := looks_mroIn (M := M) X T.mb
 have ha := F.args_bexc_ga (.ref a) nameV
 simp only [checkBuiltinCall, hk, hsp]
 refine wpAny_bind ?_
 unfold isInstance
 repeat (any_goals (first | assumption | with_reducible refine Looks.at (by assumption) ?_ | wp_step))
theorem aDg {tk : Tok} {R : Result -> Shared -> Prop} (X : K.In h) (T : ExcK K C) (p : ExcAt a (.ref C) h) (hq : R (.ok (.ret (.ref C))) ⟨h, g, d, t, os⟩) :
  codeAny (model prog w) A (.call (.builtin "BaseException.__getattribute__") ⟨[.ref a, .str "__class__" tk], []⟩) R ⟨h, g, d, t, os⟩ :=
 codeAny_call_builtin F.attr_ValueError.ga.plain F.entry_bexc_ga (xG X T p (zA X T p hq))
theorem aIa {tk : Tok} {Q : Value -> Shared -> Prop} (X : K.In h) (T : ExcK K C) (p : ExcAt a (.ref C) h) (hq : Q (.ref C) ⟨h, g, d, t, os⟩) : wpAny (model prog w) A (getAttrBy (.ref a) (.str "__class__" tk) false) Q E ⟨h, g, d, t, os⟩ := by
 have La := p.ty (model prog w)
 have Lg := looks_findIn (M := model prog w) X T.ga
 have Lt := looks_findIn (M := model prog w) X T.gt
 have f3 := F.attr_ValueError.ga.bind (.ref a)
 have hx0 : (false && onTheHeap (Value.builtin "BaseException.__getattribute__")) = false := rfl
 have hx2 : (Value.builtin "BaseException.__getattribute__" == Value.builtin "object.__getattribute__") = false := by decide +kernel
 have hx1 : (onTheHeap (Value.ref C) && Value.builtin "BaseException.__getattribute__" == Value.builtin "object.__getattribute__") = false := by rw [hx2]; rfl
 repeat (any_goals (first | assumption | with_reducible refine Looks.at (by assumption) ?_ | wp_step))
 refine aDg X T p ?_
 repeat (any_goals (first | assumption | wp_step))
theorem aCs {Q : Option Value -> Shared -> Prop} (X : K.In h) (T : ExcK K C) (p : ExcAt a (.ref C) h) (hq : Q (some (.ref C)) ⟨h, g, d, t + 1, os⟩) : wpAny (model prog w) A (getAttr? (.ref a) "__class__") Q E ⟨h, g, d, t, os⟩ := by
 unfold getAttr? getAttrBy?
 repeat (any_goals (first | assumption | with_reducible apply aIa X T p | wp_step))
theorem kitx_exc (T : ExcK K C) : KitX K (.ref a) (.ref C) (ExcAt a (.ref C)) where
 ty := fun M _ _ p => p.ty M
 it := fun _ _ X _ => by
  have hs := T.ic
  unfold clsIn at hs
  split at hs
  ·rename_i ho
   intro A' Q' E' s' k q
   unfold isType loadHead
   exact wpAny_bind (wpAny_loadPart (k _ _ (X _ _ ho)) (wpAny_pure q))
  ·cases hs
 ne := fun h tp dd its n sl X htp => by
  refine Bool.eq_false_iff.mpr fun q => ?_
  have e : C = tp := Value.ref.inj (beq_iff_eq.mp q)
  have hs := T.ic
  unfold clsIn at hs
  split at hs
  ·rename_i ho
   have z := X _ _ ho
   rw [e, htp] at z
   cases z
  ·cases hs
 ca := fun {_ _ _ _ _ s} X p k => by
  obtain ⟨hh, gg, dd, tt, oo⟩ := s
  exact aCs X T p k
end
end PySem.W
namespace L2
open PySem PySem.Spec PyProof.Rows
structure aGg (P : Program) (w : World) (outer : List Env) (H : Hp) (s : Shared) (ea : Addr) (cls : Value) (H' : Hp) (B : Heap) (a0 : Value) (s' : Shared) : Prop where
 os : s'.os = s.os
 bare : AllBare s'.gens
 un : Un (frs outer) [] H H' s.heap s'.heap
 hok : HOk P w H' s'.heap
 fly : Heap.FlyingW B outer ea cls a0 s'.heap
 inB : ∀ b o, s'.heap.get? b = some o -> (H' b ≠ none \/ ((∃ u, s.heap.get? b = some u) /\ b ∉ frs outer)) -> B.get? b = some o
 new : s.heap.get? ea = none
 nt : H' ea = none
def CXr (P : Program) (w : World) : CXT := fun outer H s E e s' =>
 ∃ (ea : Addr) (cls : Value) (H' : Hp) (B : Heap) (a0 : Value), e = .ref ea /\ aGg P w outer H s ea cls H' B a0 s' /\ E cls none H'
theorem qT {P : Program} {w : World} {H : Hp} {h h' : Heap} (ok : HOk P w H h) (k : ∀ b o, H b ≠ none -> h.get? b = some o -> h'.get? b = some o) : HOk P w H h' := fun a o e =>
 (ok a o e).stay (fun b u hb q => k b u (by
  rcases hb with z | z
  ·rw [z, e]; exact fun q => nomatch q
  ·rw [z]; exact fun q => nomatch q) q) (fun _ q => q) fun _ _ q => q
theorem oP {P : Program} {w : World} {H : Hp} {h : Heap} {a : Addr} {o : HO} (x : ObjOk P w H h a o) : ∃ ob, h.get? a = some ob := by
 cases o with
 | lst xs => obtain ⟨_, _, _, _, e⟩ := x; exact ⟨_, e⟩
 | tup xs => obtain ⟨_, _, _, ob, e, _⟩ := x; exact ⟨_, e⟩
 | dK kvs => obtain ⟨_, _, _, _, o, _, _, e, _⟩ := x; exact ⟨_, e⟩
 | dT kvs => obtain ⟨_, _, _, _, o, _, _, e, _⟩ := x; exact ⟨_, e⟩
 | set S n => obtain ⟨o, _, _, _, e, _⟩ := x; exact ⟨_, e⟩
 | ins C dx fs => obtain ⟨_, _, _, e, _⟩ := x; exact ⟨_, e⟩
 | own y => exact x
 | xd fs => obtain ⟨_, ⟨_, _, _, e, _⟩, _⟩ := x; exact ⟨_, e⟩
 | rng lo hi => obtain ⟨_, _, _, e⟩ := x; exact ⟨_, e⟩
 | frz ob u => obtain ⟨e, _⟩ := x; exact ⟨_, e⟩
 | tbl ps => exact ⟨_, (show h.get? a = some _ from x)⟩
 | met f y => exact ⟨_, (show h.get? a = some _ from x)⟩
 | ext φ => obtain ⟨_, e, _⟩ := x; exact e
theorem HOk.there {P : Program} {w : World} {H : Hp} {h : Heap} {a : Addr} (x : HOk P w H h) (n : H a ≠ none) : ∃ ob, h.get? a = some ob := by
 cases q : H a with
 | none => exact absurd q n
 | some u => exact oP (x a u q)
section
variable {P : Program} {w : World} {K : PySem.W.Frag} {mg : Str -> Option Value} {base : Heap} {N : List Str} {qual : Str} {scope : Scope} {f : Addr} {cd : Value} {A : Around} {outer : List Env} {s : Shared} {H : Hp} {E : XK}
theorem zF {env : Env} {l : List Env} {L : Addr} (h : env.frame = some L) : frs (env :: l) = L :: frs l := by
 unfold frs
 rw [List.filterMap_cons, h]
theorem xZ {X : Cx} {pins : List (Addr × Obj)} {σ : St} {H1 H' : Hp} {s1 : Shared} {B h'' : Heap} {ea : Addr} {cls a0 : Value} {g' : Array GenState} {d' : Drawn} {t' : Nat} {os' : OsState}
  (I : Inv X pins σ H1 s1) (hx : X.ex = []) (hs : X.env.locals ∉ frs X.outer)
  (ho : os' = X.s₀.os) (hg : AllBare g')
  (fly : Heap.FlyingW B X.outer ea cls a0 h'')
  (kp : ∀ b o, s1.heap.get? b = some o -> H1 b = none -> b ∉ frs X.outer -> b ≠ X.env.locals -> B.get? b = some o)
  (sl : ∀ b o, s1.heap.get? b = some o -> b ∈ frs X.outer -> ∃ sl, h''.get? b = some { o with slots := sl })
  (fr : ∀ b o, s1.heap.get? b = some o -> H1 b = none -> H' b = none)
  (tups : ∀ b xs, H1 b = some (.tup xs) -> H' b = some (.tup xs)) (frzs : ∀ b o u, H1 b = some (.frz o u) -> H' b = some (.frz o u)) (tbls : ∀ b ps, H1 b = some (.tbl ps) -> ∃ more, H' b = some (.tbl (ps ++ more)))
  (hok : HOk X.prog X.w H' h'') (inH : ∀ b o, h''.get? b = some o -> H' b ≠ none -> B.get? b = some o)
  (th : ∀ b o, s1.heap.get? b = some o -> H1 b ≠ none -> ∃ o', h''.get? b = some o')
  (inB : ∀ b o, s1.heap.get? b = some o -> b ∉ frs X.outer -> b ≠ X.env.locals -> ∃ o', B.get? b = some o')
  (new : s1.heap.get? ea = none) (nt : H' ea = none) :
  aGg X.prog X.w X.outer X.H₀ X.s₀ ea cls H' B a0 ⟨h'', g', d', t', os'⟩ := by
 have hxn : ∀ b : Addr, b ∉ X.ex := fun b z => by rw [hx] at z; cases z
 have neL : ∀ b o, X.s₀.heap.get? b = some o -> b ≠ X.env.locals := fun b o e => Nat.ne_of_lt (Nat.lt_of_lt_of_le (Heap.lt_size e) I.ok.above)
 have st := fly.1
 refine ⟨ho, hg, ⟨fun b o e n hb _ => ?_, fun b o e n hb _ => ?_, fun b o e n _ => ?_, fun b o e _ => ?_, fun b xs e => tups b xs (I.base.tups b xs e), fun b o u e => frzs b o u (I.base.frzs b o u e), fun b ps e => ?_⟩, hok, fly, fun b o e hb => ?_, ?_, nt⟩
 ·exact st b o (kp b o (I.base.keep b o e n hb (hxn b)) (I.base.free b o e n (hxn b)) hb (neL b o e))
 ·obtain ⟨l1, e1⟩ := I.base.slot b o e n hb (hxn b)
  obtain ⟨l2, e2⟩ := sl b _ e1 hb
  exact ⟨l2, e2⟩
 ·obtain ⟨o1, e1⟩ := I.base.there b o e (hxn b)
  exact fr b o1 e1 (I.base.free b o e n (hxn b))
 ·obtain ⟨o1, e1⟩ := I.base.there b o e (hxn b)
  by_cases hb : b ∈ frs X.outer
  ·obtain ⟨l2, e2⟩ := sl b o1 e1 hb
   exact ⟨_, e2⟩
  ·obtain ⟨o2, e2⟩ := inB b o1 e1 hb (neL b o e)
   exact ⟨o2, st b o2 e2⟩
 ·obtain ⟨m1, e1⟩ := I.base.tbls b ps e
  obtain ⟨m2, e2⟩ := tbls b _ e1
  exact ⟨m1 ++ m2, by rw [e2, Array.append_assoc]⟩
 ·rcases hb with hb | ⟨⟨u, hu⟩, hb⟩
  ·exact inH b o e hb
  ·obtain ⟨o1, e1⟩ := I.base.there b u hu (hxn b)
   obtain ⟨o2, e2⟩ := inB b o1 e1 hb (neL b u hu)
   have e3 := st b o2 e2
   have e4 : h''.get? b = some o := e
   rw [e3] at e4
   cases e4
   exact e2
 ·cases q : X.s₀.heap.get? ea with
  | none => rfl
  | some o =>
   obtain ⟨o', e'⟩ := I.base.there ea o q (hxn ea)
   rw [new] at e'
   cases e'
theorem aHr : aEf (CXr P w) (pM (CXr P w) P w K mg base N qual scope f cd A outer s H E) E := by
 intro pins σ H1 s1 e s1' I h
 obtain ⟨ea, cls, H', B, a0, rfl, F, want⟩ := h
 have hfr : (pM (CXr P w) P w K mg base N qual scope f cd A outer s H E).A.frames = some (envOfC qual scope s.heap.objs.size f cd :: outer) := I.ok.frames
 have hstk : frs (pM (CXr P w) P w K mg base N qual scope f cd A outer s H E).stack = s.heap.objs.size :: frs outer := zF rfl
 have hLo : s.heap.objs.size ∉ frs outer := fun z => by
  obtain ⟨_, o, ho, _⟩ := I.ok.funs.mem z
  exact absurd (Heap.lt_size ho) (Nat.lt_irrefl _)
 have nst : ∀ {b : Addr}, b ∉ frs outer -> b ≠ s.heap.objs.size -> b ∉ frs (pM (CXr P w) P w K mg base N qual scope f cd A outer s H E).stack := fun h1 h2 z => by
  rw [hstk] at z
  rcases List.mem_cons.mp z with z | z
  ·exact h2 z
  ·exact h1 z
 show wpAny (model P w) _ (leaving _ (.ref ea)) _ _ s1'
 refine wpAny_leaves_onW hfr rfl F.fly fun h'' fl' up => ?_
 have inB' : ∀ b o, s1'.heap.get? b = some o -> H' b ≠ none -> h''.get? b = some o := fun b o e n => fl'.1 b o (F.inB b o e (.inl n))
 refine ⟨ea, cls, H', B, a0, rfl, xZ (X := pM (CXr P w) P w K mg base N qual scope f cd A outer s H E) I rfl hLo (F.os.trans I.os) F.bare fl' (fun b o e n hb hL => ?_) (fun b o e hb => ?_) (fun b o e n => F.un.free b o e n (by simp)) F.un.tups F.un.frzs F.un.tbls
  (qT F.hok fun b o n e => inB' b o e n) (fun b o e n => ?_) (fun b o e n => ?_) (fun b o e hb hL => ?_) F.new F.nt, want⟩
 ·exact F.inB b o (F.un.keep b o e n (nst hb hL) (by simp)) (.inr ⟨⟨o, e⟩, nst hb hL⟩)
 ·have hb' : b ∈ frs outer := hb
  have n : H1 b = none := by
   have := I.stkFree b (by rw [hstk]; exact List.mem_cons_of_mem _ hb')
   exact this
  obtain ⟨l1, e1⟩ := F.un.slot b o e n (by rw [hstk]; exact List.mem_cons_of_mem _ hb') (by simp)
  obtain ⟨_, o', ho', hd'⟩ := F.fly.2.2.1.mem (b := b) (by
   have : b ∈ frs (pM (CXr P w) P w K mg base N qual scope f cd A outer s H E).stack := by rw [hstk]; exact List.mem_cons_of_mem _ hb'
   exact this)
  rw [e1] at ho'
  cases ho'
  obtain ⟨l2, e2⟩ := up b _ e1 hd'
  exact ⟨l2, e2⟩
 ·obtain ⟨o1, e1⟩ := F.hok.there n
  have e2 := F.inB b o1 e1 (.inl n)
  have e3 := fl'.1 b o1 e2
  rw [e] at e3
  cases e3
  exact e2
 ·obtain ⟨o1, e1⟩ := F.un.there b o e (by simp)
  by_cases hb : b ∈ frs outer
  ·have hz : H1 b = none := I.stkFree b (by rw [hstk]; exact List.mem_cons_of_mem _ hb)
   exact absurd hz n
  ·by_cases hL : b = s.heap.objs.size
   ·have hz : H1 b = none := I.stkFree b (by rw [hstk, hL]; exact List.mem_cons_self)
    exact absurd hz n
   ·exact ⟨o1, fl'.1 b o1 (F.inB b o1 e1 (.inr ⟨⟨o, e⟩, nst hb hL⟩))⟩
 ·obtain ⟨o1, e1⟩ := F.un.there b o e (by simp)
  exact ⟨o1, F.inB b o1 e1 (.inr ⟨⟨o, e⟩, nst hb hL⟩)⟩
end
section
variable {X : Cx} {E : XK}
end
def jM (CX : CXT) (X : Cx) (E : St -> XK) : Prop := ∀ (pins : List (Addr × Obj)) (σ : St) (H : Hp) (s : Shared) (e : Value) (s' : Shared), Inv X pins σ H s -> CX X.stack H s (E σ) e s' -> X.xe e s'
def aFd (sp : Sp) (E : St -> XK) (t : TA) : TE := fun σ H Q => t σ H fun vs H1 => sp vs H1 Q (E σ)
section
variable {X : Cx} {CX : CXT} {k : Nat} {f : Addr} {fd : FuncData} {ps : List Str} {sp : Sp} {E : St -> XK} {x : Str} {p pos : Pos} {e : Expr} {es : List Expr} {t : TA}
theorem zU (F : FnOk X.prog X.w X.K X.mg X.base CX k f fd ps sp) (hr : Room k X.A) (hg : Gl X x) (hm : X.mg x = some (.ref f)) (hk : PySem.W.keepIn X.K (.ref f) = true) (hb : Binds X.K fd ps []) (hx : jM CX X E)
  (ha : PA X (e :: es) t) (hdb : (x == ("__debug__" : Str)) = false := by decide) (he : starEach (e :: es) X.env = (false, eval e X.env) :: starEach es X.env := by rfl) (hpl : (backTo pos (starEach es X.env)).any (·.1) = false := by rfl) :
  PE X (.Call (.Name x p) (e :: es) [] pos) (aFd sp E t) := by
 intro pins s σ H Q I h
 refine wpAny_Call_Name_kw (aCm I hg hm ?_ hdb)
 refine PySem.W.callWith_K (h₀ := X.base) I.ok.mod.kin hk (thn (ha pos pins s σ H _ I h) fun us s1 ⟨vs, H1, I1, r, q⟩ => ⟨I1.kIn, ?_⟩) he hpl
 have hl : us.length = ps.length := by rw [<- r.length]; exact F.len _ _ _ _ q
 have hb' := hb s1 us I1.kIn (by rw [List.append_nil]; exact hl)
 rw [List.append_nil] at hb'
 refine wpAny_call (codeAny_mono (F.run X.A X.stack s1 H1 ⟨us, []⟩ us vs Q (E σ) hr I1.env0 hb' r q) fun rr s' hq => ?_)
 cases rr with
 | error e' => exact hx pins σ H1 s1 e' s' I1 hq
 | ok fl =>
  cases fl with
  | ret u => exact I1.after hq
  | next => exact False.elim hq
  | brk => exact False.elim hq
  | cont => exact False.elim hq
end
section
variable {X : Cx} {k : Nat} {f : Addr} {fd : FuncData} {ps : List Str} {sp : Sp} {x : Str} {p pos : Pos} {e : Expr} {es : List Expr} {t : TA}
end
def aDr (e : Addr) (cls : Value) : HO := .ext fun h => ∃ o, h.get? e = some o /\ o.cls = cls /\ ∃ vs, o.data = .fields vs
abbrev bK (X : Cx) (scope : Scope) (cl : List (Str × Addr)) (C : Addr) (N : List Str) (s₀ : Shared) (H₀ : Hp) (ex : List Addr) (pn : List (Addr × Obj)) : Cx :=
 { X with env := compEnvC scope cl C X.env, N := N, s₀ := s₀, H₀ := H₀, outer := X.stack, stack := X.stack, ex := ex, fn := fun _ => false, pn := pn, xe := fun _ _ => False }
structure aEb (X : Cx) (scope : Scope) (cl : List (Str × Addr)) : Prop where
 clos : closureFor scope X.env = pure cl
 sub : ∀ y c, cl.lookup y = some c -> X.env.cells.lookup y = some c
 has : ∀ y, (relabel scope X.env).names.lookup y = some .cell \/ (relabel scope X.env).names.lookup y = some .free -> ∃ c, cl.lookup y = some c
def qH (js : List Nat) (σ : St) : St := js.map fun j => (σ[j]?).getD none
structure nQ (X : Cx) (scope : Scope) (cl : List (Str × Addr)) (ys : List Str) (js : List Nat) : Prop where
 len : ys.length = js.length
 at_ : ∀ (i : Nat) (y : Str) (j : Nat), ys[i]? = some y -> js[i]? = some j -> X.N[j]? = some y /\ (X.env.kindOf y = some .cell \/ X.env.kindOf y = some .free) /\ ((relabel scope X.env).names.lookup y = some .cell \/ (relabel scope X.env).names.lookup y = some .free) /\ (X.env.cells.lookup y).isSome = true /\ cl.lookup y = X.env.cells.lookup y
section
variable {X : Cx}
end
def Sz (n : Nat) (x : Int) : Prop := x.natAbs < 2 ^ n
theorem Sz.mono {m n : Nat} {x : Int} (h : Sz m x) (l : m <= n) : Sz n x := Nat.lt_of_lt_of_le h (Nat.pow_le_pow_right (by decide) l)
theorem Sz.add {n : Nat} {x y : Int} (hx : Sz n x) (hy : Sz n y) : Sz (n + 1) (x + y) := by
 unfold Sz at *
 have := Int.natAbs_add_le x y
 rw [Nat.pow_succ]
 omega
theorem Sz.neg {n : Nat} {x : Int} (hx : Sz n x) : Sz n (-x) := by
 unfold Sz at *
 rw [Int.natAbs_neg]
 exact hx
theorem Sz.sub {n : Nat} {x y : Int} (hx : Sz n x) (hy : Sz n y) : Sz (n + 1) (x - y) := by
 have := Sz.add hx hy.neg
 rwa [Int.sub_eq_add_neg]
def CMulW (i j : Int) : Prop := Sz 60000 i /\ Sz 60000 j
theorem CMulW.ok {i j : Int} (h : CMulW i j) : IntMulOk i j := .of_le (intBits_le_iff.mpr h.1) (intBits_le_iff.mpr h.2) (by decide)
def nY (i j : Int) : Prop := j ≠ 0 /\ Sz 8000 j
section
variable {X : Cx}
theorem eZ : OpR X (binaryOp .Mult) (rI CMulW fun i j => .int (i * j)) := opI fun _ _ _ _ _ _ _ hc q => mul_int q hc.ok
theorem log2_small {n : Nat} (h : n < 2 ^ 8000) : n.log2 < 9000 := by
 by_cases z : n = 0
 ·rw [z]; decide
 ·have : n.log2 < 8000 := (Nat.log2_lt z).mpr h
  omega
theorem dO : OpR X (binaryOp .FloorDiv) (rI nY fun i j => .int (i.fdiv j)) := opI fun _ _ _ _ _ _ _ hc q => floordiv_int hc.1 q (.inl (PyProof.noPylong_of_log2 (log2_small hc.2)))
inductive TyX (K : PySem.W.Frag) (H : Hp) : V -> Value -> Prop where
 | plain {x : V} {t : Value} (h : q9 K H x t) : TyX K H x t
 | exc {a C : Addr} (e : H a = some (aDr a (.ref C))) (T : PySem.W.ExcK K C) : TyX K H (.ref a) (.ref C)
theorem RelV.tyOrRef {y : V} {c u : Value} (h : (∃ n, y = .ty n) \/ ∃ a, y = .ref a) (r : RelV y c) (r' : RelV y u) : u = c := by
 rcases h with ⟨n, rfl⟩ | ⟨n, rfl⟩
 ·cases r; cases r'; rfl
 ·cases r; cases r'; rfl
def aEh (K : PySem.W.Frag) : List V -> Hp -> VK -> Prop := fun xs H Q => ∃ x y t c b, xs = [x, y] /\ ((∃ n, y = .ty n) \/ ∃ a, y = .ref a) /\ TyX K H x t /\ RelV y c /\ PySem.W.kitOne K t c = some b /\ Q (.bl b) H
theorem xH : kF X (.builtin "isinstance") (aEh X.K) := by
 intro pins s σ H xs us Q I r h
 obtain ⟨x, y, t, c, b, rfl, hy, ty, rc, e, q⟩ := h
 obtain ⟨u, w', rfl, r1, r2⟩ := vals2 r
 have ec := RelV.tyOrRef hy rc r2
 subst ec
 cases ty with
 | plain ty => exact xA I r1 ty e fun tk => ⟨.bl b, H, I.tok _, rfl, q⟩
 | @exc a C ea T =>
  cases (show u = Value.ref a from r1)
  obtain ⟨p, _, _⟩ := (show ObjOk X.prog X.w H s.heap a (aDr a (.ref C)) from I.hok a _ ea)
  exact PySem.W.kia_one (PySem.W.kitx_exc T) I.kIn p e (fun z => nomatch z) fun tk => ⟨.bl b, H, I.tok _, rfl, q⟩
end
def aI5 (K : PySem.W.Frag) (te : TE) (v : V) : TE := fun σ H Q => te σ H fun x H1 => aEh K [x, v] H1 Q
theorem aFw {X : Cx} {e c : Expr} {te : TE} {v : V} {p pos : Pos} (hg : Gl X "isinstance") (hm : X.mg "isinstance" = none) (he : PE X e te) (hc : PE X c (tC v)) (h1 : starEach [e, c] X.env = (false, eval e X.env) :: starEach [c] X.env := by rfl)
  (h2 : (backTo pos (starEach [c] X.env)).any (·.1) = false := by rfl) (h3 : starEach [c] X.env = (false, eval c X.env) :: starEach [] X.env := by rfl) : PE X (.Call (.Name "isinstance" p) [e, c] [] pos) (aI5 X.K te v) := fun pins s σ H Q I h =>
 rB xH hg hm (by decide +kernel) (dR he (dR hc gI h3) h1) (by decide) (by decide) h1 h2 pins s σ H Q I h
theorem Fun.okX {P : Program} {w : World} {K : PySem.W.Frag} {mg : Str -> Option Value} {base : Heap} {x qual : Str} {st : Stmt} {f : Addr} {fd : FuncData} {N ps : List Str} {k : Nat} {sp : Sp} (F : Fun K x qual st f fd) (S : bL N ps (aN st)) (len : ∀ vs H Q E, sp vs H Q E -> vs.length = ps.length)
  (hbody : ∀ (cdv : Value) (A : Around) (outer : List Env) (s : Shared) (H : Hp) (vs : List V) (Q : VK) (E : XK), Room k (A.deeper (envOfC qual (aN st) s.heap.objs.size f cdv)) -> sp vs H Q E ->
   ∃ t, PSs (pM (CXr P w) P w K mg base N qual (aN st) f cdv A outer s H E) (dF st) t /\ t { nx := fun _ H' => Q .non H', rt := Q } (start N vs) H) : FnOk P w K mg base (CXr P w) (k + 1) f fd ps sp := by
 obtain ⟨oc, od, kV, doc, pm, an, cdv, ct, osl, rfl, lk, hcd⟩ := F.ex
 exact aIi lk hcd S len fun A outer s H vs Q E hr hsp => hbody cdv A outer s H vs Q E hr hsp
theorem Same.upd {H H' : Hp} {p : Addr} (h : Same H H') (hp : H' p = none) (o : HO) : Same H (upd H' p o) := fun b u q => by
 have := h b u q
 rw [a7 (bR this hp)]
 exact this
end L2
namespace FR
end FR
namespace L2
open PySem PySem.Spec PyProof.Rows
section
variable {X : Cx}
end
open PySem.W (Dat kqdP kqdPs kqdOk kqd_lay kqd_eqv)
mutual
inductive HasD (H : Hp) : V -> Dat -> Prop
 | int (i : Int) : HasD H (.int i) (.int i)
 | tup {a : Addr} {xs : List V} {ds : List Dat} : H a = some (.tup xs) -> HasDs H xs ds -> HasD H (.ref a) (.tuple ds)
 | lst {a : Addr} {xs : List V} {ds : List Dat} : H a = some (.lst xs) -> HasDs H xs ds -> HasD H (.ref a) (.list ds)
inductive HasDs (H : Hp) : List V -> List Dat -> Prop
 | nil : HasDs H [] []
 | cons {x : V} {xs : List V} {d : Dat} {ds : List Dat} : HasD H x d -> HasDs H xs ds -> HasDs H (x :: xs) (d :: ds)
end
mutual
theorem HasD.keep {H H' : Hp} (k : ∀ a o, H a = some o -> H' a = some o) : ∀ {v : V} {d : Dat}, HasD H v d -> HasD H' v d
 | _, _, .int i => .int i
 | _, _, .tup h r => .tup (k _ _ h) (HasDs.keep k r)
 | _, _, .lst h r => .lst (k _ _ h) (HasDs.keep k r)
theorem HasDs.keep {H H' : Hp} (k : ∀ a o, H a = some o -> H' a = some o) : ∀ {v : List V} {d : List Dat}, HasDs H v d -> HasDs H' v d
 | _, _, .nil => .nil
 | _, _, .cons h r => .cons (HasD.keep k h) (HasDs.keep k r)
end
mutual
theorem HasD.reads {P : Program} {w : World} {H : Hp} {h : Heap} (ok : HOk P w H h) : ∀ {v : V} {d : Dat}, HasD H v d -> ∀ {u : Value}, RelV v u -> ∃ as, Reads h u (kqdP d) as
 | _, _, .int i, _, ⟨t, e⟩ => by subst e; exact ⟨_, Reads.int i t⟩
 | _, _, .tup hh r, _, e => by
  have e : _ = Value.ref _ := e
  subst e
  obtain ⟨_, its, rv, o, ho, hc, n, hd⟩ := (show ObjOk P w H h _ _ from ok _ _ hh)
  obtain ⟨as, q⟩ := HasDs.reads ok r rv
  rw [kqdP]
  exact ⟨as, reads_tuple_at ho hc hd (by simpa using q)⟩
 | _, _, .lst hh r, _, e => by
  have e : _ = Value.ref _ := e
  subst e
  obtain ⟨_, its, n, rv, ho⟩ := (show ObjOk P w H h _ _ from ok _ _ hh)
  obtain ⟨as, q⟩ := HasDs.reads ok r rv
  rw [kqdP]
  exact ⟨_, reads_list_at ho rfl rfl (by simpa using q)⟩
theorem HasDs.reads {P : Program} {w : World} {H : Hp} {h : Heap} (ok : HOk P w H h) : ∀ {vs : List V} {ds : List Dat}, HasDs H vs ds -> ∀ {us : List Value}, Vals vs us -> ∃ as, ReadsAll h us (kqdPs ds) as
 | _, _, .nil, _, .nil => ⟨_, ReadsAll.nil⟩
 | _, _, .cons hd r, _, .cons rv rt => by
  obtain ⟨as, q⟩ := HasD.reads ok hd rv
  obtain ⟨bs, p⟩ := HasDs.reads ok r rt
  rw [kqdPs]
  exact ⟨_, ReadsAll.cons q p⟩
end
section
variable {X : Cx}
end
section
variable {prog : Program} {w : World} {A : Around} {E : Value -> Shared -> Prop} {s : Shared} {d it : Addr} {es : Array DictEntry} {ep i : Nat}
end
section
variable {prog : Program} {w : World} {A : Around} {R : Result -> Shared -> Prop} {s : Shared}
abbrev wM (ifs : List Expr) (env : Env) : Sem Bool := forIn ifs true fun c r => if r = true then do let ok <- isTrue c env (eval c env); pure (ForInStep.yield ok) else pure (ForInStep.yield r)
theorem tX {elt target iter : Expr} {ifs : List Expr} {scope : Scope} {pos : Pos} {it acc : Value} {env : Env} (I : Nat -> Shared -> Prop)
  (turn : ∀ n s, I n s -> wpAny (model prog w) A (pyNext it) (fun r s₁ => match r with
   | none => R (.ok .next) s₁
   | some v => wpAny (model prog w) A (letOwnedTupleGo target it v) (fun _ s₀ => wpAny (model prog w) A (assign target env v) (fun _ s₂ =>
     wpAny (model prog w) A (wM ifs env) (fun ok s₃ =>
      if ok = true then wpAny (model prog w) A (eval elt env) (fun x s₄ =>
       wpAny (model prog w) A (call (.builtin "list.append") [acc, x]) (fun _ s₅ => ∃ m, m < n /\ I m s₅) (fun _ _ => False) s₄) (fun _ _ => False) s₃
      else ∃ m, m < n /\ I m s₃) (fun _ _ => False) s₂) (fun _ _ => False) s₀) (fun _ _ => False) s₁) (fun _ _ => False) s)
  (n : Nat) (h : I n s) : codeAny (model prog w) A (.compLoop (.ListComp elt [⟨target, iter, ifs, 0⟩] scope pos) 0 it acc env) R s := by
 refine codeAny_loop rfl I (fun n s hI => ?_) n h
 show wpAny _ A ((compTurn (.ListComp elt [⟨target, iter, ifs, 0⟩] scope pos) 0 it acc env).onRaise (fun x => do noteFrame x env; theTreesLotGoes x)) _ _ s
 refine wpAny_noted ?_
 rw [compTurn_list]
 refine wpAny_bind (wpAny_standAt (wpAny_bind (wpAny_mono (turn n s hI) (fun r s₁ h₁ => ?_) fun _ _ z => z.elim)))
 cases r with
 | none => exact wpAny_pure h₁
 | some v =>
  refine wpAny_bind (wpAny_mono h₁ (fun _ s₀ h₀ => ?_) fun _ _ z => z.elim)
  refine wpAny_bind (wpAny_mono h₀ (fun _ s₂ h₂ => wpAny_bind (wpAny_mono h₂ (fun ok s₃ h₃ => ?_) fun _ _ z => z.elim)) fun _ _ z => z.elim)
  cases ok with
  | false => exact wpAny_pure ⟨rfl, h₃⟩
  | true =>
   exact wpAny_bind (wpAny_bind (wpAny_mono h₃ (fun x s₄ h₄ => wpAny_bind (wpAny_mono h₄ (fun _ s₅ h₅ => wpAny_pure (wpAny_pure ⟨rfl, h₅⟩)) fun _ _ z => z.elim)) fun _ _ z => z.elim))
end
def PTs (X : Cx) (ifs : List Expr) (t : TT) : Prop :=
 ∀ (pins : List (Addr × Obj)) (s : Shared) (σ : St) (H : Hp) (Q : Bool -> Hp -> Prop), Inv X pins σ H s -> t σ H Q -> wpAny (model X.prog X.w) X.A (wM ifs X.env) (TP X pins σ Q) X.xe s
def aJg : TT := fun _ H Q => Q true H
theorem aDn {X : Cx} : PTs X [] aJg := fun _ _ _ H _ I h => wpAny_tests_nil ⟨H, I, h⟩
def tW (wi : TI) (g : TG) (tt : TT) (te : TE) (n : Nat) (js : List Nat) : TE := fun σ H Q => wi σ H fun J H1 => ∀ D, H1 D = none -> ∃ (N : Nat) (W : Nat -> List V -> Hp -> Prop), W 0 [] (upd H1 D (.lst [])) /\ ∀ i ys H2, W i ys H2 ->
 (J.stop i H2 /\ Q (.ref D) H2) \/ (i < N /\ J.go i H2 /\ ∀ v H3, J.yld i H2 v H3 -> g v (List.replicate n none ++ qH js σ) H3 fun σ2 H4 => (σ2.length = n + js.length /\ σ2.drop n = qH js σ) /\ tt σ2 H4 fun b H5 =>
  if b = true then te σ2 H5 fun y H6 => H6 D = some (.lst ys) /\ ys.length < sizeLine /\ W (i + 1) (ys ++ [y]) (upd H6 D (.lst (ys ++ [y]))) else W (i + 1) ys H5)
section
variable {X : Cx}
theorem Inv.but {pins : List (Addr × Obj)} {σ : St} {H : Hp} {s : Shared} {C : Addr} {h' : Heap} (I : Inv X pins σ H s) (f : yA X pins H C) (hs : Heap.SameBut C s.heap h') : Inv X pins σ H { s with heap := h' } := by
 have ne : ∀ b, b ∉ [C] -> b ≠ C := fun b hb z => hb (by rw [z]; exact .head _)
 refine I.call' (s' := { s with heap := h' }) (ch := [C]) rfl ⟨fun b o e n hb hx => (hs.2 b (ne b hx)).trans e, fun b o e n hb hx => ⟨o.slots, (hs.2 b (ne b hx)).trans e⟩, fun b o e n hx => n, fun b o e hx => ⟨o, (hs.2 b (ne b hx)).trans e⟩, fun b xs e => e, fun b o u e => e, fun b ps e => ⟨#[], by rw [Array.append_empty]; exact e⟩⟩ (qT I.hok fun b o nn e => (hs.2 b (fun z => nn (by rw [z]; exact f.1))).trans e) I.bare fun b hb => ?_
 rw [List.mem_singleton.mp hb]
 exact ⟨f.2.2.2.1, f.2.1, f.2.2.2.2.1, f.2.2.2.2.2⟩
set_option maxHeartbeats 8000000 in
theorem uH {elt iter tg : Expr} {pos : Pos} {scope : Scope} {ifs : List Expr} {wi : TI} {g : TG} {tt : TT} {te : TE} {xs ys : List Str} {js : List Nat} {cl : List (Str × Addr)} (hc : X.calm = true) (hi : PI X tg iter wi)
  (hcl : aEb X scope cl) (hcap : nQ X scope cl ys js) (hcell : ∀ y ∈ scope.names, y.2 ≠ .cell) (hkind : scope.kind = .function) (hnames : ∀ y ∈ scope.names, y.2 = .local -> scope.names.lookup y.1 = some .local)
  (hg : ∀ C s₀ H₀ ex pn, PG (bK X scope cl C (xs ++ ys) s₀ H₀ ex pn) tg g) (ht : ∀ C s₀ H₀ ex pn, PTs (bK X scope cl C (xs ++ ys) s₀ H₀ ex pn) ifs tt) (hb : ∀ C s₀ H₀ ex pn, PE (bK X scope cl C (xs ++ ys) s₀ H₀ ex pn) elt te)
  (hs : ∀ x, foldedSetIterable iter X.env x = pure x) {use : Option (Value -> Sem Unit)} {QQ : Value -> Shared -> Prop} {Q : VK} {pins : List (Addr × Obj)} {s : Shared} {σ : St} {H : Hp} {cp : Pos} (I : Inv X pins σ H s)
  (aHl : ∀ (C D : Addr) (s' : Shared) (H' : Hp), Inv X pins σ H' s' -> yA X pins H' C -> (∃ m, s'.heap.Ns C m) -> Q (.ref D) H' -> compPost (model X.prog X.w) X.A X.xe use QQ (.ref D) C (.ok .next) s')
  (h : tW wi g tt te xs.length js σ H Q) :
  wpAny (model X.prog X.w) X.A (comprehension (.ListComp elt [⟨tg, iter, ifs, 0⟩] scope pos) scope X.env cp (newList []) false (eval iter X.env) use) QQ X.xe s := by
 refine wpAny_comprehension_free rfl hs hcl.clos hkind hnames (thn (hi pins s σ H _ I h) fun v s1 h1 => thn h1 fun itv s2 h2 => ?_)
 obtain ⟨it, fp, tn, J, H2, e, I2, T, st2, f2, q2⟩ := h2
 subst e
 obtain ⟨n, W, w0, turn⟩ := q2 s2.heap.objs.size I2.fresh
 refine wpAny_newObj_type (wpAny_newFunctionEnv hcell (by intro y hy; simp at hy) (fun h₁ hns₁ hsb₁ => ?_) hkind)
 dsimp only at hns₁ hsb₁ ⊢
 have I3 := I2.lnew (ys := []) (its := []) (t' := s2.toks) .nil (Nat.zero_le _)
 generalize hg3 : s2.heap.push { cls := .type "list", dict := none, data := .seq ([] : List Value).toArray } = g3 at hns₁ hsb₁ I3 ⊢
 have sz3 : g3.objs.size = s2.heap.objs.size + 1 := by rw [<- hg3, Heap.size_push]
 generalize hC : g3.objs.size = C at hns₁ hsb₁ ⊢
 have old3 : ∀ b o, g3.get? b = some o -> h₁.get? b = some o := fun b o q => hsb₁.extBut b o (by rw [<- hC]; exact Nat.ne_of_lt (Heap.lt_size q)) (Heap.get?_push_of_some _ q)
 have old2 : ∀ b o, s2.heap.get? b = some o -> g3.get? b = some o := fun b o q => by rw [<- hg3]; exact Heap.get?_push_of_some _ q
 have fpl : ∀ b ∈ fp, ∃ o, s2.heap.get? b = some o /\ ∀ v, o.data ≠ .cell v := T.obj _ _ st2
 have fplt : ∀ b ∈ fp, b < s2.heap.objs.size := fun b hb => let ⟨o, q, _⟩ := fpl b hb; Heap.lt_size q
 have H3n : ∀ b, b ≠ s2.heap.objs.size -> upd H2 s2.heap.objs.size (.lst []) b = H2 b := fun b hb => a7 hb
 have fp3 : ∀ b ∈ fp, upd H2 s2.heap.objs.size (.lst []) b = none := fun b hb => by rw [H3n b (Nat.ne_of_lt (fplt b hb))]; exact (f2 b hb).1
 have okX := I3.ok
 have inj : ∀ y z c, cl.lookup y = some c -> cl.lookup z = some c -> y = z := fun y z c h1 h2 => okX.inj y z c (hcl.sub y c h1) (hcl.sub z c h2)
 have cellE : ∀ y c, cl.lookup y = some c -> ∃ v, g3.IsCell c v := fun y c q => I3.cell y c (hcl.sub y c q)
 have st3 : g3.FunFrames X.base X.stack := I3.stack
 have exlt : ∀ b ∈ fp, b ≠ C := fun b hb => by rw [<- hC, sz3]; exact Nat.ne_of_lt (Nat.lt_succ_of_lt (fplt b hb))
 have frlt : ∀ b ∈ frs X.stack, b < g3.objs.size := fun b hb => let ⟨_, o, q, _⟩ := st3.mem hb; Heap.lt_size q
 have okB : (bK X scope cl C (xs ++ ys) { s2 with heap := g3 } (upd H2 s2.heap.objs.size (.lst [])) fp (X.pn ++ pins)).Ok := by
  refine ⟨okX.mod, hkind, okX.glob, okX.blt, Nat.le_of_eq hC, inj, fun y hy => hcl.has y hy, (fun y c hf _ => nomatch hf), okX.hd, okX.frames, .inl rfl, fun b hb => ⟨exlt b hb, fun y c q z => ?_⟩, I3.bs, Nat.le_trans okX.bsz I3.sz, fun b o q hb => ?_, fun b hb => ?_, st3, I3.stkFree⟩
  ·subst z
   exact (f2 c hb).2.2.2.2.1 y c (hcl.sub y c q) rfl
  ·rcases (f2 b hb).2.2.2.1 with z | z
   ·exact okX.noex b o q z
   ·have := Heap.lt_size (okX.bs b o q).1
    exact absurd (Nat.lt_of_lt_of_le this z) (Nat.lt_irrefl _)
  ·intro hz
   rcases List.mem_cons.mp (I3.stkSub b hz) with z | z
   ·exact (f2 b hb).2.1 z
   ·exact (f2 b hb).2.2.1 z
 have tot : ∀ tk : Nat, Inv (bK X scope cl C (xs ++ ys) { s2 with heap := g3 } (upd H2 s2.heap.objs.size (.lst [])) fp (X.pn ++ pins)) [] (List.replicate xs.length none ++ qH js σ) (upd H2 s2.heap.objs.size (.lst [])) { s2 with heap := h₁, toks := tk } := fun tk => by
  refine ⟨okB, rfl, I3.bare, Un.kept old3, ⟨_, hns₁, fun i y v' e1 e2 e3 => ?_⟩, fun y c q => ?_, I3.hok.fresh (Nat.le_of_eq hC), fun y c q => ?_, fun p hp => ?_, I3.hok.kept old3, ?_⟩
  ·by_cases hix : i < xs.length
   ·rw [List.getElem?_append_left (by rw [List.length_replicate]; exact hix), List.getElem?_replicate] at e2
    split at e2 <;> cases e2
   ·have hix' : xs.length <= i := by omega
    obtain ⟨k, rfl⟩ : ∃ k, i = xs.length + k := ⟨i - xs.length, by omega⟩
    have e1' : ys[k]? = some y := by
     rw [List.getElem?_append_right (by omega)] at e1
     simpa using e1
    have e2' : (qH js σ)[k]? = some (some v') := by
     rw [List.getElem?_append_right (by rw [List.length_replicate]; omega), List.length_replicate] at e2
     simpa using e2
    unfold qH at e2'
    rw [List.getElem?_map] at e2'
    cases ej : js[k]? with
    | none => rw [ej] at e2'; cases e2'
    | some j =>
     rw [ej] at e2'
     have e2'' : (σ[j]?).getD none = some v' := Option.some.inj e2'
     have eσ : σ[j]? = some (some v') := by
      cases es : σ[j]? with
      | none => rw [es] at e2''; cases e2''
      | some z => rw [es] at e2''; have : z = some v' := e2''; rw [this]
     obtain ⟨c1, c2, c3, c4, c5⟩ := hcap.at_ k y j e1' ej
     obtain ⟨m0, hn0, hl0⟩ := I3.loc
     obtain ⟨u, r, l⟩ := hl0 j y v' c1 eσ (c2.elim (fun z => .inr (.inl z)) fun z => .inr (.inr z))
     refine ⟨u, r, .inr ⟨c3, ?_⟩⟩
     rcases l with ⟨l, _⟩ | ⟨_, c, hcc, z⟩
     ·rcases c2 with c2 | c2
      ·rw [c2] at l; cases l
      ·rw [c2] at l; cases l
     ·obtain ⟨o, ho, hd⟩ := z
      exact ⟨c, c5.trans hcc, o, old3 c o ho, hd⟩
  ·obtain ⟨v0, o, ho, hd⟩ := cellE y c q
   exact ⟨v0, o, old3 c o ho, hd⟩
  ·exact I3.freeC y c (hcl.sub y c q)
  ·have hp' : p ∈ X.pn ++ pins := by simpa using hp
   obtain ⟨p1, p2, p3, p4, p5⟩ := I3.pin p hp'
   refine ⟨old3 _ _ p1, p2, ?_, fun hz => ?_, p5⟩
   ·show p.1 ≠ C
    rw [<- hC]
    exact Nat.ne_of_lt (Heap.lt_size p1)
   ·rcases List.mem_cons.mp (I3.stkSub p.1 hz) with z | z
    ·exact p3 z
    ·exact p4 z
  ·show (List.replicate xs.length none ++ qH js σ).length = (xs ++ ys).length
   unfold qH
   simp [hcap.len]
 have fpB : ∀ {H' : Hp}, (∀ b ∈ fp, H' b = none) -> ∀ b ∈ fp, yA (bK X scope cl C (xs ++ ys) { s2 with heap := g3 } (upd H2 s2.heap.objs.size (.lst [])) fp (X.pn ++ pins)) [] H' b := fun hn b hb =>
  ⟨hn b hb, exlt b hb, okB.exfs b hb, .inl hb, (okB.exf b hb).2, fun p hp => (f2 b hb).2.2.2.2.2 p (by simpa using hp)⟩
 have fin : ∀ s' : Shared, (∃ i zs σ' H', Inv (bK X scope cl C (xs ++ ys) { s2 with heap := g3 } (upd H2 s2.heap.objs.size (.lst [])) fp (X.pn ++ pins)) [] σ' H' s' /\ W i zs H' /\ J.stop i H' /\ Q (.ref s2.heap.objs.size) H') ->
   compPost (model X.prog X.w) X.A X.xe use QQ (.ref s2.heap.objs.size) C (.ok .next) s' := by
  rintro s' ⟨i, zs, σ', H', Ib, w, stop, q⟩
  obtain ⟨m', hn', _⟩ := Ib.loc
  have ub := Ib.base
  have un : Un (frs X.stack) fp (upd H2 s2.heap.objs.size (.lst [])) H' g3 s'.heap := ub
  have IX : Inv X pins σ H' s' := I3.call' (s' := s') (ch := fp) Ib.os un Ib.hok Ib.bare fun b hb => ⟨(f2 b hb).2.2.2.1, (f2 b hb).2.1, (f2 b hb).2.2.2.2.1, (f2 b hb).2.2.2.2.2⟩
  exact aHl C _ s' H' IX (I3.fpOk (Nat.le_of_eq hC) Ib.free) ⟨m', hn'⟩ q
 have loop : ∀ s₃ : Shared, (∃ tk, s₃ = { s2 with heap := h₁, toks := tk }) ->
   codeAny (model X.prog X.w) X.A (.compLoop (.ListComp elt [⟨tg, iter, ifs, 0⟩] scope pos) 0 (.ref it) (.ref s2.heap.objs.size) (compEnvC scope cl C X.env)) (compPost (model X.prog X.w) X.A X.xe use QQ (.ref s2.heap.objs.size) C) s₃ := by
  rintro s₃ ⟨tk, rfl⟩
  refine tX (fun k s' => ∃ i zs H', k = n + 1 - i /\ i <= n /\ Inv (bK X scope cl C (xs ++ ys) { s2 with heap := g3 } (upd H2 s2.heap.objs.size (.lst [])) fp (X.pn ++ pins)) [] (List.replicate xs.length none ++ qH js σ) H' s' /\ tn i s'.heap /\ (∀ b ∈ fp, H' b = none) /\ W i zs H')
   ?_ (n + 1) ⟨0, [], _, rfl, Nat.zero_le _, tot tk, T.keep _ _ _ st2 fun b hb o q => old3 b o (old2 b o q), fp3, w0⟩
  rintro k s' ⟨i, zs, H', rfl, hin, Ib, st, fr, w⟩
  rcases turn i zs H' w with ⟨stop, qq⟩ | ⟨hlt, go, step⟩
  ·refine wpAny_mono (T.done (bK X scope cl C (xs ++ ys) { s2 with heap := g3 } (upd H2 s2.heap.objs.size (.lst [])) fp (X.pn ++ pins)) rfl rfl rfl hc i [] s' _ H' (fun _ _ => False) Ib (fpB fr) st stop) (fun r s4 ⟨hr, I4⟩ => ?_) fun _ _ z => z.elim
   subst hr
   exact fin s4 ⟨i, zs, _, H', I4, w, stop, qq⟩
  ·refine wpAny_mono (T.item (bK X scope cl C (xs ++ ys) { s2 with heap := g3 } (upd H2 s2.heap.objs.size (.lst [])) fp (X.pn ++ pins)) rfl rfl rfl hc i [] s' _ H' (fun _ _ => False) Ib (fpB fr) st go) (fun r s4 ⟨u, hr, h4⟩ => ?_) fun _ _ z => z.elim
   subst hr
   refine wpAny_mono h4 (fun _ s5 ⟨v5, H5, I5, r5, y5, st5, fr5⟩ => ?_) fun _ _ z => z.elim
   have I5' := I5.pinned (fpB fr5) (T.obj _ _ st5)
   have hw5 := step v5 H5 y5
   refine wpAny_mono (hg C _ _ fp (X.pn ++ pins) _ s5 _ H5 v5 u _ I5' r5 hw5) (fun _ s6 ⟨σ6, H6, I6, ⟨hl6, hd6⟩, e6⟩ => ?_) fun _ _ z => z.elim
   have back : ∀ {H' : Hp} {s' : Shared} {pins' : List (Addr × Obj)}, Inv (bK X scope cl C (xs ++ ys) { s2 with heap := g3 } (upd H2 s2.heap.objs.size (.lst [])) fp (X.pn ++ pins)) pins' σ6 H' s' -> Inv (bK X scope cl C (xs ++ ys) { s2 with heap := g3 } (upd H2 s2.heap.objs.size (.lst [])) fp (X.pn ++ pins)) pins' (List.replicate xs.length none ++ qH js σ) H' s' := fun I' => by
    refine I'.weak ?_ fun j v' e => ?_
    ·rw [hl6]; unfold qH; simp
    ·by_cases hj : j < xs.length
     ·rw [List.getElem?_append_left (by rw [List.length_replicate]; exact hj), List.getElem?_replicate] at e
      split at e <;> cases e
     ·rw [List.getElem?_append_right (by rw [List.length_replicate]; omega), List.length_replicate, <- hd6, List.getElem?_drop] at e
      rw [<- e]
      congr 1
      omega
   refine wpAny_mono (ht C _ _ fp (X.pn ++ pins) _ s6 _ _ _ I6 e6) (fun ok s6b ⟨H6b, I6b, e6b⟩ => ?_) fun _ _ z => z.elim
   cases ok with
   | false =>
    rw [if_neg Bool.false_ne_true]
    have e6c : W (i + 1) zs H6b := by simpa using e6b
    have I8 := back I6b
    refine ⟨n + 1 - (i + 1), by omega, i + 1, zs, _, rfl, hlt, I8.unpinned (pins := []), ?_, fun b hb => ?_, e6c⟩
    ·exact T.keep _ _ _ st5 fun b hb o q => (I8.pin (b, o) (List.mem_append_right _ (List.mem_append_right _ (dB hb q)))).1
    ·obtain ⟨o, q, d⟩ := T.obj _ _ st5 b hb
     exact (I8.pin (b, o) (List.mem_append_right _ (List.mem_append_right _ (dB hb q)))).2.1
   | true =>
    rw [if_pos rfl]
    have e6c := e6b
    rw [if_pos rfl] at e6c
    refine wpAny_mono (hb C _ _ fp (X.pn ++ pins) _ s6b _ _ _ I6b e6c) (fun y s7 ⟨yv, H7, I7, r7, hD, hz, w7⟩ => ?_) fun _ _ z => z.elim
    obtain ⟨z7, its, n7, rv7, hl7, e7⟩ := I7.lstM hD
    refine append_at (n := n7) (its := its.toArray) e7 (fun h₈ sb8 eD8 => ?_) (by rw [List.size_toArray, <- hl7]; exact Nat.le_of_lt hz)
    have I8 : Inv _ _ _ (upd H7 s2.heap.objs.size (.lst (zs ++ [yv]))) { s7 with heap := h₈, toks := s7.toks } := I7.write (x := s2.heap.objs.size) (e := s2.heap.objs.size) (by rw [hD]; exact trivial) (.inl rfl) (fun b u hb q => (sb8.2 b hb).trans q) ⟨_, eD8⟩
     ⟨by rw [List.length_append]; exact hz, its ++ [y], n7 + 1, rv7.append (.cons r7 .nil), by rw [eD8, List.push_toArray]⟩
    have I9 := back I8
    refine ⟨n + 1 - (i + 1), by omega, i + 1, zs ++ [yv], _, rfl, hlt, I9.unpinned (pins := []), ?_, fun b hb => ?_, w7⟩
    ·exact T.keep _ _ _ st5 fun b hb o q => (I8.pin (b, o) (List.mem_append_right _ (List.mem_append_right _ (dB hb q)))).1
    ·obtain ⟨o, q, d⟩ := T.obj _ _ st5 b hb
     exact (I8.pin (b, o) (List.mem_append_right _ (List.mem_append_right _ (dB hb q)))).2.1
 exact codeAny_compStart_list (loop _ ⟨_, rfl⟩) (T.self _ 0 _ _ _ (T.keep _ _ _ st2 fun b hb o q => old3 b o (old2 b o q)) (loop _ ⟨_, rfl⟩))
theorem xO {elt iter tg : Expr} {pos : Pos} {scope : Scope} {ifs : List Expr} {wi : TI} {g : TG} {tt : TT} {te : TE} {xs ys : List Str} {js : List Nat} {cl : List (Str × Addr)} (hc : X.calm = true) (hi : PI X tg iter wi)
  (hcl : aEb X scope cl) (hcap : nQ X scope cl ys js) (hcell : ∀ y ∈ scope.names, y.2 ≠ .cell) (hkind : scope.kind = .function) (hnames : ∀ y ∈ scope.names, y.2 = .local -> scope.names.lookup y.1 = some .local)
  (hg : ∀ C s₀ H₀ ex pn, PG (bK X scope cl C (xs ++ ys) s₀ H₀ ex pn) tg g) (ht : ∀ C s₀ H₀ ex pn, PTs (bK X scope cl C (xs ++ ys) s₀ H₀ ex pn) ifs tt) (hb : ∀ C s₀ H₀ ex pn, PE (bK X scope cl C (xs ++ ys) s₀ H₀ ex pn) elt te)
  (hs : ∀ x, foldedSetIterable iter X.env x = pure x := by intro _; rfl) :
  PE X (.ListComp elt [⟨tg, iter, ifs, 0⟩] scope pos) (tW wi g tt te xs.length js) := by
 intro pins s σ H Q I h
 rw [eval_ListComp]
 exact uH hc hi hcl hcap hcell hkind hnames hg ht hb hs (use := none) (QQ := EP X pins σ Q) (Q := Q) I (fun C D s' H' IX f ⟨m, hn⟩ q => ⟨m, hn, fun h' hs' => ⟨.ref D, H', IX.but f hs', rfl, q⟩⟩) h
end
end L2
namespace M
open PySem PySem.Spec PyProof.Rows L2
abbrev D := PyData
inductive Res (α : Type) where
 | ok (a : α)
 | exc (C : Addr)
 | bad
def Res.bind {α β : Type} (r : Res α) (f : α -> Res β) : Res β := match r with
 | .ok a => f a
 | .exc C => .exc C
 | .bad => .bad
def wpR {α : Type} (r : Res α) (Q : α -> Prop) (E : Addr -> Prop) : Prop := match r with
 | .ok a => Q a
 | .exc C => E C
 | .bad => False
theorem aZ {α β : Type} {r : Res α} {f : α -> Res β} {Q : β -> Prop} {E : Addr -> Prop} : wpR (r.bind f) Q E = wpR r (fun a => wpR (f a) Q E) E := by cases r <;> rfl
theorem aR {α : Type} {r : Res α} {Q Q' : α -> Prop} {E E' : Addr -> Prop} (h : wpR r Q E) (hQ : ∀ a, Q a -> Q' a) (hE : ∀ C, E C -> E' C) : wpR r Q' E' := by
 cases r with
 | ok a => exact hQ a h
 | exc C => exact hE C h
 | bad => exact h
inductive L where
 | p (d : D)
 | o (d : D)
 | x (C : Addr)
 | h (a : Addr)
inductive Ev where
 | p (d : D)
 | f (d : D)
 | b (d : D)
 | x (C : Addr)
def Ev.c : Ev -> Ev
 | .f d => .p d
 | r => r
abbrev En := List (Option L)
def kD : Key -> D
 | .inl i => .int i
 | .inr x => .str x
def tkD (ks : List Key) : D := .tuple (ks.map kD)
mutual
inductive Rep (K : PySem.W.Frag) (G : Hp) : V -> D -> Prop
 | non : Rep K G .non .none
 | bl (b : Bool) : Rep K G (.bl b) (.bool b)
 | int (i : Int) : Rep K G (.int i) (.int i)
 | str (x : Str) : Rep K G (.str x) (.str x)
 | tup {a : Addr} {xs : List V} {ds : List D} : G a = some (.tup xs) -> Reps K G xs ds -> Rep K G (.ref a) (.tuple ds)
 | lst {a : Addr} {xs : List V} {ds : List D} : Rd G a (.lst xs) -> Reps K G xs ds -> Rep K G (.ref a) (.list ds)
 | dT {a : Addr} {kv : List (List Key × V)} {kvs : List (D × D)} : G a = some (.dT kv) -> RepT K G kv kvs -> Rep K G (.ref a) (.dict kvs)
 | dK {a : Addr} {kv : List (Key × V)} {kvs : List (D × D)} : G a = some (.dK kv) -> RepK K G kv kvs -> Rep K G (.ref a) (.dict ((.none, .none) :: kvs))
inductive Reps (K : PySem.W.Frag) (G : Hp) : List V -> List D -> Prop
 | nil : Reps K G [] []
 | cons {x : V} {xs : List V} {d : D} {ds : List D} : Rep K G x d -> Reps K G xs ds -> Reps K G (x :: xs) (d :: ds)
inductive RepT (K : PySem.W.Frag) (G : Hp) : List (List Key × V) -> List (D × D) -> Prop
 | nil : RepT K G [] []
 | cons {k : List Key} {x : V} {d : D} {kv : List (List Key × V)} {kvs : List (D × D)} : Rep K G x d -> RepT K G kv kvs -> RepT K G ((k, x) :: kv) ((tkD k, d) :: kvs)
inductive RepK (K : PySem.W.Frag) (G : Hp) : List (Key × V) -> List (D × D) -> Prop
 | nil : RepK K G [] []
 | cons {k : Key} {x : V} {d : D} {kv : List (Key × V)} {kvs : List (D × D)} : Rep K G x d -> RepK K G kv kvs -> RepK K G ((k, x) :: kv) ((kD k, d) :: kvs)
end
inductive Cont (K : PySem.W.Frag) (G : Hp) : HO -> D -> Prop
 | lst {xs : List V} {ds : List D} : Reps K G xs ds -> Cont K G (.lst xs) (.list ds)
 | dT {kv : List (List Key × V)} {kvs : List (D × D)} : RepT K G kv kvs -> Cont K G (.dT kv) (.dict kvs)
 | dK {kv : List (Key × V)} {kvs : List (D × D)} : RepK K G kv kvs -> Cont K G (.dK kv) (.dict ((.none, .none) :: kvs))
section
variable {K : PySem.W.Frag} {G G' H H' : Hp}
theorem i7 {a : Addr} {u : HO} (s : Same G G') (h : Rd G a u) : Rd G' a u := by
 rcases h with h | ⟨o, h⟩
 ·exact .inl (s _ _ h)
 ·exact .inr ⟨o, s _ _ h⟩
mutual
theorem Rep.mono (s : Same G G') : ∀ {v : V} {d : D}, Rep K G v d -> Rep K G' v d
 | _, _, .non => .non
 | _, _, .bl b => .bl b
 | _, _, .int i => .int i
 | _, _, .str x => .str x
 | _, _, .tup h r => .tup (s _ _ h) (Reps.mono s r)
 | _, _, .lst h r => .lst (i7 s h) (Reps.mono s r)
 | _, _, .dT h r => .dT (s _ _ h) (RepT.mono s r)
 | _, _, .dK h r => .dK (s _ _ h) (RepK.mono s r)
theorem Reps.mono (s : Same G G') : ∀ {v : List V} {d : List D}, Reps K G v d -> Reps K G' v d
 | _, _, .nil => .nil
 | _, _, .cons h r => .cons (Rep.mono s h) (Reps.mono s r)
theorem RepT.mono (s : Same G G') : ∀ {v : List (List Key × V)} {d : List (D × D)}, RepT K G v d -> RepT K G' v d
 | _, _, .nil => .nil
 | _, _, .cons h r => .cons (Rep.mono s h) (RepT.mono s r)
theorem RepK.mono (s : Same G G') : ∀ {v : List (Key × V)} {d : List (D × D)}, RepK K G v d -> RepK K G' v d
 | _, _, .nil => .nil
 | _, _, .cons h r => .cons (Rep.mono s h) (RepK.mono s r)
end
theorem Cont.mono (s : Same G G') {o : HO} {d : D} (h : Cont K G o d) : Cont K G' o d := by
 cases h with
 | lst r => exact .lst (r.mono s)
 | dT r => exact .dT (r.mono s)
 | dK r => exact .dK (r.mono s)
theorem Cont.rep {a : Addr} {o : HO} {d : D} (h : Cont K G o d) (e : G a = some o) : Rep K G (.ref a) d := by
 cases h with
 | lst r => exact .lst (.inl e) r
 | dT r => exact .dT e r
 | dK r => exact .dK e r
theorem Reps.length : ∀ {xs : List V} {ds : List D}, Reps K G xs ds -> xs.length = ds.length
 | _, _, .nil => rfl
 | _, _, .cons _ r => by rw [List.length_cons, List.length_cons, Reps.length r]
theorem Reps.get : ∀ {xs : List V} {ds : List D} {i : Nat} {x : V}, Reps K G xs ds -> xs[i]? = some x -> ∃ d, ds[i]? = some d /\ Rep K G x d
 | _, _, _, _, .nil, e => by simp at e
 | _, _, 0, _, .cons h _, e => by simp at e; subst e; exact ⟨_, rfl, h⟩
 | _, _, i + 1, _, .cons _ r, e => by
  have := Reps.get (i := i) r (by simpa using e)
  simpa using this
theorem Reps.get' : ∀ {xs : List V} {ds : List D} {i : Nat} {d : D}, Reps K G xs ds -> ds[i]? = some d -> ∃ x, xs[i]? = some x /\ Rep K G x d
 | _, _, _, _, .nil, e => by simp at e
 | _, _, 0, _, .cons h _, e => by simp at e; subst e; exact ⟨_, rfl, h⟩
 | _, _, i + 1, _, .cons _ r, e => by
  have := Reps.get' (i := i) r (by simpa using e)
  simpa using this
theorem Reps.append : ∀ {xs ys : List V} {ds es : List D}, Reps K G xs ds -> Reps K G ys es -> Reps K G (xs ++ ys) (ds ++ es)
 | _, _, _, _, .nil, r => r
 | _, _, _, _, .cons h t, r => .cons h (Reps.append t r)
theorem Reps.take : ∀ {xs : List V} {ds : List D} (n : Nat), Reps K G xs ds -> Reps K G (xs.take n) (ds.take n)
 | _, _, 0, _ => .nil
 | _, _, _ + 1, .nil => .nil
 | _, _, n + 1, .cons h t => .cons h (Reps.take n t)
theorem Reps.drop : ∀ {xs : List V} {ds : List D} (n : Nat), Reps K G xs ds -> Reps K G (xs.drop n) (ds.drop n)
 | _, _, 0, r => r
 | _, _, _ + 1, .nil => .nil
 | _, _, n + 1, .cons _ t => Reps.drop n t
end
structure Step (G H G' H' : Hp) : Prop where
 g : Same G G'
 h : Same H H'
 gh : Same G' H'
 new : ∀ b, H b ≠ none -> G b = none -> G' b = none \/ ∃ xs, H b = some (.tup xs)
theorem Step.off {G H G' H' : Hp} (s : Step G H G' H') {b : Addr} {o : HO} (h : H b = some o) (n : ∀ xs, o ≠ .tup xs) (g : G b = none) : G' b = none := by
 rcases s.new b (by rw [h]; exact fun z => nomatch z) g with z | ⟨xs, z⟩
 ·exact z
 ·rw [h] at z; exact absurd (Option.some.inj z) (n xs)
theorem wL {H H' : Hp} (s : Same H H') {b : Addr} (h : H b ≠ none) : H' b ≠ none := by
 cases e : H b with
 | none => exact absurd e h
 | some o => rw [s b o e]; exact fun z => nomatch z
theorem Step.refl {G H : Hp} (s : Same G H) : Step G H G H := ⟨Same.refl _, Same.refl _, s, fun _ _ h => .inl h⟩
theorem Step.trans {G H G1 H1 G2 H2 : Hp} (a : Step G H G1 H1) (b : Step G1 H1 G2 H2) : Step G H G2 H2 :=
 ⟨a.g.trans b.g, a.h.trans b.h, b.gh, fun c hc hg => by
  rcases a.new c hc hg with z | z
  ·rcases b.new c (wL a.h hc) z with y | ⟨xs, y⟩
   ·exact .inl y
   ·cases e : H c with
    | none => exact absurd e hc
    | some o =>
     rw [a.h _ _ e] at y
     exact .inr ⟨xs, y⟩
  ·exact .inr z⟩
theorem Step.put {G H : Hp} {a : Addr} {o : HO} (s : Same G H) (e : H a = none) : Step G H (upd G a o) (upd H a o) :=
 ⟨Same.upd (Same.refl _) (s.free e) o, Same.upd (Same.refl _) e o, fun b u q => by
  by_cases z : b = a
  ·subst z; rw [a9] at q ⊢; exact q
  ·rw [a7 z] at q ⊢; exact s b u q, fun b hb hg => by
  have z : b ≠ a := fun z => hb (z ▸ e)
  rw [a7 z]; exact .inl hg⟩
theorem Step.lay {G H : Hp} {a : Addr} {o : HO} (s : Same G H) (e : H a = none) : Step G H G (upd H a o) :=
 ⟨Same.refl _, Same.upd (Same.refl _) e o, Same.upd s e o, fun _ _ h => .inl h⟩
def EOk (K : PySem.W.Frag) (W : Addr -> Option Nat) (Hs G H : Hp) (v : V) : Ev -> Prop
 | .p d => Rep K G v d
 | .f d => ∃ a o, v = .ref a /\ Hs a = none /\ G a = none /\ H a = some o /\ Cont K G o d
 | .b d => ∃ a i o, v = .ref a /\ W a = some i /\ H a = some o /\ Cont K G o d
 | .x C => ∃ e, v = .ref e /\ G e = some (aDr e (.ref C))
theorem EOk.step {K : PySem.W.Frag} {W : Addr -> Option Nat} {Hs Hs' G H G' H' : Hp} {v : V} {r : Ev} (h : EOk K W Hs G H v r.c) (s : Step G H G' H') : EOk K W Hs' G' H' v r.c := by
 cases r with
 | p d => exact Rep.mono s.g h
 | f d => exact Rep.mono s.g h
 | b d =>
  obtain ⟨a, i, o, h1, h2, h3, h4⟩ := h
  exact ⟨a, i, o, h1, h2, s.h _ _ h3, h4.mono s.g⟩
 | x C =>
  obtain ⟨e, h1, h2⟩ := h
  exact ⟨e, h1, s.g _ _ h2⟩
theorem EOk.c {K : PySem.W.Frag} {W : Addr -> Option Nat} {G H G1 H1 : Hp} {v : V} {r : Ev} (s : Step G H G1 H1) (h : EOk K W H G1 H1 v r) : ∃ G2, Step G H G2 H1 /\ EOk K W H G2 H1 v r.c := by
 cases r with
 | p d => exact ⟨G1, s, h⟩
 | b d => exact ⟨G1, s, h⟩
 | x d => exact ⟨G1, s, h⟩
 | f d =>
  obtain ⟨a, o, rfl, h1, h2, h3, h4⟩ := h
  refine ⟨upd G1 a o, ⟨s.g.trans (Same.upd (Same.refl _) h2 o), s.h, fun b u q => ?_, fun b hb hg => ?_⟩, (h4.mono (Same.upd (Same.refl _) h2 o)).rep a9⟩
  ·by_cases z : b = a
   ·subst z; rw [a9] at q; rw [h3]; exact q
   ·rw [a7 z] at q; exact s.gh b u q
  ·have z : b ≠ a := fun z => hb (z ▸ h1)
   rw [a7 z]; exact s.new b hb hg
structure SimH (B G0 G : Hp) (W : Addr -> Option Nat) (H : Hp) : Prop where
 gh : Same G H
 bh : Same B H
 g0 : Same G0 G
 gb : ∀ b, G b ≠ none -> G0 b ≠ none \/ B b = none \/ ∃ xs, B b = some (.tup xs)
 wf : ∀ a i, W a = some i -> G a = none /\ B a = none /\ ∃ o, H a = some o /\ ∀ xs, o ≠ .tup xs
theorem SimH.step {B G0 G H G' H' : Hp} {W : Addr -> Option Nat} (s : SimH B G0 G W H) (t : Step G H G' H') : SimH B G0 G' W H' := by
 refine ⟨t.gh, s.bh.trans t.h, s.g0.trans t.g, fun b hb => ?_, fun a i e => ?_⟩
 ·by_cases z : G b = none
  ·refine .inr ?_
   by_cases y : H b = none
   ·exact .inl (s.bh.free y)
   ·rcases t.new b y z with q | ⟨xs, q⟩
    ·exact absurd q hb
    ·cases e : B b with
     | none => exact .inl rfl
     | some o => rw [s.bh _ _ e] at q; exact .inr ⟨xs, q⟩
  ·exact s.gb b z
 ·obtain ⟨h1, h2, o, h3, h4⟩ := s.wf a i e
  exact ⟨t.off h3 h4 h1, h2, o, t.h _ _ h3, h4⟩
theorem Cont.mut {K : PySem.W.Frag} {G : Hp} {o : HO} {d : D} (h : Cont K G o d) : ∀ xs, o ≠ .tup xs := by
 intro xs z
 subst z
 cases h
def Slot (K : PySem.W.Frag) (W : Addr -> Option Nat) (G H : Hp) (i : Nat) (v : V) : L -> Prop
 | .p d => Rep K G v d
 | .o d => ∃ a o, v = .ref a /\ W a = some i /\ H a = some o /\ Cont K G o d
 | .x C => ∃ e, v = .ref e /\ G e = some (aDr e (.ref C))
 | .h a => v = .ref a
def SimS (K : PySem.W.Frag) (W : Addr -> Option Nat) (G H : Hp) (σ : L2.St) (en : En) : Prop := σ.length = en.length /\ ∀ i l, en[i]? = some (some l) -> ∃ v, σ[i]? = some (some v) /\ Slot K W G H i v l
theorem Slot.step {K : PySem.W.Frag} {W : Addr -> Option Nat} {G H G' H' : Hp} {i : Nat} {v : V} {l : L} (h : Slot K W G H i v l) (s : Step G H G' H') : Slot K W G' H' i v l := by
 cases l with
 | p d => exact Rep.mono s.g h
 | o d =>
  obtain ⟨a, o, h1, h2, h3, h4⟩ := h
  exact ⟨a, o, h1, h2, s.h _ _ h3, h4.mono s.g⟩
 | x C =>
  obtain ⟨e, h1, h2⟩ := h
  exact ⟨e, h1, s.g _ _ h2⟩
 | h a => exact h
theorem SimS.step {K : PySem.W.Frag} {W : Addr -> Option Nat} {G H G' H' : Hp} {σ : L2.St} {en : En} (h : SimS K W G H σ en) (s : Step G H G' H') : SimS K W G' H' σ en :=
 ⟨h.1, fun i l e => let ⟨v, e1, e2⟩ := h.2 i l e; ⟨v, e1, e2.step s⟩⟩
def PostE (K : PySem.W.Frag) (W : Addr -> Option Nat) (G H : Hp) (Q : VK) (r : Ev) : Prop := ∀ G' H' v, Step G H G' H' -> EOk K W H G' H' v r -> Q v H'
def PostB (G H : Hp) (Q : Bool -> Hp -> Prop) (b : Bool) : Prop := ∀ G' H', Step G H G' H' -> Q b H'
def aCy (K : PySem.W.Frag) (W : Addr -> Option Nat) (Hs G H : Hp) : List V -> List Ev -> Prop
 | [], [] => True
 | v :: vs, r :: rs => EOk K W Hs G H v r /\ aCy K W Hs G H vs rs
 | _, _ => False
def yC (K : PySem.W.Frag) (W : Addr -> Option Nat) (G H : Hp) (Q : List V -> Hp -> Prop) (rs : List Ev) : Prop := ∀ G' H' vs, Step G H G' H' -> aCy K W H G' H' vs rs -> Q vs H'
def PostX (E : XK) (G H : Hp) (C : Addr) : Prop := ∀ G' H', Step G H G' H' -> E (.ref C) none H'
theorem PostE.step {K : PySem.W.Frag} {W : Addr -> Option Nat} {G H G' H' : Hp} {Q : VK} {r : Ev} (h : PostE K W G H Q r) (s : Step G H G' H') : PostE K W G' H' Q r := fun G2 H2 v s2 e => h G2 H2 v (s.trans s2) (by
 cases r with
 | p d => exact e
 | b d => exact e
 | x d => exact e
 | f d =>
  obtain ⟨a, o, h1, h2, h3, h4, h5⟩ := e
  exact ⟨a, o, h1, s.h.free h2, h3, h4, h5⟩)
theorem PostX.step {E : XK} {G H G' H' : Hp} {C : Addr} (h : PostX E G H C) (s : Step G H G' H') : PostX E G' H' C := fun G2 H2 s2 => h G2 H2 (s.trans s2)
theorem PostB.step {G H G' H' : Hp} {Q : Bool -> Hp -> Prop} {b : Bool} (h : PostB G H Q b) (s : Step G H G' H') : PostB G' H' Q b := fun G2 H2 s2 => h G2 H2 (s.trans s2)
def tE (K : PySem.W.Frag) (E : L2.St -> XK) (f : En -> Res Ev) : TE := fun σ H Q => ∃ B G0 G W en, SimH B G0 G W H /\ SimS K W G H σ en /\ wpR (f en) (PostE K W G H Q) (PostX (E σ) G H)
def DE (X : Cx) (E : L2.St -> XK) (e : Expr) (f : En -> Res Ev) : Prop := PE X e (tE X.K E f)
theorem DE.out {X : Cx} {E : L2.St -> XK} {e : Expr} {f : En -> Res Ev} (h : DE X E e f) : ∃ t, PE X e t /\ ∀ B G0 G W H σ en Q, SimH B G0 G W H -> SimS X.K W G H σ en -> wpR (f en) (PostE X.K W G H Q) (PostX (E σ) G H) -> t σ H Q :=
 ⟨_, h, fun B G0 G W H σ en Q h1 h2 h3 => ⟨B, G0, G, W, en, h1, h2, h3⟩⟩
theorem DE.in {X : Cx} {E : L2.St -> XK} {e : Expr} {f : En -> Res Ev} (h : ∃ t, PE X e t /\ ∀ B G0 G W H σ en Q, SimH B G0 G W H -> SimS X.K W G H σ en -> wpR (f en) (PostE X.K W G H Q) (PostX (E σ) G H) -> t σ H Q) : DE X E e f :=
 fun pins s σ H Q I ⟨B, G0, G, W, en, h1, h2, h3⟩ => let ⟨_, p, m⟩ := h; p pins s σ H Q I (m B G0 G W H σ en Q h1 h2 h3)
def tT (K : PySem.W.Frag) (E : L2.St -> XK) (f : En -> Res Bool) : TT := fun σ H Q => ∃ B G0 G W en, SimH B G0 G W H /\ SimS K W G H σ en /\ wpR (f en) (PostB G H Q) (PostX (E σ) G H)
def tA (K : PySem.W.Frag) (E : L2.St -> XK) (f : En -> Res (List Ev)) : TA := fun σ H Q => ∃ B G0 G W en, SimH B G0 G W H /\ SimS K W G H σ en /\ wpR (f en) (yC K W G H Q) (PostX (E σ) G H)
def DT (X : Cx) (E : L2.St -> XK) (e : Expr) (f : En -> Res Bool) : Prop := PT X e (tT X.K E f)
def DW (X : Cx) (E : L2.St -> XK) (e : Expr) (f : En -> Res Bool) : Prop := PW X e (tT X.K E f)
def DA (X : Cx) (E : L2.St -> XK) (es : List Expr) (f : En -> Res (List Ev)) : Prop := PA X es (tA X.K E f)
section
variable {X : Cx} {E : L2.St -> XK} {e : Expr} {es : List Expr} {f : En -> Res Bool} {fr : En -> Res (List Ev)}
theorem DT.out (h : DT X E e f) : ∃ t, PT X e t /\ ∀ B G0 G W H σ en Q, SimH B G0 G W H -> SimS X.K W G H σ en -> wpR (f en) (PostB G H Q) (PostX (E σ) G H) -> t σ H Q :=
 ⟨_, h, fun B G0 G W H σ en Q h1 h2 h3 => ⟨B, G0, G, W, en, h1, h2, h3⟩⟩
theorem DT.in (h : ∃ t, PT X e t /\ ∀ B G0 G W H σ en Q, SimH B G0 G W H -> SimS X.K W G H σ en -> wpR (f en) (PostB G H Q) (PostX (E σ) G H) -> t σ H Q) : DT X E e f :=
 fun pins s σ H Q I ⟨B, G0, G, W, en, h1, h2, h3⟩ => let ⟨_, p, m⟩ := h; p pins s σ H Q I (m B G0 G W H σ en Q h1 h2 h3)
theorem DW.out (h : DW X E e f) : ∃ t, PW X e t /\ ∀ B G0 G W H σ en Q, SimH B G0 G W H -> SimS X.K W G H σ en -> wpR (f en) (PostB G H Q) (PostX (E σ) G H) -> t σ H Q :=
 ⟨_, h, fun B G0 G W H σ en Q h1 h2 h3 => ⟨B, G0, G, W, en, h1, h2, h3⟩⟩
theorem DW.in (h : ∃ t, PW X e t /\ ∀ B G0 G W H σ en Q, SimH B G0 G W H -> SimS X.K W G H σ en -> wpR (f en) (PostB G H Q) (PostX (E σ) G H) -> t σ H Q) : DW X E e f :=
 fun wh pins s σ H Q I ⟨B, G0, G, W, en, h1, h2, h3⟩ => let ⟨_, p, m⟩ := h; p wh pins s σ H Q I (m B G0 G W H σ en Q h1 h2 h3)
theorem DA.out (h : DA X E es fr) : ∃ t, PA X es t /\ ∀ B G0 G W H σ en Q, SimH B G0 G W H -> SimS X.K W G H σ en -> wpR (fr en) (yC X.K W G H Q) (PostX (E σ) G H) -> t σ H Q :=
 ⟨_, h, fun B G0 G W H σ en Q h1 h2 h3 => ⟨B, G0, G, W, en, h1, h2, h3⟩⟩
theorem DA.in (h : ∃ t, PA X es t /\ ∀ B G0 G W H σ en Q, SimH B G0 G W H -> SimS X.K W G H σ en -> wpR (fr en) (yC X.K W G H Q) (PostX (E σ) G H) -> t σ H Q) : DA X E es fr :=
 fun pos pins s σ H Q I ⟨B, G0, G, W, en, h1, h2, h3⟩ => let ⟨_, p, m⟩ := h; p pos pins s σ H Q I (m B G0 G W H σ en Q h1 h2 h3)
end
theorem DW.t {X : Cx} {E : L2.St -> XK} {e : Expr} {f : En -> Res Bool} (h : DW X E e f) : DT X E e f := h _
section
variable {X : Cx} {E : L2.St -> XK} {a b c e : Expr} {es : List Expr} {fa fb : En -> Res Ev} {fr : En -> Res (List Ev)} {pos : Pos}
theorem DE.go {K : PySem.W.Frag} {W : Addr -> Option Nat} {G H : Hp} {EE : XK} {Q : VK} {r : Res Ev} {k : Ev -> Res Ev} {Q' : VK} (hw : wpR (r.bind k) (PostE K W G H Q) (PostX EE G H))
  (h : ∀ (x : Ev) G1 H1 v, Step G H G1 H1 -> EOk K W H G1 H1 v x.c -> wpR (k x) (PostE K W G1 H1 Q) (PostX EE G1 H1) -> Q' v H1) : wpR r (PostE K W G H Q') (PostX EE G H) := by
 rw [aZ] at hw
 refine aR hw (fun x hx G1 H1 v s e => ?_) fun C h => h
 obtain ⟨G2, s2, e2⟩ := e.c s
 exact h x G2 H1 v s2 e2 (aR hx (fun r h => h.step s2) fun C h => h.step s2)
theorem DE.goB {K : PySem.W.Frag} {W : Addr -> Option Nat} {G H : Hp} {EE : XK} {Q : Bool -> Hp -> Prop} {r : Res Ev} {k : Ev -> Res Bool} {Q' : VK} (hw : wpR (r.bind k) (PostB G H Q) (PostX EE G H))
  (h : ∀ (x : Ev) G1 H1 v, Step G H G1 H1 -> EOk K W H G1 H1 v x.c -> wpR (k x) (PostB G1 H1 Q) (PostX EE G1 H1) -> Q' v H1) : wpR r (PostE K W G H Q') (PostX EE G H) := by
 rw [aZ] at hw
 refine aR hw (fun x hx G1 H1 v s e => ?_) fun C h => h
 obtain ⟨G2, s2, e2⟩ := e.c s
 exact h x G2 H1 v s2 e2 (aR hx (fun r h => h.step s2) fun C h => h.step s2)
def OpM (K : PySem.W.Frag) (r : R2) (op : Ev -> Ev -> Res Ev) : Prop := ∀ (W : Addr -> Option Nat) (G H : Hp) (v u : V) (x y : Ev) (Q : VK), Same G H -> EOk K W H G H v x.c -> EOk K W H G H u y.c -> wpR (op x.c y.c) (PostE K W G H Q) (fun _ => False) -> r v u H Q
def aH (op : Ev -> Ev -> Res Ev) (fa fb : En -> Res Ev) : En -> Res Ev := fun en => (fa en).bind fun x => (fb en).bind fun y => op x.c y.c
def NoX (op : Ev -> Ev -> Res Ev) : Prop := ∀ x y C, op x y ≠ .exc C
theorem noX {α : Type} {r : Res α} {Q : α -> Prop} {E E' : Addr -> Prop} (h : wpR r Q E) (n : ∀ C, r ≠ .exc C) : wpR r Q E' := by
 cases r with
 | ok a => exact h
 | exc C => exact absurd rfl (n C)
 | bad => exact h
theorem lM {ta tb : TE} {r : R2} {op : Ev -> Ev -> Res Ev} (ma : ∀ B G0 G W H σ en Q, SimH B G0 G W H -> SimS X.K W G H σ en -> wpR (fa en) (PostE X.K W G H Q) (PostX (E σ) G H) -> ta σ H Q)
  (mb : ∀ B G0 G W H σ en Q, SimH B G0 G W H -> SimS X.K W G H σ en -> wpR (fb en) (PostE X.K W G H Q) (PostX (E σ) G H) -> tb σ H Q) (hm : OpM X.K r op) (hn : NoX op) :
  ∀ B G0 G W H σ en Q, SimH B G0 G W H -> SimS X.K W G H σ en -> wpR (aH op fa fb en) (PostE X.K W G H Q) (PostX (E σ) G H) -> tOp r ta tb σ H Q := by
 intro B G0 G W H σ en Q hh hs hw
 refine ma B G0 G W H σ en _ hh hs (DE.go hw fun x G1 H1 v s1 e1 h1 => ?_)
 refine mb B G0 G1 W H1 σ en _ (hh.step s1) (hs.step s1) (DE.go h1 fun y G2 H2 u s2 e2 h2 => ?_)
 exact hm W G2 H2 v u x y Q s2.gh (e1.step s2) (by cases y <;> exact e2) (noX h2 (hn _ _))
theorem aM {op : Operator} {r : R2} {f : Ev -> Ev -> Res Ev} (ho : OpR X (binaryOp op) r) (hm : OpM X.K r f) (hn : NoX f) (ha : DE X E a fa) (hb : DE X E b fb) : DE X E (.BinOp a op b pos) (aH f fa fb) := by
 obtain ⟨ta, pa, ma⟩ := ha.out
 obtain ⟨tb, pb, mb⟩ := hb.out
 refine DE.in ?_
 exact ⟨_, aHm ho pa pb, lM ma mb hm hn⟩
theorem uO {op : CmpOp} {r : R2} {f : Ev -> Ev -> Res Ev} (ho : OpR X (compareOp op) r) (hm : OpM X.K r f) (hn : NoX f) (ha : DE X E a fa) (hb : DE X E b fb) (hk : behindInMarks op b = false) : DE X E (.Compare a [op] [b] pos) (aH f fa fb) := by
 obtain ⟨ta, pa, ma⟩ := ha.out
 obtain ⟨tb, pb, mb⟩ := hb.out
 refine DE.in ?_
 exact ⟨_, aB1 ho pa pb hk, lM ma mb hm hn⟩
def eY (r : Ev) : Res Bool := match r with
 | .p (.bool b) => .ok b
 | _ => .bad
def cY (f : En -> Res Ev) : En -> Res Bool := fun en => (f en).bind eY
theorem lH {t : TE} (m : ∀ B G0 G W H σ en Q, SimH B G0 G W H -> SimS X.K W G H σ en -> wpR (fa en) (PostE X.K W G H Q) (PostX (E σ) G H) -> t σ H Q) :
  ∀ B G0 G W H σ en Q, SimH B G0 G W H -> SimS X.K W G H σ en -> wpR (cY fa en) (PostB G H Q) (PostX (E σ) G H) -> t σ H fun x H1 => ∃ k, x = .bl k /\ Q k H1 := by
 intro B G0 G W H σ en Q hh hs hw
 refine m B G0 G W H σ en _ hh hs (DE.goB hw fun x G1 H1 v s1 e1 h1 => ?_)
 cases x with
 | p d =>
  cases d with
  | bool k => cases e1; exact ⟨k, rfl, h1 G1 H1 (Step.refl s1.gh)⟩
  | _ => exact False.elim h1
 | _ => exact False.elim h1
theorem eM {op : CmpOp} {r : R2} {f : Ev -> Ev -> Res Ev} (ho : OpR X (compareOp op) r) (hm : OpM X.K r f) (hn : NoX f) (ha : DE X E a fa) (hb : DE X E b fb) (hk : behindInMarks op b = false) : DT X E (.Compare a [op] [b] pos) (cY (aH f fa fb)) := by
 obtain ⟨ta, pa, ma⟩ := ha.out
 obtain ⟨tb, pb, mb⟩ := hb.out
 refine DT.in ?_
 exact ⟨_, aBf ho pa pb hk, lH (lM ma mb hm hn)⟩
theorem zX (h : DE X E e fa) (he : ∀ whole, isTrue e X.env whole = (do let v <- whole; standAt e.pos; holding [v] (truthy v)) := by intro _; rfl) : DT X E e (cY fa) := by
 obtain ⟨t, p, m⟩ := h.out
 refine DT.in ?_
 exact ⟨_, aGr p he, lH m⟩
def aE (i : Nat) : En -> Res Ev := fun en => match en[i]? with
 | some (some (.p d)) => .ok (.p d)
 | some (some (.o d)) => .ok (.b d)
 | some (some (.x C)) => .ok (.x C)
 | _ => .bad
theorem aF1 {i : Nat} {x : Str} (hN : X.N[i]? = some x) (hv : Vis X.env.scope x) (hd : (x == ("__debug__" : Str)) = false := by decide) (hcd : (x == ("__classdict__" : Str)) = false := by decide) : DE X E (.Name x pos) (aE i) := by
 refine DE.in ?_
 refine ⟨_, aA5 hN hv hd hcd, fun B G0 G W H σ en Q hh hs hw => ?_⟩
 unfold aE at hw
 split at hw
 ·rename_i d e
  obtain ⟨v, e1, e2⟩ := hs.2 i _ e
  exact ⟨v, e1, hw G H v (Step.refl hh.gh) e2⟩
 ·rename_i d e
  obtain ⟨v, e1, a, o, e2, e3, e4, e5⟩ := hs.2 i _ e
  exact ⟨v, e1, hw G H v (Step.refl hh.gh) ⟨a, i, o, e2, e3, e4, e5⟩⟩
 ·rename_i C e
  obtain ⟨v, e1, e2⟩ := hs.2 i _ e
  exact ⟨v, e1, hw G H v (Step.refl hh.gh) e2⟩
 ·exact hw.elim
def mC (d : D) : En -> Res Ev := fun _ => .ok (.p d)
theorem gX {v : V} {d : D} (h : ∀ G, Rep X.K G v d) : ∀ B G0 G W H σ en Q, SimH B G0 G W H -> SimS X.K W G H σ en -> wpR (mC d en) (PostE X.K W G H Q) (PostX (E σ) G H) -> tC v σ H Q :=
 fun B G0 G W H σ en Q hh hs hw => hw G H v (Step.refl hh.gh) (h G)
theorem aC {i j} : DE X E (.Constant (.int i) j pos) (mC (.int i)) := DE.in ⟨_, aD6, gX fun _ => .int i⟩
theorem aBe {b j} : DE X E (.Constant (.bool b) j pos) (mC (.bool b)) := DE.in ⟨_, aHs, gX fun _ => .bl b⟩
theorem aF2 {j} : DE X E (.Constant .none j pos) (mC .none) := DE.in ⟨_, aEe, gX fun _ => .non⟩
variable {ga gb : En -> Res Bool} {rest : List Expr}
def sF (f g : En -> Res Bool) : En -> Res Bool := fun en => (f en).bind fun c => if c = true then g en else .ok false
def mOr (f g : En -> Res Bool) : En -> Res Bool := fun en => (f en).bind fun c => if c = true then .ok true else g en
def aA4 (f : En -> Res Bool) : En -> Res Bool := fun en => (f en).bind fun c => .ok (!c)
theorem tL (ha : DT X E a ga) : DW X E (.BoolOp .And [a] pos) ga := let ⟨t, p, m⟩ := ha.out; DW.in ⟨t, aBy p, m⟩
theorem vV (ha : DT X E a ga) : DW X E (.BoolOp .Or [a] pos) ga := let ⟨t, p, m⟩ := ha.out; DW.in ⟨t, aE7 p, m⟩
theorem zZ (ha : DT X E a ga) (hb : DW X E (.BoolOp .And (b :: rest) pos) gb) : DW X E (.BoolOp .And (a :: b :: rest) pos) (sF ga gb) := by
 obtain ⟨ta, pa, ma⟩ := ha.out
 obtain ⟨tb, pb, mb⟩ := hb.out
 refine DW.in ?_
 refine ⟨_, aD2 pa pb, fun B G0 G W H σ en Q hh hs hw => ma B G0 G W H σ en _ hh hs ?_⟩
 have hw : wpR ((ga en).bind _) _ _ := hw
 rw [aZ] at hw
 refine aR hw (fun c hc G1 H1 s => ?_) fun C h => h
 cases c with
 | true => exact mb B G0 G1 W H1 σ en Q (hh.step s) (hs.step s) (aR hc (fun _ h => h.step s) fun _ h => h.step s)
 | false => exact hc G1 H1 s
theorem aCc (ha : DT X E a ga) (hb : DW X E (.BoolOp .Or (b :: rest) pos) gb) : DW X E (.BoolOp .Or (a :: b :: rest) pos) (mOr ga gb) := by
 obtain ⟨ta, pa, ma⟩ := ha.out
 obtain ⟨tb, pb, mb⟩ := hb.out
 refine DW.in ?_
 refine ⟨_, aH0 pa pb, fun B G0 G W H σ en Q hh hs hw => ma B G0 G W H σ en _ hh hs ?_⟩
 have hw : wpR ((ga en).bind _) _ _ := hw
 rw [aZ] at hw
 refine aR hw (fun c hc G1 H1 s => ?_) fun C h => h
 cases c with
 | false => exact mb B G0 G1 W H1 σ en Q (hh.step s) (hs.step s) (aR hc (fun _ h => h.step s) fun _ h => h.step s)
 | true => exact hc G1 H1 s
theorem aGj (ha : DT X E a ga) : DT X E (.UnaryOp .Not a pos) (aA4 ga) := by
 obtain ⟨ta, pa, ma⟩ := ha.out
 refine DT.in ?_
 refine ⟨_, aFi pa, fun B G0 G W H σ en Q hh hs hw => ma B G0 G W H σ en _ hh hs ?_⟩
 have hw : wpR ((ga en).bind _) _ _ := hw
 rw [aZ] at hw
 exact aR hw (fun c hc => hc) fun C h => h
def rM (f g : En -> Res Ev) : En -> Res Ev := fun en => (f en).bind fun c => match c with
 | .p (.bool true) => g en
 | .p (.bool false) => .ok (.p (.bool false))
 | _ => .bad
def aG0 (f g : En -> Res Ev) : En -> Res Ev := fun en => (f en).bind fun c => match c with
 | .p (.bool false) => g en
 | .p (.bool true) => .ok (.p (.bool true))
 | _ => .bad
def rR (f : En -> Res Ev) : En -> Res Ev := fun en => (f en).bind fun c => match c with
 | .p (.bool k) => .ok (.p (.bool (!k)))
 | _ => .bad
theorem aF7 {op} (h : DE X E a fa) : DE X E (.BoolOp op [a] pos) fa := let ⟨t, p, m⟩ := h.out; DE.in ⟨t, aGq p, m⟩
theorem aF4 (ha : DE X E a fa) (hb : DE X E (.BoolOp .And (b :: rest) pos) fb) : DE X E (.BoolOp .And (a :: b :: rest) pos) (rM fa fb) := by
 obtain ⟨ta, pa, ma⟩ := ha.out
 obtain ⟨tb, pb, mb⟩ := hb.out
 refine DE.in ?_
 refine ⟨_, aEz pa pb, fun B G0 G W H σ en Q hh hs hw => ma B G0 G W H σ en _ hh hs (DE.go hw fun x G1 H1 v s1 e1 h1 => ?_)⟩
 cases x with
 | p d =>
  cases d with
  | bool k =>
   cases e1
   cases k with
   | true => exact ⟨true, rfl, mb B G0 G1 W H1 σ en Q (hh.step s1) (hs.step s1) h1⟩
   | false => exact ⟨false, rfl, h1 G1 H1 _ (Step.refl s1.gh) (.bl false)⟩
  | _ => exact False.elim h1
 | _ => exact False.elim h1
theorem aGe (ha : DE X E a fa) : DE X E (.UnaryOp .Not a pos) (rR fa) := by
 obtain ⟨ta, pa, ma⟩ := ha.out
 refine DE.in ?_
 refine ⟨_, aEv pa, fun B G0 G W H σ en Q hh hs hw => ma B G0 G W H σ en _ hh hs (DE.go hw fun x G1 H1 v s1 e1 h1 => ?_)⟩
 cases x with
 | p d =>
  cases d with
  | bool k =>
   cases e1
   exact ⟨k, rfl, h1 G1 H1 _ (Step.refl s1.gh) (.bl _)⟩
  | _ => exact False.elim h1
 | _ => exact False.elim h1
def aY : En -> Res (List Ev) := fun _ => .ok []
def aD (f : En -> Res Ev) (g : En -> Res (List Ev)) : En -> Res (List Ev) := fun en => (f en).bind fun x => (g en).bind fun xs => .ok (x.c :: xs)
theorem aI : DA X E [] aY := DA.in ⟨_, gI, fun B G0 G W H σ en Q hh hs hw => hw G H [] (Step.refl hh.gh) trivial⟩
theorem EOk.cc {K : PySem.W.Frag} {W : Addr -> Option Nat} {Hs Hs' G H : Hp} {v : V} {r : Ev} (h : EOk K W Hs G H v r.c) : EOk K W Hs' G H v r.c := by
 cases r <;> exact h
theorem aB (ha : DE X E e fa) (hr : DA X E es fr) (hst : starEach (e :: es) X.env = (false, eval e X.env) :: starEach es X.env := by rfl) : DA X E (e :: es) (aD fa fr) := by
 obtain ⟨ta, pa, ma⟩ := ha.out
 obtain ⟨tr, pr, mr⟩ := hr.out
 refine DA.in ?_
 refine ⟨_, dR pa pr hst, fun B G0 G W H σ en Q hh hs hw => ma B G0 G W H σ en _ hh hs ?_⟩
 have hw : wpR ((fa en).bind _) _ _ := hw
 rw [aZ] at hw
 refine aR hw (fun x hx G1 H1 v s e1 => ?_) fun C h => h
 obtain ⟨G2, s2, e2⟩ := e1.c s
 refine mr B G0 G2 W H1 σ en _ (hh.step s2) (hs.step s2) ?_
 rw [aZ] at hx
 refine aR hx (fun xs hxs G3 H3 vs s3 e3 => ?_) fun C h => h.step s2
 refine hxs G3 H3 (v :: vs) (s2.trans s3) ⟨e2.step s3, ?_⟩
 clear hxs hx hw
 induction xs generalizing vs with
 | nil => cases vs <;> exact e3
 | cons y ys ih =>
  cases vs with
  | nil => exact e3
  | cons u us =>
   refine ⟨?_, ih us e3.2⟩
   have z := e3.1
   cases y with
   | p d => exact z
   | b d => exact z
   | x d => exact z
   | f d =>
    obtain ⟨a, o, h1, h2, h3⟩ := z
    exact ⟨a, o, h1, s2.h.free h2, h3⟩
end
inductive Out where
 | nx (en : En)
 | rt (l : L)
 | bk (en : En)
 | ct (en : En)
 | ex (C : Addr) (en : En)
abbrev MS := En -> Option Out
def aCb (K : PySem.W.Frag) (B G H : Hp) (v : V) : L -> Prop
 | .p d => Rep K G v d
 | .o d => ∃ a o, v = .ref a /\ G a = none /\ B a = none /\ H a = some o /\ Cont K G o d
 | .x C => ∃ e, v = .ref e /\ G e = some (aDr e (.ref C))
 | .h _ => False
def PostS (K : PySem.W.Frag) (B G0 : Hp) (E : L2.St -> XK) (Dn : Ends) : Out -> Prop
 | .nx en => ∀ G W H σ, SimH B G0 G W H -> SimS K W G H σ en -> Dn.nx σ H
 | .bk en => ∀ G W H σ, SimH B G0 G W H -> SimS K W G H σ en -> Dn.bk σ H
 | .ct en => ∀ G W H σ, SimH B G0 G W H -> SimS K W G H σ en -> Dn.ct σ H
 | .rt l => ∀ G W H v, SimH B G0 G W H -> aCb K B G H v l -> Dn.rt v H
 | .ex C en => ∀ G W H σ, SimH B G0 G W H -> SimS K W G H σ en -> E σ (.ref C) none H
def wpO (o : Option Out) (P : Out -> Prop) : Prop := match o with
 | some r => P r
 | none => False
def tS (K : PySem.W.Frag) (E : L2.St -> XK) (f : MS) : TS := fun Dn σ H => ∃ B G0 G W en, SimH B G0 G W H /\ SimS K W G H σ en /\ wpO (f en) (PostS K B G0 E Dn)
def DS (X : Cx) (E : L2.St -> XK) (st : Stmt) (f : MS) : Prop := PS X st (tS X.K E f)
def DSs (X : Cx) (E : L2.St -> XK) (st : List Stmt) (f : MS) : Prop := PSs X st (tS X.K E f)
section
variable {X : Cx} {E : L2.St -> XK} {st : Stmt} {sts : List Stmt} {f g : MS} {fe : En -> Res Ev} {fc : En -> Res Bool} {e c : Expr} {pos : Pos}
theorem DS.in (h : ∃ t, PS X st t /\ ∀ B G0 G W H σ en Dn, SimH B G0 G W H -> SimS X.K W G H σ en -> wpO (f en) (PostS X.K B G0 E Dn) -> t Dn σ H) : DS X E st f :=
 fun pins s σ H Dn I ⟨B, G0, G, W, en, h1, h2, h3⟩ => let ⟨_, p, m⟩ := h; p pins s σ H Dn I (m B G0 G W H σ en Dn h1 h2 h3)
theorem DSs.in (h : ∃ t, PSs X sts t /\ ∀ B G0 G W H σ en Dn, SimH B G0 G W H -> SimS X.K W G H σ en -> wpO (f en) (PostS X.K B G0 E Dn) -> t Dn σ H) : DSs X E sts f :=
 fun pins s σ H Dn I ⟨B, G0, G, W, en, h1, h2, h3⟩ => let ⟨_, p, m⟩ := h; p pins s σ H Dn I (m B G0 G W H σ en Dn h1 h2 h3)
theorem DS.out (h : DS X E st f) : ∃ t, PS X st t /\ ∀ B G0 G W H σ en Dn, SimH B G0 G W H -> SimS X.K W G H σ en -> wpO (f en) (PostS X.K B G0 E Dn) -> t Dn σ H :=
 ⟨_, h, fun B G0 G W H σ en Dn h1 h2 h3 => ⟨B, G0, G, W, en, h1, h2, h3⟩⟩
theorem DSs.out (h : DSs X E sts f) : ∃ t, PSs X sts t /\ ∀ B G0 G W H σ en Dn, SimH B G0 G W H -> SimS X.K W G H σ en -> wpO (f en) (PostS X.K B G0 E Dn) -> t Dn σ H :=
 ⟨_, h, fun B G0 G W H σ en Dn h1 h2 h3 => ⟨B, G0, G, W, en, h1, h2, h3⟩⟩
def gW : MS := fun en => some (.nx en)
def cG (f g : MS) : MS := fun en => match f en with
 | some (.nx e) => g e
 | r => r
theorem fG : DSs X E [] gW := DSs.in ⟨_, aCv, fun B G0 G W H σ en Dn hh hs hw => hw G W H σ hh hs⟩
theorem aP (h : DS X E st f) : DSs X E [st] f := let ⟨t, p, m⟩ := h.out; DSs.in ⟨t, aCn p, m⟩
theorem aG (h1 : DS X E st f) (h2 : DSs X E sts g) : DSs X E (st :: sts) (cG f g) := by
 obtain ⟨t, p, m⟩ := h1.out
 obtain ⟨u, q, n⟩ := h2.out
 refine DSs.in ⟨_, xV p q, fun B G0 G W H σ en Dn hh hs hw => m B G0 G W H σ en _ hh hs ?_⟩
 unfold cG at hw
 cases ef : f en with
 | none => rw [ef] at hw; exact hw
 | some r =>
  rw [ef] at hw
  cases r with
  | nx e => exact fun G1 W1 H1 σ1 hh1 hs1 => n B G0 G1 W1 H1 σ1 e Dn hh1 hs1 hw
  | rt l => exact hw
  | bk e => exact hw
  | ct e => exact hw
  | ex C e => exact hw
def aAj : MS := fun en => some (.bk en)
theorem x8 : DS X E (.Break pos) aAj := DS.in ⟨_, y0, fun B G0 G W H σ en Dn hh hs hw => hw G W H σ hh hs⟩
theorem SimS.set {K : PySem.W.Frag} {W : Addr -> Option Nat} {G H : Hp} {σ : L2.St} {en : En} {i : Nat} {v : V} {l : L} (h : SimS K W G H σ en) (hl : Slot K W G H i v l) : SimS K W G H (σ.set i (some v)) (en.set i (some l)) := by
 refine ⟨by rw [List.length_set, List.length_set]; exact h.1, fun j m e => ?_⟩
 rw [List.getElem?_set] at e
 rw [List.getElem?_set]
 by_cases hj : i = j
 ·subst hj
  rw [if_pos rfl] at e
  split at e
  ·rename_i hlt
   cases e
   rw [if_pos rfl, if_pos (by rw [h.1]; exact hlt)]
   exact ⟨v, rfl, hl⟩
  ·cases e
 ·rw [if_neg hj] at e ⊢
  exact h.2 j m e
def owner (W : Addr -> Option Nat) (a : Addr) (i : Nat) : Addr -> Option Nat := fun b => if b = a then some i else W b
theorem yG {K : PySem.W.Frag} {B G0 G H : Hp} {W : Addr -> Option Nat} {σ : L2.St} {en : En} {i : Nat} {a : Addr} {o : HO} {d : D} (hh : SimH B G0 G W H) (hs : SimS K W G H σ en) (hW : W a = none) (hG : G a = none) (hB : B a = none) (hH : H a = some o) (hc : Cont K G o d) :
  SimH B G0 G (owner W a i) H /\ SimS K (owner W a i) G H (σ.set i (some (.ref a))) (en.set i (some (.o d))) := by
 refine ⟨⟨hh.gh, hh.bh, hh.g0, hh.gb, fun b j e => ?_⟩, SimS.set ⟨hs.1, fun j l e => ?_⟩ ⟨a, o, rfl, if_pos rfl, hH, hc⟩⟩
 ·unfold owner at e
  split at e
  ·rename_i z
   subst z
   exact ⟨hG, hB, o, hH, hc.mut⟩
  ·exact hh.wf b j e
 ·obtain ⟨v, e1, e2⟩ := hs.2 j l e
  refine ⟨v, e1, ?_⟩
  cases l with
  | p d => exact e2
  | x C => exact e2
  | h a => exact e2
  | o d =>
   obtain ⟨b, ob, h1, h2, h3, h4⟩ := e2
   refine ⟨b, ob, h1, ?_, h3, h4⟩
   unfold owner
   rw [if_neg (fun z => by rw [z, hW] at h2; cases h2)]
   exact h2
def dX (i : Nat) (fe : En -> Res Ev) : MS := fun en => match fe en with
 | .ok (.p d) => some (.nx (en.set i (some (.p d))))
 | .ok (.f d) => some (.nx (en.set i (some (.o d))))
 | .ok (.x C) => some (.nx (en.set i (some (.x C))))
 | .ok (.b _) => none
 | .exc C => some (.ex C en)
 | .bad => none
theorem SimH.lone {B G0 G H : Hp} {W : Addr -> Option Nat} (hh : SimH B G0 G W H) {a : Addr} (h : H a = none) : W a = none := by
 cases e : W a with
 | none => rfl
 | some i =>
  obtain ⟨_, _, o, q, _⟩ := hh.wf a i e
  rw [h] at q; cases q
theorem zE {te : TE} {i : Nat} (m : ∀ B G0 G W H σ en Q, SimH B G0 G W H -> SimS X.K W G H σ en -> wpR (fe en) (PostE X.K W G H Q) (PostX (E σ) G H) -> te σ H Q) :
  ∀ B G0 G W H σ en Dn, SimH B G0 G W H -> SimS X.K W G H σ en -> wpO (dX i fe en) (PostS X.K B G0 E Dn) -> te σ H fun x H1 => Dn.nx (σ.set i (some x)) H1 := by
 intro B G0 G W H σ en Dn hh hs hw
 refine m B G0 G W H σ en _ hh hs ?_
 unfold dX at hw
 cases ef : fe en with
 | bad => rw [ef] at hw; exact hw
 | exc C => rw [ef] at hw; exact fun G1 H1 s => hw G1 W H1 σ (hh.step s) (hs.step s)
 | ok r =>
  rw [ef] at hw
  cases r with
  | b d => exact hw.elim
  | p d => exact fun G1 H1 v s e => hw G1 W H1 _ (hh.step s) ((hs.step s).set e)
  | x C => exact fun G1 H1 v s e => hw G1 W H1 _ (hh.step s) ((hs.step s).set e)
  | f d =>
   rintro G1 H1 v s ⟨a, o, rfl, h1, h2, h3, h4⟩
   obtain ⟨q1, q2⟩ := yG (i := i) (hh.step s) (hs.step s) (hh.lone h1) h2 (hh.bh.free h1) h3 h4
   exact hw G1 _ H1 _ q1 q2
theorem bC {i : Nat} {x : Str} {pos' : Pos} (hN : X.N.Nodup) (hi : X.N[i]? = some x) (hx : Loc X.env.scope x) (he : DE X E e fe) (hs : swapsWith e (some (.Name x pos')) pos.line X.env = pure false := by rfl) (hf : X.fn x = true \/ X.env.scope.names.lookup x = some .local := by first | exact .inl rfl | exact .inr rfl | assumption) :
  DS X E (.Assign [.Name x pos'] e pos) (dX i fe) := by
 obtain ⟨t, p, m⟩ := he.out
 exact DS.in ⟨_, aGf hN hi hx p hs hf, zE m⟩
def aDt : Ev -> L
 | .p d => .p d
 | .f d => .o d
 | .b d => .o d
 | .x C => .x C
def fP (fe : En -> Res Ev) : MS := fun en => match fe en with
 | .ok r => some (.rt (aDt r))
 | .exc C => some (.ex C en)
 | .bad => none
theorem bY (he : DE X E e fe) : DS X E (.Return (some e) pos) (fP fe) := by
 obtain ⟨t, p, m⟩ := he.out
 refine DS.in ⟨_, aGt p, fun B G0 G W H σ en Dn hh hs hw => m B G0 G W H σ en _ hh hs ?_⟩
 unfold fP at hw
 cases ef : fe en with
 | bad => rw [ef] at hw; exact hw
 | exc C => rw [ef] at hw; exact fun G1 H1 s => hw G1 W H1 σ (hh.step s) (hs.step s)
 | ok r =>
  rw [ef] at hw
  intro G1 H1 v s e
  refine hw G1 W H1 v (hh.step s) ?_
  cases r with
  | p d => exact e
  | x C => exact e
  | f d =>
   obtain ⟨a, o, h0, h1, h2, h3, h4⟩ := e
   exact ⟨a, o, h0, h2, hh.bh.free h1, h3, h4⟩
  | b d =>
   obtain ⟨a, i, o, h0, h1, h3, h4⟩ := e
   have z := (hh.step s).wf a i h1
   exact ⟨a, o, h0, z.1, z.2.1, h3, h4⟩
def k7 (c : En -> Res Bool) (f g : MS) : MS := fun en => match c en with
 | .ok k => if k = true then f en else g en
 | .exc C => some (.ex C en)
 | .bad => none
theorem kE {A B : List Stmt} (hc : DT X E c fc) (ha : DSs X E A f) (hb : DSs X E B g) : DS X E (.If c A B pos) (k7 fc f g) := by
 obtain ⟨tc, pc, mc⟩ := hc.out
 obtain ⟨t, p, m⟩ := ha.out
 obtain ⟨u, q, n⟩ := hb.out
 refine DS.in ⟨_, aH9 pc p q, fun B G0 G W H σ en Dn hh hs hw => mc B G0 G W H σ en _ hh hs ?_⟩
 unfold k7 at hw
 cases ef : fc en with
 | bad => rw [ef] at hw; exact hw
 | exc C => rw [ef] at hw; exact fun G1 H1 s => hw G1 W H1 σ (hh.step s) (hs.step s)
 | ok k =>
  rw [ef] at hw
  intro G1 H1 s
  cases k with
  | true => exact m B G0 G1 W H1 σ en Dn (hh.step s) (hs.step s) hw
  | false => exact n B G0 G1 W H1 σ en Dn (hh.step s) (hs.step s) hw
def frz (i : Nat) (en : En) : En := match en[i]? with
 | some (some (.o d)) => en.set i (some (.p d))
 | _ => en
theorem aFl {K : PySem.W.Frag} {B G0 G H : Hp} {W : Addr -> Option Nat} {σ : L2.St} {en : En} (i : Nat) (hh : SimH B G0 G W H) (hs : SimS K W G H σ en) : ∃ G' W', SimH B G0 G' W' H /\ SimS K W' G' H σ (frz i en) := by
 unfold frz
 split
 ·rename_i d e
  obtain ⟨v, e1, a, o, rfl, e2, e3, e4⟩ := hs.2 i _ e
  obtain ⟨w1, w2, w3⟩ := hh.wf a i e2
  have sg : Same G (upd G a o) := Same.upd (Same.refl _) w1 o
  refine ⟨upd G a o, fun b => if b = a then none else W b, ⟨fun b u q => ?_, hh.bh, hh.g0.trans sg, fun b hb => ?_, fun b j e => ?_⟩, by rw [List.length_set]; exact hs.1, fun j l e5 => ?_⟩
  ·by_cases z : b = a
   ·subst z; rw [a9] at q; rw [e3]; exact q
   ·rw [a7 z] at q; exact hh.gh b u q
  ·by_cases z : b = a
   ·subst z; exact .inr (.inl w2)
   ·rw [a7 z] at hb; exact hh.gb b hb
  ·split at e
   ·cases e
   ·rename_i z
    rw [a7 z]; exact hh.wf b j e
  ·rw [List.getElem?_set] at e5
   by_cases hj : i = j
   ·subst hj
    rw [if_pos rfl] at e5
    split at e5
    ·cases e5
     exact ⟨_, e1, (e4.mono sg).rep a9⟩
    ·cases e5
   ·rw [if_neg hj] at e5
    obtain ⟨v, f1, f2⟩ := hs.2 j l e5
    refine ⟨v, f1, ?_⟩
    cases l with
    | p d => exact f2.mono sg
    | x C => obtain ⟨ea, g1, g2⟩ := f2; exact ⟨ea, g1, sg _ _ g2⟩
    | h a => exact f2
    | o d =>
     obtain ⟨b, ob, g1, g2, g3, g4⟩ := f2
     refine ⟨b, ob, g1, ?_, g3, g4.mono sg⟩
     show (if b = a then none else W b) = some j
     rw [if_neg (fun z => by rw [z, e2] at g2; exact hj (Option.some.inj g2))]
     exact g2
 ·exact ⟨G, W, hh, hs⟩
theorem eK (i : Nat) (h : DSs X E sts f) : DSs X E sts (fun en => f (frz i en)) := by
 obtain ⟨t, p, m⟩ := h.out
 refine DSs.in ⟨t, p, fun B G0 G W H σ en Dn hh hs hw => ?_⟩
 obtain ⟨G', W', h1, h2⟩ := aFl i hh hs
 exact m B G0 G' W' H σ _ Dn h1 h2 hw
end
def mWh (c : En -> Res Bool) (f : MS) : Nat -> MS
 | 0, _ => none
 | n + 1, en => match c en with
  | .bad => none
  | .exc C => some (.ex C en)
  | .ok false => some (.nx en)
  | .ok true => match f en with
   | some (.nx e) => mWh c f n e
   | some (.ct e) => mWh c f n e
   | some (.bk e) => some (.nx e)
   | r => r
theorem l6 {c : En -> Res Bool} {f : MS} : ∀ {n : Nat} {en : En} {r : Out}, mWh c f n en = some r -> mWh c f (n + 1) en = some r
 | 0, _, _, h => by cases h
 | n + 1, en, r, h => by
  unfold mWh at h ⊢
  cases ec : c en with
  | bad => rw [ec] at h; exact h
  | exc C => rw [ec] at h; exact h
  | ok k =>
   rw [ec] at h
   cases k with
   | false => exact h
   | true =>
    dsimp only at h ⊢
    cases ef : f en with
    | none => rw [ef] at h; exact h
    | some o =>
     rw [ef] at h
     cases o with
     | nx e => exact l6 (n := n) h
     | ct e => exact l6 (n := n) h
     | bk e => exact h
     | rt l => exact h
     | ex C e => exact h
theorem aAe {c : En -> Res Bool} {f : MS} {n m : Nat} {en : En} {r : Out} (h : mWh c f n en = some r) (l : n <= m) : mWh c f m en = some r := by
 induction l with
 | refl => exact h
 | step _ ih => exact l6 ih
open Classical in
noncomputable def kK (c : En -> Res Bool) (f : MS) : MS := fun en => if h : ∃ n r, mWh c f n en = some r then mWh c f h.choose en else none
theorem t6 {c : En -> Res Bool} {f : MS} {n : Nat} {en : En} {r : Out} (h : mWh c f n en = some r) : kK c f en = some r := by
 unfold kK
 have hx : ∃ n r, mWh c f n en = some r := ⟨n, r, h⟩
 rw [dif_pos hx]
 obtain ⟨r', h'⟩ := hx.choose_spec
 rcases Nat.le_total n hx.choose with l | l
 ·exact aAe h l
 ·have := aAe h' l
  rw [h] at this
  rw [h']; exact this.symm
theorem oW {c : En -> Res Bool} {f : MS} {en : En} {P : Out -> Prop} (h : wpO (kK c f en) P) : ∃ n, wpO (mWh c f n en) P := by
 unfold kK at h
 split at h
 ·exact ⟨_, h⟩
 ·exact h.elim
section
variable {X : Cx} {E : L2.St -> XK} {st : Stmt} {sts : List Stmt} {f g : MS} {fe : En -> Res Ev} {fc : En -> Res Bool} {e c : Expr} {pos : Pos}
theorem y4 (hp : PassesOwn (model X.prog X.w) X.A X.env X.xe) (hc : DT X E c fc) (hb : DSs X E sts f) : DS X E (.While c sts [] pos) (kK fc f) := by
 obtain ⟨tc, pc, mc⟩ := hc.out
 obtain ⟨t, p, m⟩ := hb.out
 refine DS.in ⟨_, x3 hp pc p, fun B G0 G W H σ en Dn hh hs hw => ?_⟩
 obtain ⟨n0, hw⟩ := oW hw
 refine ⟨fun n σ H => ∃ G W en, SimH B G0 G W H /\ SimS X.K W G H σ en /\ wpO (mWh fc f n en) (PostS X.K B G0 E Dn), ⟨n0, G, W, en, hh, hs, hw⟩, ?_⟩
 rintro n σ H ⟨G, W, en, hh, hs, hw⟩
 cases n with
 | zero => exact hw.elim
 | succ n =>
  refine mc B G0 G W H σ en _ hh hs ?_
  unfold mWh at hw
  cases ec : fc en with
  | bad => rw [ec] at hw; exact hw
  | exc C => rw [ec] at hw; exact fun G1 H1 s => hw G1 W H1 σ (hh.step s) (hs.step s)
  | ok k =>
   rw [ec] at hw
   intro G1 H1 s
   cases k with
   | false => exact hw G1 W H1 σ (hh.step s) (hs.step s)
   | true =>
    refine ⟨fun σ' H' => ∃ G W en, SimH B G0 G W H' /\ SimS X.K W G H' σ' en /\ wpO (mWh fc f n en) (PostS X.K B G0 E Dn), fun σ' H' q => ⟨n, Nat.lt_succ_self n, q⟩, ?_⟩
    refine m B G0 G1 W H1 σ en _ (hh.step s) (hs.step s) ?_
    dsimp only at hw
    cases ef : f en with
    | none => rw [ef] at hw; exact hw
    | some o =>
     rw [ef] at hw
     cases o with
     | nx e => exact fun G2 W2 H2 σ2 h2 s2 => ⟨G2, W2, e, h2, s2, hw⟩
     | ct e => exact fun G2 W2 H2 σ2 h2 s2 => ⟨G2, W2, e, h2, s2, hw⟩
     | bk e => exact hw
     | rt l => exact hw
     | ex C e => exact hw
end
def s9 (K : PySem.W.Frag) (ds : List D) (G1 : Hp) (J : It) : Prop := ∀ G H, Same G1 G -> Same G H ->
 (∀ i d, ds[i]? = some d -> J.go i H /\ ∀ v H', J.yld i H v H' -> ∃ G', Step G H G' H' /\ Rep K G' v d) /\ J.stop ds.length H
def tI (K : PySem.W.Frag) (E : L2.St -> XK) (f : En -> Res (List D)) : TI := fun σ H R => ∃ B G0 G W en, SimH B G0 G W H /\ SimS K W G H σ en /\ wpR (f en) (fun ds => ∀ G' H' J, Step G H G' H' -> s9 K ds G' J -> R J H') (PostX (E σ) G H)
def DI (X : Cx) (E : L2.St -> XK) (tg e : Expr) (f : En -> Res (List D)) : Prop := PI X tg e (tI X.K E f)
def Kept (ks : List Nat) (σ σ' : L2.St) : Prop := σ'.length = σ.length /\ ∀ j, j ∉ ks -> σ'[j]? = σ[j]?
def tG (K : PySem.W.Frag) (ks : List Nat) (f : D -> En -> Option En) : TG := fun v σ H Q => ∃ G W en d en', Same G H /\ SimS K W G H σ en /\ Rep K G v d /\ f d en = some en' /\ ∀ σ', SimS K W G H σ' en' -> Kept ks σ σ' -> Q σ' H
def DG (X : Cx) (tg : Expr) (ks : List Nat) (f : D -> En -> Option En) : Prop := PG X tg (tG X.K ks f)
def bE (i : Nat) : D -> En -> Option En := fun d en => some (en.set i (some (.p d)))
section
variable {X : Cx} {E : L2.St -> XK} {pos : Pos}
theorem DI.in {tg e : Expr} {f : En -> Res (List D)} (h : ∃ t, PI X tg e t /\ ∀ B G0 G W H σ en R, SimH B G0 G W H -> SimS X.K W G H σ en -> wpR (f en) (fun ds => ∀ G' H' J, Step G H G' H' -> s9 X.K ds G' J -> R J H') (PostX (E σ) G H) -> t σ H R) : DI X E tg e f :=
 fun pins s σ H R I ⟨B, G0, G, W, en, h1, h2, h3⟩ => let ⟨_, p, m⟩ := h; p pins s σ H R I (m B G0 G W H σ en R h1 h2 h3)
theorem cI {i : Nat} {x : Str} (hN : X.N.Nodup) (hi : X.N[i]? = some x) (hx : Loc X.env.scope x) (hf : X.fn x = true \/ X.env.scope.names.lookup x = some .local := by first | exact .inl rfl | exact .inr rfl | assumption) : DG X (.Name x pos) [i] (bE i) := by
 intro pins s σ H v u Q I r ⟨G, W, en, d, en', h1, h2, h3, h4, h5⟩
 refine aCx hN hi hx hf pins s σ H v u Q I r ?_
 cases h4
 exact h5 _ (h2.set h3) ⟨List.length_set .., fun j hj => List.getElem?_set_ne (fun z => hj (by rw [z]; exact .head _))⟩
def dI (tg : D -> En -> Option En) (f : MS) : List D -> MS
 | [], en => some (.nx en)
 | d :: ds, en => match tg d en with
  | none => none
  | some e1 => match f e1 with
   | some (.nx e2) => dI tg f ds e2
   | some (.ct e2) => dI tg f ds e2
   | some (.bk e2) => some (.nx e2)
   | r => r
def p7 (fi : En -> Res (List D)) (tg : D -> En -> Option En) (f : MS) : MS := fun en => match fi en with
 | .ok ds => dI tg f ds en
 | .exc C => some (.ex C en)
 | .bad => none
theorem SimH.lower {B G0 G1 G H H1 : Hp} {W W1 : Addr -> Option Nat} (h : SimH B G1 G W H) (h1 : SimH B G0 G1 W1 H1) : SimH B G0 G W H :=
 ⟨h.gh, h.bh, h1.g0.trans h.g0, fun b hb => (h.gb b hb).elim (fun z => h1.gb b z) .inr, h.wf⟩
theorem SimH.raise {B G0 G H : Hp} {W : Addr -> Option Nat} (h : SimH B G0 G W H) : SimH B G G W H := ⟨h.gh, h.bh, Same.refl _, fun _ hb => .inl hb, h.wf⟩
theorem PostS.lower {K : PySem.W.Frag} {B G0 G1 H1 : Hp} {W1 : Addr -> Option Nat} {Dn : Ends} {r : Out} (h : PostS K B G0 E Dn r) (h1 : SimH B G0 G1 W1 H1) : PostS K B G1 E Dn r := by
 cases r with
 | nx en => exact fun G W H σ a b => h G W H σ (a.lower h1) b
 | bk en => exact fun G W H σ a b => h G W H σ (a.lower h1) b
 | ct en => exact fun G W H σ a b => h G W H σ (a.lower h1) b
 | rt l => exact fun G W H σ a b => h G W H σ (a.lower h1) b
 | ex C en => exact fun G W H σ a b => h G W H σ (a.lower h1) b
theorem fW {tg iter : Expr} {body : List Stmt} {fi : En -> Res (List D)} {ks : List Nat} {g : D -> En -> Option En} {f : MS} (hp : PassesOwn (model X.prog X.w) X.A X.env X.xe) (hc : X.calm = true) (hi : DI X E tg iter fi) (hg : DG X tg ks g) (hb : DSs X E body f)
  (hs : ∀ x, foldedSetIterable iter X.env x = pure x := by intro _; rfl) : DS X E (.For tg iter body [] pos) (p7 fi g f) := by
 obtain ⟨t, p, m⟩ := hb.out
 refine DS.in ⟨_, aE1 hp hc hi hg p hs, fun B G0 G W H σ en Dn hh hs hw => ⟨B, G0, G, W, en, hh, hs, ?_⟩⟩
 unfold p7 at hw
 cases ef : fi en with
 | bad => rw [ef] at hw; exact hw
 | exc C => rw [ef] at hw; exact fun G1 H1 s => hw G1 W H1 σ (hh.step s) (hs.step s)
 | ok ds =>
  rw [ef] at hw
  intro G1 H1 J s1 hJ
  have hh1 := hh.step s1
  refine ⟨fun i n σ H => n = ds.length - i /\ i <= ds.length /\ ∃ G W en, SimH B G1 G W H /\ SimS X.K W G H σ en /\ wpO (dI g f (ds.drop i) en) (PostS X.K B G0 E Dn),
   ⟨ds.length, rfl, Nat.zero_le _, G1, W, en, hh1.raise, hs.step s1, hw⟩, ?_⟩
  rintro i n σ H ⟨rfl, hi, G, W, en, hh, hs, hw⟩
  obtain ⟨j1, j2⟩ := hJ G H hh.g0 hh.gh
  by_cases hlt : i < ds.length
  ·refine .inr ?_
   obtain ⟨jg, jy⟩ := j1 i ds[i] (List.getElem?_eq_getElem hlt)
   rw [List.drop_eq_getElem_cons hlt] at hw
   unfold dI at hw
   refine ⟨jg, fun σ' H' => ∃ G W en, SimH B G1 G W H' /\ SimS X.K W G H' σ' en /\ wpO (dI g f (ds.drop (i + 1)) en) (PostS X.K B G0 E Dn), fun σ' H' q => ⟨ds.length - (i + 1), by omega, rfl, hlt, q⟩, fun v H' hy => ?_⟩
   obtain ⟨G2, s2, rv⟩ := jy v H' hy
   cases eg : g ds[i] en with
   | none => rw [eg] at hw; exact hw.elim
   | some e1 =>
    rw [eg] at hw
    dsimp only at hw
    refine ⟨G2, W, en, ds[i], e1, s2.gh, hs.step s2, rv, eg, fun σ' hσ _ => ?_⟩
    refine m B G1 G2 W H' σ' e1 _ (hh.step s2) hσ ?_
    cases ef2 : f e1 with
    | none => rw [ef2] at hw; exact hw
    | some o =>
     rw [ef2] at hw
     cases o with
     | nx e => exact fun G2 W2 H2 σ2 h2 s2 => ⟨G2, W2, e, h2, s2, hw⟩
     | ct e => exact fun G2 W2 H2 σ2 h2 s2 => ⟨G2, W2, e, h2, s2, hw⟩
     | bk e => exact PostS.lower (E := E) (Dn := Dn) (r := .nx e) hw hh1
     | rt l => exact PostS.lower (E := E) (Dn := Dn) (r := .rt l) hw hh1
     | ex C e => exact PostS.lower (E := E) (Dn := Dn) (r := .ex C e) hw hh1
  ·have e : i = ds.length := by omega
   subst e
   rw [List.drop_length] at hw
   exact .inl ⟨j2, hw G W H σ (hh.lower hh1) hs⟩
def aFg (r : Ev) : Res (List D) := match r with
 | .p (.list ds) => .ok ds
 | _ => .bad
def aJa (r : Ev) : Res (List D) := match r with
 | .p (.tuple ds) => .ok ds
 | _ => .bad
def sM (fe : En -> Res Ev) : En -> Res (List D) := fun en => (fe en).bind fun r => aFg r.c
def aGy (fe : En -> Res Ev) : En -> Res (List D) := fun en => (fe en).bind fun r => aJa r.c
theorem e8 {tg e : Expr} {fe : En -> Res Ev} (he : DE X E e fe) : DI X E tg e (sM fe) := by
 obtain ⟨t, p, m⟩ := he.out
 refine DI.in ⟨_, aBp p, fun B G0 G W H σ en R hh hs hw => m B G0 G W H σ en _ hh hs ?_⟩
 have hw : wpR ((fe en).bind _) _ _ := hw
 rw [aZ] at hw
 refine aR hw (fun r hr G1 H1 v s e => ?_) fun C h => h
 obtain ⟨G2, s2, e2⟩ := e.c s
 cases er : r.c with
 | p d =>
  rw [er] at hr e2
  cases d with
  | list ds =>
   cases e2 with
   | @lst a xs _ ha hrs =>
    refine ⟨a, rfl, ⟨xs, s2.gh.seq (.inl ha)⟩, hr G2 H1 _ s2 fun G3 H3 k1 k2 => ⟨fun i d ed => ?_, xs, (k1.trans k2).seq (.inl ha), Nat.le_of_eq hrs.length⟩⟩
    obtain ⟨x, ex, rx⟩ := hrs.get' ed
    refine ⟨⟨xs, x, (k1.trans k2).seq (.inl ha), ex⟩, fun v H' hy => ?_⟩
    obtain ⟨rfl, hy⟩ := hy
    have := hy xs ((k1.trans k2).seq (.inl ha))
    rw [ex] at this
    cases this
    exact ⟨G3, Step.refl k2, rx.mono k1⟩
  | _ => exact False.elim hr
 | f d => rw [er] at hr; exact False.elim hr
 | b d => rw [er] at hr; exact False.elim hr
 | x C => rw [er] at hr; exact False.elim hr
theorem aGp {tg e : Expr} {fe : En -> Res Ev} (he : DE X E e fe) : DI X E tg e (aGy fe) := by
 obtain ⟨t, p, m⟩ := he.out
 refine DI.in ⟨_, aD3 p, fun B G0 G W H σ en R hh hs hw => m B G0 G W H σ en _ hh hs ?_⟩
 have hw : wpR ((fe en).bind _) _ _ := hw
 rw [aZ] at hw
 refine aR hw (fun r hr G1 H1 v s e => ?_) fun C h => h
 obtain ⟨G2, s2, e2⟩ := e.c s
 cases er : r.c with
 | p d =>
  rw [er] at hr e2
  cases d with
  | tuple ds =>
   cases e2 with
   | @tup a xs _ ha hrs =>
    refine ⟨a, rfl, ⟨xs, SqT.of (s2.gh _ _ ha)⟩, hr G2 H1 _ s2 fun G3 H3 k1 k2 => ⟨fun i d ed => ?_, xs, SqT.of ((k1.trans k2) _ _ ha), Nat.le_of_eq hrs.length⟩⟩
    obtain ⟨x, ex, rx⟩ := hrs.get' ed
    refine ⟨⟨xs, x, SqT.of ((k1.trans k2) _ _ ha), ex⟩, fun v H' hy => ?_⟩
    obtain ⟨rfl, hy⟩ := hy
    have := hy xs (SqT.of ((k1.trans k2) _ _ ha))
    rw [ex] at this
    cases this
    exact ⟨G3, Step.refl k2, rx.mono k1⟩
  | _ => exact False.elim hr
 | f d => rw [er] at hr; exact False.elim hr
 | b d => rw [er] at hr; exact False.elim hr
 | x C => rw [er] at hr; exact False.elim hr
def sO (lo : Int) (n : Nat) : List D := (List.range n).map fun (k : Nat) => PyData.int (lo + (k : Int))
def jD (rs : List Ev) : Res (List D) := match rs with
 | [.p (.int j)] => if -(2 ^ 62) <= j /\ j < 2 ^ 62 then .ok (sO 0 j.toNat) else .bad
 | _ => .bad
theorem rH (K : PySem.W.Frag) (lo : Int) (n : Nat) (G1 : Hp) : s9 K (sO lo n) G1 (Itr lo n) := fun G H _ k2 => by
 refine ⟨fun i d ed => ?_, by show n <= _; unfold sO; rw [List.length_map, List.length_range]; exact Nat.le_refl _⟩
 unfold sO at ed
 rw [List.getElem?_map] at ed
 by_cases hi : i < n
 ·rw [List.getElem?_range hi] at ed
  cases ed
  refine ⟨hi, fun v H' hy => ?_⟩
  obtain ⟨rfl, rfl⟩ := hy
  exact ⟨G, Step.refl k2, .int _⟩
 ·rw [List.getElem?_eq_none (by rw [List.length_range]; omega)] at ed
  cases ed
def xF (r : List Ev -> Res (List D)) (fr : En -> Res (List Ev)) : En -> Res (List D) := fun en => (fr en).bind r
theorem gN {tg a : Expr} {fr : En -> Res (List Ev)} {p : Pos} (hg : Gl X "range") (hm : X.mg "range" = none) (ha : DA X E [a] fr) (hs : starEach [a] X.env = [(false, eval a X.env)] := by rfl) : DI X E tg (.Call (.Name "range" p) [a] [] pos) (xF jD fr) := by
 obtain ⟨t, q, m⟩ := ha.out
 refine DI.in ⟨_, vE hg hm q hs, fun B G0 G W H σ en R hh hs hw => m B G0 G W H σ en _ hh hs ?_⟩
 have hw : wpR ((fr en).bind _) _ _ := hw
 rw [aZ] at hw
 refine aR hw (fun rs hr G1 H1 vs s e => ?_) fun C h => h
 unfold jD at hr
 split at hr
 ·rename_i j
  split at hr
  ·rename_i hj
   match vs, e with
   | [v], ⟨e1, _⟩ =>
    cases e1
    exact ⟨j, rfl, hj.1, hj.2, hr G1 H1 _ s (rH _ _ _ _)⟩
  ·exact False.elim hr
 ·exact False.elim hr
end
def nK : Ev -> Option L
 | .p d => some (.p d)
 | .x C => some (.x C)
 | .b _ => none
 | .f _ => none
def yS : Ev -> Option L
 | .p d => some (.p d)
 | .b d => some (.p d)
 | .x _ => none
 | .f _ => none
def cZ (g : Ev -> Option L) : List Ev -> Option (List L)
 | [] => some []
 | r :: rs => match g r with
  | none => none
  | some l => match cZ g rs with
   | none => none
   | some ls => some (l :: ls)
def oK : L -> Ev
 | .p d => .p d
 | .o d => .f d
 | .x C => .x C
 | .h a => .x a
mutual
def lfD : D -> Bool
 | .list _ => false
 | .dict _ => false
 | .tuple ds => lfA ds
 | _ => true
def lfA : List D -> Bool
 | [] => true
 | d :: ds => lfD d && lfA ds
end
def lfP : List (D × D) -> Bool
 | [] => true
 | p :: r => lfD p.2 && lfP r
def s8 : L -> Bool
 | .p d => lfD d
 | .o (.list ds) => lfA ds
 | .o (.dict kvs) => lfP kvs
 | _ => false
def fO (n : Nat) (m : List L -> Res L) (rs : List Ev) : Res Ev := match cZ nK rs with
 | some ls => if ls.length = n then (m ls).bind fun l => .ok (oK l) else .bad
 | none => match cZ yS rs with
  | some ls => if ls.length = n then (m ls).bind fun l => if s8 l = true then .ok (oK l) else .bad else .bad
  | none => .bad
def aX (n : Nat) (m : List L -> Res L) (fr : En -> Res (List Ev)) : En -> Res Ev := fun en => (fr en).bind (fO n m)
def aHq (K : PySem.W.Frag) (G : Hp) (v : V) : L -> Prop
 | .p d => Rep K G v d
 | .o _ => False
 | .x C => ∃ e, v = .ref e /\ G e = some (aDr e (.ref C))
 | .h _ => False
def ArgsOk (K : PySem.W.Frag) (G : Hp) : List V -> List L -> Prop
 | [], [] => True
 | v :: vs, l :: ls => aHq K G v l /\ ArgsOk K G vs ls
 | _, _ => False
theorem ArgsOk.length {K : PySem.W.Frag} {G : Hp} : ∀ {vs : List V} {ls : List L}, ArgsOk K G vs ls -> vs.length = ls.length
 | [], [], _ => rfl
 | _ :: _, _ :: _, h => by rw [List.length_cons, List.length_cons, ArgsOk.length h.2]
def spM (K : PySem.W.Frag) (n : Nat) (m : List L -> Res L) : Sp := fun vs H Q E => vs.length = n /\ ∃ G ls, Same G H /\ ArgsOk K G vs ls /\
 wpR (m ls) (fun l => ∀ G' H' v, Step G H G' H' -> aCb K H G' H' v l -> Q v H') (fun C => ∀ G' H', Step G H G' H' -> E (.ref C) none H')
theorem wD {K : PySem.W.Frag} {W : Addr -> Option Nat} {Hs G H : Hp} : ∀ {rs : List Ev} {ls : List L} {vs : List V}, cZ nK rs = some ls -> aCy K W Hs G H vs rs -> ArgsOk K G vs ls
 | [], _, [], h, _ => by cases h; exact trivial
 | [], _, _ :: _, _, e => e.elim
 | _ :: _, _, [], _, e => e.elim
 | r :: rs, ls, v :: vs, h, e => by
  unfold cZ at h
  cases r with
  | p d =>
   cases er : cZ nK rs with
   | none => rw [er] at h; cases h
   | some ls' => rw [er] at h; cases h; exact ⟨e.1, wD er e.2⟩
  | x C =>
   cases er : cZ nK rs with
   | none => rw [er] at h; cases h
   | some ls' => rw [er] at h; cases h; exact ⟨e.1, wD er e.2⟩
  | b d => cases h
  | f d => cases h
def both (W : Addr -> Option Nat) (G H : Hp) : Hp := fun b => match W b with
 | some _ => H b
 | none => G b
theorem iL {W : Addr -> Option Nat} {B G0 G H : Hp} (hh : SimH B G0 G W H) : Same G (both W G H) /\ Same (both W G H) H := by
 refine ⟨fun b o e => ?_, fun b o e => ?_⟩
 ·unfold both
  cases ew : W b with
  | none => exact e
  | some i => rw [(hh.wf b i ew).1] at e; cases e
 ·unfold both at e
  cases ew : W b with
  | none => rw [ew] at e; exact hh.gh b o e
  | some i => rw [ew] at e; exact e
theorem wN {K : PySem.W.Frag} {W : Addr -> Option Nat} {Hs B G0 G H : Hp} (hh : SimH B G0 G W H) : ∀ {rs : List Ev} {ls : List L} {vs : List V}, cZ yS rs = some ls -> aCy K W Hs G H vs rs -> ArgsOk K (both W G H) vs ls
 | [], _, [], h, _ => by cases h; exact trivial
 | [], _, _ :: _, _, e => e.elim
 | _ :: _, _, [], _, e => e.elim
 | r :: rs, ls, v :: vs, h, e => by
  unfold cZ at h
  cases r with
  | p d =>
   cases er : cZ yS rs with
   | none => rw [er] at h; cases h
   | some ls' => rw [er] at h; cases h; exact ⟨Rep.mono (iL hh).1 e.1, wN hh er e.2⟩
  | b d =>
   cases er : cZ yS rs with
   | none => rw [er] at h; cases h
   | some ls' =>
    rw [er] at h; cases h
    refine ⟨?_, wN hh er e.2⟩
    obtain ⟨a, i, o, rfl, h1, h2, h3⟩ := e.1
    exact (h3.mono (iL hh).1).rep (by unfold both; rw [h1]; exact h2)
  | x d => cases h
  | f d => cases h
mutual
theorem qL {K : PySem.W.Frag} {G G' : Hp} (k : ∀ b xs, G b = some (.tup xs) -> G' b = some (.tup xs)) : ∀ {v : V} {d : D}, lfD d = true -> Rep K G v d -> Rep K G' v d
 | _, _, _, .non => .non
 | _, _, _, .bl b => .bl b
 | _, _, _, .int i => .int i
 | _, _, _, .str x => .str x
 | _, _, hf, .tup h r => .tup (k _ _ h) (pA k (by unfold lfD at hf; exact hf) r)
 | _, _, hf, .lst _ _ => by unfold lfD at hf; cases hf
 | _, _, hf, .dT _ _ => by unfold lfD at hf; cases hf
 | _, _, hf, .dK _ _ => by unfold lfD at hf; cases hf
theorem pA {K : PySem.W.Frag} {G G' : Hp} (k : ∀ b xs, G b = some (.tup xs) -> G' b = some (.tup xs)) : ∀ {vs : List V} {ds : List D}, lfA ds = true -> Reps K G vs ds -> Reps K G' vs ds
 | _, _, _, .nil => .nil
 | _, _, hf, .cons h r => by
  unfold lfA at hf
  have hf := Bool.and_eq_true_iff.mp hf
  exact .cons (qL k hf.1 h) (pA k hf.2 r)
end
theorem uL {K : PySem.W.Frag} {G G' : Hp} (k : ∀ b xs, G b = some (.tup xs) -> G' b = some (.tup xs)) : ∀ {kv : List (List Key × V)} {kvs : List (D × D)}, lfP kvs = true -> RepT K G kv kvs -> RepT K G' kv kvs
 | _, _, _, .nil => .nil
 | _, _, hf, .cons h r => by
  unfold lfP at hf
  have hf := Bool.and_eq_true_iff.mp hf
  exact .cons (qL k hf.1 h) (uL k hf.2 r)
theorem v7 {K : PySem.W.Frag} {G G' : Hp} (k : ∀ b xs, G b = some (.tup xs) -> G' b = some (.tup xs)) : ∀ {kv : List (Key × V)} {kvs : List (D × D)}, lfP kvs = true -> RepK K G kv kvs -> RepK K G' kv kvs
 | _, _, _, .nil => .nil
 | _, _, hf, .cons h r => by
  unfold lfP at hf
  have hf := Bool.and_eq_true_iff.mp hf
  exact .cons (qL k hf.1 h) (v7 k hf.2 r)
def kI (W : Addr -> Option Nat) (G : Hp) : Hp := fun b => match W b with
 | some _ => none
 | none => G b
theorem xM {K : PySem.W.Frag} {W : Addr -> Option Nat} {H1 G H Hs : Hp} {v : V} {l : L} (hf : s8 l = true) (hH : Hs = Hs) (hs : ∀ b, H1 b = none -> Hs b = none) (k : ∀ b xs, G b = some (.tup xs) -> kI W G b = some (.tup xs)) (h : aCb K H1 G H v l) : EOk K W Hs (kI W G) H v (oK l) := by
 have n0 : ∀ b, G b = none -> kI W G b = none := fun b e => by
  unfold kI
  cases W b with
  | none => exact e
  | some _ => rfl
 cases l with
 | x C => cases hf
 | h a => cases hf
 | p d => exact qL k hf h
 | o d =>
  obtain ⟨a, o, rfl, h1, h2, h3, h4⟩ := h
  refine ⟨a, o, rfl, hs _ h2, n0 _ h1, h3, ?_⟩
  cases h4 with
  | lst r => exact .lst (pA k hf r)
  | dT r => exact .dT (uL k hf r)
  | dK r => exact .dK (v7 k (by unfold s8 at hf; unfold lfP at hf; exact (Bool.and_eq_true_iff.mp hf).2) r)
theorem uC {K : PySem.W.Frag} {W : Addr -> Option Nat} {B G0 G H G1 H1 : Hp} {n : Nat} {m : List L -> Res L} {rs : List Ev} {vs : List V} {Q : VK} {EE : XK} (hh : SimH B G0 G W H) (s : Step G H G1 H1) (e : aCy K W H G1 H1 vs rs)
  (hr : wpR (fO n m rs) (PostE K W G H Q) (PostX EE G H)) : spM K n m vs H1 Q EE := by
 unfold fO at hr
 split at hr
 ·rename_i ls el
  split at hr
  ·rename_i hn
   have ha := wD el e
   refine ⟨by rw [ha.length]; exact hn, G1, ls, s.gh, ha, ?_⟩
   rw [aZ] at hr
   refine aR hr (fun l hl G2 H2 v s2 rv => hl G2 H2 v (s.trans s2) ?_) fun C h G2 H2 s2 => h G2 H2 (s.trans s2)
   cases l with
   | p d => exact rv
   | x C => exact rv
   | h a => exact rv.elim
   | o d =>
    obtain ⟨a, o, h1, h2, h3, h4, h5⟩ := rv
    exact ⟨a, o, h1, s.h.free h3, h2, h4, h5⟩
  ·exact hr.elim
 ·split at hr
  ·rename_i ls el
   split at hr
   ·rename_i hn
    have hh1 := hh.step s
    have ha := wN hh1 el e
    obtain ⟨k1, k2⟩ := iL hh1
    refine ⟨by rw [ha.length]; exact hn, both W G1 H1, ls, k2, ha, ?_⟩
    rw [aZ] at hr
    refine aR hr (fun l hl G2 H2 v s2 rv => ?_) fun C h G2 H2 s2 => h G1 H2 (s.trans ⟨Same.refl _, s2.h, s.gh.trans s2.h, fun _ _ q => .inl q⟩)
    split at hl
    ·rename_i hf
     have kt : ∀ b xs, G2 b = some (.tup xs) -> kI W G2 b = some (.tup xs) := fun b xs eb => by
      unfold kI
      cases ew : W b with
      | none => exact eb
      | some i =>
       obtain ⟨_, _, o, e1, e2⟩ := hh1.wf b i ew
       have e3 := s2.gh _ _ eb
       rw [s2.h _ _ e1] at e3
       exact absurd (Option.some.inj e3) (e2 xs)
     refine hl (kI W G2) H2 v ⟨fun b o eb => ?_, s.h.trans s2.h, fun b o eb => ?_, fun b hb hg => ?_⟩ (xM hf rfl (fun b e => s.h.free e) kt rv)
     ·have e1 := s.g _ _ eb
      unfold kI
      cases ew : W b with
      | none => exact s2.g _ _ (k1 _ _ e1)
      | some i => rw [(hh1.wf b i ew).1] at e1; cases e1
     ·unfold kI at eb
      cases ew : W b with
      | none => rw [ew] at eb; exact s2.gh _ _ eb
      | some i => rw [ew] at eb; cases eb
     ·unfold kI
      cases ew : W b with
      | some i => exact .inl rfl
      | none =>
       rcases s.new b hb hg with z | z
       ·have z2 : both W G1 H1 b = none := by unfold both; rw [ew]; exact z
        rcases s2.new b (wL s.h hb) z2 with y | ⟨xs, y⟩
        ·exact .inl y
        ·cases e : H b with
         | none => exact absurd e hb
         | some o => rw [s.h _ _ e] at y; exact .inr ⟨xs, y⟩
       ·exact .inr z
    ·exact hl.elim
   ·exact hr.elim
  ·exact hr.elim
section
variable {X : Cx} {E : L2.St -> XK} {k : Nat} {f : Addr} {fd : FuncData} {ps : List Str} {x : Str} {p pos : Pos} {e : Expr} {es : List Expr} {fr : En -> Res (List Ev)} {n : Nat} {m : List L -> Res L}
theorem aDl (F : FnOk X.prog X.w X.K X.mg X.base (CXr X.prog X.w) k f fd ps (spM X.K n m)) (hr : Room k X.A) (hg : Gl X x) (hm : X.mg x = some (.ref f)) (hk : PySem.W.keepIn X.K (.ref f) = true) (hb : Binds X.K fd ps []) (hx : jM (CXr X.prog X.w) X E)
  (ha : DA X E (e :: es) fr) (hdb : (x == ("__debug__" : Str)) = false := by decide) (he : starEach (e :: es) X.env = (false, eval e X.env) :: starEach es X.env := by rfl) (hpl : (backTo pos (starEach es X.env)).any (·.1) = false := by rfl) :
  DE X E (.Call (.Name x p) (e :: es) [] pos) (aX n m fr) := by
 obtain ⟨t, q, mm⟩ := ha.out
 refine DE.in ⟨_, zU F hr hg hm hk hb hx q hdb he hpl, fun B G0 G W H σ en Q hh hs hw => mm B G0 G W H σ en _ hh hs ?_⟩
 have hw : wpR ((fr en).bind _) _ _ := hw
 rw [aZ] at hw
 exact aR hw (fun rs hr G1 H1 vs s e => uC hh s e hr) fun C h => h
def mX (K : PySem.W.Frag) (r : List V -> Hp -> VK -> Prop) (f : List Ev -> Res Ev) : Prop := ∀ (W : Addr -> Option Nat) (Hs G H : Hp) (vs : List V) (rs : List Ev) (Q : VK), Same G H -> aCy K W Hs G H vs rs -> wpR (f rs) (PostE K W G H Q) (fun _ => False) -> r vs H Q
def aAn (f : List Ev -> Res Ev) : Prop := ∀ rs C, f rs ≠ .exc C
def aK (f : List Ev -> Res Ev) (fr : En -> Res (List Ev)) : En -> Res Ev := fun en => (fr en).bind f
theorem kJ {r : List V -> Hp -> VK -> Prop} {f : List Ev -> Res Ev} {t : TA} (hm : mX X.K r f) (hn : aAn f) (mm : ∀ B G0 G W H σ en Q, SimH B G0 G W H -> SimS X.K W G H σ en -> wpR (fr en) (yC X.K W G H Q) (PostX (E σ) G H) -> t σ H Q) :
  ∀ B G0 G W H σ en Q, SimH B G0 G W H -> SimS X.K W G H σ en -> wpR (aK f fr en) (PostE X.K W G H Q) (PostX (E σ) G H) -> tCB r t σ H Q := by
 intro B G0 G W H σ en Q hh hs hw
 refine mm B G0 G W H σ en _ hh hs ?_
 have hw : wpR ((fr en).bind _) _ _ := hw
 rw [aZ] at hw
 exact aR hw (fun rs hr G1 H1 vs s e => hm W H G1 H1 vs rs Q s.gh e (noX (aR hr (fun _ h => h.step s) fun _ h => h) (hn rs))) fun C h => h
theorem b8 {id : String} {r : List V -> Hp -> VK -> Prop} {f : List Ev -> Res Ev} (hc : kF X (.builtin id) r) (hM : mX X.K r f) (hn : aAn f) (hg : Gl X x) (hm : X.mg x = none) (hv : bootBuiltins x = some (.builtin id)) (ha : DA X E (e :: es) fr) (hnn : x ≠ "__name__" := by decide) (hdb : (x == ("__debug__" : Str)) = false := by decide)
  (he : starEach (e :: es) X.env = (false, eval e X.env) :: starEach es X.env := by rfl) (hpl : (backTo pos (starEach es X.env)).any (·.1) = false := by rfl) : DE X E (.Call (.Name x p) (e :: es) [] pos) (aK f fr) := by
 obtain ⟨t, q, mm⟩ := ha.out
 exact DE.in ⟨_, rB hc hg hm hv q hnn hdb he hpl, kJ hM hn mm⟩
theorem cW {T : String} {r : List V -> Hp -> VK -> Prop} {f : List Ev -> Res Ev} (hc : kF X (.type T) r) (hM : mX X.K r f) (hn : aAn f) (hg : Gl X x) (hm : X.mg x = none) (hv : bootBuiltins x = some (.type T)) (ha : DA X E (e :: es) fr) (hnn : x ≠ "__name__" := by decide) (hdb : (x == ("__debug__" : Str)) = false := by decide)
  (he : starEach (e :: es) X.env = (false, eval e X.env) :: starEach es X.env := by rfl) (hpl : (backTo pos (starEach es X.env)).any (·.1) = false := by rfl) : DE X E (.Call (.Name x p) (e :: es) [] pos) (aK f fr) := by
 obtain ⟨t, q, mm⟩ := ha.out
 exact DE.in ⟨_, u6 hc hg hm hv q hnn hdb he hpl, kJ hM hn mm⟩
end
def bX (n : Nat) (ls : List L) : En := ls.map some ++ List.replicate (n - ls.length) none
def fN (n : Nat) (f : MS) (ls : List L) : Res L := match f (bX n ls) with
 | some (.nx _) => .ok (.p .none)
 | some (.rt l) => .ok l
 | some (.ex C _) => .exc C
 | _ => .bad
theorem kQ {K : PySem.W.Frag} {W : Addr -> Option Nat} {G H : Hp} : ∀ {vs : List V} {ls : List L} (i : Nat) (l : L), ArgsOk K G vs ls -> ls[i]? = some l -> ∃ v, vs[i]? = some v /\ ∀ j, Slot K W G H j v l
 | [], [], _, _, _, e => by simp at e
 | v :: vs, l :: ls, 0, m, h, e => by
  simp at e; subst e
  refine ⟨v, rfl, fun j => ?_⟩
  have z := h.1
  cases l with
  | p d => exact z
  | x C => exact z
  | h a => exact z.elim
  | o d => exact z.elim
 | v :: vs, l :: ls, i + 1, m, h, e => by
  have := kQ (W := W) (H := H) i m h.2 (by simpa using e)
  simpa using this
theorem vS {K : PySem.W.Frag} {W : Addr -> Option Nat} {G H : Hp} {N : List Str} {vs : List V} {ls : List L} (h : ArgsOk K G vs ls) : SimS K W G H (L2.start N vs) (bX N.length ls) := by
 have hl := h.length
 refine ⟨by unfold L2.start bX; simp [hl], fun i l e => ?_⟩
 unfold bX at e
 by_cases hi : i < ls.length
 ·rw [List.getElem?_append_left (by rw [List.length_map]; exact hi), List.getElem?_map] at e
  cases e2 : ls[i]? with
  | none => rw [e2] at e; cases e
  | some l' =>
   rw [e2] at e
   cases e
   obtain ⟨v, e3, e4⟩ := kQ (W := W) (H := H) i l h e2
   refine ⟨v, ?_, e4 i⟩
   unfold L2.start
   rw [List.getElem?_append_left (by rw [List.length_map, hl]; exact hi), List.getElem?_map, e3]
   rfl
 ·rw [List.getElem?_append_right (by rw [List.length_map]; omega), List.getElem?_replicate] at e
  split at e <;> cases e
theorem pI {G H G' H' : Hp} {W : Addr -> Option Nat} (h : SimH H G G' W H') : Step G H G' H' := ⟨h.g0, h.bh, h.gh, fun b hb hg => by
 cases e : G' b with
 | none => exact .inl rfl
 | some o =>
  rcases h.gb b (by rw [e]; exact fun z => nomatch z) with z | z | z
  ·exact absurd hg z
  ·exact absurd z hb
  ·exact .inr z⟩
theorem w5 {K : PySem.W.Frag} {N : List Str} {n : Nat} {m : List L -> Res L} {fm : MS} {vs : List V} {H : Hp} {Q : VK} {E : XK} (h : spM K n m vs H Q E) (hm : ∀ ls, m ls = .bad \/ fN N.length fm ls = m ls) :
  tS K (fun _ => E) fm { nx := fun _ H' => Q .non H', rt := Q } (L2.start N vs) H := by
 obtain ⟨hl, G, ls, gh, ha, hw⟩ := h
 refine ⟨H, G, G, fun _ => none, bX N.length ls, ⟨gh, Same.refl _, Same.refl _, fun _ hb => .inl hb, fun a i e => nomatch e⟩, vS ha, ?_⟩
 rcases hm ls with e | e
 ·rw [e] at hw; exact hw.elim
 ·rw [<- e] at hw
  unfold fN at hw
  cases ef : fm (bX N.length ls) with
  | none => rw [ef] at hw; exact hw
  | some o =>
   rw [ef] at hw
   cases o with
   | nx en => exact fun G' W' H' σ' h1 _ => hw G' H' .non (pI h1) .non
   | rt l => exact fun G' W' H' v h1 h2 => hw G' H' v (pI h1) h2
   | bk en => exact hw.elim
   | ct en => exact hw.elim
   | ex C en => exact fun G' W' H' σ' h1 _ => hw G' H' (pI h1)
section
variable {P : Program} {w : World} {K : PySem.W.Frag} {mg : Str -> Option Value} {base : Heap}
theorem cF {N : List Str} {qual : Str} {scope : Scope} {f : Addr} {cd : Value} {A : Around} {outer : List Env} {s : Shared} {H : Hp} {E : XK} : jM (CXr P w) (pM (CXr P w) P w K mg base N qual scope f cd A outer s H E) (fun _ => E) :=
 fun pins σ H s e s' I h => aHr pins σ H s e s' I h
theorem aHn {X : Cx} : jM (CXr P w) X (fun _ => E0) := fun _ _ _ _ _ _ _ ⟨_, _, _, _, _, _, _, z⟩ => z.elim
theorem fnM {x qual : Str} {st : Stmt} {f : Addr} {fd : FuncData} {N ps : List Str} {k n : Nat} {m : List L -> Res L} (F : Fun K x qual st f fd) (S : bL N ps (aN st)) (hn : n = ps.length)
  (hbody : ∀ (cdv : Value) (A : Around) (outer : List Env) (s : Shared) (H : Hp) (E : XK), Room k (A.deeper (envOfC qual (aN st) s.heap.objs.size f cdv)) ->
   ∃ fm, DSs (pM (CXr P w) P w K mg base N qual (aN st) f cdv A outer s H E) (fun _ => E) (dF st) fm /\ ∀ ls, m ls = .bad \/ fN N.length fm ls = m ls) : FnOk P w K mg base (CXr P w) (k + 1) f fd ps (spM K n m) := by
 refine F.okX S (fun vs H Q E h => ?_) (fun cdv A outer s H vs Q E hr h => ?_)
 ·rw [<- hn]; exact h.1
 ·obtain ⟨fm, hd, hm⟩ := hbody cdv A outer s H E hr
  exact ⟨_, hd, w5 h hm⟩
end
def pY (C : Addr) (fr : En -> Res (List Ev)) : MS := fun en => match fr en with
 | .ok rs => if rs.length <= 1000 then some (.ex C en) else none
 | .exc C => some (.ex C en)
 | .bad => none
section
variable {X : Cx}
end
def iO : List Ev -> Option (List D)
 | [] => some []
 | r :: rs => match r with
  | .p d => match iO rs with
   | some ds => some (d :: ds)
   | none => none
  | _ => none
theorem jV {K : PySem.W.Frag} {W : Addr -> Option Nat} {Hs G H : Hp} : ∀ {rs : List Ev} {ds : List D} {vs : List V}, iO rs = some ds -> aCy K W Hs G H vs rs -> Reps K G vs ds
 | [], _, [], h, _ => by cases h; exact .nil
 | [], _, _ :: _, _, e => e.elim
 | _ :: _, _, [], _, e => e.elim
 | r :: rs, ds, v :: vs, h, e => by
  unfold iO at h
  cases r with
  | p d =>
   dsimp only at h
   cases er : iO rs with
   | none => rw [er] at h; cases h
   | some ds' => rw [er] at h; cases h; exact .cons e.1 (jV er e.2)
  | x C => cases h
  | b d => cases h
  | f d => cases h
def eN (rs : List Ev) : Res Ev := match iO rs with
 | some ds => if ds.length <= 1000 then .ok (.p (.tuple ds)) else .bad
 | none => .bad
def iB (rs : List Ev) : Res Ev := match iO rs with
 | some ds => if ds.length <= 1000 then .ok (.f (.list ds)) else .bad
 | none => .bad
section
variable {X : Cx} {E : L2.St -> XK} {es : List Expr} {fr : En -> Res (List Ev)} {pos : Pos}
theorem jG {x1} (h : DA X E es fr) : DE X E (.Tuple es x1 pos) (aK eN fr) := by
 obtain ⟨t, q, m⟩ := h.out
 refine DE.in ⟨_, aEt q, fun B G0 G W H σ en Q hh hs hw => m B G0 G W H σ en _ hh hs ?_⟩
 have hw : wpR ((fr en).bind _) _ _ := hw
 rw [aZ] at hw
 refine aR hw (fun rs hr G1 H1 vs s e => ?_) fun C h => h
 unfold eN at hr
 split at hr
 ·rename_i ds el
  have rp := jV el e
  split at hr
  ·rename_i hl
   refine ⟨by rw [rp.length]; exact Nat.le_trans hl (by decide), fun p hp => ?_⟩
   have st := Step.put (o := .tup vs) s.gh hp
   exact hr _ _ _ (s.trans st) (.tup a9 (rp.mono st.g))
  ·exact False.elim hr
 ·exact False.elim hr
theorem nU (h : DA X E es fr) : DE X E (.List es pos) (aK iB fr) := by
 obtain ⟨t, q, m⟩ := h.out
 refine DE.in ⟨_, aFs q, fun B G0 G W H σ en Q hh hs hw => m B G0 G W H σ en _ hh hs ?_⟩
 have hw : wpR ((fr en).bind _) _ _ := hw
 rw [aZ] at hw
 refine aR hw (fun rs hr G1 H1 vs s e => ?_) fun C h => h
 unfold iB at hr
 split at hr
 ·rename_i ds el
  have rp := jV el e
  split at hr
  ·rename_i hl
   refine ⟨by rw [rp.length]; exact Nat.le_trans hl (by decide), fun p hp => ?_⟩
   have st := Step.lay (o := .lst vs) s.gh hp
   exact hr _ _ _ (s.trans st) ⟨p, _, rfl, s.h.free hp, s.gh.free hp, a9, .lst rp⟩
  ·exact False.elim hr
 ·exact False.elim hr
end
def xE (g : D -> Option (Option D)) : List D -> Option (List D)
 | [] => some []
 | d :: ds => match g d with
  | none => none
  | some o => match xE g ds with
   | none => none
   | some r => some (match o with
    | some y => y :: r
    | none => r)
def aFu (o : Option (Option L)) : Option L := match o with
 | some (some (.p d)) => some (.p d)
 | some (some (.x C)) => some (.x C)
 | _ => none
def aCq (js : List Nat) (en : En) : En := js.map fun j => aFu en[j]?
def sI : En -> Res Bool := fun _ => .ok true
def cD (n : Nat) (js : List Nat) (tg : D -> En -> Option En) (ft : En -> Res Bool) (fe : En -> Res Ev) (en : En) (d : D) : Option (Option D) := match tg d (List.replicate n none ++ aCq js en) with
 | none => none
 | some e => match ft e with
  | .ok true => match fe e with
   | .ok r => match r.c with
    | .p y => some (some y)
    | _ => none
   | _ => none
  | .ok false => some none
  | _ => none
def aDa (g : D -> Option (Option D)) (ds : List D) : Res Ev := if ds.length <= 100000 then match xE g ds with
  | some r => .ok (.f (.list r))
  | none => .bad
 else .bad
def lN (n : Nat) (js : List Nat) (fi : En -> Res (List D)) (tg : D -> En -> Option En) (ft : En -> Res Bool) (fe : En -> Res Ev) : En -> Res Ev := fun en => (fi en).bind fun ds => aDa (cD n js tg ft fe en) ds
def DTs (X : Cx) (ifs : List Expr) (f : En -> Res Bool) : Prop := PTs X ifs (tT X.K (fun _ => E0) f)
theorem aIw {G H : Hp} (h : Same G H) : SimH H G G (fun _ => none) H := ⟨h, Same.refl _, Same.refl _, fun _ hb => .inl hb, fun a i e => nomatch e⟩
theorem zM {K : PySem.W.Frag} {W : Addr -> Option Nat} {G H : Hp} {σ : L2.St} {en : En} (n : Nat) (js : List Nat) (h : SimS K W G H σ en) : SimS K (fun _ => none) G H (List.replicate n none ++ qH js σ) (List.replicate n none ++ aCq js en) := by
 refine ⟨by unfold qH aCq; simp, fun i l e => ?_⟩
 by_cases hi : i < n
 ·rw [List.getElem?_append_left (by rw [List.length_replicate]; exact hi), List.getElem?_replicate] at e
  split at e <;> cases e
 ·rw [List.getElem?_append_right (by rw [List.length_replicate]; omega), List.length_replicate] at e ⊢
  unfold aCq at e
  unfold qH
  rw [List.getElem?_map] at e ⊢
  cases ej : js[i - n]? with
  | none => rw [ej] at e; cases e
  | some j =>
   rw [ej] at e
   have e' : aFu en[j]? = some l := Option.some.inj e
   unfold aFu at e'
   split at e'
   ·rename_i d q
    cases e'
    obtain ⟨v, h1, h2⟩ := h.2 j _ q
    exact ⟨v, by show some ((σ[j]?).getD none) = _; rw [h1]; rfl, h2⟩
   ·rename_i d q
    cases e'
    obtain ⟨v, h1, h2⟩ := h.2 j _ q
    exact ⟨v, by show some ((σ[j]?).getD none) = _; rw [h1]; rfl, h2⟩
   ·cases e'
section
variable {X : Cx} {E : L2.St -> XK} {pos : Pos}
theorem mE : DTs X [] sI := fun pins s σ H Q I ⟨B, G0, G, W, en, h1, h2, h3⟩ => aDn pins s σ H Q I (h3 G H (Step.refl h1.gh))
theorem zB {elt iter tg : Expr} {scope : Scope} {ifs : List Expr} {n : Nat} {js ks : List Nat} {fi : En -> Res (List D)} {g : D -> En -> Option En} {ft : En -> Res Bool} {fe : En -> Res Ev} {xs ys : List Str} {cl : List (Str × Addr)} (hc : X.calm = true) (hi : DI X E tg iter fi)
  (hcl : aEb X scope cl) (hcap : nQ X scope cl ys js) (hcell : ∀ y ∈ scope.names, y.2 ≠ .cell) (hkind : scope.kind = .function) (hnames : ∀ y ∈ scope.names, y.2 = .local -> scope.names.lookup y.1 = some .local) (hn : xs.length = n) (hks : ∀ j ∈ ks, j < n)
  (hg : ∀ C s₀ H₀ ex pn, DG (bK X scope cl C (xs ++ ys) s₀ H₀ ex pn) tg ks g) (ht : ∀ C s₀ H₀ ex pn, DTs (bK X scope cl C (xs ++ ys) s₀ H₀ ex pn) ifs ft) (hb : ∀ C s₀ H₀ ex pn, DE (bK X scope cl C (xs ++ ys) s₀ H₀ ex pn) (fun _ => E0) elt fe)
  : ∀ B G0 G W H σ en Q, SimH B G0 G W H -> SimS X.K W G H σ en -> wpR (lN n js fi g ft fe en) (PostE X.K W G H Q) (PostX (E σ) G H) -> tW (tI X.K E fi) (tG X.K ks g) (tT X.K (fun _ => E0) ft) (tE X.K (fun _ => E0) fe) xs.length js σ H Q := by
 subst hn
 refine fun B G0 G W H σ en Q hh hs hw => ⟨B, G0, G, W, en, hh, hs, ?_⟩
 have hw : wpR ((fi en).bind _) _ _ := hw
 rw [aZ] at hw
 refine aR hw (fun ds hds G1 H1 J s1 hJ D hD => ?_) fun C h => h
 unfold aDa at hds
 split at hds
 case isFalse => exact hds.elim
 rename_i hlen
 split at hds
 case h_2 => exact hds.elim
 rename_i r em
 have gD : G1 D = none := s1.gh.free hD
 have aHu : ∀ {G2 H2 : Hp} {y : List V}, Step G1 H1 G2 H2 -> G2 D = none -> Step G1 H1 G2 (upd H2 D (.lst y)) := fun st hg2 => by
  refine ⟨st.g, fun b o e => ?_, fun b o e => ?_, st.new⟩
  ·rw [a7 (bR e hD)]; exact st.h b o e
  ·rw [a7 (bR e hg2)]; exact st.gh b o e
 refine ⟨ds.length, fun i ys H2 => i <= ds.length /\ ys.length <= i /\ ∃ G2 rs rest, Step G1 H1 G2 H2 /\ G2 D = none /\ H2 D = some (.lst ys) /\ Reps X.K G2 ys rs /\ xE (cD xs.length js g ft fe en) (ds.drop i) = some rest /\ rs ++ rest = r,
  ⟨Nat.zero_le _, Nat.zero_le _, G1, [], r, Step.lay s1.gh hD, gD, a9, .nil, em, rfl⟩, ?_⟩
 rintro i zs H2 ⟨hi, hzl, G2, rs, rest, st, g2, h2, rp, em2, er⟩
 obtain ⟨j1, j2⟩ := hJ G2 H2 st.g st.gh
 by_cases hlt : i < ds.length
 ·refine .inr ⟨hlt, ?_⟩
  obtain ⟨jg, jy⟩ := j1 i ds[i] (List.getElem?_eq_getElem hlt)
  refine ⟨jg, fun v H3 hy => ?_⟩
  obtain ⟨G3, s3, rv⟩ := jy v H3 hy
  rw [List.drop_eq_getElem_cons hlt] at em2
  unfold xE at em2
  cases ec : cD xs.length js g ft fe en ds[i] with
  | none => rw [ec] at em2; cases em2
  | some o =>
   rw [ec] at em2
   dsimp only at em2
   cases em3 : xE (cD xs.length js g ft fe en) (ds.drop (i + 1)) with
   | none => rw [em3] at em2; cases em2
   | some rest' =>
    rw [em3] at em2
    have em2 := Option.some.inj em2
    unfold cD at ec
    split at ec
    ·cases ec
    ·rename_i e eg
     have in3 := zM xs.length js (hs.step ((s1.trans st).trans s3))
     refine ⟨G3, fun _ => none, _, ds[i], e, s3.gh, in3, rv, eg, fun σ' hσ hk => ⟨⟨?_, ?_⟩, ?_⟩⟩
     ·rw [hk.1]; unfold qH; simp
     ·refine List.ext_getElem? fun j => ?_
      rw [List.getElem?_drop, hk.2 (xs.length + j) fun z => absurd (hks _ z) (by omega), List.getElem?_append_right (by rw [List.length_replicate]; omega), List.length_replicate]
      congr 1
      omega
     ·refine ⟨_, _, G3, fun _ => none, e, aIw s3.gh, hσ, ?_⟩
      cases et : ft e with
      | bad => rw [et] at ec; cases ec
      | exc C => rw [et] at ec; cases ec
      | ok k =>
       rw [et] at ec
       intro G5 H5 s5
       cases k with
       | false =>
        cases ec
        rw [if_neg Bool.false_ne_true]
        have s25 := s3.trans s5
        exact ⟨hlt, Nat.le_succ_of_le hzl, G5, rs, rest', st.trans s25, s25.off h2 (fun xs z => nomatch z) g2, s25.h _ _ h2, rp.mono s25.g, em3, by rw [<- er, <- em2]⟩
       | true =>
        rw [if_pos rfl]
        refine ⟨_, _, G5, fun _ => none, e, aIw s5.gh, hσ.step s5, ?_⟩
        dsimp only at ec
        cases ee : fe e with
        | bad => rw [ee] at ec; cases ec
        | exc C => rw [ee] at ec; cases ec
        | ok q =>
         rw [ee] at ec
         intro G6 H6 y s6 ey
         obtain ⟨G7, s7, e7⟩ := EOk.c s6 ey
         dsimp only at ec
         split at ec
         ·rename_i y' eq
          cases ec
          rw [eq] at e7
          have s27 := (s3.trans s5).trans s7
          have g7 := s27.off h2 (fun xs z => nomatch z) g2
          refine ⟨s27.h _ _ h2, Nat.lt_of_le_of_lt (Nat.le_trans hzl (Nat.le_trans hi hlen)) (by decide), hlt, by rw [List.length_append]; exact Nat.succ_le_succ hzl, G7, rs ++ [y'], rest', aHu (st.trans s27) g7, g7, a9, (rp.mono s27.g).append (.cons e7 .nil), em3, ?_⟩
          rw [<- er, <- em2, List.append_assoc]
          rfl
         ·cases ec
 ·have e : i = ds.length := by omega
  subst e
  rw [List.drop_length] at em2
  cases em2
  rw [List.append_nil] at er
  subst er
  exact .inl ⟨j2, hds G2 H2 _ (s1.trans st) ⟨D, _, rfl, s1.h.free hD, g2, h2, .lst rp⟩⟩
theorem lP {elt iter tg : Expr} {scope : Scope} {ifs : List Expr} {n : Nat} {js ks : List Nat} {fi : En -> Res (List D)} {g : D -> En -> Option En} {ft : En -> Res Bool} {fe : En -> Res Ev} {xs ys : List Str} {cl : List (Str × Addr)} (hc : X.calm = true) (hi : DI X E tg iter fi)
  (hcl : aEb X scope cl) (hcap : nQ X scope cl ys js) (hcell : ∀ y ∈ scope.names, y.2 ≠ .cell) (hkind : scope.kind = .function) (hnames : ∀ y ∈ scope.names, y.2 = .local -> scope.names.lookup y.1 = some .local) (hn : xs.length = n) (hks : ∀ j ∈ ks, j < n)
  (hg : ∀ C s₀ H₀ ex pn, DG (bK X scope cl C (xs ++ ys) s₀ H₀ ex pn) tg ks g) (ht : ∀ C s₀ H₀ ex pn, DTs (bK X scope cl C (xs ++ ys) s₀ H₀ ex pn) ifs ft) (hb : ∀ C s₀ H₀ ex pn, DE (bK X scope cl C (xs ++ ys) s₀ H₀ ex pn) (fun _ => E0) elt fe)
  (hs : ∀ x, foldedSetIterable iter X.env x = pure x := by intro _; rfl) : DE X E (.ListComp elt [⟨tg, iter, ifs, 0⟩] scope pos) (lN n js fi g ft fe) :=
 DE.in ⟨_, xO (xs := xs) (g := tG X.K ks g) (tt := tT X.K (fun _ => E0) ft) (te := tE X.K (fun _ => E0) fe) hc hi hcl hcap hcell hkind hnames hg ht hb hs, zB hc hi hcl hcap hcell hkind hnames hn hks hg ht hb⟩
end
section
variable {X : Cx} {K : PySem.W.Frag}
def rOr (r r' : R2) : R2 := fun x y H Q => r x y H Q \/ r' x y H Q
theorem OpR.or' {f : Value -> Value -> Sem Value} {r r' : R2} (h : OpR X f r) (h' : OpR X f r') : OpR X f (rOr r r') := OpR.or h h'
def aFq : R2 := fun x y H Q => ∃ l b xs zs, x = .ref l /\ y = .ref b /\ Rd H l (.lst xs) /\ Rd H b (.lst zs) /\ xs.length + zs.length <= sizeLine /\ ∀ p, H p = none -> Q (.ref p) (upd H p (.lst (xs ++ zs)))
theorem aBi : OpR X (binaryOp .Add) aFq := by
 intro pins s σ H x y v u Q I rx ry h
 obtain ⟨l, b, xs, zs, rfl, rfl, hH, hB, hz, q⟩ := h
 cases rx
 cases ry
 obtain ⟨z, its, n, r, e⟩ := hH.ok I.hok
 obtain ⟨z2, its2, n2, r2, e2⟩ := hB.ok I.hok
 have hl := r.length
 have hl2 := r2.length
 refine PySem.P.add_list e e2 ?_ (by rw [List.size_toArray, List.size_toArray]; omega)
 have ea : its.toArray ++ its2.toArray = (its ++ its2).toArray := by simp
 rw [ea]
 exact ⟨.ref _, _, I.lnew (t' := s.toks) (r.append r2) (by rw [List.length_append]; omega), rfl, q _ I.fresh⟩
def aC6 : R2 := fun x y H Q => ∃ i j, x = .str i /\ y = .str j /\ i.length + j.length <= sizeLine /\ Q (.str (i ++ j)) H
def dY : Ev -> Option (List D)
 | .p (.list ds) => some ds
 | .b (.list ds) => some ds
 | _ => none
theorem kT {W : Addr -> Option Nat} {Hs G H : Hp} {v : V} {r : Ev} {ds : List D} (gh : Same G H) (h : EOk K W Hs G H v r) (e : dY r = some ds) : ∃ a xs, v = .ref a /\ Rd H a (.lst xs) /\ Reps K G xs ds := by
 cases r with
 | p d =>
  cases d with
  | list es =>
   cases e
   cases h with
   | @lst a xs _ h1 h2 => exact ⟨a, xs, rfl, i7 gh h1, h2⟩
  | _ => cases e
 | b d =>
  cases d with
  | list es =>
   cases e
   obtain ⟨a, i, o, rfl, h1, h2, h3⟩ := h
   cases h3 with
   | @lst xs _ h4 => exact ⟨a, xs, rfl, .inl h2, h4⟩
  | _ => cases e
 | f d => cases e
 | x C => cases e
def dat : Ev -> Option D
 | .p d => some d
 | .b d => some d
 | _ => none
theorem EOk.read {W : Addr -> Option Nat} {Hs G H : Hp} {v : V} {r : Ev} {d : D} (gh : Same G H) (h : EOk K W Hs G H v r) (e : dat r = some d) : Rep K H v d := by
 cases r with
 | p d => cases e; exact Rep.mono gh h
 | b d =>
  cases e
  obtain ⟨a, i, o, rfl, h1, h2, h3⟩ := h
  exact (h3.mono gh).rep h2
 | f d => cases e
 | x C => cases e
open Classical in
noncomputable def qJ (C : Int -> Int -> Prop) (g : Int -> Int -> D) (x y : Ev) : Res Ev := match x, y with
 | .p (.int i), .p (.int j) => if C i j then .ok (.p (g i j)) else .bad
 | _, _ => .bad
def dU (g : Int -> Int -> D) (x y : Ev) : Res Ev := match x, y with
 | .p (.int i), .p (.int j) => .ok (.p (g i j))
 | _, _ => .bad
theorem aF {C : Int -> Int -> Prop} {g : Int -> Int -> D} : NoX (qJ C g) := by
 intro x y A h
 unfold qJ at h
 split at h
 ·split at h <;> cases h
 ·cases h
theorem aJ {g : Int -> Int -> D} : NoX (dU g) := by
 intro x y A h
 unfold dU at h
 split at h <;> cases h
theorem mW {C : Int -> Int -> Prop} {g : Int -> Int -> D} {gv : Int -> Int -> V} (hg : ∀ G i j, Rep K G (gv i j) (g i j)) : OpM K (rI C gv) (qJ C g) := by
 intro W G H v u x y Q gh hx hy hw
 unfold qJ at hw
 split at hw
 ·rename_i i j e1 e2
  rw [e1] at hx; rw [e2] at hy
  cases hx; cases hy
  split at hw
  ·rename_i hc
   exact ⟨i, j, rfl, rfl, hc, hw G H _ (Step.refl gh) (hg G i j)⟩
  ·exact hw.elim
 ·exact hw.elim
theorem t4 {g : Int -> Int -> D} {gv : Int -> Int -> V} (hg : ∀ G i j, Rep K G (gv i j) (g i j)) : OpM K (rI0 gv) (dU g) := by
 intro W G H v u x y Q gh hx hy hw
 unfold dU at hw
 split at hw
 ·rename_i i j e1 e2
  rw [e1] at hx; rw [e2] at hy
  cases hx; cases hy
  exact ⟨i, j, rfl, rfl, hw G H _ (Step.refl gh) (hg G i j)⟩
 ·exact hw.elim
noncomputable abbrev sG : Ev -> Ev -> Res Ev := qJ CMulW fun i j => .int (i * j)
noncomputable abbrev j6 : Ev -> Ev -> Res Ev := qJ nY fun i j => .int (i.fdiv j)
noncomputable abbrev j8 : Ev -> Ev -> Res Ev := qJ (fun _ j => j ≠ 0) fun i j => .int (i.fmod j)
noncomputable abbrev sN : Ev -> Ev -> Res Ev := qJ aAm fun i j => .int (i ^ j.toNat)
abbrev fV : Ev -> Ev -> Res Ev := dU fun i j => .int (i - j)
abbrev ltE : Ev -> Ev -> Res Ev := dU fun i j => .bool (decide (i < j))
abbrev leE : Ev -> Ev -> Res Ev := dU fun i j => .bool (decide (i <= j))
abbrev gtE : Ev -> Ev -> Res Ev := dU fun i j => .bool (decide (j < i))
abbrev geE : Ev -> Ev -> Res Ev := dU fun i j => .bool (decide (j <= i))
theorem g6 : OpM K (rI CMulW fun i j => .int (i * j)) sG := mW fun _ _ _ => .int _
theorem fJ : OpM K (rI nY fun i j => .int (i.fdiv j)) j6 := mW fun _ _ _ => .int _
theorem dH : OpM K (rI (fun _ j => j ≠ 0) fun i j => .int (i.fmod j)) j8 := mW fun _ _ _ => .int _
theorem iN : OpM K (rI aAm fun i j => .int (i ^ j.toNat)) sN := mW fun _ _ _ => .int _
theorem bT : OpM K (rI0 fun i j => .int (i - j)) fV := t4 fun _ _ _ => .int _
def eE (x y : Ev) : Res Ev := match x, y with
 | .p (.int i), .p (.int j) => .ok (.p (.int (i + j)))
 | .p (.str i), .p (.str j) => if i.length + j.length <= 100000 then .ok (.p (.str (i ++ j))) else .bad
 | x, y => match dY x, dY y with
  | some ds, some es => if ds.length + es.length <= 100000 then .ok (.f (.list (ds ++ es))) else .bad
  | _, _ => .bad
theorem bH : NoX eE := by
 intro x y A h
 unfold eE at h
 split at h
 ·cases h
 ·split at h <;> cases h
 ·split at h
  ·split at h <;> cases h
  ·cases h
abbrev aF0 : R2 := rOr (rI0 fun i j => .int (i + j)) (rOr aC6 aFq)
theorem bG : OpR X (binaryOp .Add) aF0 := OpR.or' aFx (OpR.or' rZ aBi)
theorem bW : OpM K aF0 eE := by
 intro W G H v u x y Q gh hx hy hw
 unfold eE at hw
 split at hw
 ·rename_i i j e1 e2
  rw [e1] at hx; rw [e2] at hy
  cases hx; cases hy
  exact .inl ⟨i, j, rfl, rfl, hw G H _ (Step.refl gh) (.int _)⟩
 ·rename_i i j e1 e2
  rw [e1] at hx; rw [e2] at hy
  cases hx; cases hy
  split at hw
  ·rename_i hl
   exact .inr (.inl ⟨i, j, rfl, rfl, Nat.le_trans hl (by decide), hw G H _ (Step.refl gh) (.str _)⟩)
  ·exact hw.elim
 ·split at hw
  ·rename_i ds es e1 e2
   obtain ⟨a, xs, rfl, h1, h2⟩ := kT gh hx e1
   obtain ⟨b, ys, rfl, h3, h4⟩ := kT gh hy e2
   split at hw
   ·rename_i hl
    refine .inr (.inr ⟨a, b, xs, ys, rfl, rfl, h1, h3, by rw [h2.length, h4.length]; exact Nat.le_trans hl (by decide), fun p hp => ?_⟩)
    exact hw _ _ _ (Step.lay gh hp) ⟨p, _, rfl, hp, gh.free hp, a9, .lst (h2.append h4)⟩
   ·exact hw.elim
  ·exact hw.elim
theorem jH {p : Int -> Int -> Bool} : OpM K (rI0 fun i j => .bl (p i j)) (dU fun i j => .bool (p i j)) := t4 fun _ _ _ => .bl _
mutual
theorem Rep.reads {P : Program} {w : World} {H : Hp} {h : Heap} (ok : HOk P w H h) : ∀ {v : V} {d : D}, Rep K H v d -> d.canLay0 = true -> ∀ {u : Value}, RelV v u -> ∃ as, Reads h u d as
 | _, _, .non, _, _, e => by cases e; exact ⟨_, Reads.none⟩
 | _, _, .bl b, _, _, e => by cases e; exact ⟨_, Reads.bool b⟩
 | _, _, .int i, _, _, ⟨t, e⟩ => by subst e; exact ⟨_, Reads.int i t⟩
 | _, _, .str i, _, _, ⟨t, e⟩ => by subst e; exact ⟨_, Reads.str i t⟩
 | _, _, .tup hh r, hc, _, e => by
  have e : _ = Value.ref _ := e
  subst e
  obtain ⟨_, its, rv, o, ho, hcl, n, hd⟩ := (show ObjOk P w H h _ _ from ok _ _ hh)
  obtain ⟨as, q⟩ := Reps.reads ok r (by simpa [PyData.canLay0] using hc) rv
  exact ⟨as, reads_tuple_at ho hcl hd (by simpa using q)⟩
 | _, _, .lst hh r, hc, _, e => by
  have e : _ = Value.ref _ := e
  subst e
  obtain ⟨_, its, n, rv, ho⟩ := hh.ok ok
  obtain ⟨as, q⟩ := Reps.reads ok r (by simpa [PyData.canLay0] using hc) rv
  exact ⟨_, reads_list_at ho rfl rfl (by simpa using q)⟩
 | _, _, .dT _ _, hc, _, _ => by simp [PyData.canLay0] at hc
 | _, _, .dK _ _, hc, _, _ => by simp [PyData.canLay0] at hc
theorem Reps.reads {P : Program} {w : World} {H : Hp} {h : Heap} (ok : HOk P w H h) : ∀ {vs : List V} {ds : List D}, Reps K H vs ds -> PyData.canLayAll0 ds = true -> ∀ {us : List Value}, Vals vs us -> ∃ as, ReadsAll h us ds as
 | _, _, .nil, _, _, .nil => ⟨_, ReadsAll.nil⟩
 | _, _, .cons hd r, hc, _, .cons rv rt => by
  simp only [PyData.canLayAll0, Bool.and_eq_true] at hc
  obtain ⟨as, q⟩ := Rep.reads ok hd hc.1 rv
  obtain ⟨bs, p⟩ := Reps.reads ok r hc.2 rt
  exact ⟨_, ReadsAll.cons q p⟩
end
def aHv (K : PySem.W.Frag) (ng : Bool) : R2 := fun x y H Q => ∃ d e, Rep K H x d /\ Rep K H y e /\ SeqAt.shaped d = true /\ SeqAt.shaped e = true /\ Q (.bl (if ng then !PyData.eqv d e else PyData.eqv d e)) H
theorem qI {K : PySem.W.Frag} (hu : X.A.units + 64 < cLine) : OpR X (compareOp .Eq) (aHv K false) := by
 intro pins s σ H x y v u Q I rx ry h
 obtain ⟨d, e, h1, h2, o1, o2, q⟩ := h
 obtain ⟨as, r1⟩ := h1.reads I.hok (Bool.and_eq_true_iff.mp o1).1 rx
 obtain ⟨bs, r2⟩ := h2.reads I.hok (Bool.and_eq_true_iff.mp o2).1 ry
 exact eq_dataH r1 r2 o1 o2 hu ⟨.bl _, H, I, rfl, q⟩
theorem rC {K : PySem.W.Frag} (hu : X.A.units + 64 < cLine) : OpR X (compareOp .NotEq) (aHv K true) := by
 intro pins s σ H x y v u Q I rx ry h
 obtain ⟨d, e, h1, h2, o1, o2, q⟩ := h
 obtain ⟨as, r1⟩ := h1.reads I.hok (Bool.and_eq_true_iff.mp o1).1 rx
 obtain ⟨bs, r2⟩ := h2.reads I.hok (Bool.and_eq_true_iff.mp o2).1 ry
 exact ne_dataH r1 r2 o1 o2 hu ⟨.bl _, H, I, rfl, q⟩
def eqE (ng : Bool) (x y : Ev) : Res Ev := match dat x, dat y with
 | some d, some e => if SeqAt.shaped d = true /\ SeqAt.shaped e = true then .ok (.p (.bool (if ng then !PyData.eqv d e else PyData.eqv d e))) else .bad
 | _, _ => .bad
theorem g8 {ng : Bool} : NoX (eqE ng) := by
 intro x y A h
 unfold eqE at h
 split at h
 ·split at h <;> cases h
 ·cases h
theorem oJ {ng : Bool} : OpM K (aHv K ng) (eqE ng) := by
 intro W G H v u x y Q gh hx hy hw
 unfold eqE at hw
 split at hw
 ·rename_i d e e1 e2
  split at hw
  ·rename_i hs
   exact ⟨d, e, hx.read gh e1, hy.read gh e2, hs.1, hs.2, hw G H _ (Step.refl gh) (.bl _)⟩
  ·exact hw.elim
 ·exact hw.elim
def pC (ng : Bool) (x : Ev) : Res Ev := match x with
 | .p .none => .ok (.p (.bool (!ng)))
 | .p _ => .ok (.p (.bool ng))
 | .b _ => .ok (.p (.bool ng))
 | _ => .bad
def mUn (op : Ev -> Res Ev) (fa : En -> Res Ev) : En -> Res Ev := fun en => (fa en).bind fun x => op x.c
variable {E : L2.St -> XK} {a b : Expr} {fa fb : En -> Res Ev} {pos : Pos}
theorem p9 {ng : Bool} {W : Addr -> Option Nat} {G H : Hp} {v : V} {x : Ev} {Q : VK} (gh : Same G H) (hx : EOk K W H G H v x.c) {EE : XK} (hw : wpR (pC ng x.c) (PostE K W G H Q) (PostX EE G H)) : Q (.bl (if ng then !decide (v = .non) else decide (v = .non))) H := by
 unfold pC at hw
 split at hw
 ·rename_i e
  rw [e] at hx
  cases hx
  have z := hw G H _ (Step.refl gh) (.bl _)
  cases ng <;> exact z
 ·rename_i d e e2
  rw [e2] at hx
  have nv : v ≠ .non := by
   intro z
   subst z
   have hx : Rep K G V.non d := hx
   cases hx
   exact e rfl
  have z := hw G H _ (Step.refl gh) (.bl _)
  rw [decide_eq_false nv]
  cases ng <;> exact z
 ·rename_i d e
  rw [e] at hx
  obtain ⟨a, i, o, rfl, h1⟩ := hx
  have z := hw G H _ (Step.refl gh) (.bl _)
  cases ng <;> exact z
 ·exact hw.elim
theorem aDy {j pos'} (ha : DE X E a fa) : DE X E (.Compare a [.Is] [.Constant .none j pos'] pos) (mUn (pC false) fa) := by
 obtain ⟨t, p, m⟩ := ha.out
 refine DE.in ⟨_, aGb (aAd p), fun B G0 G W H σ en Q hh hs hw => m B G0 G W H σ en _ hh hs (DE.go hw fun x G1 H1 v s1 e1 h1 => ?_)⟩
 exact p9 (ng := false) s1.gh e1.cc h1
theorem aAz {j pos'} (ha : DE X E a fa) : DT X E (.Compare a [.Is] [.Constant .none j pos'] pos) (cY (mUn (pC false) fa)) := by
 obtain ⟨t, p, m⟩ := ha.out
 refine DT.in ⟨_, aE9 (aAd p), fun B G0 G W H σ en Q hh hs hw => ?_⟩
 have k := (aDy (pos := pos) (j := j) (pos' := pos') ha)
 refine lH (t := aIr t) (fa := mUn (pC false) fa) (E := E) (X := X) (fun B G0 G W H σ en Q hh hs hw => m B G0 G W H σ en _ hh hs (DE.go hw fun x G1 H1 v s1 e1 h1 => p9 (ng := false) s1.gh e1.cc h1)) B G0 G W H σ en Q hh hs hw
def j9 (x : Ev) : Res Ev := match x with
 | .p (.int i) => .ok (.p (.int (-i)))
 | _ => .bad
theorem kL (ha : DE X E a fa) : DE X E (.UnaryOp .USub a pos) (mUn j9 fa) := by
 obtain ⟨t, p, m⟩ := ha.out
 refine DE.in ⟨_, aHg aD7 p, fun B G0 G W H σ en Q hh hs hw => m B G0 G W H σ en _ hh hs (DE.go hw fun x G1 H1 v s1 e1 h1 => ?_)⟩
 unfold j9 at h1
 split at h1
 ·rename_i i e
  rw [e] at e1
  cases e1
  exact ⟨i, rfl, h1 G1 H1 _ (Step.refl s1.gh) (.int _)⟩
 ·exact h1.elim
def eP : Ev -> Option (List D)
 | .p (.list ds) => some ds
 | .b (.list ds) => some ds
 | .p (.tuple ds) => some ds
 | _ => none
def ixE (x y : Ev) : Res Ev := match y with
 | .p (.int i) => match eP x with
  | some ds => match atI ds i with
   | some d => .ok (.p d)
   | none => .bad
  | none => .bad
 | _ => .bad
theorem aGa : NoX ixE := by
 intro x y A h
 unfold ixE at h
 split at h
 ·split at h
  ·split at h <;> cases h
  ·cases h
 ·cases h
theorem o9 {G : Hp} {xs : List V} {ds : List D} {i : Int} {d : D} (r : Reps K G xs ds) (h : atI ds i = some d) : ∃ x, atI xs i = some x /\ Rep K G x d := by
 unfold atI at h ⊢
 rw [r.length]
 cases e : ixN ds.length i with
 | none => rw [e] at h; cases h
 | some j =>
  rw [e] at h
  exact r.get' h
def aIp (K : PySem.W.Frag) : R2 := fun x y H Q => aIt K x y H Q \/ aIm K x y H Q
theorem aI9 : IxR X (aIp X.K) := ix_list.or aEj
theorem aHf : OpM K (aIp K) ixE := by
 intro W G H v u x y Q gh hx hy hw
 unfold ixE at hw
 split at hw
 ·rename_i i ey
  rw [ey] at hy
  cases hy
  split at hw
  ·rename_i ds ed
   split at hw
   ·rename_i d ea
    cases ex : x.c with
    | p dd =>
     rw [ex] at ed hx
     cases dd with
     | list es =>
      cases ed
      cases hx with
      | @lst a xs _ h1 h2 =>
       obtain ⟨z, h3, h4⟩ := o9 h2 ea
       exact .inl ⟨a, xs, i, z, rfl, rfl, .inl (i7 gh h1), h3, hw G H _ (Step.refl gh) h4⟩
     | tuple es =>
      cases ed
      cases hx with
      | @tup a xs _ h1 h2 =>
       obtain ⟨z, h3, h4⟩ := o9 h2 ea
       exact .inr ⟨a, xs, i, z, rfl, rfl, SqT.of (gh _ _ h1), h3, hw G H _ (Step.refl gh) h4⟩
     | _ => cases ed
    | b dd =>
     rw [ex] at ed hx
     cases dd with
     | list es =>
      cases ed
      obtain ⟨a, k, o, rfl, h1, h2, h3⟩ := hx
      cases h3 with
      | @lst xs _ h4 =>
       obtain ⟨z, h5, h6⟩ := o9 h4 ea
       exact .inl ⟨a, xs, i, z, rfl, rfl, .inl (.inl h2), h5, hw G H _ (Step.refl gh) h6⟩
     | _ => cases ed
    | f dd => rw [ex] at ed; cases ed
    | x C => rw [ex] at ed; cases ed
   ·exact hw.elim
  ·exact hw.elim
 ·exact hw.elim
theorem bI (ha : DE X E a fa) (hb : DE X E b fb) (hs : vR b) : DE X E (.Subscript a b pos) (aH ixE fa fb) := by
 obtain ⟨ta, pa, ma⟩ := ha.out
 obtain ⟨tb, pb, mb⟩ := hb.out
 exact DE.in ⟨_, aH1 aI9 pa pb hs, lM ma mb aHf aGa⟩
def fS (rs : List Ev) : Res Ev := match rs with
 | [x] => match eP x with
  | some ds => .ok (.p (.int ds.length))
  | none => .bad
 | _ => .bad
theorem gS : aAn fS := by
 intro rs C h
 unfold fS at h
 split at h
 ·split at h <;> cases h
 ·cases h
theorem kX : mX K (fun xs H Q => ∃ p ys, xs = [.ref p] /\ (SqL K H p ys \/ SqT K H p ys) /\ Q (.int ys.length) H) fS := by
 intro W Hs G H vs rs Q gh he hw
 unfold fS at hw
 split at hw
 ·rename_i x
  match vs, he with
  | [v], ⟨h1, _⟩ =>
   split at hw
   ·rename_i ds ed
    cases x with
    | p dd =>
     cases dd with
     | list es =>
      cases ed
      cases h1 with
      | @lst a xs _ k1 k2 => exact ⟨a, xs, rfl, .inl (.inl (i7 gh k1)), by rw [k2.length]; exact hw G H _ (Step.refl gh) (.int _)⟩
     | tuple es =>
      cases ed
      cases h1 with
      | @tup a xs _ k1 k2 => exact ⟨a, xs, rfl, .inr (SqT.of (gh _ _ k1)), by rw [k2.length]; exact hw G H _ (Step.refl gh) (.int _)⟩
     | _ => cases ed
    | b dd =>
     cases dd with
     | list es =>
      cases ed
      obtain ⟨a, k, o, rfl, k1, k2, k3⟩ := h1
      cases k3 with
      | @lst xs _ k4 => exact ⟨a, xs, rfl, .inl (.inl (.inl k2)), by rw [k4.length]; exact hw G H _ (Step.refl gh) (.int _)⟩
     | _ => cases ed
    | f dd => cases ed
    | x C => cases ed
   ·exact hw.elim
 ·exact hw.elim
def vF (rs : List Ev) : Res Ev := match rs with
 | [.p (.int i)] => .ok (.p (.int (if i < 0 then -i else i)))
 | _ => .bad
theorem lL : aAn vF := by
 intro rs C h
 unfold vF at h
 split at h <;> cases h
theorem qE : mX K (fun xs H Q => ∃ i, xs = [.int i] /\ Q (.int (if i < 0 then -i else i)) H) vF := by
 intro W Hs G H vs rs Q gh he hw
 unfold vF at hw
 split at hw
 ·rename_i i
  match vs, he with
  | [v], ⟨h1, _⟩ => cases h1; exact ⟨i, rfl, hw G H _ (Step.refl gh) (.int _)⟩
 ·exact hw.elim
def aGn (f : Int -> Int -> Int) (rs : List Ev) : Res Ev := match rs with
 | [.p (.int i), .p (.int j)] => .ok (.p (.int (f i j)))
 | _ => .bad
theorem aC8 {f : Int -> Int -> Int} : aAn (aGn f) := by
 intro rs C h
 unfold aGn at h
 split at h <;> cases h
theorem aFc {f : Int -> Int -> Int} : mX K (fun xs H Q => ∃ i j, xs = [.int i, .int j] /\ Q (.int (f i j)) H) (aGn f) := by
 intro W Hs G H vs rs Q gh he hw
 unfold aGn at hw
 split at hw
 ·rename_i i j
  match vs, he with
  | [v, u], ⟨h1, h2, _⟩ => cases h1; cases h2; exact ⟨i, j, rfl, hw G H _ (Step.refl gh) (.int _)⟩
 ·exact hw.elim
def listE (rs : List Ev) : Res Ev := match rs with
 | [x] => match eP x with
  | some ds => .ok (.f (.list ds))
  | none => .bad
 | _ => .bad
theorem dN : aAn listE := by
 intro rs C h
 unfold listE at h
 split at h
 ·split at h <;> cases h
 ·cases h
theorem eU : mX K (fun xs H Q => ∃ p ys, xs = [.ref p] /\ (SqL K H p ys \/ SqT K H p ys) /\ ∀ l, H l = none -> Q (.ref l) (upd H l (.lst ys))) listE := by
 intro W Hs G H vs rs Q gh he hw
 unfold listE at hw
 split at hw
 ·rename_i x
  match vs, he with
  | [v], ⟨h1, _⟩ =>
   split at hw
   ·rename_i ds ed
    have fin : ∀ {xs : List V}, Reps K G xs ds -> ∀ l, H l = none -> Q (.ref l) (upd H l (.lst xs)) := fun r l hl =>
     hw _ _ _ (Step.lay gh hl) ⟨l, _, rfl, hl, gh.free hl, a9, .lst r⟩
    cases x with
    | p dd =>
     cases dd with
     | list es =>
      cases ed
      cases h1 with
      | @lst a xs _ k1 k2 => exact ⟨a, xs, rfl, .inl (.inl (i7 gh k1)), fin k2⟩
     | tuple es =>
      cases ed
      cases h1 with
      | @tup a xs _ k1 k2 => exact ⟨a, xs, rfl, .inr (SqT.of (gh _ _ k1)), fin k2⟩
     | _ => cases ed
    | b dd =>
     cases dd with
     | list es =>
      cases ed
      obtain ⟨a, k, o, rfl, k1, k2, k3⟩ := h1
      cases k3 with
      | @lst xs _ k4 => exact ⟨a, xs, rfl, .inl (.inl (.inl k2)), fin k4⟩
     | _ => cases ed
    | f dd => cases ed
    | x C => cases ed
   ·exact hw.elim
 ·exact hw.elim
def tyD : D -> String
 | .none => "NoneType"
 | .bool _ => "bool"
 | .int _ => "int"
 | .str _ => "str"
 | .list _ => "list"
 | .tuple _ => "tuple"
 | .dict _ => "dict"
def aFt (K : PySem.W.Frag) (c : Value) (x : Ev) : Res Ev := match dat x with
 | some d => match PySem.W.kitOne K (.type (tyD d)) c with
  | some b => .ok (.p (.bool b))
  | none => .bad
 | none => .bad
theorem aEu {H : Hp} {v : V} {d : D} (h : Rep K H v d) : q9 K H v (.type (tyD d)) := by
 cases h with
 | non => exact .non
 | bl b => exact .bl b
 | int i => exact .int i
 | str i => exact .str i
 | tup h _ => exact .tup h
 | lst h _ =>
  rcases h with h | ⟨o, h⟩
  ·exact .lst h
  ·exact .frz h
 | dT h _ => exact .dT h
 | dK h _ => exact .dK h
theorem aAy {e c : Expr} {v : V} {cv : Value} {p : Pos} (hg : Gl X "isinstance") (hm : X.mg "isinstance" = none) (hv : (∃ n, v = .ty n) \/ ∃ a, v = .ref a) (hr : RelV v cv) (he : DE X E e fa) (hc : PE X c (tC v))
  (h1 : starEach [e, c] X.env = (false, eval e X.env) :: starEach [c] X.env := by rfl) (h2 : (backTo pos (starEach [c] X.env)).any (·.1) = false := by rfl) (h3 : starEach [c] X.env = (false, eval c X.env) :: starEach [] X.env := by rfl) :
  DE X E (.Call (.Name "isinstance" p) [e, c] [] pos) (mUn (aFt X.K cv) fa) := by
 obtain ⟨t, q, m⟩ := he.out
 refine DE.in ⟨_, aFw hg hm q hc h1 h2 h3, fun B G0 G W H σ en Q hh hs hw => m B G0 G W H σ en _ hh hs (DE.go hw fun x G1 H1 u s1 e1 k1 => ?_)⟩
 unfold aFt at k1
 split at k1
 ·rename_i d ed
  split at k1
  ·rename_i b eb
   exact ⟨u, v, .type (tyD d), cv, b, rfl, hv, .plain (aEu (EOk.read s1.gh e1 ed)), hr, eb, k1 G1 H1 _ (Step.refl s1.gh) (.bl _)⟩
  ·exact k1.elim
 ·exact k1.elim
end
section
variable {P : Program} {w : World} {K : PySem.W.Frag} {mg : Str -> Option Value} {base : Heap}
structure Def (K : PySem.W.Frag) (mg : Str -> Option Value) (x : Str) (ps : List Str) (st : Stmt) : Prop where
 ex : ∃ f fd, Fun K x x st f fd /\ Binds K fd ps [] /\ PySem.W.keepIn K (.ref f) = true /\ mg x = some (.ref f)
structure Cal (P : Program) (w : World) (K : PySem.W.Frag) (mg : Str -> Option Value) (base : Heap) (k : Nat) (x : Str) (n : Nat) (m : List L -> Res L) : Prop where
 ex : ∃ f fd ps, FnOk P w K mg base (CXr P w) k f fd ps (spM K n m) /\ Binds K fd ps [] /\ PySem.W.keepIn K (.ref f) = true /\ mg x = some (.ref f)
theorem qC {x : Str} {st : Stmt} {N ps : List Str} {k n : Nat} {m : List L -> Res L} (Df : Def K mg x ps st) (S : bL N ps (aN st)) (hn : n = ps.length)
  (hbody : ∀ (f : Addr) (cdv : Value) (A : Around) (outer : List Env) (s : Shared) (H : Hp) (E : XK), Room k (A.deeper (envOfC x (aN st) s.heap.objs.size f cdv)) ->
   ∃ fm, DSs (pM (CXr P w) P w K mg base N x (aN st) f cdv A outer s H E) (fun _ => E) (dF st) fm /\ ∀ ls, m ls = .bad \/ fN N.length fm ls = m ls) : Cal P w K mg base (k + 1) x n m := by
 obtain ⟨f, fd, F, b, kp, h⟩ := Df.ex
 exact ⟨f, fd, ps, fnM F S hn fun cdv A outer s H E hr => hbody f cdv A outer s H E hr, b, kp, h⟩
end
section
variable {X : Cx} {E : L2.St -> XK} {k j : Nat} {x : Str} {p pos : Pos} {e : Expr} {es : List Expr} {fr : En -> Res (List Ev)} {n : Nat} {m : List L -> Res L}
theorem aQ (c : Cal X.prog X.w X.K X.mg X.base j x n m) (hr : Room k X.A) (hx : jM (CXr X.prog X.w) X E) (ha : DA X E (e :: es) fr) (hg : Gl X x := by rfl) (hjk : j <= k := by decide) (hdb : (x == ("__debug__" : Str)) = false := by decide)
  (he : starEach (e :: es) X.env = (false, eval e X.env) :: starEach es X.env := by rfl) (hpl : (backTo pos (starEach es X.env)).any (·.1) = false := by rfl) :
  DE X E (.Call (.Name x p) (e :: es) [] pos) (aX n m fr) := by
 obtain ⟨f, fd, ps, F, b, kp, h⟩ := c.ex
 exact aDl (F.mono hjk) hr hg h kp b hx ha hdb he hpl
theorem dv (i : Nat) (hN : X.N[i]? = some x := by rfl) (hv : Vis X.env.scope x := by first | exact Or.inl rfl | exact Or.inr (Or.inl rfl) | exact Or.inr (Or.inr rfl)) (hd : (x == ("__debug__" : Str)) = false := by decide) (hcd : (x == ("__classdict__" : Str)) = false := by decide) :
  DE X E (.Name x pos) (aE i) := aF1 hN hv hd hcd
theorem u64 {A : Around} (hr : Room k A) : A.units + 64 < cLine := by have := hr.un; omega
theorem u1 {A : Around} (hr : Room k A) : A.units + 1 < cLine := by have := hr.un; omega
theorem eW {scope : Scope} {cl : List (Str × Addr)} : nQ X scope cl [] [] := ⟨rfl, fun i y j h _ => by simp at h⟩
theorem iK {scope : Scope} {cl : List (Str × Addr)} {y : Str} {ys : List Str} {j : Nat} {js : List Nat} (h : X.N[j]? = some y /\ (X.env.kindOf y = some .cell \/ X.env.kindOf y = some .free) /\ ((relabel scope X.env).names.lookup y = some .cell \/ (relabel scope X.env).names.lookup y = some .free) /\ (X.env.cells.lookup y).isSome = true /\ cl.lookup y = X.env.cells.lookup y)
  (t : nQ X scope cl ys js) : nQ X scope cl (y :: ys) (j :: js) :=
 ⟨by rw [List.length_cons, List.length_cons, t.len], fun i z q e1 e2 => by
  cases i with
  | zero => simp at e1 e2; subst e1 e2; exact h
  | succ i => exact t.at_ i z q (by simpa using e1) (by simpa using e2)⟩
theorem xY {scope : Scope} {cl : List (Str × Addr)} {ys : List Str} {js : List Nat} (clos : closureFor scope X.env = pure cl) (sub : ∀ q ∈ cl, X.env.cells.lookup q.1 = some q.2) (cap : nQ X scope cl ys js) (hcell : ∀ y ∈ scope.names, y.2 ≠ .cell) (hfree : ∀ q ∈ scope.names, q.2 = .free -> q.1 ∈ ys) : aEb X scope cl := by
 refine ⟨clos, fun y c h => sub _ (PySem.mem_of_lookup h), fun y hy => ?_⟩
 have hm : y ∈ ys := by
  rcases hy with hy | hy
  ·have m := PySem.mem_of_lookup hy
   obtain ⟨⟨n0, k0⟩, m0, e0⟩ := List.mem_map.mp m
   dsimp only at e0
   split at e0
   ·rename_i z
    injection e0 with e1 e2
    subst e1
    have : k0 = .free := by
     cases k0 <;> simp at z ⊢
    exact hfree _ m0 this
   ·injection e0 with e1 e2
    exact absurd e2 (hcell _ m0)
  ·have m := PySem.mem_of_lookup hy
   obtain ⟨⟨n0, k0⟩, m0, e0⟩ := List.mem_map.mp m
   dsimp only at e0
   split at e0
   ·injection e0 with e1 e2
    cases e2
   ·injection e0 with e1 e2
    subst e1
    exact hfree _ m0 e2
 obtain ⟨i, hi, e⟩ := List.mem_iff_getElem.mp hm
 have hj : i < js.length := by rw [<- cap.len]; exact hi
 obtain ⟨_, _, _, h4, h5⟩ := cap.at_ i y js[i] (by rw [List.getElem?_eq_getElem hi, e]) (List.getElem?_eq_getElem hj)
 rw [h5]
 exact Option.isSome_iff_exists.mp h4
theorem lW {K : PySem.W.Frag} {B G0 G H : Hp} {W : Addr -> Option Nat} {σ : L2.St} {en : En} {i : Nat} {a : Addr} {o' : HO} {d' : D} (hh : SimH B G0 G W H) (hs : SimS K W G H σ en) (hW : W a = some i) (hv : σ[i]? = some (some (.ref a))) (hc : Cont K G o' d') :
  SimH B G0 G W (upd H a o') /\ SimS K W G (upd H a o') σ (en.set i (some (.o d'))) := by
 obtain ⟨g1, g2, g3⟩ := hh.wf a i hW
 refine ⟨⟨fun b o e => ?_, fun b o e => ?_, hh.g0, hh.gb, fun b j e => ?_⟩, by rw [List.length_set]; exact hs.1, fun j l e => ?_⟩
 ·rw [a7 (bR e g1)]; exact hh.gh b o e
 ·rw [a7 (bR e g2)]; exact hh.bh b o e
 ·obtain ⟨k1, k2, o, k3, k4⟩ := hh.wf b j e
  refine ⟨k1, k2, ?_⟩
  by_cases z : b = a
  ·rw [z, a9]; exact ⟨_, rfl, hc.mut⟩
  ·rw [a7 z]; exact ⟨o, k3, k4⟩
 ·rw [List.getElem?_set] at e
  by_cases hj : i = j
  ·subst hj
   rw [if_pos rfl] at e
   split at e
   ·cases e
    exact ⟨_, hv, a, o', rfl, hW, a9, hc⟩
   ·cases e
  ·rw [if_neg hj] at e
   obtain ⟨v, e1, e2⟩ := hs.2 j l e
   refine ⟨v, e1, ?_⟩
   cases l with
   | p d => exact e2
   | x C => exact e2
   | h a => exact e2
   | o d =>
    obtain ⟨b, ob, h1, h2, h3, h4⟩ := e2
    refine ⟨b, ob, h1, h2, ?_, h4⟩
    rw [a7 (fun z => by rw [z, hW] at h2; exact hj (Option.some.inj h2))]
    exact h3
def dE (i : Nat) (fe : En -> Res Ev) : MS := fun en => match en[i]? with
 | some (some (.o (.list ds))) => match fe en with
  | .ok r => match r.c with
   | .p d => if ds.length <= 100000 then some (.nx (en.set i (some (.o (.list (ds ++ [d])))))) else none
   | _ => none
  | .exc C => some (.ex C en)
  | .bad => none
 | _ => none
theorem eC {i : Nat} {fe : En -> Res Ev} {st : Stmt} (he : DE X E e fe) (hp : ∀ t, PE X e t -> PS X st (vY (tBM X.K "list" wI (aDs i) (aC9 t aHb)))) : DS X E st (dE i fe) := by
 obtain ⟨t, q, mm⟩ := he.out
 refine DS.in ⟨_, hp t q, fun B G0 G W H σ en Dn hh hs hw => ?_⟩
 unfold dE at hw
 split at hw
 ·rename_i ds ei
  obtain ⟨v, e1, a, o, rfl, e2, e3, e4⟩ := hs.2 i _ ei
  cases e4 with
  | @lst xs _ rp =>
  refine ⟨_, e1, .inl ⟨rfl, _, SqL.of e3⟩, mm B G0 G W H σ en _ hh hs ?_⟩
  cases ef : fe en with
  | bad => rw [ef] at hw; exact hw
  | exc C => rw [ef] at hw; exact fun G1 H1 s => hw G1 W H1 σ (hh.step s) (hs.step s)
  | ok r =>
   rw [ef] at hw
   intro G1 H1 y s ey
   obtain ⟨G2, s2, ey2⟩ := ey.c s
   dsimp only at hw
   cases er : r.c with
   | p d =>
    rw [er] at hw ey2
    dsimp only at hw
    split at hw
    ·rename_i hl
     have hx := s2.h _ _ e3
     refine ⟨a, xs, y, rfl, rfl, hx, Nat.lt_of_le_of_lt (by rw [rp.length]; exact hl) (by decide), ?_⟩
     obtain ⟨w1, w2⟩ := lW (o' := .lst (xs ++ [y])) (d' := .list (ds ++ [d])) (hh.step s2) (hs.step s2) e2 e1 (.lst ((rp.mono s2.g).append (.cons ey2 .nil)))
     exact hw _ _ _ _ w1 w2
    ·exact hw.elim
   | f d => rw [er] at hw; exact hw.elim
   | b d => rw [er] at hw; exact hw.elim
   | x C => rw [er] at hw; exact hw.elim
 ·exact hw.elim
end
end M
namespace SRT
open PySem PySem.W PyProof.Rows
structure Ord (lt : Nat -> Nat -> Bool) : Prop where
 as : ∀ i j, lt i j = true -> lt j i = false
 tr : ∀ i j k, lt j i = false -> lt k j = false -> lt k i = false
section
variable {lt : Nat -> Nat -> Bool} {n : Nat} {cmp : Nat -> Nat -> (Bool -> Shared -> Prop) -> Shared -> Prop} {s : Shared}
def le (lt : Nat -> Nat -> Bool) (a b : Nat) : Prop := lt b a = false
theorem Ord.rf (o : Ord lt) (i : Nat) : le lt i i := by
 cases e : lt i i with
 | false => exact e
 | true => have := o.as i i e; rw [e] at this; cases this
theorem Ord.tot (o : Ord lt) {i j : Nat} (h : lt i j = true) : le lt i j := o.as i j h
def Pt (p : Array Nat) (i : Nat) : Nat := p.getD i 0
def Sd (lt : Nat -> Nat -> Bool) (p : Array Nat) (m : Nat) : Prop := ∀ i j, i <= j -> j < m -> le lt (Pt p i) (Pt p j)
def NI (lt : Nat -> Nat -> Bool) (p : Array Nat) (m : Nat) : Prop := ∀ i j, i <= j -> j < m -> le lt (Pt p j) (Pt p i)
def Pm (n : Nat) (p : Array Nat) : Prop := p.Perm (List.range n).toArray
theorem Pm.size {p : Array Nat} (h : Pm n p) : p.size = n := by
 have := h.size_eq
 simpa using this
theorem Pm.bd {p : Array Nat} (h : Pm n p) (hn : 0 < n) (i : Nat) : Pt p i < n := by
 unfold Pt
 by_cases hi : i < p.size
 ·have e : p.getD i 0 = p[i] := by simp [Array.getD, hi]
  rw [e]
  have : p[i] ∈ (List.range n).toArray := h.mem_iff.mp (Array.getElem_mem hi)
  simpa using this
 ·have e : p.getD i 0 = 0 := by simp [Array.getD, hi]
  rw [e]; exact hn
theorem wC {p q : Array Nat} {i j : Nat} (h : p[i]? = q[j]?) : Pt p i = Pt q j := by
 unfold Pt
 rw [Array.getD_eq_getD_getElem?, Array.getD_eq_getD_getElem?, h]
theorem nO {p : Array Nat} (h : Pm n p) (i j : Nat) : Pm n (kas_rev p i j) := (mirror_perm _ _ _ _).trans h
theorem nE {p : Array Nat} {i j : Nat} (hj : j <= p.size) (k : Nat) : Pt (kas_rev p i j) k = if i <= k /\ k < j then Pt p (i + j - 1 - k) else Pt p k := by
 have e := getElem?_mirror_all (xs := p) (i := i) hj k
 split
 ·rename_i h
  rw [if_pos h] at e
  exact wC e
 ·rename_i h
  rw [if_neg h] at e
  exact wC e
variable (hc : ∀ i j C, i < n -> j < n -> C (lt i j) s -> cmp i j C s) (hn : 0 < n) (o : Ord lt)
include hc hn
theorem t8 {Q : Nat -> Shared -> Prop} {p : Array Nat} (hp : Pm n p) : ∀ (f a : Nat), (∀ m, a <= m -> m <= a + f -> (∀ k, a <= k -> k < m -> le lt (Pt p (k - 1)) (Pt p k)) -> (m < a + f -> lt (Pt p m) (Pt p (m - 1)) = true) -> Q m s) ->
  (kas_asc p f a).kasWp cmp Q s
 | 0, a, h => h a (Nat.le_refl _) (Nat.le_refl _) (fun k h1 h2 => absurd h2 (by omega)) (fun h => absurd h (by omega))
 | f + 1, a, h => by
  refine hc _ _ _ (hp.bd hn _) (hp.bd hn _) ?_
  show KasT.kasWp cmp (if lt (Pt p a) (Pt p (a - 1)) = true then .ret a else kas_asc p f (a + 1)) Q s
  cases e : lt (Pt p a) (Pt p (a - 1)) with
  | true =>
   rw [if_pos rfl]
   exact h a (Nat.le_refl _) (by omega) (fun k h1 h2 => absurd h2 (by omega)) fun _ => e
  | false =>
   rw [if_neg Bool.false_ne_true]
   refine t8 hp f (a + 1) fun m h1 h2 h3 h4 => h m (by omega) (by omega) (fun k k1 k2 => ?_) fun z => h4 (by omega)
   by_cases ek : k = a
   ·subst ek; exact e
   ·exact h3 k (by omega) k2
include o
omit hc hn in
theorem aFo {p : Array Nat} {a m : Nat} (h1 : 1 <= a) (hs : Sd lt p a) (hk : ∀ k, a <= k -> k < m -> le lt (Pt p (k - 1)) (Pt p k)) : Sd lt p m := by
 intro i j hij hj
 induction j with
 | zero =>
  have : i = 0 := by omega
  subst this
  exact o.rf _
 | succ j ih =>
  by_cases e : i = j + 1
  ·subst e; exact o.rf _
  ·have ih := ih (by omega) (by omega)
   by_cases hja : j + 1 < a
   ·exact hs i (j + 1) hij hja
   ·have := hk (j + 1) (by omega) hj
    exact o.tr _ _ _ ih this
omit hc hn in
theorem aEc {p : Array Nat} {m : Nat} (hm : m <= p.size) (h : NI lt p m) : Sd lt (kas_rev p 0 m) m := by
 intro i j hij hj
 rw [nE hm, nE hm, if_pos ⟨Nat.zero_le _, by omega⟩, if_pos ⟨Nat.zero_le _, hj⟩]
 exact h _ _ (by omega) (by omega)
theorem w9 {Q : Nat × Array Nat -> Shared -> Prop} {p : Array Nat} {a r : Nat} (hp : Pm n p) (h1 : 1 <= a) (ha : a <= r) (hr : r <= n) (hni : NI lt p a) (h : ∀ m q, 1 <= m -> m <= r -> Pm n q -> Sd lt q m -> Q (m, q) s) : (kas_tail3 a r p).kasWp cmp Q s := by
 unfold kas_tail3
 rw [KasT.kasWp_bind]
 have hz : a <= p.size := by rw [hp.size]; omega
 refine t8 hc hn (nO hp 0 a) _ _ fun m h2 h3 h4 _ => ?_
 exact h m _ (by omega) (by omega) (nO hp 0 a) (aFo o h1 (aEc o hz hni) h4)
omit hc hn in
theorem rev_eq {p : Array Nat} {i j : Nat} (hj : j <= p.size) (he : ∀ a b, i <= a -> a < j -> i <= b -> b < j -> le lt (Pt p a) (Pt p b)) (k : Nat) : le lt (Pt (kas_rev p i j) k) (Pt p k) /\ le lt (Pt p k) (Pt (kas_rev p i j) k) := by
 rw [nE hj]
 split
 ·rename_i h
  exact ⟨he _ _ (by omega) (by omega) h.1 h.2, he _ _ h.1 h.2 (by omega) (by omega)⟩
 ·exact ⟨o.rf _, o.rf _⟩
omit hc hn in
theorem iX {p : Array Nat} {i j m : Nat} (hj : j <= p.size) (he : ∀ a b, i <= a -> a < j -> i <= b -> b < j -> le lt (Pt p a) (Pt p b)) (h : NI lt p m) : NI lt (kas_rev p i j) m := fun a b hab hb =>
 o.tr _ _ _ (rev_eq o hj he b).1 (o.tr _ _ _ (h a b hab hb) (rev_eq o hj he a).2)
theorem lO {Q : Array Nat × Nat × Nat -> Shared -> Prop} {r : Nat} (hr : r <= n) : ∀ (f : Nat) (p : Array Nat) (a q : Nat), Pm n p -> a + f <= r -> q + 1 <= a -> NI lt p a -> (∀ x y, a - (q + 1) <= x -> x < a -> a - (q + 1) <= y -> y < a -> le lt (Pt p x) (Pt p y)) ->
  (∀ p' a' q', Pm n p' -> a <= a' -> a' <= r -> q' + 1 <= a' -> NI lt p' a' -> (∀ x y, a' - (q' + 1) <= x -> x < a' -> a' - (q' + 1) <= y -> y < a' -> le lt (Pt p' x) (Pt p' y)) -> Q (p', a', q') s) -> (kas_desc f p a q).kasWp cmp Q s
 | 0, p, a, q, hp, hf, hq, hni, he, h => h p a q hp (Nat.le_refl _) (by omega) hq hni he
 | f + 1, p, a, q, hp, hf, hq, hni, he, h => by
  have hz : a <= p.size := by rw [hp.size]; omega
  refine hc _ _ _ (hp.bd hn _) (hp.bd hn _) ?_
  show KasT.kasWp cmp (if lt (Pt p a) (Pt p (a - 1)) = true then (if q > 0 then kas_desc f (kas_rev p (a - (q + 1)) a) (a + 1) 0 else kas_desc f p (a + 1) 0)
   else .ask (Pt p (a - 1)) (Pt p a) fun d => if d = true then .ret (p, a, q) else kas_desc f p (a + 1) (q + 1)) Q s
  have grow : ∀ {p' : Array Nat}, NI lt p' a -> le lt (Pt p' a) (Pt p' (a - 1)) -> NI lt p' (a + 1) := fun {p'} h1 h2 i j hij hj => by
   by_cases e : j = a
   ·subst e
    by_cases e2 : i = j
    ·subst e2; exact o.rf _
    ·exact o.tr _ _ _ h2 (h1 i (j - 1) (by omega) (by omega))
   ·exact h1 i j hij (by omega)
  cases e : lt (Pt p a) (Pt p (a - 1)) with
  | true =>
   rw [if_pos rfl]
   by_cases hq0 : q > 0
   ·rw [if_pos hq0]
    have n1 := iX o hz he hni
    have e1 : Pt (kas_rev p (a - (q + 1)) a) a = Pt p a := by rw [nE hz, if_neg (by omega)]
    have le1 : le lt (Pt (kas_rev p (a - (q + 1)) a) a) (Pt (kas_rev p (a - (q + 1)) a) (a - 1)) := by
     rw [e1]
     exact o.tr _ _ _ (o.tot e) (rev_eq o hz he (a - 1)).2
    refine lO hr f _ (a + 1) 0 (nO hp _ _) (by omega) (by omega) (grow n1 le1) (fun x y h1 h2 h3 h4 => ?_) fun p' a' q' k1 k2 k3 k4 k5 k6 => h p' a' q' k1 (by omega) k3 k4 k5 k6
    have : x = y := by omega
    subst this; exact o.rf _
   ·rw [if_neg hq0]
    refine lO hr f _ (a + 1) 0 hp (by omega) (by omega) (grow hni (o.tot e)) (fun x y h1 h2 h3 h4 => ?_) fun p' a' q' k1 k2 k3 k4 k5 k6 => h p' a' q' k1 (by omega) k3 k4 k5 k6
    have : x = y := by omega
    subst this; exact o.rf _
  | false =>
   rw [if_neg Bool.false_ne_true]
   refine hc _ _ _ (hp.bd hn _) (hp.bd hn _) ?_
   show KasT.kasWp cmp (if lt (Pt p (a - 1)) (Pt p a) = true then .ret (p, a, q) else kas_desc f p (a + 1) (q + 1)) Q s
   cases e2 : lt (Pt p (a - 1)) (Pt p a) with
   | true =>
    rw [if_pos rfl]
    exact h p a q hp (Nat.le_refl _) (by omega) hq hni he
   | false =>
    rw [if_neg Bool.false_ne_true]
    have eq1 : le lt (Pt p (a - 1)) (Pt p a) := e
    have eq2 : le lt (Pt p a) (Pt p (a - 1)) := e2
    refine lO hr f p (a + 1) (q + 1) hp (by omega) (by omega) (grow hni eq2) (fun x y h1 h2 h3 h4 => ?_) fun p' a' q' k1 k2 k3 k4 k5 k6 => h p' a' q' k1 (by omega) k3 k4 k5 k6
    by_cases hx : x = a
    ·subst hx
     by_cases hy : y = x
     ·subst hy; exact o.rf _
     ·exact o.tr _ _ _ eq2 (he _ _ (by omega) (by omega) (by omega) (by omega))
    ·by_cases hy : y = a
     ·subst hy
      exact o.tr _ _ _ (he _ (y - 1) (by omega) (by omega) (by omega) (by omega)) eq1
     ·exact he _ _ (by omega) (by omega) (by omega) (by omega)
theorem iR {Q : Nat × Array Nat -> Shared -> Prop} {p : Array Nat} {a r : Nat} (hp : Pm n p) (h1 : 1 <= a) (ha : a + 1 <= r) (hr : r <= n) (hni : NI lt p (a + 1)) (h : ∀ m q, 1 <= m -> m <= r -> Pm n q -> Sd lt q m -> Q (m, q) s) : (kas_descPart a r p).kasWp cmp Q s := by
 unfold kas_descPart
 rw [KasT.kasWp_bind]
 refine lO hc hn o hr _ p (a + 1) 0 hp (by omega) (by omega) hni (fun x y h1 h2 h3 h4 => ?_) fun p' a' q' k1 k2 k3 k4 k5 k6 => ?_
 ·have : x = y := by omega
  subst this; exact o.rf _
 ·have hz : a' <= p'.size := by rw [k1.size]; omega
  show KasT.kasWp cmp (if q' > 0 then kas_tail3 a' r (kas_rev p' (a' - (q' + 1)) a') else kas_tail3 a' r p') Q s
  by_cases hq : q' > 0
  ·rw [if_pos hq]
   exact w9 hc hn o (nO k1 _ _) (by omega) k3 hr (iX o hz k6 k5) h
  ·rw [if_neg hq]
   exact w9 hc hn o k1 (by omega) k3 hr k5 h
theorem y6 {Q : Nat × Array Nat -> Shared -> Prop} {p : Array Nat} {r : Nat} (hp : Pm n p) (h1 : 1 <= r) (hr : r <= n) (h : ∀ m q, 1 <= m -> m <= r -> Pm n q -> Sd lt q m -> Q (m, q) s) : (kas_count r p).kasWp cmp Q s := by
 unfold kas_count
 rw [KasT.kasWp_bind]
 have s1 : Sd lt p 1 := fun i j hij hj => by
  have : i = j := by omega
  subst this; exact o.rf _
 refine t8 hc hn hp _ _ fun m h2 h3 h4 h5 => ?_
 have sm := aFo o (Nat.le_refl 1) s1 h4
 show KasT.kasWp cmp (if (m == r) = true then .ret (m, p) else if m > 1 then .ask (Pt p 0) (Pt p (m - 1)) fun c => if c = true then .ret (m, p) else kas_descPart m r (kas_rev p 0 m) else kas_descPart m r p) Q s
 by_cases em : m = r
 ·rw [if_pos (by simp [em])]
  exact h m p h2 (by omega) hp sm
 ·rw [if_neg (by simp [em])]
  have hlt := h5 (by omega)
  have hz : m <= p.size := by rw [hp.size]; omega
  by_cases hm : m > 1
  ·rw [if_pos hm]
   refine hc _ _ _ (hp.bd hn _) (hp.bd hn _) ?_
   show KasT.kasWp cmp (if lt (Pt p 0) (Pt p (m - 1)) = true then .ret (m, p) else kas_descPart m r (kas_rev p 0 m)) Q s
   cases e : lt (Pt p 0) (Pt p (m - 1)) with
   | true => rw [if_pos rfl]; exact h m p h2 (by omega) hp sm
   | false =>
    rw [if_neg Bool.false_ne_true]
    have e : le lt (Pt p (m - 1)) (Pt p 0) := e
    have he : ∀ a b, 0 <= a -> a < m -> 0 <= b -> b < m -> le lt (Pt p a) (Pt p b) := fun a b _ ha _ hb =>
     o.tr _ _ _ (sm a (m - 1) (by omega) (by omega)) (o.tr _ _ _ e (sm 0 b (by omega) hb))
    have nm : NI lt p m := fun i j hij hj => he j i (by omega) hj (by omega) (by omega)
    have n2 := iX o hz he nm
    have em1 : Pt (kas_rev p 0 m) m = Pt p m := by rw [nE hz, if_neg (by omega)]
    refine iR hc hn o (nO hp 0 m) (by omega) (by omega) hr (fun i j hij hj => ?_) h
    by_cases ej : j = m
    ·subst ej
     by_cases ei : i = j
     ·subst ei; exact o.rf _
     ·rw [em1]
      refine o.tr _ _ _ (o.tot hlt) (o.tr _ _ _ (rev_eq o hz he (j - 1)).2 ?_)
      exact n2 i (j - 1) (by omega) (by omega)
    ·exact n2 i j hij (by omega)
  ·rw [if_neg hm]
   have e1 : m = 1 := by omega
   subst e1
   refine iR hc hn o hp (Nat.le_refl 1) (by omega) hr (fun i j hij hj => ?_) h
   by_cases ei : i = j
   ·subst ei; exact o.rf _
   ·have : i = 0 /\ j = 1 := by omega
    obtain ⟨rfl, rfl⟩ := this
    exact o.tot hlt
theorem mM {Q : Nat -> Shared -> Prop} {p : Array Nat} {k : Nat} (hp : Pm n p) (hs : Sd lt p k) : ∀ (f l r : Nat), l <= r -> r <= k -> r - l <= f -> (∀ i, i < l -> le lt (Pt p i) (Pt p k)) -> (∀ i, r <= i -> i < k -> lt (Pt p k) (Pt p i) = true) ->
  (∀ m, m <= k -> (∀ i, i < m -> le lt (Pt p i) (Pt p k)) -> (∀ i, m <= i -> i < k -> lt (Pt p k) (Pt p i) = true) -> Q m s) -> (kas_place p k f l r).kasWp cmp Q s
 | 0, l, r, h1, h2, h3, h4, h5, h => by
  have : l = r := by omega
  subst this
  exact h l h2 h4 h5
 | f + 1, l, r, h1, h2, h3, h4, h5, h => by
  unfold kas_place
  by_cases e : l ≥ r
  ·rw [if_pos e]
   have : l = r := by omega
   subst this
   exact h l h2 h4 h5
  ·rw [if_neg e]
   refine hc _ _ _ (hp.bd hn _) (hp.bd hn _) ?_
   show KasT.kasWp cmp (if lt (Pt p k) (Pt p ((l + r) / 2)) = true then kas_place p k f l ((l + r) / 2) else kas_place p k f ((l + r) / 2 + 1) r) Q s
   cases ec : lt (Pt p k) (Pt p ((l + r) / 2)) with
   | true =>
    rw [if_pos rfl]
    refine mM hp hs f l ((l + r) / 2) (by omega) (by omega) (by omega) h4 (fun i i1 i2 => ?_) h
    cases ei : lt (Pt p k) (Pt p i) with
    | true => rfl
    | false =>
     have := o.tr _ _ _ (hs ((l + r) / 2) i i1 i2) ei
     rw [ec] at this; cases this
   | false =>
    rw [if_neg Bool.false_ne_true]
    refine mM hp hs f ((l + r) / 2 + 1) r (by omega) h2 (by omega) (fun i i1 => ?_) h5 h
    exact o.tr _ _ _ (hs i ((l + r) / 2) (by omega) (by omega)) ec
omit hc hn in
theorem zW {p : Array Nat} {k l : Nat} (hk : k < p.size) (hl : l <= k) (i : Nat) : Pt (bubble p k (k - l)) i = if i = l then Pt p k else if l < i /\ i <= k then Pt p (i - 1) else Pt p i := by
 have e := getElem?_bubble hk (k - l) (by omega) i
 have e1 : k - (k - l) = l := by omega
 rw [e1] at e
 repeat' split
 ·rename_i h; rw [if_pos h] at e; exact wC e
 ·rename_i h h2; rw [if_neg h, if_pos h2] at e; exact wC e
 ·rename_i h h2; rw [if_neg h, if_neg h2] at e; exact wC e
theorem aA8 {Q : Array Nat -> Shared -> Prop} : ∀ (f : Nat) (p : Array Nat) (k : Nat), Pm n p -> k + f <= n -> Sd lt p k -> (∀ q, Pm n q -> Sd lt q (k + f) -> Q q s) -> (kas_bin f p k).kasWp cmp Q s
 | 0, p, k, hp, _, hs, h => h p hp hs
 | f + 1, p, k, hp, hk, hs, h => by
  unfold kas_bin
  rw [KasT.kasWp_bind]
  have hz : k < p.size := by rw [hp.size]; omega
  refine mM hc hn o hp hs k 0 k (Nat.zero_le _) (Nat.le_refl _) (by omega) (fun i h => absurd h (by omega)) (fun i h1 h2 => absurd h2 (by omega)) fun l hl h1 h2 => ?_
  refine aA8 f _ (k + 1) ((bubble_perm _ _ _).trans hp) (by omega) (fun i j hij hj => ?_) fun q q1 q2 => h q q1 (by rw [show k + (f + 1) = k + 1 + f by omega]; exact q2)
  rw [zW o hz hl, zW o hz hl]
  by_cases ei : i = l
  ·rw [if_pos ei]
   by_cases ej : j = l
   ·rw [if_pos ej]; exact o.rf _
   ·rw [if_neg ej, if_pos ⟨by omega, by omega⟩]
    exact o.tot (h2 (j - 1) (by omega) (by omega))
  ·rw [if_neg ei]
   by_cases ej : j = l
   ·rw [if_pos ej, if_neg (by omega)]
    exact h1 i (by omega)
   ·rw [if_neg ej]
    by_cases hi : l < i /\ i <= k
    ·rw [if_pos hi, if_pos ⟨by omega, by omega⟩]
     exact hs _ _ (by omega) (by omega)
    ·rw [if_neg hi]
     by_cases hj2 : l < j /\ j <= k
     ·rw [if_pos hj2]
      exact hs _ _ (by omega) (by omega)
     ·rw [if_neg hj2]
      exact hs _ _ (by omega) (by omega)
theorem aCo {Q : Array Nat -> Shared -> Prop} (h : ∀ q, Pm n q -> Sd lt q n -> Q q s) : (kas_sort n).kasWp cmp Q s := by
 unfold kas_sort
 rw [KasT.kasWp_bind]
 refine y6 hc hn o (Array.Perm.refl _) hn (Nat.le_refl n) fun m q h1 h2 h3 h4 => ?_
 show KasT.kasWp cmp (if m < n then kas_bin (n - max m 1) q (max m 1) else .ret q) Q s
 have em : max m 1 = m := by omega
 by_cases e : m < n
 ·rw [if_pos e, em]
  refine aA8 hc hn o _ _ _ h3 (by omega) h4 fun q' k1 k2 => h q' k1 (by rw [show m + (n - m) = n by omega] at k2; exact k2)
 ·rw [if_neg e]
  have : m = n := by omega
  subst this
  exact h q h3 h4
end
end SRT
namespace SRT
open PySem PySem.W PyProof.Rows L2
def TupI (h : Heap) (v : Value) (ns : List Int) : Prop := ∃ t o xs c, v = .ref t /\ h.get? t = some o /\ o.cls = .type "tuple" /\ o.data = .seq xs c /\ IntsAre xs.toList ns
theorem TupI.at {h h' : Heap} {v : Value} {ns : List Int} (x : TupI h v ns) (k : ∀ t o, v = .ref t -> h.get? t = some o -> h'.get? t = some o) : TupI h' v ns :=
 let ⟨t, o, xs, c, e, ho, r⟩ := x; ⟨t, o, xs, c, e, k t o e ho, r⟩
theorem mJ : ∀ {vs : List Value} {ns : List Int}, IntsAre vs ns -> vs.length = ns.length
 | _, _, .nil => rfl
 | _, _, .cons _ _ r => by rw [List.length_cons, List.length_cons, mJ r]
theorem u4 : ∀ a b : List Int, HT.lexLt a b = true -> HT.lexLt b a = false
 | [], [], h => by cases h
 | [], _ :: _, _ => rfl
 | _ :: _, [], h => by cases h
 | x :: a, y :: b, h => by
  rw [HT.dA] at h ⊢
  by_cases e : x = y
  ·rw [if_pos e] at h; rw [if_pos e.symm]; exact u4 a b h
  ·rw [if_neg e] at h; rw [if_neg (Ne.symm e)]
   have := of_decide_eq_true h
   exact decide_eq_false (by omega)
theorem sX : ∀ a b c : List Int, HT.lexLt b a = false -> HT.lexLt c b = false -> HT.lexLt c a = false
 | [], _, [], _, _ => rfl
 | [], b, _ :: _, _, _ => rfl
 | _ :: _, [], _, h, _ => by cases h
 | x :: a, y :: b, [], _, h => by cases h
 | x :: a, y :: b, z :: c, h1, h2 => by
  rw [HT.dA] at h1 h2 ⊢
  by_cases e1 : y = x
  ·subst e1
   rw [if_pos rfl] at h1
   by_cases e2 : z = y
   ·subst e2
    rw [if_pos rfl] at h2 ⊢
    exact sX a b c h1 h2
   ·rw [if_neg e2] at h2 ⊢
    exact h2
  ·rw [if_neg e1] at h1
   have q1 := of_decide_eq_false h1
   by_cases e2 : z = y
   ·subst e2
    rw [if_neg e1]
    exact h1
   ·rw [if_neg e2] at h2
    have q2 := of_decide_eq_false h2
    have e3 : z ≠ x := by omega
    rw [if_neg e3]
    exact decide_eq_false (by omega)
theorem aAc : ∀ a b : List Int, HT.lexLt a b = false -> HT.lexLt b a = false -> a = b
 | [], [], _, _ => rfl
 | [], _ :: _, h, _ => by cases h
 | _ :: _, [], _, h => by cases h
 | x :: a, y :: b, h1, h2 => by
  rw [HT.dA] at h1 h2
  by_cases e : x = y
  ·subst e
   rw [if_pos rfl] at h1 h2
   rw [aAc a b h1 h2]
  ·rw [if_neg e] at h1; rw [if_neg (Ne.symm e)] at h2
   have q1 := of_decide_eq_false h1
   have q2 := of_decide_eq_false h2
   omega
theorem sQ (ks : List (List Int)) : Ord fun i j => HT.lexLt (ks.getD i []) (ks.getD j []) := ⟨fun _ _ => u4 _ _, fun _ _ _ => sX _ _ _⟩
section
variable {prog : Program} {w : World} {A : Around} {E : Value -> Shared -> Prop} {s : Shared}
theorem aAu {b fin : Bool} {Q : Bool -> Shared -> Prop} : ∀ {us ws : List Value} {ns ms : List Int} (i : Nat), IntsAre us ns -> IntsAre ws ms -> (fin = decide (ns.length < ms.length)) -> Q (HT.lexLt ns ms) s -> KatLex prog w A b fin Q (us.zip ws) i s
 | _, _, [], [], i, .nil, .nil, hf, q => by
  rw [hf]; exact q
 | _, _, [], m :: ms, i, .nil, .cons _ _ _, hf, q => by
  rw [hf]
  show Q (decide (0 < ms.length + 1)) s
  rw [decide_eq_true (Nat.succ_pos _)]
  exact q
 | _, _, n :: ns, [], i, .cons _ _ _, .nil, hf, q => by
  rw [hf]
  show Q (decide (ns.length + 1 < 0)) s
  rw [decide_eq_false (Nat.not_lt_zero _)]
  exact q
 | _, _, n :: ns, m :: ms, i, .cons _ t hi, .cons _ u hj, hf, q => by
  rw [HT.dA] at q
  refine kat_cons (wpAny_eqBool_int ?_)
  by_cases e : n = m
  ·rw [if_pos e] at q
   rw [show (n == m) = true by simp [e]]
   exact kat_yes (aAu (i + 1) hi hj (by rw [hf]; simp) q)
  ·rw [if_neg e] at q
   rw [show (n == m) = false by simp [e]]
   refine kat_no ?_
   cases eb : (b && i == 0) with
   | true => exact oneLt_int q
   | false => exact kat_one _ _ (lt_int q)
theorem x5 {x y : Value} {ns ms : List Int} {Q : Bool -> Shared -> Prop} (b : Bool) (hx : TupI s.heap x ns) (hy : TupI s.heap y ms) (q : Q (HT.lexLt ns ms) s) : wpAny (model prog w) A (keyLt' (tuples' b) x y) Q E s := by
 obtain ⟨t, o, xs, c, rfl, ho, hc, hd, hi⟩ := hx
 obtain ⟨t2, o2, xs2, c2, rfl, ho2, hc2, hd2, hi2⟩ := hy
 refine kat_lt ho hd ho2 hd2 (aAu 0 hi hi2 ?_ q)
 have e1 := mJ hi
 have e2 := mJ hi2
 rw [Array.length_toList] at e1 e2
 rw [e1, e2]
def TupsI (h : Heap) (vs : List Value) (ks : List (List Int)) : Prop := vs.length = ks.length /\ ∀ (i : Nat) (v : Value) (k : List Int), vs[i]? = some v -> ks[i]? = some k -> TupI h v k /\ k ≠ []
theorem TupsI.cons {h : Heap} {v : Value} {vs : List Value} {ks : List (List Int)} (x : TupsI h (v :: vs) ks) : ∃ k r, ks = k :: r /\ TupI h v k /\ k ≠ [] /\ TupsI h vs r := by
 obtain ⟨hl, ha⟩ := x
 cases ks with
 | nil => simp at hl
 | cons k r =>
  obtain ⟨h1, h2⟩ := ha 0 v k rfl rfl
  exact ⟨k, r, rfl, h1, h2, by simpa using hl, fun i v k e1 e2 => ha (i + 1) v k (by simpa using e1) (by simpa using e2)⟩
theorem aIq {h : Heap} : ∀ {vs : List Value} {ks : List (List Int)}, TupsI h vs ks -> ∃ fs, KatTups h vs fs /\ fs.length = vs.length /\ ∀ f ∈ fs, ∃ i t, f = Value.int i t
 | [], _, _ => ⟨[], KatTups.nil, rfl, fun _ z => nomatch z⟩
 | v :: vs, ks, x => by
  obtain ⟨k, r, rfl, ⟨t, o, xs, c, rfl, ho, hc, hd, hi⟩, hk, hr⟩ := x.cons
  obtain ⟨fs, h1, h2, h3⟩ := aIq hr
  cases k with
  | nil => exact absurd rfl hk
  | cons n k =>
   cases hx : xs.toList with
   | nil => rw [hx] at hi; cases hi
   | cons y ys =>
    rw [hx] at hi
    cases hi with
    | cons _ tt _ =>
     refine ⟨.int n tt :: fs, KatTups.cons ho hc hd ?_ h1, by simp [h2], fun f hf => ?_⟩
     ·have : xs.toList[0]? = some (Value.int n tt) := by rw [hx]; rfl
      simpa using this
     ·rcases List.mem_cons.mp hf with rfl | hf
      ·exact ⟨n, tt, rfl⟩
      ·exact h3 f hf
theorem range_getD (vs : List Value) : ((List.range vs.length).map fun i => vs.getD i Value.none) = vs := by
 refine List.ext_getElem? fun i => ?_
 rw [List.getElem?_map]
 by_cases hi : i < vs.length
 ·rw [List.getElem?_range hi]
  simp [hi]
 ·rw [List.getElem?_eq_none (by rw [List.length_range]; omega), List.getElem?_eq_none (by omega)]
  rfl
theorem lR {a : Addr} {vs : List Value} {n : Nat} {ks : List (List Int)} {P : PySem.Fin -> Shared -> Prop} (ho : s.heap.get? a = some (seqObj "list" vs.toArray n)) (ht : TupsI s.heap vs ks) (hna : ∀ v ∈ vs, v ≠ .ref a) (h64 : vs.length < 64)
  (h : ∀ q : Array Nat, Pm vs.length q -> Sd (fun i j => HT.lexLt (ks.getD i []) (ks.getD j [])) q vs.length -> P (.done (.ret .none)) { s with heap := sortedHeap s.heap a vs (q.toList.map fun i => vs.getD i Value.none).toArray }) :
  wpAny (model prog w) A (Builtin.«list.sort» ⟨[.ref a], []⟩) P E s := by
 rw [list_sort_plain]
 have ha : a < s.heap.objs.size := Heap.lt_size ho
 refine wpAny_bind (listItems_at ho rfl ?_)
 refine wpAny_bind (listUpdate_at ho rfl ?_ (by rw [List.size_toArray, sizeLine_eq]; omega) (Nat.zero_le _))
 obtain ⟨e1, ho1⟩ : ∃ e1, (s.heap.update a (Obj.mapSeq fun _ => (#[] : Array Value))).get? a = some (seqObj "list" #[] e1) := ⟨_, get?_update_seq ho (fun _ => #[])⟩
 refine wpAny_bind (seqEpoch_at ho1 rfl ?_)
 refine wpAny_bind (wpAny_newTuple ?_ (by show vs.length <= _; rw [sizeLine_eq]; omega))
 refine wpAny_bind (wpAny_newList ?_ (Nat.zero_le _))
 refine wpAny_holding ?_
 have keep : ∀ b o, b ≠ a -> s.heap.get? b = some o -> (((s.heap.update a (Obj.mapSeq fun _ => (#[] : Array Value))).push (seqObj "tuple" vs.toArray 0)).push (seqObj "list" #[] 0)).get? b = some o := fun b o hb e => by
  refine Heap.get?_push_of_some _ (Heap.get?_push_of_some _ ?_)
  rw [Heap.get?_update_ne _ _ _ _ hb]
  exact e
 have ho6 : (((s.heap.update a (Obj.mapSeq fun _ => (#[] : Array Value))).push (seqObj "tuple" vs.toArray 0)).push (seqObj "list" #[] 0)).get? a = some (seqObj "list" #[] e1) := Heap.get?_push_of_some _ (Heap.get?_push_of_some _ ho1)
 show wpAny (model prog w) A _ P E { s with heap := ((s.heap.update a (Obj.mapSeq fun _ => (#[] : Array Value))).push (seqObj "tuple" vs.toArray 0)).push (seqObj "list" #[] 0) }
 dsimp only
 by_cases h2 : vs.toArray.size < 2
 ·rw [if_pos h2, if_pos h2]
  refine wpAny_bind (wpAny_pure ?_)
  rw [StateT.run_pure]
  refine wpAny_bind (wpAny_pure ?_)
  dsimp only
  have e0 : (arrOf (SortSt.mk' general' (vs.toArray.zip vs.toArray) #[] 7 none)).map (·.2) = ((List.range vs.length).toArray.toList.map fun i => vs.getD i Value.none).toArray := by
   show (vs.toArray.zip vs.toArray).map (·.2) = _
   rw [List.toList_toArray, range_getD]
   apply Array.toList_inj.mp
   simp [List.map_snd_zip]
  rw [e0]
  refine wpAny_bind (seqEpoch_at ho6 rfl ?_)
  refine wpAny_bind (listUpdate_at ho6 rfl ?_ (Nat.zero_le _) (by rw [List.toList_toArray, range_getD, List.size_toArray, sizeLine_eq]; omega))
  simp only [bne_self_eq_false, Bool.false_eq_true, if_false]
  refine wpAny_pure (h (List.range vs.length).toArray (Array.Perm.refl _) fun i j hij hj => ?_)
  have : i = j := by rw [List.size_toArray] at h2; omega
  subst this
  exact (sQ ks).rf _
 ·rw [if_neg h2, if_neg h2]
  have h2' : 2 <= vs.length := by rw [List.size_toArray] at h2; omega
  have ht6 : TupsI (((s.heap.update a (Obj.mapSeq fun _ => (#[] : Array Value))).push (seqObj "tuple" vs.toArray 0)).push (seqObj "list" #[] 0)) vs ks := ⟨ht.1, fun i v k q1 q2 => by
   obtain ⟨z1, z2⟩ := ht.2 i v k q1 q2
   exact ⟨z1.at fun t o ev et => keep t o (fun z => hna v (List.mem_of_getElem? q1) (by rw [ev, z])) et, z2⟩⟩
  obtain ⟨fs, f1, f2, f3⟩ := aIq ht6
  refine wpAny_bind (kat_kind (T := .type "int") f1 (by rw [f2]; omega) (fun v hv => ?_) rfl ?_)
  ·obtain ⟨i, t, rfl⟩ := f3 v hv
   exact .now
  refine wpAny_bind (wpAny_mono (kat_run (κ := tuples' (Value.type "int" != Value.type "tuple")) (ks := vs) (Q := fun st' s' => ∃ p : Array Nat, s' = { s with heap := ((s.heap.update a (Obj.mapSeq fun _ => (#[] : Array Value))).push (seqObj "tuple" vs.toArray 0)).push (seqObj "list" #[] 0) } /\ p.size = vs.length /\ arrOf st' = p.map (kas_item (vs.toArray.zip vs.toArray)) /\ failedOf st' = none /\ Pm vs.length p /\ Sd (fun i j => HT.lexLt (ks.getD i []) (ks.getD j [])) p vs.length)
   (G := fun p s' => s' = { s with heap := ((s.heap.update a (Obj.mapSeq fun _ => (#[] : Array Value))).push (seqObj "tuple" vs.toArray 0)).push (seqObj "list" #[] 0) } /\ Pm vs.length p /\ Sd (fun i j => HT.lexLt (ks.getD i []) (ks.getD j [])) p vs.length)
   rfl h2' h64 (fun p st' s' a1 a2 a3 a4 => ⟨p, a4.1, a1, a2, a3, a4.2⟩) (aCo (n := vs.length) (lt := fun i j => HT.lexLt (ks.getD i []) (ks.getD j [])) (fun i j C hi hj hC => ?_) (by omega) (sQ ks) fun q q1 q2 => ⟨rfl, q1, q2⟩)) ?_ fun _ _ e => e)
  ·unfold kas_ask
   have hi' : vs[i]? = some vs[i] := List.getElem?_eq_getElem hi
   have hj' : vs[j]? = some vs[j] := List.getElem?_eq_getElem hj
   have ki : i < ks.length := by rw [<- ht.1]; exact hi
   have kj : j < ks.length := by rw [<- ht.1]; exact hj
   have di : vs.getD i Value.none = vs[i] := by simp [hi]
   have dj : vs.getD j Value.none = vs[j] := by simp [hj]
   have ei : ks.getD i [] = ks[i] := by simp [ki]
   have ej : ks.getD j [] = ks[j] := by simp [kj]
   rw [di, dj]
   rw [ei, ej] at hC
   exact x5 _ (ht6.2 i _ _ hi' (List.getElem?_eq_getElem ki)).1 (ht6.2 j _ _ hj' (List.getElem?_eq_getElem kj)).1 hC
  ·rintro ⟨⟨⟩, st'⟩ s' ⟨p, rfl, hp, har, hf, hpm, hsd⟩
   dsimp only
   have hout := kat_snds (ks := vs) (vs := vs) rfl har
   have hsz : (List.toArray (p.toList.map fun i => vs.getD i Value.none)).size = vs.length := by rw [List.size_toArray, List.length_map, Array.length_toList, hp]
   rw [hout]
   refine wpAny_bind (seqEpoch_at ho6 rfl ?_)
   refine wpAny_bind (listUpdate_at ho6 rfl ?_ (Nat.zero_le _) (Nat.le_trans (Nat.le_of_eq hsz) (by rw [sizeLine_eq]; omega)))
   rw [hf]
   simp only [bne_self_eq_false, Bool.false_eq_true, if_false]
   exact wpAny_pure (h p hpm hsd)
theorem o4 {h : Heap} {a : Addr} {vs : List Value} {out : Array Value} {b : Addr} {o : Obj} (hb : b ≠ a) (e : h.get? b = some o) : (sortedHeap h a vs out).get? b = some o := by
 unfold sortedHeap
 rw [Heap.get?_update_ne _ _ _ _ hb]
 refine Heap.get?_push_of_some _ (Heap.get?_push_of_some _ ?_)
 rw [Heap.get?_update_ne _ _ _ _ hb]
 exact e
theorem pK {h : Heap} {a : Addr} {vs : List Value} {n : Nat} {out : Array Value} (e : h.get? a = some (seqObj "list" vs.toArray n)) : ∃ c, (sortedHeap h a vs out).get? a = some (seqObj "list" out c) := by
 obtain ⟨e1, ho1⟩ : ∃ e1, (h.update a (Obj.mapSeq fun _ => (#[] : Array Value))).get? a = some (seqObj "list" #[] e1) := ⟨_, get?_update_seq e (fun _ => #[])⟩
 exact ⟨_, get?_update_seq (Heap.get?_push_of_some _ (Heap.get?_push_of_some _ ho1)) fun _ => out⟩
theorem rV {r : Addr} {Q : Value -> Shared -> Prop} {Ok : List Value -> Prop} (hcol : ∀ R : List Value -> Shared -> Prop, (∀ h' tk vs, (∀ b o, s.heap.get? b = some o -> h'.get? b = some o) -> Ok vs -> R vs { s with heap := h', toks := tk }) -> wpAny (model prog w) A.in1 (collect (.ref r)) R E s)
  (ks : List (List Int)) (hok : ∀ vs, Ok vs -> TupsI s.heap vs ks /\ vs.length < 64)
  (h : ∀ (h' hf : Heap) (tk c : Nat) (vs : List Value) (q : Array Nat), (∀ b o, s.heap.get? b = some o -> h'.get? b = some o) -> (∀ b o, h'.get? b = some o -> hf.get? b = some o) -> Ok vs -> Pm vs.length q -> Sd (fun i j => HT.lexLt (ks.getD i []) (ks.getD j [])) q vs.length ->
   hf.get? h'.objs.size = some (seqObj "list" (q.toList.map fun i => vs.getD i Value.none).toArray c) -> Q (.ref h'.objs.size) { s with heap := hf, toks := tk }) :
  wpAny (model prog w) A (call (.builtin "sorted") [.ref r]) Q E s := by
 refine Calls.call_function_entry kind_sorted plain_sorted entry_sorted (args_sorted1 _) ?_
 unfold Builtin.«sorted»
 refine wpAny_bind (m := checkCount "sorted" 1 1 _) (wpAny_pure ?_)
 refine wpAny_bind (hcol _ fun h' tk vs keep ov => ?_)
 obtain ⟨ht, h64⟩ := hok vs ov
 refine wpAny_bind (wpAny_newList ?_ (by rw [sizeLine_eq]; omega))
 have hoL : (h'.push (seqObj "list" vs.toArray 0)).get? h'.objs.size = some (seqObj "list" vs.toArray 0) := Heap.get?_push_size _ rfl
 have keep2 : ∀ b o, s.heap.get? b = some o -> (h'.push (seqObj "list" vs.toArray 0)).get? b = some o := fun b o e => Heap.get?_push_of_some _ (keep b o e)
 have lt : ∀ b o, s.heap.get? b = some o -> b ≠ h'.objs.size := fun b o e => Nat.ne_of_lt (Heap.lt_size (keep b o e))
 have tat : ∀ v ∈ vs, ∃ t o, v = .ref t /\ s.heap.get? t = some o := fun v hv => by
  obtain ⟨i, hi, e⟩ := List.mem_iff_getElem.mp hv
  have ki : i < ks.length := by rw [<- ht.1]; exact hi
  obtain ⟨⟨t, o, _, _, e1, e2, _⟩, _⟩ := ht.2 i v ks[i] (by rw [List.getElem?_eq_getElem hi, e]) (List.getElem?_eq_getElem ki)
  exact ⟨t, o, e1, e2⟩
 have ht2 : TupsI (h'.push (seqObj "list" vs.toArray 0)) vs ks := ⟨ht.1, fun i v k q1 q2 => let ⟨z1, z2⟩ := ht.2 i v k q1 q2; ⟨z1.at fun t o _ et => keep2 t o et, z2⟩⟩
 refine wpAny_bind (wpAny_holding (wpAny_call_entry slot_list_sort ⟨_, hoL, rfl⟩ entry_list_sort (lR (s := { s with heap := h'.push (seqObj "list" vs.toArray 0), toks := tk }) hoL ht2 (fun v hv z => ?_) h64 fun q a1 a2 => ⟨_, rfl, ?_⟩) (args_list_sort _)))
 ·obtain ⟨t, o, e1, e2⟩ := tat v hv
  rw [e1] at z
  injection z with z
  exact lt t o e2 z
 ·obtain ⟨c, hc⟩ := pK (out := (q.toList.map fun i => vs.getD i Value.none).toArray) hoL
  exact wpAny_pure ⟨_, rfl, h h' _ tk c vs q keep (fun b o e => o4 (Nat.ne_of_lt (Heap.lt_size e)) (Heap.get?_push_of_some _ e)) ov a1 a2 hc⟩
def aDu (H : Hp) (ts : List V) (ks : List (List Int)) : Prop := ts.length = ks.length /\ ∀ (i : Nat) (t : V) (k : List Int), ts[i]? = some t -> ks[i]? = some k -> (∃ b, t = .ref b /\ H b = some (.tup (k.map V.int))) /\ k ≠ []
end
theorem uV {P : Program} {w : World} {H : Hp} {h : Heap} {ts : List V} {ks : List (List Int)} {vs : List Value} (ok : HOk P w H h) (r : aDu H ts ks) (v : Vals ts vs) : TupsI h vs ks := by
 have hl := v.length
 refine ⟨by rw [<- hl]; exact r.1, fun i u k e1 e2 => ?_⟩
 have hi : i < ts.length := by
  have := (List.getElem?_eq_some_iff.mp e1).1
  omega
 obtain ⟨⟨b, eb, hb⟩, hk⟩ := r.2 i ts[i] k (List.getElem?_eq_getElem hi) e2
 obtain ⟨u', e3, ru⟩ := v.get (i := i) (x := ts[i]) (List.getElem?_eq_getElem hi)
 rw [e1] at e3
 cases e3
 rw [eb] at ru
 cases (show u = Value.ref b from ru)
 obtain ⟨_, its, rv, o, ho, hc, n, hd⟩ := (show ObjOk P w H h b (.tup (k.map V.int)) from ok b _ hb)
 exact ⟨⟨b, o, _, n, rfl, ho, hc, hd, by rw [List.toList_toArray]; exact intsAre_of rv⟩, hk⟩
def aCg (ks : List (List Int)) : Nat -> Nat -> Bool := fun i j => HT.lexLt (ks.getD i []) (ks.getD j [])
theorem nT {ts : List V} {vs : List Value} (v : Vals ts vs) : ∀ (l : List Nat), (∀ i ∈ l, i < ts.length) -> Vals (l.map fun i => ts.getD i .non) (l.map fun i => vs.getD i Value.none)
 | [], _ => .nil
 | i :: l, h => by
  have hi := h i (.head _)
  obtain ⟨u, e, r⟩ := v.get (i := i) (x := ts[i]) (List.getElem?_eq_getElem hi)
  have e1 : ts.getD i .non = ts[i] := by simp [hi]
  have e2 : vs.getD i Value.none = u := by simp [e]
  refine .cons ?_ (nT v l fun j hj => h j (.tail _ hj))
  show RelV (ts.getD i .non) (vs.getD i Value.none)
  rw [e1, e2]; exact r
section
variable {X : Cx}
theorem zS {pins : List (Addr × Obj)} {σ : L2.St} {H : Hp} {s : Shared} {Q : VK} {ts : List V} {vs : List Value} {h' hf : Heap} {tk c : Nat} {q : Array Nat} (I : Inv X pins σ H s) (v : Vals ts vs) (h64 : vs.length < 64) (k1 : ∀ b o, s.heap.get? b = some o -> h'.get? b = some o) (k2 : ∀ b o, h'.get? b = some o -> hf.get? b = some o) (hp : Pm vs.length q)
  (hc : hf.get? h'.objs.size = some (seqObj "list" (q.toList.map fun i => vs.getD i Value.none).toArray c)) (hq : ∀ D, H D = none -> Q (.ref D) (upd H D (.lst (q.toList.map fun i => ts.getD i .non)))) : EP X pins σ Q (.ref h'.objs.size) { s with heap := hf, toks := tk } := by
 have I1 : Inv X pins σ H { s with heap := h', toks := tk } := I.kept (t' := tk) k1
 have hb : ∀ i ∈ q.toList, i < ts.length := fun i hi => by
  have : i ∈ (List.range vs.length).toArray := hp.mem_iff.mp (Array.mem_toList_iff.mp hi)
  rw [v.length]
  simpa using this
 have hl : q.toList.length = vs.length := by rw [Array.length_toList]; exact hp.size
 refine ⟨.ref h'.objs.size, _, I1.laid (a := h'.objs.size) (o := .lst (q.toList.map fun i => ts.getD i .non)) (t' := tk) k2 (Nat.le_refl _) ⟨?_, _, c, nT v _ hb, hc⟩, rfl, hq _ (I1.hok.fresh (Nat.le_refl _))⟩
 rw [List.length_map, hl, sizeLine_eq]
 omega
end
end SRT
namespace M
open PySem PySem.Spec PyProof.Rows L2 SRT
def oR (k : List Int) : D := .tuple (k.map .int)
def oU : List D -> Option (List Int)
 | [] => some []
 | .int i :: ds => match oU ds with
  | some r => some (i :: r)
  | none => none
 | _ => none
def w4 : D -> Option (List Int)
 | .tuple ds => oU ds
 | _ => none
def mU : List D -> Option (List (List Int))
 | [] => some []
 | d :: ds => match w4 d with
  | none => none
  | some k => match mU ds with
   | none => none
   | some ks => some (k :: ks)
theorem rG : ∀ {ds : List D} {k : List Int}, oU ds = some k -> ds = k.map .int
 | [], _, h => by cases h; rfl
 | d :: ds, k, h => by
  cases d with
  | int i =>
   unfold oU at h
   cases e : oU ds with
   | none => rw [e] at h; cases h
   | some r => rw [e] at h; cases h; rw [rG e]; rfl
  | _ => cases h
theorem nG : ∀ k : List Int, oU (k.map .int) = some k
 | [] => rfl
 | i :: k => by
  show (match oU (k.map .int) with | some r => some (i :: r) | none => none) = _
  rw [nG k]
theorem u9 (k : List Int) : w4 (oR k) = some k := nG k
theorem xK {d : D} {k : List Int} (h : w4 d = some k) : d = oR k := by
 cases d with
 | tuple ds => unfold oR; rw [<- rG h]
 | _ => cases h
theorem qA : ∀ {ds : List D} {ks : List (List Int)}, mU ds = some ks -> ds = ks.map oR
 | [], _, h => by cases h; rfl
 | d :: ds, ks, h => by
  unfold mU at h
  cases e : w4 d with
  | none => rw [e] at h; cases h
  | some k =>
   rw [e] at h
   cases e2 : mU ds with
   | none => rw [e2] at h; cases h
   | some ks' => rw [e2] at h; cases h; rw [xK e, qA e2]; rfl
theorem oB : ∀ ks : List (List Int), mU (ks.map oR) = some ks
 | [] => rfl
 | k :: ks => by
  show (match w4 (oR k) with | none => none | some k => match mU (ks.map oR) with | none => none | some ks => some (k :: ks)) = _
  rw [u9, oB ks]
def aBj (k : List Int) : List (List Int) -> List (List Int)
 | [] => [k]
 | x :: r => if HT.lexLt k x = true then k :: x :: r else x :: aBj k r
def jE : List (List Int) -> List (List Int)
 | [] => []
 | k :: ks => aBj k (jE ks)
def leK (a b : List Int) : Prop := HT.lexLt b a = false
theorem iT (k : List Int) : ∀ l, (aBj k l).Perm (k :: l)
 | [] => .refl _
 | x :: r => by
  unfold aBj
  split
  ·exact .refl _
  ·exact ((iT k r).cons x).trans (List.Perm.swap k x r)
theorem cC : ∀ l, (jE l).Perm l
 | [] => .refl _
 | k :: ks => (iT k _).trans ((cC ks).cons k)
theorem zD {k y : List Int} {l : List (List Int)} (h : y ∈ aBj k l) : y = k \/ y ∈ l := by
 have := (iT k l).mem_iff.mp h
 exact List.mem_cons.mp this
theorem iV (k : List Int) : ∀ l, l.Pairwise leK -> (aBj k l).Pairwise leK
 | [], _ => List.pairwise_singleton _ _
 | x :: r, h => by
  unfold aBj
  obtain ⟨h1, h2⟩ := List.pairwise_cons.mp h
  split
  ·rename_i e
   have e1 := u4 _ _ e
   exact List.pairwise_cons.mpr ⟨fun y hy => by
    rcases List.mem_cons.mp hy with rfl | hy
    ·exact e1
    ·exact sX _ _ _ e1 (h1 y hy), h⟩
  ·rename_i e
   refine List.pairwise_cons.mpr ⟨fun y hy => ?_, iV k r h2⟩
   rcases zD hy with rfl | hy
   ·exact Bool.eq_false_iff.mpr e
   ·exact h1 y hy
theorem cV : ∀ l, (jE l).Pairwise leK
 | [] => .nil
 | k :: ks => iV k _ (cV ks)
theorem fQ : ∀ {a b : List (List Int)}, a.Perm b -> a.Pairwise leK -> b.Pairwise leK -> a = b
 | [], b, p, _, _ => (List.Perm.nil_eq p)
 | x :: a, [], p, _, _ => absurd p.length_eq (by simp)
 | x :: a, y :: b, p, ha, hb => by
  obtain ⟨a1, a2⟩ := List.pairwise_cons.mp ha
  obtain ⟨b1, b2⟩ := List.pairwise_cons.mp hb
  have hx : x ∈ y :: b := p.mem_iff.mp (.head _)
  have hy : y ∈ x :: a := p.mem_iff.mpr (.head _)
  have e : x = y := by
   rcases List.mem_cons.mp hx with e | hx
   ·exact e
   ·rcases List.mem_cons.mp hy with e | hy
    ·exact e.symm
    ·exact aAc _ _ (b1 x hx) (a1 y hy)
  subst e
  rw [fQ (List.Perm.cons_inv p) a2 b2]
theorem picked {ks : List (List Int)} {q : Array Nat} {n : Nat} (hn : n = ks.length) (hp : Pm n q) (hs : Sd (aCg ks) q n) : (q.toList.map fun i => ks.getD i []) = jE ks := by
 subst hn
 have e0 : ((List.range ks.length).map fun i => ks.getD i []) = ks := by
  refine List.ext_getElem? fun i => ?_
  rw [List.getElem?_map]
  by_cases hi : i < ks.length
  ·rw [List.getElem?_range hi]; simp [hi]
  ·rw [List.getElem?_eq_none (by rw [List.length_range]; omega), List.getElem?_eq_none (by omega)]; rfl
 have p1 : q.toList.Perm (List.range ks.length) := by
  have := hp.toList
  simpa using this
 have p2 : (q.toList.map fun i => ks.getD i []).Perm ks := by
  have := p1.map (fun i => ks.getD i [])
  rwa [e0] at this
 refine fQ (p2.trans (cC ks).symm) ?_ (cV ks)
 rw [List.pairwise_iff_getElem]
 intro i j hi hj hij
 rw [List.length_map] at hi hj
 rw [List.getElem_map, List.getElem_map]
 have sz : q.toList.length = ks.length := by rw [Array.length_toList]; exact hp.size
 have := hs i j (Nat.le_of_lt hij) (by omega)
 unfold SRT.le aCg Pt at this
 have e1 : q.getD i 0 = q.toList[i] := by
  have : i < q.size := by rw [<- Array.length_toList]; exact hi
  simp [Array.getD, this]
 have e2 : q.getD j 0 = q.toList[j] := by
  have : j < q.size := by rw [<- Array.length_toList]; exact hj
  simp [Array.getD, this]
 rw [e1, e2] at this
 exact this
section
variable {X : Cx} {K : PySem.W.Frag}
theorem yD {G : Hp} {v : V} {k : List Int} (h : Rep K G v (oR k)) : ∃ b, v = .ref b /\ G b = some (.tup (k.map V.int)) := by
 cases h with
 | @tup b xs _ h1 h2 =>
  refine ⟨b, rfl, ?_⟩
  have : xs = k.map V.int := by
   clear h1
   induction k generalizing xs with
   | nil => cases h2; rfl
   | cons i k ih =>
    cases h2 with
    | cons r t => cases r; rw [ih t]; rfl
  rw [<- this]; exact h1
theorem yJ {G : Hp} {b : Addr} {k : List Int} (h : G b = some (.tup (k.map V.int))) : Rep K G (.ref b) (oR k) := by
 refine .tup h ?_
 clear h
 induction k with
 | nil => exact .nil
 | cons i k ih => exact .cons (.int i) ih
theorem uI {G H : Hp} (gh : Same G H) : ∀ {ts : List V} {ks : List (List Int)}, Reps K G ts (ks.map oR) -> (∀ k ∈ ks, k ≠ []) -> aDu H ts ks := by
 intro ts ks r hne
 refine ⟨by rw [r.length, List.length_map], fun i t k e1 e2 => ?_⟩
 obtain ⟨d, e3, rd⟩ := r.get e1
 rw [List.getElem?_map, e2] at e3
 cases e3
 obtain ⟨b, rfl, hb⟩ := yD rd
 exact ⟨⟨b, rfl, gh _ _ hb⟩, hne k (List.mem_of_getElem? e2)⟩
theorem nZ {G : Hp} {ts : List V} {ks : List (List Int)} (h : ∀ (i : Nat), i < ks.length -> Rep K G (ts.getD i .non) (oR (ks.getD i []))) : ∀ l : List Nat, (∀ i ∈ l, i < ks.length) -> Reps K G (l.map fun i => ts.getD i .non) ((l.map fun i => ks.getD i []).map oR)
 | [], _ => .nil
 | i :: l, hl => .cons (h i (hl i (.head _))) (nZ h l fun j hj => hl j (.tail _ hj))
theorem aG8 {n : Nat} {q : Array Nat} (hp : Pm n q) : ∀ i ∈ q.toList, i < n := fun i hi => by
 have : i ∈ (List.range n).toArray := hp.mem_iff.mp (Array.mem_toList_iff.mp hi)
 simpa using this
def wt (G H : Hp) : Hp := fun b => match G b with
 | some o => some o
 | none => match H b with
  | some (.tup xs) => some (.tup xs)
  | _ => none
theorem aBq {G H : Hp} : Same G (wt G H) := fun b o e => by unfold wt; rw [e]
theorem aBl {G H : Hp} (gh : Same G H) : Same (wt G H) H := fun b o e => by
 unfold wt at e
 cases eg : G b with
 | some u => rw [eg] at e; cases e; exact gh _ _ eg
 | none =>
  rw [eg] at e
  dsimp only at e
  split at e
  ·rename_i xs eh
   cases e; exact eh
  ·cases e
theorem aFe {G H : Hp} (gh : Same G H) {b : Addr} {xs : List V} (e : H b = some (.tup xs)) : wt G H b = some (.tup xs) := by
 unfold wt
 cases eg : G b with
 | some u =>
  have := gh _ _ eg
  rw [e] at this
  exact this.symm
 | none => dsimp only; rw [e]
theorem aCh {G H : Hp} (gh : Same G H) : Step G H (wt G H) H := ⟨aBq, Same.refl _, aBl gh, fun b hb hg => by
 unfold wt
 rw [hg]
 dsimp only
 split
 ·rename_i xs eh; exact .inr ⟨xs, eh⟩
 ·exact .inl rfl⟩
end
section
variable {X : Cx} {E : L2.St -> XK}
def yI (i : Nat) (g : List D -> Option (List D)) : MS := fun en => match en[i]? with
 | some (some (.o (.list ds))) => match g ds with
  | some es => some (.nx (en.set i (some (.o (.list es)))))
  | none => none
 | _ => none
theorem aC5 {i : Nat} {st : Stmt} {r : V -> List V -> Hp -> VK -> Prop} {g : List D -> Option (List D)} (hp : PS X st (vY (aIc X.K "list" r (aDs i))))
  (hg : ∀ (G H : Hp) (a : Addr) (xs : List V) (ds es : List D) (Q : VK), H a = some (.lst xs) -> Reps X.K G xs ds -> g ds = some es -> (∀ u ys, Reps X.K G ys es -> Q u (upd H a (.lst ys))) -> r (.ref a) [] H Q) : DS X E st (yI i g) := by
 refine DS.in ⟨_, hp, fun B G0 G W H σ en Dn hh hs hw => ?_⟩
 unfold yI at hw
 split at hw
 ·rename_i ds ei
  obtain ⟨v, e1, a, o, rfl, e2, e3, e4⟩ := hs.2 i _ ei
  cases e4 with
  | @lst xs _ rp =>
  cases eg : g ds with
  | none => rw [eg] at hw; exact hw.elim
  | some es =>
   rw [eg] at hw
   refine ⟨_, e1, .inl ⟨rfl, _, SqL.of e3⟩, hg G H a xs ds es _ e3 rp eg fun u ys ry => ?_⟩
   obtain ⟨w1, w2⟩ := lW (o' := .lst ys) (d' := .list es) hh hs e2 e1 (.lst ry)
   exact hw _ _ _ _ w1 w2
 ·exact hw.elim
theorem Reps.rev {K : PySem.W.Frag} {G : Hp} : ∀ {xs : List V} {ds : List D}, Reps K G xs ds -> Reps K G xs.reverse ds.reverse
 | _, _, .nil => .nil
 | _, _, .cons h r => by
  rw [List.reverse_cons, List.reverse_cons]
  exact (Reps.rev r).append (.cons h .nil)
theorem Reps.dropLast {K : PySem.W.Frag} {G : Hp} : ∀ {xs : List V} {ds : List D}, Reps K G xs ds -> Reps K G xs.dropLast ds.dropLast
 | _, _, .nil => .nil
 | _, _, .cons h .nil => .nil
 | _, _, .cons h (.cons h2 r) => .cons h (Reps.dropLast (.cons h2 r))
def aHw (i : Nat) : MS := yI i fun ds => if ds = [] then none else some ds.dropLast
theorem aEk {i : Nat} {st : Stmt} (hp : PS X st (vY (aIc X.K "list" aIz (aDs i)))) : DS X E st (aHw i) :=
 aC5 hp fun G H a xs ds es Q h rp e q => by
  split at e
  ·cases e
  ·rename_i hne
   cases e
   have hl := rp.length
   have hx : xs ≠ [] := fun z => hne (List.length_eq_zero_iff.mp (by rw [<- hl, z]; rfl))
   have hpos : xs.length - 1 < xs.length := Nat.sub_lt (List.length_pos_iff.mpr hx) (by decide)
   exact ⟨a, xs, _, rfl, rfl, h, List.getElem?_eq_getElem hpos, q _ _ rp.dropLast⟩
def cutD (ds : List D) (lo hi : Option Int) : List D := (ds.drop (HT.sIx ds.length 0 lo)).take (HT.sIx ds.length ds.length hi - HT.sIx ds.length 0 lo)
theorem Reps.cut {K : PySem.W.Frag} {G : Hp} {xs : List V} {ds : List D} (r : Reps K G xs ds) (lo hi : Option Int) : Reps K G (aDp xs lo hi) (cutD ds lo hi) := by
 unfold aDp cutD
 rw [r.length]
 exact (r.drop _).take _
def aGz : En -> Res (Option Int) := fun _ => .ok none
def mPt (fe : En -> Res Ev) : En -> Res (Option Int) := fun en => (fe en).bind fun x => match x.c with
 | .p (.int i) => .ok (some i)
 | _ => .bad
def tP (K : PySem.W.Frag) (E : L2.St -> XK) (f : En -> Res (Option Int)) : TO := fun σ H R => ∃ B G0 G W en, SimH B G0 G W H /\ SimS K W G H σ en /\ wpR (f en) (fun k => ∀ G' H', Step G H G' H' -> R k H') (PostX (E σ) G H)
def DP (X : Cx) (E : L2.St -> XK) (o : Option Expr) (f : En -> Res (Option Int)) : Prop := PO X o (tP X.K E f)
theorem wB : DP X E none aGz := fun pins s σ H R I ⟨B, G0, G, W, en, hh, hs, hw⟩ => aC1 pins s σ H R I (hw G H (Step.refl hh.gh))
theorem eX {e : Expr} {fe : En -> Res Ev} (he : DE X E e fe) : DP X E (some e) (mPt fe) := fun pins s σ H R I ⟨B, G0, G, W, en, hh, hs, hw⟩ => by
 obtain ⟨t, p, m⟩ := he.out
 refine aDe p pins s σ H R I (m B G0 G W H σ en _ hh hs ?_)
 unfold mPt at hw
 rw [aZ] at hw
 refine aR hw (fun x hx G1 H1 v s1 e1 => ?_) fun C h => h
 obtain ⟨G2, s2, e2⟩ := e1.c s1
 cases ex : x.c with
 | p d =>
  rw [ex] at hx e2
  cases d with
  | int i => cases e2; exact ⟨i, rfl, hx G2 H1 s2⟩
  | _ => exact hx.elim
 | f d => rw [ex] at hx; exact hx.elim
 | b d => rw [ex] at hx; exact hx.elim
 | x C => rw [ex] at hx; exact hx.elim
def mSl (fe : En -> Res Ev) (fl fh : En -> Res (Option Int)) : En -> Res Ev := fun en => (fe en).bind fun x => (fl en).bind fun l => (fh en).bind fun u => match dY x.c with
 | some ds => .ok (.f (.list (cutD ds l u)))
 | none => .bad
theorem tV {e : Expr} {lo hi : Option Expr} {fe : En -> Res Ev} {fl fh : En -> Res (Option Int)} {p2 pos : Pos} (he : DE X E e fe) (hl : DP X E lo fl) (hu : DP X E hi fh) : DE X E (.Subscript e (.Slice lo hi none p2) pos) (mSl fe fl fh) := by
 obtain ⟨t, p, m⟩ := he.out
 refine DE.in ⟨_, xU aCd p hl hu, fun B G0 G W H σ en Q hh hs hw => ?_⟩
 unfold mSl at hw
 refine m B G0 G W H σ en _ hh hs (DE.go hw fun x G1 H1 v s1 e1 h1 => ?_)
 refine ⟨B, G0, G1, W, en, hh.step s1, hs.step s1, ?_⟩
 rw [aZ] at h1
 refine aR h1 (fun l hx G2 H2 s2 => ?_) fun C h => h
 refine ⟨B, G0, G2, W, en, (hh.step s1).step s2, (hs.step s1).step s2, ?_⟩
 have hx' := aR hx (fun r h => h.step s2) (fun C h => h.step s2)
 rw [aZ] at hx'
 refine aR hx' (fun u hy G3 H3 s3 => ?_) fun C h => h
 cases ex : dY x.c with
 | none => rw [ex] at hy; exact hy.elim
 | some ds =>
  rw [ex] at hy
  obtain ⟨a, xs, rfl, rd, rp⟩ := kT (Hs := H) s3.gh (e1.step (s2.trans s3)) ex
  exact ⟨a, xs, rfl, .inl rd, fun p hp => hy _ _ _ (s3.trans (Step.lay s3.gh hp)) ⟨p, _, rfl, s3.h.free hp, s3.gh.free hp, a9, .lst (rp.cut l u)⟩⟩
end
section
variable {X : Cx} {E : L2.St -> XK} {e : Expr}
def jK (i : Nat) (fe : En -> Res Ev) : MS := fun en => match en[i]? with
 | some (some (.o (.list ds))) => match fe en with
  | .ok (.f (.list es)) => if ds.length + es.length <= 100000 then some (.nx (en.set i (some (.o (.list (ds ++ es)))))) else none
  | .exc C => some (.ex C en)
  | _ => none
 | _ => none
theorem uF {i : Nat} {fe : En -> Res Ev} {st : Stmt} (he : DE X E e fe) (hp : ∀ t, PE X e t -> PS X st (vY (tBM X.K "list" wO (aDs i) (aC9 t aHb)))) : DS X E st (jK i fe) := by
 obtain ⟨t, q, mm⟩ := he.out
 refine DS.in ⟨_, hp t q, fun B G0 G W H σ en Dn hh hs hw => ?_⟩
 unfold jK at hw
 split at hw
 ·rename_i ds ei
  obtain ⟨v, e1, a, o, rfl, e2, e3, e4⟩ := hs.2 i _ ei
  cases e4 with
  | @lst xs _ rp =>
  refine ⟨_, e1, .inl ⟨rfl, _, SqL.of e3⟩, mm B G0 G W H σ en _ hh hs ?_⟩
  cases ef : fe en with
  | bad => rw [ef] at hw; exact hw
  | exc C => rw [ef] at hw; exact fun G1 H1 s => hw G1 W H1 σ (hh.step s) (hs.step s)
  | ok r =>
   rw [ef] at hw
   cases r with
   | p d => exact hw.elim
   | b d => exact hw.elim
   | x C => exact hw.elim
   | f d =>
    cases d with
    | list es =>
     dsimp only at hw
     split at hw
     ·rename_i hl
      rintro G1 H1 y s ⟨b, ob, rfl, k1, k2, k3, k4⟩
      cases k4 with
      | @lst zs _ rz =>
      have hx := s.h _ _ e3
      refine ⟨a, b, xs, zs, rfl, rfl, hx, k3, Nat.le_trans (by rw [rp.length, rz.length]; exact hl) (by decide), ?_⟩
      obtain ⟨w1, w2⟩ := lW (o' := .lst (xs ++ zs)) (d' := .list (ds ++ es)) (hh.step s) (hs.step s) e2 e1 (.lst ((rp.mono s.g).append rz))
      exact hw _ _ _ _ w1 w2
     ·exact hw.elim
    | _ => exact hw.elim
 ·exact hw.elim
end
section
variable {X : Cx} {K : PySem.W.Frag}
end
end M
namespace L2
open PySem PySem.Spec PyProof.Rows
theorem uB : typeLookup (Value.type "list_reverseiterator") (Str.ofString "__len__") = pure none := by rfl
theorem yE : typeLookup (Value.type "list_reverseiterator") (Str.ofString "__length_hint__") = pure (some (Value.builtin "list_reverseiterator.__length_hint__")) := by rfl
theorem aB0 : isSubtype (Value.type "list_reverseiterator") (Value.type "list_reverseiterator") = pure true := by rfl
theorem uT {prog : Program} {w : World} {A : Around} (hh : A.handled = none) {I l : Addr} (hne : l ≠ I) (items : Array Value) :
  WalksS prog w A I [I, l] [I] Eq items.size (fun i v => items[items.size - 1 - i]? = some v) (fun i s => s.heap.IsRevIter I l ((items.size : Int) - 1 - i) /\ s.heap.IsList l items) where
 sub := fun b hb => by rw [List.mem_singleton.mp hb]; exact .head _
 grefl := fun _ => rfl
 gtrans := fun _ _ _ h1 h2 => h1.trans h2
 frame := fun i s h' tk st _ k => by
  obtain ⟨⟨o, h1, h2, h3⟩, ⟨p, h4, h5⟩⟩ := st
  exact ⟨⟨o, k I (.head _) o h1, h2, h3⟩, ⟨p, k l (.tail _ (.head _)) p h4, h5⟩⟩
 item := fun i s Q E hi st k => by
  obtain ⟨st1, st2⟩ := st
  have e : ((items.size : Int) - 1 - i) = ((items.size - 1 - i : Nat) : Int) := by omega
  rw [e] at st1
  have hx : items.size - 1 - i < items.size := by omega
  refine wpAny_pyNext_rev_item st1 st2 (x := items[items.size - 1 - i]) (by simp [hx]) fun h' g1 g2 => ?_
  refine k _ _ (by simp [hx]) ⟨?_, ?_⟩ ⟨fun b o hb q => ?_, rfl, rfl, rfl, Nat.le_refl _⟩
  ·have e2 : ((items.size - 1 - i : Nat) : Int) - 1 = (items.size : Int) - 1 - ((i + 1 : Nat) : Int) := by omega
   rw [<- e2]
   exact g1
  ·obtain ⟨p, h4, h5⟩ := st2
   exact ⟨p, (g2.2 l hne).trans h4, h5⟩
  ·exact (g2.2 b (fun z => hb (by rw [z]; exact .head _))).trans q
 done := fun s Q E st k => by
  obtain ⟨st1, st2⟩ := st
  have e : ((items.size : Int) - 1 - (items.size : Nat)) = -1 := by omega
  rw [e] at st1
  exact wpAny_pyNext_rev_end hh st1 fun h' g => k _ ⟨fun b o hb q => g b o (fun z => hb (by rw [z]; exact .head _)) q, rfl, rfl, rfl, Nat.le_refl _⟩
 self := fun i s Q E st h => wpAny_pyIter_revIter st.1 h
theorem x9 {prog : Program} {w : World} {A : Around} {E : Value -> Shared -> Prop} {s : Shared} {I : Addr} {Q : Bool -> Shared -> Prop} (t : s.TypeIs (.ref I) "list_reverseiterator") (q : Q false s) : wpAny (model prog w) A (Builtin.List.listLengthHint (.ref I)) Q E s := by
 unfold Builtin.List.listLengthHint
 refine wpAny_bind (wpAny_specialOf t uB ?_)
 refine wpAny_bind (wpAny_specialOf t yE ?_)
 refine wpAny_bind (wpAny_isInstance t aB0 ?_)
 exact wpAny_pure q
theorem rN {prog : Program} {w : World} {A : Around} (hh : A.in1.handled = none) {s : Shared} {R : Result -> Shared -> Prop} {I l : Addr} {items : Array Value} (hne : l ≠ I) (hI : s.heap.IsRevIter I l ((items.size : Int) - 1)) (hl : s.heap.IsList l items) (S : Addr) (hS1 : S ≠ I) (hS2 : S ≠ l) (res : Value) (c₀ : Nat)
  (hS : s.heap.get? S = some { cls := Value.type "list", data := Data.seq #[] c₀ }) (hz : items.size <= sizeLine)
  (k : ∀ (s' : Shared) (acc' : Array Value) (c' : Nat), Moved [S, I] Eq s s' -> s'.heap.get? S = some { cls := Value.type "list", data := Data.seq acc' c' } -> ItemsOf (fun i v => items[items.size - 1 - i]? = some v) acc' items.size -> R (.ok (.ret res)) s') :
  wpAny (model prog w) A.in1 (Builtin.List.listExtendWith (.ref S) (.ref I) res) (fun fin s' => match fin with
   | Fin.done f => R (.ok f) s'
   | Fin.again c' => c'.quiet = true /\ codeAny (model prog w) A c' R s') (fun e s' => R (.error e) s') s := by
 have t : s.TypeIs (.ref I) "list_reverseiterator" := by
  obtain ⟨o, h1, h2, _⟩ := hI
  exact ⟨o, h1, h2⟩
 unfold Builtin.List.listExtendWith
 refine wpAny_bind (wpAny_typeOf t ?_)
 have e : (Builtin.List.listSameRef (.ref S) (.ref I) || Value.type "list_reverseiterator" == Value.type "list" || Value.type "list_reverseiterator" == Value.type "tuple") = false := by
  have : (S == I) = false := beq_false_of_ne hS1
  show ((S == I) || _ || _) = false
  rw [this]
  decide
 rw [e, if_neg (by decide)]
 refine wpAny_bind (wpAny_pyIter_revIter hI ?_)
 refine wpAny_bind (wpAny_holding (x9 t ?_))
 refine wpAny_pure ?_
 refine ⟨plainId_quiet F.plain_extend_loop _, ?_⟩
 exact codeAny_extend_loopS (uT hh hne items) hz S (by simp [hS1, hS2]) res items.size 0 s #[] c₀ rfl (Nat.zero_le _) ⟨by simpa using hI, hl⟩ hS ⟨rfl, fun j v h => by simp at h⟩ k
theorem lT {prog : Program} {w : World} {A : Around} {E : Value -> Shared -> Prop} (hh : A.in1.in1.handled = none) {s : Shared} {Q : Value -> Shared -> Prop} {I l : Addr} {items : Array Value} (hne : l ≠ I) (hI : s.heap.IsRevIter I l ((items.size : Int) - 1)) (hl : s.heap.IsList l items) (hz : items.size <= sizeLine)
  (k : ∀ (s' : Shared) (acc' : Array Value) (c' : Nat), (∀ b o, b ≠ I -> s.heap.get? b = some o -> s'.heap.get? b = some o) -> s'.gens = s.gens -> s'.drawn = s.drawn -> s'.os = s.os -> s'.heap.get? s.heap.objs.size = some { cls := Value.type "list", data := Data.seq acc' c' } -> ItemsOf (fun i v => items[items.size - 1 - i]? = some v) acc' items.size -> Q (.ref s.heap.objs.size) s') :
  wpAny (model prog w) A (call (.type "list") [.ref I]) Q E s := by
 obtain ⟨oI, hI1, hI2, hI3⟩ := id hI
 obtain ⟨ol, hl1, hl2⟩ := id hl
 have lI : I < s.heap.objs.size := Heap.lt_size hI1
 have ll : l < s.heap.objs.size := Heap.lt_size hl1
 refine callType_codes F.called_list (F.typeCall_list_1 _) F.entry_list_init (code_list_new _ ?_) ?_ (Q₁ := fun obj s₁ => obj = .ref s.heap.objs.size /\ s₁ = { s with heap := s.heap.push { cls := Value.type "list", data := Data.seq #[] } })
 ·exact ⟨rfl, rfl⟩
 ·rintro obj s₁ ⟨rfl, rfl⟩
  have hS : (s.heap.push { cls := Value.type "list", data := Data.seq #[] }).get? s.heap.objs.size = some { cls := Value.type "list", data := Data.seq #[] } := Heap.get?_push_size s.heap rfl
  refine ⟨⟨_, hS, rfl⟩, F.args_list_init_2 _ _, ?_⟩
  have hI' : (s.heap.push { cls := Value.type "list", data := Data.seq #[] }).get? I = some oI := Heap.get?_push_of_some _ hI1
  have hl' : (s.heap.push { cls := Value.type "list", data := Data.seq #[] }).get? l = some ol := Heap.get?_push_of_some _ hl1
  have u1 : ((s.heap.push { cls := Value.type "list", data := Data.seq #[] }).update s.heap.objs.size (Obj.mapSeq fun _ => #[])).get? s.heap.objs.size = some { cls := Value.type "list", data := Data.seq #[] } := (Heap.get?_update_self _ hS rfl).trans rfl
  have u2 : ∀ b o, b ≠ s.heap.objs.size -> (s.heap.push { cls := Value.type "list", data := Data.seq #[] }).get? b = some o -> ((s.heap.push { cls := Value.type "list", data := Data.seq #[] }).update s.heap.objs.size (Obj.mapSeq fun _ => #[])).get? b = some o := fun b o hb q => (Heap.get?_update_other _ _ (Ne.symm hb)).trans q
  refine wpAny_bind ?_
  unfold Builtin.List.listItems
  refine wpAny_bind (wpAny_seqItems hS rfl (wpAny_pure ?_))
  refine wpAny_bind (wpAny_updateSeq hS rfl ?_ (by decide) (by decide))
  refine wpAny_bind (wpAny_letGo ?_)
  refine rN (A := A.in1) hh hne ⟨oI, u2 I oI (Nat.ne_of_lt lI) hI', hI2, hI3⟩ ⟨ol, u2 l ol (Nat.ne_of_lt ll) hl', hl2⟩ s.heap.objs.size (Nat.ne_of_gt lI) (Nat.ne_of_gt ll) .none 0 u1 hz fun s' acc' c' mv g it => ?_
  exact ⟨rfl, k s' acc' c' (fun b o hb q => mv.heap b o (by
   have : b ≠ s.heap.objs.size := Nat.ne_of_lt (Heap.lt_size q)
   simp [hb, this]) (u2 b o (Nat.ne_of_lt (Heap.lt_size q)) (Heap.get?_push_of_some _ q))) mv.gens.symm mv.drawn mv.os g it⟩
section
variable {X : Cx}
theorem aB7 : bootBuiltins "reversed" = some (.type "reversed") := by decide +kernel
theorem xI : bootBuiltins "list" = some (.type "list") := by decide +kernel
def tLR (K : PySem.W.Frag) (te : TE) : TE := fun σ H Q => te σ H fun x H1 => ∃ a xs, x = .ref a /\ SqL K H1 a xs /\ ∀ l, H1 l = none -> Q (.ref l) (upd H1 l (.lst xs.reverse))
theorem y7 {xs : List V} {its : List Value} (r : Vals xs its) {acc : Array Value} (h : ItemsOf (fun i v => its.toArray[its.toArray.size - 1 - i]? = some v) acc its.toArray.size) : acc.toList = its.reverse := by
 obtain ⟨h1, h2⟩ := h
 have h1 : acc.size = its.length := h1.trans (List.size_toArray ..)
 apply List.ext_getElem?
 intro i
 rw [Array.getElem?_toList]
 by_cases hi : i < its.length
 ·have hx : i < acc.size := by omega
  have this := h2 i acc[i] (by simp [hx])
  have this : its.toArray[its.toArray.size - 1 - i]? = some acc[i] := this
  rw [Array.getElem?_eq_getElem hx, List.getElem?_reverse hi]
  rw [List.size_toArray, List.getElem?_toArray] at this
  exact this.symm
 ·rw [Array.getElem?_eq_none (by omega), List.getElem?_eq_none (by rw [List.length_reverse]; omega)]
theorem hV : ∀ {xs : List V} {us : List Value}, Vals xs us -> Vals xs.reverse us.reverse
 | _, _, .nil => .nil
 | _, _, .cons r t => by
  rw [List.reverse_cons, List.reverse_cons]
  exact (hV t).append (.cons r .nil)
theorem rY {e : Expr} {te : TE} {p1 p2 pos1 pos2 : Pos} (hc : X.calm = true) (hg1 : Gl X "list") (hm1 : X.mg "list" = none) (hg2 : Gl X "reversed") (hm2 : X.mg "reversed" = none) (he : PE X e te)
  (hs1 : starEach [.Call (.Name "reversed" p2) [e] [] pos2] X.env = (false, eval (.Call (.Name "reversed" p2) [e] [] pos2) X.env) :: starEach [] X.env := by rfl) (hs2 : starEach [e] X.env = (false, eval e X.env) :: starEach [] X.env := by rfl) :
  PE X (.Call (.Name "list" p1) [.Call (.Name "reversed" p2) [e] [] pos2] [] pos1) (tLR X.K te) := by
 intro pins s σ H Q I h
 refine wpAny_Call_Name_kw (hX I hg1 hm1 xI (PyProof.Rows.callWith_type1 ?_ hs1 rfl))
 rw [hs1]
 show wpAny _ _ (spliced ((false, eval _ X.env) :: backTo pos1 (starEach [] X.env))) _ _ s
 refine Calls.spliced_cons (wpAny_Call_Name_kw (hX I hg2 hm2 aB7 (PyProof.Rows.callWith_type1 ?_ hs2 rfl)))
 rw [hs2]
 show wpAny _ _ (spliced ((false, eval _ X.env) :: backTo pos2 (starEach [] X.env))) _ _ s
 refine Calls.spliced_cons (thn (he pins s σ H _ I h) fun u s1 ⟨x, H1, I1, r1, a, xs, ex, hq, q⟩ => Calls.spliced_nil ?_)
 subst ex
 cases (show u = Value.ref a from r1)
 obtain ⟨its, rv, pl, hz⟩ := I1.list hq
 refine call_reversed_list pl.isList (Calls.spliced_nil ?_)
 have hlen := rv.length
 have kp : ∀ b o, s1.heap.get? b = some o -> (s1.heap.push (revObj a ((its.toArray.size : Int) - 1))).get? b = some o := fun b o q => Heap.get?_push_of_some _ q
 have I2 : Inv X pins σ H1 { s1 with heap := s1.heap.push (revObj a ((its.toArray.size : Int) - 1)) } := I1.kept (t' := s1.toks) kp
 have hR : (s1.heap.push (revObj a ((its.toArray.size : Int) - 1))).get? s1.heap.objs.size = some (revObj a ((its.toArray.size : Int) - 1)) := Heap.get?_push_size _ rfl
 have hp := I1.fpOk (Nat.le_refl _) (I1.hok.fresh (Nat.le_refl s1.heap.objs.size))
 obtain ⟨o, n, ho, hoc, hod, hos⟩ := pl
 have lt : a < s1.heap.objs.size := Heap.lt_size ho
 refine lT (s := { s1 with heap := s1.heap.push (revObj a ((its.toArray.size : Int) - 1)) }) (I := s1.heap.objs.size) (l := a) (items := its.toArray) (I.ok.hd hc) (Nat.ne_of_lt lt) ⟨_, hR, rfl, rfl⟩ ⟨o, kp a o ho, hoc, n, hos⟩ (by rw [List.size_toArray]; omega) fun s' acc c' k1 k2 k3 k4 k5 k6 => ?_
 have ev := y7 rv k6
 have hsz : (s1.heap.push (revObj a ((its.toArray.size : Int) - 1))).objs.size = s1.heap.objs.size + 1 := by simp [Heap.push]
 have hH : H1 (s1.heap.objs.size + 1) = none := I2.hok.fresh (a := s1.heap.objs.size + 1) (by show (s1.heap.push _).objs.size <= _; rw [hsz]; exact Nat.le_refl _)
 rw [show ({ s1 with heap := s1.heap.push (revObj a ((its.toArray.size : Int) - 1)) } : Shared).heap.objs.size = s1.heap.objs.size + 1 from hsz] at k5 ⊢
 obtain ⟨f0, f1, f2, f3, f4, f5⟩ := hp
 have keep : ∀ b o, b ∉ [s1.heap.objs.size] -> (s1.heap.push (revObj a ((its.toArray.size : Int) - 1))).get? b = some o -> s'.heap.get? b = some o := fun b o hb q => k1 b o (fun z => hb (by rw [z]; exact .head _)) q
 have trk : ∀ b o, H1 b = some o -> b ∉ [s1.heap.objs.size] := fun b o q hb => by rw [List.mem_singleton.mp hb, f0] at q; cases q
 have nn : ∀ b o, H1 b = some o -> b ≠ s1.heap.objs.size + 1 := fun b o q z => by rw [z, hH] at q; cases q
 refine ⟨.ref (s1.heap.objs.size + 1), upd H1 (s1.heap.objs.size + 1) (.lst xs.reverse), ?_, rfl, q _ hH⟩
 have st := Inv.step (X := X) (pins := pins) (σ := σ) (H := H1) (s := { s1 with heap := s1.heap.push (revObj a ((its.toArray.size : Int) - 1)) }) (H' := upd H1 (s1.heap.objs.size + 1) (.lst xs.reverse)) (h' := s'.heap) (g' := s1.gens) (d' := s1.drawn) (t' := s'.toks) (ch := [s1.heap.objs.size]) I2 (fun b hb => by rw [List.mem_singleton.mp hb]; exact ⟨f3, f1, f4, f5⟩) (fun b o _ _ hb q _ => keep b o hb q) (fun b o _ _ hb q _ => ⟨o.slots, keep b o hb q⟩)
  (fun b o _ q n => by rw [a7 (fun z => by have := Heap.lt_size q; rw [z] at this; exact absurd (show s1.heap.objs.size + 1 < s1.heap.objs.size + 1 by rw [<- hsz]; exact hsz ▸ this) (Nat.lt_irrefl _))]; exact n) (fun b o hb q => ⟨o, keep b o hb q⟩)
  (fun b ys q => by rw [a7 (nn b _ q)]; exact q) (fun b o v q => by rw [a7 (nn b _ q)]; exact q) (fun b ps q => ⟨#[], by rw [a7 (nn b _ q), q]; simp⟩) (fun m hm => by
   obtain ⟨o, es, ep, ho, r⟩ := hm
   exact ⟨o, es, ep, keep _ o (fun z => f1 (List.mem_singleton.mp z).symm) ho, r⟩) (fun b v q => by
   by_cases hb : b = s1.heap.objs.size + 1
   ·subst hb
    rw [a9] at q
    cases q
    refine ⟨by rw [List.length_reverse]; exact hz, its.reverse, c', hV rv, ?_⟩
    rw [k5, <- ev]
   ·rw [a7 hb] at q
    refine (I2.hok b v q).stay (fun c w' hc q' => keep c w' ?_ q') (fun c q' => ?_) fun c ys q' => ?_
    ·rcases hc with z | z
     ·rw [z]; exact trk b v q
     ·exact trk c _ z
    ·rw [a7 (nn c _ q')]; exact q'
    ·rw [a7 (nn c _ q')]; exact q') I1.bare
 have es : s' = { heap := s'.heap, gens := s1.gens, drawn := s1.drawn, toks := s'.toks, os := s1.os } := by
  cases s'
  cases k2
  cases k3
  cases k4
  rfl
 rw [es]
 exact st
end
end L2
namespace M
open PySem PySem.Spec PyProof.Rows L2
def aDo (x : Ev) : Res Ev := match dY x with
 | some ds => .ok (.f (.list ds.reverse))
 | none => .bad
theorem rQ {X : Cx} {E : L2.St -> XK} {e : Expr} {fe : En -> Res Ev} {p1 p2 pos1 pos2 : Pos} (hc : X.calm = true) (hg1 : Gl X "list") (hm1 : X.mg "list" = none) (hg2 : Gl X "reversed") (hm2 : X.mg "reversed" = none) (he : DE X E e fe)
  (hs1 : starEach [.Call (.Name "reversed" p2) [e] [] pos2] X.env = (false, eval (.Call (.Name "reversed" p2) [e] [] pos2) X.env) :: starEach [] X.env := by rfl) (hs2 : starEach [e] X.env = (false, eval e X.env) :: starEach [] X.env := by rfl) :
  DE X E (.Call (.Name "list" p1) [.Call (.Name "reversed" p2) [e] [] pos2] [] pos1) (mUn aDo fe) := by
 obtain ⟨t, q, m⟩ := he.out
 refine DE.in ⟨_, rY hc hg1 hm1 hg2 hm2 q hs1 hs2, fun B G0 G W H σ en Q hh hs hw => m B G0 G W H σ en _ hh hs ?_⟩
 have hw : wpR ((fe en).bind _) _ _ := hw
 rw [aZ] at hw
 refine aR hw (fun r hr G1 H1 v s e => ?_) fun C h => h
 obtain ⟨G2, s2, e2⟩ := e.c s
 unfold aDo at hr
 cases el : dY r.c with
 | none => rw [el] at hr; exact hr.elim
 | some ds =>
  rw [el] at hr
  obtain ⟨a, xs, rfl, h1, h2⟩ := kT s2.gh e2 el
  refine ⟨a, xs, rfl, .inl h1, fun l hl => ?_⟩
  exact hr G2 _ _ (s2.trans (Step.lay s2.gh hl)) ⟨l, _, rfl, s2.h.free hl, s2.gh.free hl, a9, .lst h2.rev⟩
end M
namespace L2
open PySem PySem.Spec PyProof.Rows
section
variable {X : Cx}
theorem kR : ∀ {is : List Int} {us : List Value}, Vals (is.map V.int) us -> ∃ ts : List (Int × Tok), us = ts.map (fun p => Value.int p.1 p.2) /\ ts.map (·.1) = is
 | [], _, .nil => ⟨[], rfl, rfl⟩
 | i :: is, _, .cons r t => by
  obtain ⟨tk, e⟩ := r
  obtain ⟨ts, e1, e2⟩ := kR t
  refine ⟨(i, tk) :: ts, ?_, ?_⟩
  ·rw [e, e1]; rfl
  ·rw [List.map_cons, e2]
end
end L2
namespace M
open PySem PySem.Spec PyProof.Rows L2
variable {K : PySem.W.Frag}
def intsOf : List D -> Option (List Int)
 | [] => some []
 | .int b :: ds => match intsOf ds with
  | some bs => some (b :: bs)
  | none => none
 | _ => none
theorem kZ : ∀ is : List Int, intsOf (is.map .int) = some is
 | [] => rfl
 | i :: is => by
  show (match intsOf (is.map .int) with | some bs => some (i :: bs) | none => none) = _
  rw [kZ is]
theorem n9 {G : Hp} : ∀ {ds : List D} {bs : List Int} {xs : List V}, intsOf ds = some bs -> Reps K G xs ds -> xs = bs.map V.int
 | [], _, _, h, .nil => by cases h; rfl
 | d :: ds, bs, _, h, .cons r t => by
  cases d with
  | int b =>
   unfold intsOf at h
   cases e : intsOf ds with
   | none => rw [e] at h; cases h
   | some bs' =>
    rw [e] at h
    cases h
    cases r
    rw [n9 e t]
    rfl
  | _ => cases h
end M
namespace L2
open PySem PySem.Spec PyProof.Rows
def iD (i j : Int) : Prop := CMulW i j \/ CMul i j
theorem fA {X : Cx} : OpR X (binaryOp .Mult) (rI iD fun i j => .int (i * j)) := opI fun _ _ _ _ _ _ _ hc q => mul_int q (hc.elim CMulW.ok CMul.ok)
end L2
namespace M
open PySem PySem.Spec PyProof.Rows L2
variable {K : PySem.W.Frag}
noncomputable abbrev iA : Ev -> Ev -> Res Ev := qJ iD fun i j => .int (i * j)
theorem fF : OpM K (rI iD fun i j => .int (i * j)) iA := mW fun _ _ _ => .int _
theorem pJ {i j : Int} (h : iD i j) : iA (.p (.int i)) (.p (.int j)) = .ok (.p (.int (i * j))) := by simp [qJ, h]
end M
namespace L2
open PySem PySem.Spec PyProof.Rows
section
variable {X : Cx}
def aIn (K : PySem.W.Frag) : List V -> Hp -> VK -> Prop := fun xs H Q => ∃ (a : Addr) (is : List Int), xs = [.ref a] /\ SqL K H a (is.map V.int) /\ Q (.int is.sum) H
theorem rX (f : Nat -> Int) : ∀ (is : List Int), (∀ j, j < is.length -> f j = (is[j]?).getD 0) -> preSum f is.length = is.sum := by
 have gen : ∀ (n : Nat) (is : List Int), is.length = n -> (∀ j, j < is.length -> f j = (is[j]?).getD 0) -> preSum f n = is.sum := by
  intro n
  induction n with
  | zero =>
   intro is h _
   rw [List.length_eq_zero_iff.mp h]
   rfl
  | succ n ih =>
   intro is h hj
   have hne : is ≠ [] := fun z => by rw [z] at h; cases h
   have e : is = is.dropLast ++ [is.getLast hne] := (List.dropLast_concat_getLast hne).symm
   have hl : is.dropLast.length = n := by rw [List.length_dropLast]; omega
   have h1 := ih is.dropLast hl fun j hj' => by
    rw [hj j (by omega)]
    conv => lhs; rw [e]
    rw [List.getElem?_append_left hj']
   show preSum f n + f n = is.sum
   rw [h1, hj n (by omega)]
   conv => rhs; rw [e, List.sum_append]
   conv => lhs; rw [e]
   rw [List.getElem?_append_right (by omega), hl]
   simp
 exact fun is hj => gen _ is rfl hj
theorem tQ (hc : X.calm = true) {K : PySem.W.Frag} (hK : X.K = K) : kF X (.builtin "sum") (aIn K) := by
 subst hK
 intro pins s σ H xs us Q I r h
 obtain ⟨a, is, rfl, hq, q⟩ := h
 obtain ⟨u, rfl, ru⟩ := vals1 r
 cases ru
 obtain ⟨its, rv, p, hz⟩ := I.list hq
 obtain ⟨ts, e1, e2⟩ := kR rv
 have hl : s.heap.IsList a (intItems ts.toArray) := by
  have h := p.isList
  rw [e1] at h
  simpa [intItems] using h
 have hn : ts.length = is.length := by
  have := congrArg List.length e2
  rw [List.length_map] at this
  exact this
 have num : ∀ j, numAt ts.toArray j = (is[j]?).getD 0 := fun j => by
  rw [<- e2]
  simp [numAt]
 refine sum_intListG (A := X.A) (I.ok.hd hc) hl fun h' tk t' hk => ⟨.int is.sum, H, I.kept hk, ?_, q⟩
 refine ⟨t', ?_⟩
 rw [List.size_toArray, hn, rX _ is fun j _ => num j]
end
end L2
namespace M
open PySem PySem.Spec PyProof.Rows L2
section
variable {K : PySem.W.Frag}
def aBd (rs : List Ev) : Res Ev := match rs with
 | [x] => match dY x with
  | some ds => match intsOf ds with
   | some is => .ok (.p (.int is.sum))
   | none => .bad
  | none => .bad
 | _ => .bad
theorem aCl : aAn aBd := by
 intro rs C h
 unfold aBd at h
 split at h
 ·split at h
  ·split at h <;> cases h
  ·cases h
 ·cases h
theorem aFv : mX K (aIn K) aBd := by
 intro W Hs G H vs rs Q gh he hw
 unfold aBd at hw
 split at hw
 ·rename_i x
  match vs, he with
  | [v], ⟨h1, _⟩ =>
   split at hw
   ·rename_i ds ed
    obtain ⟨a, xs, rfl, k1, k2⟩ := kT gh h1 ed
    split at hw
    ·rename_i is eb
     have := n9 eb k2
     subst this
     exact ⟨a, is, rfl, .inl k1, hw G H _ (Step.refl gh) (.int _)⟩
    ·exact hw.elim
   ·exact hw.elim
 ·exact hw.elim
end
end M
namespace L2
open PySem PySem.Spec PyProof.Rows
section
variable {X : Cx}
end
end L2
namespace M
open PySem PySem.Spec PyProof.Rows L2
end M
namespace HS
open PySem
theorem kP {α : Type} [DecidableEq α] : ∀ {l m : List α}, l.Nodup -> (∀ x ∈ l, x ∈ m) -> l.length <= m.length
 | [], m, _, _ => Nat.zero_le _
 | x :: l, m, h, s => by
  obtain ⟨h1, h2⟩ := List.nodup_cons.mp h
  have hx := s x (.head _)
  have q := kP (m := m.erase x) h2 fun y hy => (List.mem_erase_of_ne (show y ≠ x from fun z => h1 (by rw [<- z]; exact hy))).mpr (s y (.tail _ hy))
  rw [List.length_erase_of_mem hx] at q
  have := List.length_pos_of_mem hx
  rw [List.length_cons]
  omega
def adv (mask : Nat) (p : SetTable.Probe) : SetTable.Probe := if p.more > 0 then { p with j := p.j + 1, more := p.more - 1 } else
 { p with j := (SetTable.leap mask p.i p.perturb).1, more := SetTable.runEnd mask (SetTable.leap mask p.i p.perturb).1 - (SetTable.leap mask p.i p.perturb).1, i := (SetTable.leap mask p.i p.perturb).1, perturb := (SetTable.leap mask p.i p.perturb).2 }
def v8 (mask i p : Nat) : SetTable.Probe := { j := i, more := SetTable.runEnd mask i - i, i, perturb := p, dummy := none }
def pst (mask : Nat) (h : Int) : SetTable.Probe := v8 mask (SetTable.bits h % (mask + 1)) (SetTable.bits h)
def jA (mask : Nat) : Nat -> SetTable.Probe -> SetTable.Probe
 | 0, p => p
 | k + 1, p => adv mask (jA mask k p)
def pth (mask : Nat) (h : Int) (k : Nat) : Nat := (jA mask k (pst mask h)).j
theorem aG6 (mask : Nat) (p : SetTable.Probe) : (adv mask p).dummy = p.dummy := by
 unfold adv
 split <;> rfl
theorem aAo (mask : Nat) (p : SetTable.Probe) : ∀ k, (jA mask k p).dummy = p.dummy
 | 0 => rfl
 | k + 1 => (aG6 mask _).trans (aAo mask p k)
theorem iH (mask : Nat) (p : SetTable.Probe) (a : Nat) : ∀ b, jA mask (a + b) p = jA mask b (jA mask a p)
 | 0 => rfl
 | b + 1 => congrArg (adv mask) (iH mask p a b)
theorem uP (mask i p : Nat) : ∀ r, r <= SetTable.runEnd mask i - i -> jA mask r (v8 mask i p) = { j := i + r, more := SetTable.runEnd mask i - i - r, i, perturb := p, dummy := none }
 | 0, _ => rfl
 | r + 1, h => by
  show adv mask (jA mask r (v8 mask i p)) = _
  rw [uP mask i p r (by omega)]
  unfold adv
  rw [if_pos (show SetTable.runEnd mask i - i - r > 0 by omega)]
  congr 1
theorem aA3 (mask i p : Nat) : jA mask (SetTable.runEnd mask i - i + 1) (v8 mask i p) = v8 mask (SetTable.leap mask i p).1 (SetTable.leap mask i p).2 := by
 show adv mask (jA mask (SetTable.runEnd mask i - i) (v8 mask i p)) = _
 rw [uP mask i p _ (Nat.le_refl _)]
 unfold adv
 rw [if_neg (by simp)]
 rfl
theorem aIl (mask i : Nat) : SetTable.runEnd mask i - i <= 9 := by unfold SetTable.runEnd; split <;> omega
def lpN (mask : Nat) (i p : Nat) : Nat -> Nat × Nat
 | 0 => (i, p)
 | m + 1 => lpN mask (SetTable.leap mask i p).1 (SetTable.leap mask i p).2 m
theorem uJ (mask : Nat) : ∀ (a b i p : Nat), lpN mask i p (a + b) = lpN mask (lpN mask i p a).1 (lpN mask i p a).2 b
 | 0, b, i, p => by rw [Nat.zero_add]; rfl
 | a + 1, b, i, p => by
  rw [Nat.succ_add]
  show lpN mask _ _ (a + b) = _
  rw [uJ mask a b]
  rfl
theorem aEn (mask : Nat) : ∀ (m i p : Nat), (lpN mask i p m).2 = p / 32 ^ m
 | 0, i, p => by simp [lpN]
 | m + 1, i, p => by
  show (lpN mask _ (p / 32) m).2 = _
  rw [aEn mask m, Nat.div_div_eq_div_mul, Nat.pow_succ, Nat.mul_comm]
theorem aFn (mask : Nat) : ∀ (m i p : Nat), i <= mask -> (lpN mask i p m).1 <= mask
 | 0, i, p, h => h
 | m + 1, i, p, _ => by
  show (lpN mask ((i * 5 + 1 + p / 32) % (mask + 1)) (p / 32) m).1 <= mask
  exact aFn mask m _ _ (Nat.le_of_lt_succ (Nat.mod_lt _ (Nat.succ_pos _)))
theorem qW (mask : Nat) : ∀ (m i p : Nat), ∃ k, k <= 10 * m /\ jA mask k (v8 mask i p) = v8 mask (lpN mask i p m).1 (lpN mask i p m).2
 | 0, i, p => ⟨0, Nat.le_refl _, rfl⟩
 | m + 1, i, p => by
  have r9 := aIl mask i
  obtain ⟨k, h1, h2⟩ := qW mask m (SetTable.leap mask i p).1 (SetTable.leap mask i p).2
  refine ⟨(SetTable.runEnd mask i - i) + 1 + k, by omega, ?_⟩
  rw [iH, aA3]
  exact h2
def orb (mask : Nat) : Nat -> Nat -> List Nat
 | 0, _ => []
 | n + 1, i => i :: orb mask n ((i * 5 + 1) % (mask + 1))
theorem zV (mask : Nat) : ∀ (n i q : Nat), q ∈ orb mask n i -> ∃ m, m < n /\ (lpN mask i 0 m).1 = q
 | n + 1, i, q, h => by
  rcases List.mem_cons.mp h with z | z
  ·exact ⟨0, Nat.succ_pos _, z.symm⟩
  ·obtain ⟨m, hm, e⟩ := zV mask n _ q z
   exact ⟨m + 1, Nat.succ_lt_succ hm, e⟩
def MOk (mask : Nat) : Prop := mask = 7 \/ mask = 31 \/ mask = 127
def zY (l : List Nat) : Nat := l.foldl (fun a q => a ||| (1 <<< q)) 0
theorem qO : ∀ (l : List Nat) (a q : Nat), (l.foldl (fun a q => a ||| (1 <<< q)) a).testBit q = true -> a.testBit q = true \/ q ∈ l
 | [], a, q, h => .inl h
 | x :: l, a, q, h => by
  rcases qO l _ q h with z | z
  ·rw [Nat.testBit_or, Bool.or_eq_true] at z
   rcases z with z | z
   ·exact .inl z
   ·rw [Nat.one_shiftLeft, Nat.testBit_two_pow] at z
    exact .inr (by rw [<- of_decide_eq_true z]; exact .head _)
  ·exact .inr (.tail _ z)
theorem aDc {mask : Nat} (hm : MOk mask) {i q : Nat} (hi : i <= mask) (hq : q <= mask) : q ∈ orb mask (mask + 1) i := by
 have key : ∀ mask, MOk mask -> (List.range (mask + 1)).all (fun i => Nat.beq (zY (orb mask (mask + 1) i)) (2 ^ (mask + 1) - 1)) = true := by
  rintro _ (rfl | rfl | rfl) <;> decide +kernel
 have a := List.all_eq_true.mp (key mask hm) i (List.mem_range.mpr (Nat.lt_succ_of_le hi))
 have a := Nat.eq_of_beq_eq_true a
 have t : (zY (orb mask (mask + 1) i)).testBit q = true := by
  rw [a, Nat.testBit_two_pow_sub_one]
  exact decide_eq_true (Nat.lt_succ_of_le hq)
 rcases qO _ 0 q t with z | z
 ·rw [Nat.zero_testBit] at z
  cases z
 ·exact z
theorem sW (h : Int) : SetTable.bits h < 2 ^ 64 := by
 unfold SetTable.bits
 omega
theorem p6 {mask : Nat} (hm : MOk mask) {i p q : Nat} (hi : i <= mask) (hp : p < 2 ^ 64) (hq : q <= mask) : ∃ m, m <= 13 + mask /\ (lpN mask i p m).1 = q := by
 have e2 : (lpN mask i p 13).2 = 0 := by
  rw [aEn]
  exact Nat.div_eq_of_lt (Nat.lt_of_lt_of_le hp (by decide))
 obtain ⟨m, h1, h2⟩ := zV mask _ _ _ (aDc hm (aFn mask 13 i p hi) hq)
 refine ⟨13 + m, by omega, ?_⟩
 rw [uJ, e2]
 exact h2
theorem wJ {mask : Nat} (hm : MOk mask) (h : Int) {q : Nat} (hq : q <= mask) : ∃ k, k <= 10 * (13 + mask) /\ pth mask h k = q := by
 obtain ⟨m, m1, m2⟩ := p6 hm (Nat.le_of_lt_succ (Nat.mod_lt (SetTable.bits h) (Nat.succ_pos mask))) (sW h) hq
 obtain ⟨k, k1, k2⟩ := qW mask m (SetTable.bits h % (mask + 1)) (SetTable.bits h)
 refine ⟨k, by omega, ?_⟩
 show (jA mask k (v8 mask _ _)).j = q
 rw [k2]
 exact m2
theorem miss {mask : Nat} {l : List Nat} (h : l.length <= mask) : ∃ q, q <= mask /\ q ∉ l := by
 by_cases z : ∀ q ∈ List.range (mask + 1), q ∈ l
 ·have := kP List.nodup_range z
  rw [List.length_range] at this
  omega
 ·obtain ⟨q, hq⟩ := Classical.not_forall.mp z
  obtain ⟨h1, h2⟩ := Classical.not_imp.mp hq
  exact ⟨q, Nat.le_of_lt_succ (List.mem_range.mp h1), h2⟩
def Ris (xs : Array Nat) : Prop := ∀ (i j a b : Nat), i < j -> xs[i]? = some a -> xs[j]? = some b -> a < b
theorem lK (xs : Array Nat) (j : Nat) (hr : Ris xs) : ∀ (fuel lo hi : Nat), hi - lo <= fuel -> lo <= hi -> hi <= xs.size -> (∀ i a, i < lo -> xs[i]? = some a -> a < j) -> (∀ i a, hi <= i -> xs[i]? = some a -> j <= a) ->
  SetTable.below.go xs j fuel lo hi <= xs.size /\ (∀ i a, i < SetTable.below.go xs j fuel lo hi -> xs[i]? = some a -> a < j) /\ (∀ i a, SetTable.below.go xs j fuel lo hi <= i -> xs[i]? = some a -> j <= a)
 | 0, lo, hi, hf, h1, h2, h3, h4 => by
  have : lo = hi := by omega
  subst this
  exact ⟨h2, h3, h4⟩
 | fuel + 1, lo, hi, hf, h1, h2, h3, h4 => by
  unfold SetTable.below.go
  by_cases z : lo < hi
  ·rw [if_pos z]
   dsimp only
   have m1 : lo <= (lo + hi) / 2 := by omega
   have m2 : (lo + hi) / 2 < hi := by omega
   have m3 : (lo + hi) / 2 < xs.size := by omega
   have g : xs.getD ((lo + hi) / 2) j = xs[(lo + hi) / 2] := by simp [Array.getD, m3]
   rw [g]
   have gm : xs[(lo + hi) / 2]? = some xs[(lo + hi) / 2] := Array.getElem?_eq_getElem m3
   by_cases y : xs[(lo + hi) / 2] < j
   ·rw [if_pos y]
    refine lK xs j hr fuel _ _ (by omega) (by omega) h2 (fun i a hi' e => ?_) h4
    rcases Nat.lt_or_ge i ((lo + hi) / 2) with w | w
    ·exact Nat.lt_trans (hr _ _ _ _ w e gm) y
    ·have : i = (lo + hi) / 2 := by omega
     subst this
     rw [gm] at e
     cases e
     exact y
   ·rw [if_neg y]
    refine lK xs j hr fuel _ _ (by omega) (by omega) (by omega) h3 (fun i a hi' e => ?_)
    rcases Nat.lt_or_ge ((lo + hi) / 2) i with w | w
    ·have := hr _ _ _ _ w gm e
     omega
    ·have : i = (lo + hi) / 2 := by omega
     subst this
     rw [gm] at e
     cases e
     omega
  ·rw [if_neg z]
   have : lo = hi := by omega
   subst this
   exact ⟨h2, h3, h4⟩
theorem gH {xs : Array Nat} (hr : Ris xs) (j : Nat) : SetTable.below xs j <= xs.size /\ (∀ i a, i < SetTable.below xs j -> xs[i]? = some a -> a < j) /\ (∀ i a, SetTable.below xs j <= i -> xs[i]? = some a -> j <= a) := by
 unfold SetTable.below
 refine lK xs j hr _ _ _ (Nat.le_refl _) (Nat.zero_le _) (Nat.le_refl _) (fun i a h => absurd h (Nat.not_lt_zero _)) (fun i a h e => ?_)
 rw [Array.getElem?_eq_none h] at e
 cases e
theorem vN {t : SetTable} (hr : Ris t.place) {j : Nat} (h : j ∈ t.place.toList) : ∃ i, t.slot j = .live i /\ t.place[i]? = some j := by
 obtain ⟨i, hi⟩ := List.mem_iff_getElem?.mp h
 rw [Array.getElem?_toList] at hi
 obtain ⟨b1, b2, b3⟩ := gH hr j
 have e : SetTable.below t.place j = i := by
  rcases Nat.lt_trichotomy (SetTable.below t.place j) i with z | z | z
  ·have hb : SetTable.below t.place j < t.place.size := Nat.lt_trans z (Array.getElem?_eq_some_iff.mp hi).1
   have a := b3 _ _ (Nat.le_refl _) (Array.getElem?_eq_getElem hb)
   have b := hr _ _ _ _ z (Array.getElem?_eq_getElem hb) hi
   omega
  ·exact z
  ·have := b2 i j z hi
   omega
 refine ⟨i, ?_, hi⟩
 unfold SetTable.slot
 dsimp only
 rw [e, if_pos (by rw [hi]; exact beq_self_eq_true _)]
theorem zJ {t : SetTable} (hd : t.dummies = #[]) {j : Nat} (h : j ∉ t.place.toList) : t.slot j = .empty := by
 unfold SetTable.slot SetTable.has
 rw [hd]
 dsimp only
 have : (t.place[SetTable.below t.place j]? == some j) = false := by
  rw [beq_eq_false_iff_ne]
  exact fun z => h (Array.mem_toList_iff.mpr (Array.mem_of_getElem? z))
 rw [this]
 simp
theorem eA {α : Type} (xs : Array α) (p : Nat) (x : α) : (SetTable.insertAt xs p x).toList = xs.toList.take p ++ x :: xs.toList.drop p := by
 unfold SetTable.insertAt
 simp
 exact List.take_of_length_le (by simp)
theorem qN {xs : Array Nat} (h : xs.toList.Pairwise (· < ·)) : Ris xs := fun i j a b hij hi hj => by
 rw [<- Array.getElem?_toList] at hi hj
 obtain ⟨h1, e1⟩ := List.getElem?_eq_some_iff.mp hi
 obtain ⟨h2, e2⟩ := List.getElem?_eq_some_iff.mp hj
 rw [<- e1, <- e2]
 exact List.pairwise_iff_getElem.mp h i j h1 h2 hij
theorem zT {xs : Array Nat} (h : Ris xs) : xs.toList.Pairwise (· < ·) := List.pairwise_iff_getElem.mpr fun i j h1 h2 hij => h i j _ _ hij (by rw [<- Array.getElem?_toList]; exact List.getElem?_eq_getElem h1) (by rw [<- Array.getElem?_toList]; exact List.getElem?_eq_getElem h2)
theorem aBb {xs : Array Nat} (hr : Ris xs) {j : Nat} (h : j ∉ xs.toList) : Ris (SetTable.insertAt xs (SetTable.below xs j) j) := by
 obtain ⟨b1, b2, b3⟩ := gH hr j
 have l := zT hr
 refine qN ?_
 rw [eA]
 have lo : ∀ a ∈ xs.toList.take (SetTable.below xs j), a < j := fun a ha => by
  obtain ⟨i, hi⟩ := List.mem_iff_getElem?.mp ha
  rw [List.getElem?_take] at hi
  split at hi
  ·rename_i z
   rw [Array.getElem?_toList] at hi
   exact b2 i a z hi
  ·cases hi
 have hi : ∀ a ∈ xs.toList.drop (SetTable.below xs j), j < a := fun a ha => by
  obtain ⟨i, hi⟩ := List.mem_iff_getElem?.mp ha
  rw [List.getElem?_drop, Array.getElem?_toList] at hi
  have := b3 _ a (Nat.le_add_right _ _) hi
  have ne : a ≠ j := fun z => h (z ▸ List.mem_of_mem_drop ha)
  omega
 rw [List.pairwise_append]
 refine ⟨List.Pairwise.sublist (List.take_sublist _ _) l, List.pairwise_cons.mpr ⟨hi, List.Pairwise.sublist (List.drop_sublist _ _) l⟩, fun a ha b hb => ?_⟩
 rcases List.mem_cons.mp hb with z | z
 ·rw [z]; exact lo a ha
 ·exact Nat.lt_trans (lo a ha) (hi b z)
theorem aFr {t : SetTable} (hd : t.dummies = #[]) (hr : Ris t.place) {f : Nat -> Int} {h : Int} : ∀ (n fuel k : Nat), n < fuel -> (pth t.mask h (k + n) ∉ t.place.toList \/ ∃ i, t.place[i]? = some (pth t.mask h (k + n)) /\ f i = h) ->
  (∃ k', k <= k' /\ k' <= k + n /\ pth t.mask h k' ∉ t.place.toList /\ (∀ q, k <= q -> q < k' -> ∃ i, t.place[i]? = some (pth t.mask h q) /\ f i ≠ h) /\ SetTable.probe.go t f h fuel (jA t.mask k (pst t.mask h)) = some (.empty (pth t.mask h k') none)) \/
  (∃ k' i, k <= k' /\ k' <= k + n /\ t.place[i]? = some (pth t.mask h k') /\ f i = h /\ (∀ q, k <= q -> q < k' -> ∃ i, t.place[i]? = some (pth t.mask h q) /\ f i ≠ h) /\ SetTable.probe.go t f h fuel (jA t.mask k (pst t.mask h)) = some (.candidate (pth t.mask h k') i (jA t.mask (k' + 1) (pst t.mask h))))
 | n, fuel + 1, k, hn, he => by
  unfold SetTable.probe.go
  by_cases z : pth t.mask h k ∈ t.place.toList
  ·obtain ⟨i, s1, s2⟩ := vN hr z
   have s1 : t.slot (jA t.mask k (pst t.mask h)).j = .live i := s1
   rw [s1]
   dsimp only
   by_cases y : f i = h
   ·rw [if_pos (by rw [beq_iff_eq]; exact y)]
    exact .inr ⟨k, i, Nat.le_refl _, Nat.le_add_right _ _, s2, y, fun q h1 h2 => by omega, rfl⟩
   ·rw [if_neg (by rw [beq_iff_eq]; exact y)]
    cases n with
    | zero =>
     rcases he with e | ⟨i', e1, e2⟩
     ·exact absurd z e
     ·have : i = i' := by
       rcases Nat.lt_trichotomy i i' with w | w | w
       ·exact absurd (hr _ _ _ _ w s2 e1) (Nat.lt_irrefl _)
       ·exact w
       ·exact absurd (hr _ _ _ _ w e1 s2) (Nat.lt_irrefl _)
      rw [this] at y
      exact absurd e2 y
    | succ n =>
     have ad : t.advance (jA t.mask k (pst t.mask h)) = jA t.mask (k + 1) (pst t.mask h) := rfl
     rw [ad]
     have ek : k + 1 + n = k + (n + 1) := by omega
     rcases aFr hd hr n fuel (k + 1) (by omega) (by rw [ek]; exact he) with ⟨k', a1, a2, a3, a4, a5⟩ | ⟨k', i', a1, a2, a3, a4, a5, a6⟩
     ·refine .inl ⟨k', by omega, by omega, a3, fun q h1 h2 => ?_, a5⟩
      rcases Nat.lt_or_ge k q with w | w
      ·exact a4 q w h2
      ·have : q = k := by omega
       rw [this]; exact ⟨i, s2, y⟩
     ·refine .inr ⟨k', i', by omega, by omega, a3, a4, fun q h1 h2 => ?_, a6⟩
      rcases Nat.lt_or_ge k q with w | w
      ·exact a5 q w h2
      ·have : q = k := by omega
       rw [this]; exact ⟨i, s2, y⟩
  ·have s1 : t.slot (jA t.mask k (pst t.mask h)).j = .empty := zJ hd z
   rw [s1]
   dsimp only
   rw [aAo]
   exact .inl ⟨k, Nat.le_refl _, Nat.le_add_right _ _, z, fun q h1 h2 => by omega, rfl⟩
structure Tab (t : SetTable) (hs : List Int) : Prop where
 d : t.dummies = #[]
 m : MOk t.mask
 r : Ris t.place
 s : t.place.size = hs.length
 z : hs.length <= t.mask
 p : ∀ (i : Nat) h j, hs[i]? = some h -> t.place[i]? = some j -> ∃ k, k <= 10 * (13 + t.mask) /\ pth t.mask h k = j /\ ∀ q, q < k -> pth t.mask h q ∈ t.place.toList
theorem jF (t : SetTable) (j : Nat) : (t.put j).1.place = SetTable.insertAt t.place (SetTable.below t.place j) j /\ (t.put j).2 = SetTable.below t.place j := ⟨rfl, rfl⟩
theorem aDi {t : SetTable} (hd : t.dummies = #[]) (j : Nat) : (t.put j).1.dummies = #[] := by
 unfold SetTable.put
 rw [hd]
 rfl
theorem Tab.put {t : SetTable} {hs : List Int} (T : Tab t hs) {h : Int} {k : Nat} (hk : k <= 10 * (13 + t.mask)) (hn : pth t.mask h k ∉ t.place.toList) (hp : ∀ q, q < k -> pth t.mask h q ∈ t.place.toList) (hz : hs.length + 1 <= t.mask) :
  Tab (t.put (pth t.mask h k)).1 (hs.take (t.put (pth t.mask h k)).2 ++ h :: hs.drop (t.put (pth t.mask h k)).2) := by
 obtain ⟨b1, _, _⟩ := gH T.r (pth t.mask h k)
 have pl := (jF t (pth t.mask h k)).1
 have pe := (jF t (pth t.mask h k)).2
 have sub : ∀ x ∈ t.place.toList, x ∈ (t.put (pth t.mask h k)).1.place.toList := fun x hx => by
  rw [pl, eA]
  rw [<- List.take_append_drop (SetTable.below t.place (pth t.mask h k)) t.place.toList] at hx
  rcases List.mem_append.mp hx with z | z
  ·exact List.mem_append_left _ z
  ·exact List.mem_append_right _ (.tail _ z)
 have lt : (hs.take (t.put (pth t.mask h k)).2).length = SetTable.below t.place (pth t.mask h k) := by
  rw [pe, List.length_take]
  have := T.s
  omega
 have lp : (t.place.toList.take (SetTable.below t.place (pth t.mask h k))).length = SetTable.below t.place (pth t.mask h k) := by
  rw [List.length_take, Array.length_toList]
  omega
 refine ⟨aDi T.d _, T.m, by rw [pl]; exact aBb T.r hn, ?_, ?_, fun i h' j e1 e2 => ?_⟩
 ·rw [<- Array.length_toList, pl, eA, List.length_append, List.length_append, List.length_cons, List.length_cons, lp, lt, List.length_drop, List.length_drop, Array.length_toList, pe, T.s]
 ·rw [List.length_append, List.length_cons, lt, List.length_drop, pe]
  have := T.s
  show _ <= t.mask
  omega
 ·have up : ∀ {h' j}, (∃ k, k <= 10 * (13 + t.mask) /\ pth t.mask h' k = j /\ ∀ q, q < k -> pth t.mask h' q ∈ t.place.toList) -> ∃ k', k' <= 10 * (13 + t.mask) /\ pth t.mask h' k' = j /\ ∀ q, q < k' -> pth t.mask h' q ∈ (t.put (pth t.mask h k)).1.place.toList := fun ⟨k', a, b, c⟩ => ⟨k', a, b, fun q hq => sub _ (c q hq)⟩
  rw [<- Array.getElem?_toList, pl, eA] at e2
  rcases Nat.lt_trichotomy i (SetTable.below t.place (pth t.mask h k)) with z | z | z
  ·rw [List.getElem?_append_left (by rw [lt]; exact z), List.getElem?_take] at e1
   rw [List.getElem?_append_left (by rw [lp]; exact z), List.getElem?_take] at e2
   rw [pe, if_pos z] at e1
   rw [if_pos z, Array.getElem?_toList] at e2
   exact up (T.p i h' j e1 e2)
  ·rw [List.getElem?_append_right (by rw [lt]; omega), lt, z, Nat.sub_self] at e1
   rw [List.getElem?_append_right (by rw [lp]; omega), lp, z, Nat.sub_self] at e2
   cases e1
   cases e2
   exact ⟨k, hk, rfl, fun q hq => sub _ (hp q hq)⟩
  ·rw [List.getElem?_append_right (by rw [lt]; omega), lt] at e1
   rw [List.getElem?_append_right (by rw [lp]; omega), lp] at e2
   obtain ⟨d, hd⟩ : ∃ d, i - SetTable.below t.place (pth t.mask h k) = d + 1 := ⟨i - SetTable.below t.place (pth t.mask h k) - 1, by omega⟩
   rw [hd, List.getElem?_cons_succ, List.getElem?_drop] at e1 e2
   rw [pe] at e1
   rw [Array.getElem?_toList] at e2
   exact up (T.p _ h' j e1 e2)
def aAs (l : List (Option Nat)) : Nat := (l.filterMap id).length
theorem tU : ∀ (l : List (Option Nat)) (j k : Nat), l[j]? = some none -> aAs (l.set j (some k)) = aAs l + 1
 | none :: l, 0, k, _ => by simp [aAs]
 | x :: l, j + 1, k, h => by
  have ih := tU l j k h
  cases x <;> simp_all [aAs]
theorem aA7 : ∀ l : List (Option Nat), aAs l < l.length -> ∃ q : Nat, l[q]? = some none
 | none :: l, _ => ⟨0, rfl⟩
 | some x :: l, h => by
  have h : aAs l + 1 < l.length + 1 := h
  obtain ⟨q, hq⟩ := aA7 l (by omega)
  exact ⟨q + 1, hq⟩
theorem uN : ∀ n : Nat, aAs (List.replicate n none) = 0
 | 0 => rfl
 | n + 1 => uN n
def Occ (ow : Array (Option Nat)) (j : Nat) : Prop := ∃ y, ow[j]? = some (some y)
theorem nV {mask : Nat} {ow : Array (Option Nat)} (hs : ow.size = mask + 1) {h : Int} : ∀ (m fuel i p b : Nat), m < fuel -> i <= mask -> jA mask b (pst mask h) = v8 mask i p -> (∀ q, q < b -> Occ ow (pth mask h q)) -> ow[(lpN mask i p m).1]? = some none ->
  ∃ j n, SetTable.layClean.free mask ow fuel i p = some j /\ ow[j]? = some none /\ n <= b + 10 * m /\ pth mask h n = j /\ ∀ q, q < n -> Occ ow (pth mask h q)
 | m, fuel + 1, i, p, b, hk, hi, hb, hq, he => by
  unfold SetTable.layClean.free
  have rl : SetTable.runEnd mask i <= mask /\ i <= SetTable.runEnd mask i := by unfold SetTable.runEnd; split <;> omega
  have r9 := aIl mask i
  have gd : ∀ j, (ow.getD j (some 0)).isNone = true -> ow[j]? = some none := fun j z => by
   cases q : ow[j]? with
   | none => rw [Array.getD_eq_getD_getElem?, q] at z; cases z
   | some x => rw [Array.getD_eq_getD_getElem?, q] at z; cases x with
    | none => rfl
    | some y => cases z
  have go : ∀ j, j <= mask -> ¬ ((ow.getD j (some 0)).isNone = true) -> Occ ow j := fun j hj z => by
   have hl : j < ow.size := by omega
   cases q : ow[j]? with
   | none => rw [Array.getElem?_eq_getElem hl] at q; cases q
   | some x =>
    cases x with
    | none => rw [Array.getD_eq_getD_getElem?, q] at z; exact absurd rfl z
    | some y => exact ⟨y, q⟩
  have at' : ∀ r, r <= SetTable.runEnd mask i - i -> pth mask h (b + r) = i + r := fun r hr => by
   show (jA mask (b + r) (pst mask h)).j = _
   rw [iH, hb, uP mask i p r hr]
  cases q : (List.range (SetTable.runEnd mask i + 1 - i)).find? fun k => (ow.getD (i + k) (some 0)).isNone with
  | some k =>
   obtain ⟨z1, as, bs, e1, e2⟩ := List.find?_eq_some_iff_append.mp q
   have hkr : k < SetTable.runEnd mask i + 1 - i := List.mem_range.mp (List.mem_of_find?_eq_some q)
   have bef : ∀ r, r < k -> Occ ow (i + r) := fun r hr => by
    refine go _ (by omega) fun w => ?_
    have hm : r ∈ List.range (SetTable.runEnd mask i + 1 - i) := List.mem_range.mpr (by omega)
    rw [e1] at hm
    rcases List.mem_append.mp hm with y | y
    ·have := e2 r y
     rw [w] at this
     cases this
    ·have srt : (as ++ k :: bs).Pairwise (· < ·) := by rw [<- e1]; exact List.pairwise_lt_range
     have := (List.pairwise_append.mp srt).2.1
     rcases List.mem_cons.mp y with x | x
     ·omega
     ·have := (List.pairwise_cons.mp this).1 r x
      omega
   refine ⟨i + k, b + k, rfl, gd _ z1, ?_, at' k (by omega), fun r hr => ?_⟩
   ·cases m with
    | zero =>
     have he : ow[i]? = some none := he
     rcases Nat.eq_zero_or_pos k with y | y
     ·omega
     ·obtain ⟨x, hx⟩ := bef 0 y
      rw [Nat.add_zero, he] at hx
      cases hx
    | succ m => omega
   ·rcases Nat.lt_or_ge r b with y | y
    ·exact hq r y
    ·have := bef (r - b) (by omega)
     have a := at' (r - b) (by omega)
     rw [show b + (r - b) = r by omega] at a
     rw [a]
     exact this
  | none =>
   dsimp only
   have all : ∀ r, r <= SetTable.runEnd mask i - i -> Occ ow (i + r) := fun r hr => go _ (by omega) fun w => by
    exact List.find?_eq_none.mp q r (List.mem_range.mpr (by omega)) w
   cases m with
   | zero =>
    have he : ow[i]? = some none := he
    obtain ⟨x, hx⟩ := all 0 (Nat.zero_le _)
    rw [Nat.add_zero, he] at hx
    cases hx
   | succ m =>
    have hb' : jA mask (b + (SetTable.runEnd mask i - i + 1)) (pst mask h) = v8 mask (SetTable.leap mask i p).1 (SetTable.leap mask i p).2 := by
     rw [iH, hb, aA3]
    obtain ⟨j, n, f1, f2, f3, f4, f5⟩ := nV hs m fuel _ _ _ (by omega) (Nat.le_of_lt_succ (Nat.mod_lt _ (Nat.succ_pos _))) hb' (fun r hr => by
     rcases Nat.lt_or_ge r b with y | y
     ·exact hq r y
     ·have a := at' (r - b) (by omega)
      rw [show b + (r - b) = r by omega] at a
      rw [a]
      exact all (r - b) (by omega)) he
    exact ⟨j, n, f1, f2, by omega, f4, f5⟩
structure Ly (mask : Nat) (ow : Array (Option Nat)) (hs : List Int) (k : Nat) : Prop where
 s : ow.size = mask + 1
 c : aAs ow.toList = k
 v : ∀ (j x : Nat), ow[j]? = some (some x) -> x < k
 i : ∀ (j j' x : Nat), ow[j]? = some (some x) -> ow[j']? = some (some x) -> j = j'
 p : ∀ (j x : Nat) h, ow[j]? = some (some x) -> hs[x]? = some h -> ∃ n, n <= 10 * (13 + mask) /\ pth mask h n = j /\ ∀ q, q < n -> Occ ow (pth mask h q)
theorem aDd {mask : Nat} (hm : MOk mask) {ow : Array (Option Nat)} {hs : List Int} {k : Nat} (o : Ly mask ow hs k) (hk : k <= mask) {h : Int} (hh : hs[k]? = some h) : ∃ j, SetTable.layClean.free mask ow (SetTable.turns mask) (SetTable.bits h % (mask + 1)) (SetTable.bits h) = some j /\ Ly mask (ow.setIfInBounds j (some k)) hs (k + 1) := by
 obtain ⟨q, hq⟩ := aA7 ow.toList (by rw [o.c, Array.length_toList, o.s]; omega)
 rw [Array.getElem?_toList] at hq
 have q1 : q <= mask := by
  have := (Array.getElem?_eq_some_iff.mp hq).1
  rw [o.s] at this
  omega
 have i0 : SetTable.bits h % (mask + 1) <= mask := Nat.le_of_lt_succ (Nat.mod_lt _ (Nat.succ_pos _))
 obtain ⟨m, m1, m2⟩ := p6 hm i0 (sW h) q1
 obtain ⟨j, n, j1, j2, j3, j4, j5⟩ := nV (mask := mask) o.s (h := h) m (SetTable.turns mask) _ (SetTable.bits h) 0 (by unfold SetTable.turns; omega) i0 rfl (fun q hq => absurd hq (Nat.not_lt_zero _)) (by rw [m2]; exact hq)
 have jl := (Array.getElem?_eq_some_iff.mp j2).1
 have get : ∀ a, (ow.setIfInBounds j (some k))[a]? = if j = a then some (some k) else ow[a]? := fun a => by
  rw [Array.getElem?_setIfInBounds]
  split
  ·rfl
  ·rfl
 have up : ∀ a, Occ ow a -> Occ (ow.setIfInBounds j (some k)) a := fun a ⟨y, hy⟩ => by
  by_cases z : j = a
  ·exact ⟨k, by rw [get, if_pos z]⟩
  ·exact ⟨y, by rw [get, if_neg z]; exact hy⟩
 refine ⟨j, j1, by simp [o.s], ?_, fun a x z => ?_, fun a a' x z z' => ?_, fun a x h' z e => ?_⟩
 ·rw [Array.toList_setIfInBounds, tU _ _ _ (by rw [Array.getElem?_toList]; exact j2), o.c]
 ·rw [get] at z
  split at z
  ·cases z; omega
  ·have := o.v a x z; omega
 ·rw [get] at z z'
  split at z
  ·split at z'
   ·omega
   ·cases z
    exact absurd (o.v a' k z') (Nat.lt_irrefl _)
  ·split at z'
   ·cases z'
    exact absurd (o.v a k z) (Nat.lt_irrefl _)
   ·exact o.i a a' x z z'
 ·rw [get] at z
  split at z
  ·rename_i y
   cases z
   rw [hh] at e
   cases e
   exact ⟨n, by omega, by rw [j4, y], fun q hq => up _ (j5 q hq)⟩
  ·obtain ⟨n', a1, a2, a3⟩ := o.p a x h' z e
   exact ⟨n', a1, a2, fun q hq => up _ (a3 q hq)⟩
theorem w6 {mask : Nat} (hm : MOk mask) {hs : List Int} : ∀ (l : List Int) (ow : Array (Option Nat)) (k : Nat), Ly mask ow hs k -> k + l.length <= mask -> (∀ i, l[i]? = hs[k + i]?) -> ∃ ow', l.foldl (fun acc h => do
  let (owner, k) <- acc
  let j <- SetTable.layClean.free mask owner (SetTable.turns mask) (SetTable.bits h % (mask + 1)) (SetTable.bits h)
  pure (owner.setIfInBounds j (some k), k + 1)) (some (ow, k)) = some (ow', k + l.length) /\ Ly mask ow' hs (k + l.length)
 | [], ow, k, o, _, _ => ⟨ow, rfl, o⟩
 | h :: l, ow, k, o, hk, hl => by
  rw [List.length_cons] at hk
  obtain ⟨j, j1, j2⟩ := aDd hm o (by omega) (h := h) (hl 0).symm
  obtain ⟨ow', e, o'⟩ := w6 hm l _ _ j2 (by omega) (fun i => by
   have := hl (i + 1)
   rw [show k + 1 + i = k + (i + 1) by omega]
   exact this)
  rw [show k + 1 + l.length = k + (h :: l).length by rw [List.length_cons]; omega] at e o'
  refine ⟨ow', ?_, o'⟩
  rw [List.foldl_cons, <- e]
  congr 1
  show (SetTable.layClean.free mask ow _ _ _).bind _ = _
  rw [j1]
  rfl
theorem aHc {mask : Nat} (hm : MOk mask) (hs : Array Int) (hk : hs.size <= mask) : ∃ ow, SetTable.layClean mask hs = some ow /\ Ly mask ow hs.toList hs.size := by
 have o0 : Ly mask (Array.replicate (mask + 1) none) hs.toList 0 := by
  have no : ∀ (j x : Nat), (Array.replicate (mask + 1) (none : Option Nat))[j]? ≠ some (some x) := fun j x z => by
   rw [Array.getElem?_replicate] at z
   split at z <;> cases z
  exact ⟨by simp, by rw [Array.toList_replicate]; exact uN _, fun j x z => absurd z (no j x), fun j _ x z => absurd z (no j x), fun j x _ z => absurd z (no j x)⟩
 obtain ⟨ow, e, o⟩ := w6 hm hs.toList _ 0 o0 (by rw [Array.length_toList]; omega) (fun i => by rw [Nat.zero_add])
 rw [Array.length_toList, Nat.zero_add] at e o
 refine ⟨ow, ?_, o⟩
 unfold SetTable.layClean
 rw [<- Array.foldl_toList]
 exact (congrArg (Option.map Prod.fst) e).trans rfl
theorem nR {α β : Type} {f : α -> Option β} : ∀ {l : List α}, (∀ x ∈ l, (f x).isSome = true) -> (l.filterMap f).length = l.length
 | [], _ => rfl
 | x :: l, h => by
  obtain ⟨y, hy⟩ := Option.isSome_iff_exists.mp (h x (.head _))
  rw [List.filterMap_cons, hy]
  dsimp only
  rw [List.length_cons, nR fun z hz => h z (.tail _ hz), List.length_cons]
theorem oG {α β : Type} {f : α -> Option β} : ∀ {l : List α} (i : Nat), (∀ x ∈ l, (f x).isSome = true) -> (l.filterMap f)[i]? = (l[i]?).bind f
 | [], i, _ => by simp
 | x :: l, i, h => by
  obtain ⟨y, hy⟩ := Option.isSome_iff_exists.mp (h x (.head _))
  rw [List.filterMap_cons, hy]
  dsimp only
  cases i with
  | zero => simp [hy]
  | succ i =>
   rw [List.getElem?_cons_succ, List.getElem?_cons_succ]
   exact oG i fun z hz => h z (.tail _ hz)
theorem vP {α : Type} (g : Nat -> Option α) : ∀ l : List Nat, (l.filterMap fun j => (g j).map fun x => (j, x)).map Prod.fst = l.filter fun j => (g j).isSome
 | [] => rfl
 | x :: l => by
  rw [List.filterMap_cons, List.filter_cons]
  cases g x with
  | none => exact vP g l
  | some y => exact congrArg (x :: ·) (vP g l)
theorem oZ {α : Type} (g : Nat -> Option α) : ∀ l : List Nat, (l.filterMap fun j => (g j).map fun x => (j, x)).length = ((l.map g).filterMap id).length
 | [] => rfl
 | x :: l => by
  rw [List.filterMap_cons, List.map_cons, List.filterMap_cons]
  cases g x with
  | none => exact oZ g l
  | some y => exact congrArg Nat.succ (oZ g l)
theorem gK (ow : Array (Option Nat)) : (List.range ow.size).map (fun j => ow.getD j none) = ow.toList := by
 apply List.ext_getElem
 ·simp
 ·intro i h1 h2
  have : i < ow.size := by simpa using h1
  simp [Array.getD, this]
theorem yB {l : List Nat} {n : Nat} (nd : l.Nodup) (hl : l.length = n) (hb : ∀ x ∈ l, x < n) : l.Perm (List.range n) := by
 have key : ∀ {l m : List Nat}, l.Nodup -> (∀ x ∈ l, x ∈ m) -> m.length <= l.length -> l.Perm m := by
  intro l
  induction l with
  | nil =>
   intro m _ _ h
   have : m = [] := List.length_eq_zero_iff.mp (by simpa using h)
   rw [this]
  | cons x l ih =>
   intro m h s hl
   obtain ⟨h1, h2⟩ := List.nodup_cons.mp h
   have hx := s x (.head _)
   have q := ih (m := m.erase x) h2 (fun y hy => (List.mem_erase_of_ne (show y ≠ x from fun z => h1 (by rw [<- z]; exact hy))).mpr (s y (.tail _ hy))) (by rw [List.length_erase_of_mem hx]; rw [List.length_cons] at hl; omega)
   exact (q.cons x).trans (List.perm_cons_erase hx).symm
 exact key nd (fun x hx => List.mem_range.mpr (hb x hx)) (by rw [List.length_range, hl]; exact Nat.le_refl _)
theorem uX {t : SetTable} {hs : List Int} {wanted : Nat} (hm : MOk (SetTable.sizeAbove wanted - 1)) (hk : hs.length <= SetTable.sizeAbove wanted - 1) : ∃ t' order, t.relaid hs.toArray wanted = some (t', order) /\ t'.mask = SetTable.sizeAbove wanted - 1 /\ t'.led = t.led /\ t'.plain = t.plain /\ order.toList.Perm (List.range hs.length) /\ Tab t' (order.toList.filterMap (hs[·]?)) := by
 obtain ⟨ow, e, o⟩ := aHc hm hs.toArray (by rw [List.size_toArray]; exact hk)
 rw [List.size_toArray] at o
 generalize hM : SetTable.sizeAbove wanted - 1 = mask at *
 have hL : ∀ y, y ∈ ((List.range (mask + 1)).filterMap fun j => (ow.getD j none).map fun x => (j, x)) -> ow[y.1]? = some (some y.2) := fun y hy => by
  obtain ⟨j, hj, ej⟩ := List.mem_filterMap.mp hy
  have hj : j < ow.size := by rw [o.s]; exact List.mem_range.mp hj
  rw [Array.getD_eq_getD_getElem?, Array.getElem?_eq_getElem hj] at ej
  cases q : ow[j] with
  | none => rw [Option.getD_some, q] at ej; cases ej
  | some x =>
   rw [Option.getD_some, q] at ej
   cases ej
   rw [Array.getElem?_eq_getElem hj, q]
 have ll : ((List.range (mask + 1)).filterMap fun j => (ow.getD j none).map fun x => (j, x)).length = hs.length := by
  rw [oZ, <- o.s, gK]
  exact o.c
 have fs := vP (fun j => ow.getD j none) (List.range (mask + 1))
 generalize hlive : ((List.range (mask + 1)).filterMap fun j => (ow.getD j none).map fun x => (j, x)) = live at *
 have ris : (live.map Prod.fst).Pairwise (· < ·) := by
  rw [fs]
  exact List.Pairwise.sublist List.filter_sublist List.pairwise_lt_range
 have nd : (live.map Prod.snd).Nodup := by
  rw [List.Nodup, List.pairwise_map]
  have := List.pairwise_map.mp ris
  refine List.Pairwise.imp_of_mem (fun {a b} ha hb w z => ?_) this
  have a1 := hL a ha
  have b1 := hL b hb
  rw [z] at a1
  have := o.i _ _ _ a1 b1
  omega
 have hb : ∀ x ∈ live.map Prod.snd, x < hs.length := fun x hx => by
  obtain ⟨y, hy, rfl⟩ := List.mem_map.mp hx
  exact o.v _ _ (hL y hy)
 have some' : ∀ x ∈ live.map Prod.snd, (hs[x]?).isSome = true := fun x hx => by simp [hb x hx]
 unfold SetTable.relaid SetTable.laid
 rw [hM, e]
 refine ⟨_, _, rfl, rfl, rfl, rfl, ?_, ?_⟩
 ·show (List.map _ _).toArray.toList.Perm _
  rw [hlive, List.toList_toArray]
  exact yB nd (by rw [List.length_map, ll]) hb
 ·have e1 : ∀ (P : Array Nat) (Od : Array Nat), P = (live.map Prod.fst).toArray -> Od = (live.map Prod.snd).toArray -> Tab { mask := mask, place := P, dummies := #[], finger := t.finger, led := t.led, moves := t.movedTo mask, plain := t.plain } (Od.toList.filterMap (hs[·]?)) := by
   rintro _ _ rfl rfl
   refine ⟨rfl, hm, qN ris, ?_, ?_, fun i h j e1 e2 => ?_⟩
   ·show (live.map Prod.fst).toArray.size = _
    rw [List.size_toArray, List.length_map, nR some', List.length_map]
   ·rw [nR some', List.length_map, ll]
    exact hk
   ·rw [oG i some'] at e1
    have e2 : (live.map Prod.fst).toArray[i]? = some j := e2
    rw [List.getElem?_toArray, List.getElem?_map] at e2
    rw [List.getElem?_map] at e1
    cases q : live[i]? with
    | none => rw [q] at e2; cases e2
    | some y =>
     rw [q] at e1 e2
     cases e2
     obtain ⟨n, a1, a2, a3⟩ := o.p _ _ h (hL y (List.mem_of_getElem? q)) (by simpa using e1)
     refine ⟨n, a1, a2, fun r hr => ?_⟩
     obtain ⟨x, hx⟩ := a3 r hr
     show _ ∈ (live.map Prod.fst).toArray.toList
     rw [List.toList_toArray, fs, List.mem_filter]
     have hl := (Array.getElem?_eq_some_iff.mp hx).1
     refine ⟨List.mem_range.mpr (by rw [<- o.s]; exact hl), ?_⟩
     show (ow.getD (pth mask h r) none).isSome = true
     rw [Array.getD_eq_getD_getElem?, hx]
     rfl
  exact e1 _ _ (by rw [<- hlive]) (by rw [<- hlive])
open PySem.Spec PyProof.Rows
theorem pN {xs : Array Nat} (hr : Ris xs) {i j a : Nat} (h1 : xs[i]? = some a) (h2 : xs[j]? = some a) : i = j := by
 rcases Nat.lt_trichotomy i j with w | w | w
 ·exact absurd (hr _ _ _ _ w h1 h2) (Nat.lt_irrefl _)
 ·exact w
 ·exact absurd (hr _ _ _ _ w h2 h1) (Nat.lt_irrefl _)
section
variable {prog : Program} {w : World} {A : Around} {E : Value -> Shared -> Prop} {s : Shared}
abbrev IK (prog : Program) (w : World) (h : Heap) (k : List Int) (a : Addr) : Prop := IsTupleKey (intKind prog w) h k a
abbrev hK (prog : Program) (w : World) (k : List Int) : Int := tupleKeyHash (intKind prog w) k
theorem items_int {ks : List Int} {vs : List Value} (h : ItemsAre (intKind prog w) ks vs) : ∀ v ∈ vs, ∃ i t, v = .int i t := by
 induction h with
 | nil => intro v hv; exact nomatch hv
 | @cons k v ks vs h1 _ ih =>
  intro x hx
  rcases List.mem_cons.mp hx with z | z
  ·subst z
   cases x with
   | int i t => exact ⟨i, t, rfl⟩
   | _ => simp [intKind, Value.isInt] at h1
  ·exact ih x z
theorem aB2 {k : List Int} {a : Addr} {Q : Bool -> Shared -> Prop} (hk : IK prog w s.heap k a) (h : Q true s) : wpAny (model prog w) A (hashByValue 8 (.ref a)) Q E s := by
 have hT := hk.typeIs
 obtain ⟨o, items, n, ho, _, hd, hi⟩ := hk
 have bv := items_int hi
 unfold hashByValue
 refine wpAny_bind (wpAny_specialOf hT F.slot_tuple_hash.lookup ?_)
 dsimp only
 refine wpAny_bind (wpAny_seqItems ho hd ?_)
 refine wpAny_bind (wpAny_forIn_array' _ (fun rest b s' => s' = s /\ b.1 = none /\ ∀ v ∈ rest, ∃ i t, v = Value.int i t) _ ?_ ?_ _ _ ⟨rfl, rfl, bv⟩)
 ·rintro x rest b s1 ⟨rfl, _, hx⟩
  obtain ⟨i, t, rfl⟩ := hx x (.head _)
  exact wpAny_bind (wpAny_of_eq (a := true) rfl (wpAny_pure ⟨rfl, rfl, fun v hv => hx v (.tail _ hv)⟩))
 ·rintro ⟨b1, b2⟩ s1 ⟨rfl, hb, _⟩
  cases (show b1 = none from hb)
  exact wpAny_pure h
theorem aAf {k : List Int} {a : Addr} {Q : Bool -> Shared -> Prop} (hk : IK prog w s.heap k a) (h : Q false s) : wpAny (model prog w) A (ofAClassStatement 8 (.ref a)) Q E s := by
 have hT := hk.typeIs
 obtain ⟨o, items, n, ho, _, hd, hi⟩ := hk
 have bv := items_int hi
 unfold ofAClassStatement
 refine wpAny_bind (wpAny_typeOf hT ?_)
 dsimp only
 rw [if_pos (by decide)]
 refine wpAny_bind (wpAny_pure ?_)
 simp only [Bool.not_true, Bool.false_eq_true, if_false]
 refine wpAny_bind (wpAny_seqItems ho hd ?_)
 dsimp only
 refine wpAny_bind (wpAny_forIn_array' _ (fun rest b s' => s' = s /\ b.1 = none /\ ∀ v ∈ rest, ∃ i t, v = Value.int i t) _ ?_ ?_ _ _ ⟨rfl, rfl, bv⟩)
 ·rintro x rest b s1 ⟨rfl, _, hx⟩
  obtain ⟨i, t, rfl⟩ := hx x (.head _)
  exact wpAny_bind (wpAny_of_eq (a := false) rfl (wpAny_pure ⟨rfl, rfl, fun v hv => hx v (.tail _ hv)⟩))
 ·rintro ⟨b1, b2⟩ s1 ⟨rfl, hb, _⟩
  cases (show b1 = none from hb)
  exact wpAny_pure h
theorem aBm {k : List Int} {a : Addr} {l : List Value} {Q : Bool -> Shared -> Prop} (hk : IK prog w s.heap k a) (hl : ∀ v ∈ l, ∃ b k', v = .ref b /\ IK prog w s.heap k' b) (h : Q false s) : wpAny (model prog w) A (searchCouldBeSeen (.ref a) l) Q E s := by
 unfold searchCouldBeSeen
 refine wpAny_bind (wpAny_forIn_list _ (fun rest b s' => s' = s /\ b.1 = none /\ ∀ v ∈ rest, ∃ b k', v = .ref b /\ IK prog w s.heap k' b) _ ?_ ?_ _ _ ⟨rfl, rfl, hl⟩)
 ·rintro x rest b s1 ⟨rfl, _, hx⟩
  obtain ⟨c, k', rfl, hc⟩ := hx x (.head _)
  have nx : wpAny (model prog w) A (pure (ForInStep.yield (none, ())) : Sem (ForInStep (Option Bool × Unit))) (fun r s' => match r with | .yield b' => s' = s1 /\ b'.1 = none /\ ∀ v ∈ rest, ∃ b k', v = .ref b /\ IK prog w s1.heap k' b | .done b' => wpAny (model prog w) A (match b'.1 with | some r => pure r | none => pure false) Q E s') E s1 := wpAny_pure ⟨rfl, rfl, fun v hv => hx v (.tail _ hv)⟩
  dsimp only
  split
  ·exact nx
  ·refine wpAny_bind (wpAny_eqIsQuiet_tuple hk ?_)
   simp only [Bool.not_true, Bool.false_eq_true, if_false]
   refine wpAny_bind (wpAny_eqIsQuiet_tuple hc ?_)
   simp only [Bool.not_true, Bool.false_eq_true, if_false]
   refine wpAny_bind (aAf hk ?_)
   simp only [Bool.false_eq_true, if_false]
   refine wpAny_bind (aAf hc ?_)
   simp only [Bool.false_eq_true, if_false]
   exact nx
 ·rintro ⟨b1, b2⟩ s1 ⟨rfl, hb, _⟩
  cases (show b1 = none from hb)
  exact wpAny_pure h
def Fit (mask n : Nat) : Prop := (mask = 7 /\ n <= 4) \/ (mask = 31 /\ n <= 18) \/ (mask = 127 /\ n <= 76)
structure SetR (prog : Program) (w : World) (h : Heap) (S : Addr) (ks : List (List Int)) (o : Obj) (es : Array (Int × Value)) (ep : Nat) (t : SetTable) : Prop where
 g : h.get? S = some o
 x : o.ExactSet
 d : o.data = .set es ep t
 pl : t.plain = true
 ld : t.led = !w.params.followText "set-order"
 tb : Tab t (ks.map (hK prog w))
 nd : ks.Nodup
 sz : es.size = ks.length
 at' : ∀ (i : Nat) k, ks[i]? = some k -> ∃ a, es[i]? = some (hK prog w k, .ref a) /\ IK prog w h k a
theorem SetR.fits {h : Heap} {S : Addr} {ks : List (List Int)} {o : Obj} {es : Array (Int × Value)} {ep : Nat} {t : SetTable} (R : SetR prog w h S ks o es ep t) : t.fits es.size = true := by
 unfold SetTable.fits SetTable.fill
 have a := R.tb.s
 have b := R.tb.z
 rw [List.length_map] at a b
 rw [R.tb.d, a, R.sz]
 simpa using b
theorem xB {k : List Int} {a : Addr} {l : List Value} {b : Bool} {m m' : Sem SetFound} {Q : SetFound -> Shared -> Prop} (hk : IK prog w s.heap k a) (hl : ∀ v ∈ l, ∃ b k', v = .ref b /\ IK prog w s.heap k' b) (h : wpAny (model prog w) A m Q E s) : wpAny (model prog w) A (if (!b) = true then (searchCouldBeSeen (.ref a) l >>= fun x => if x = true then m' else m) else m) Q E s := by
 split
 ·exact wpAny_bind (aBm hk hl (by rw [if_neg (by decide)]; exact h))
 ·exact h
theorem mV {S a : Addr} {ks : List (List Int)} {o : Obj} {es : Array (Int × Value)} {ep : Nat} {t : SetTable} {k : List Int} (R : SetR prog w s.heap S ks o es ep t) (hu : A.units < cLine) (hk : IK prog w s.heap k a) {Q : SetFound -> Shared -> Prop}
  (q1 : k ∈ ks -> Q (.there none) s) (q2 : k ∉ ks -> ∀ n, n <= 10 * (13 + t.mask) -> pth t.mask (hK prog w k) n ∉ t.place.toList -> (∀ q, q < n -> pth t.mask (hK prog w k) q ∈ t.place.toList) -> Q (.free (pth t.mask (hK prog w k) n) false) s) :
  ∀ (n fuel k0 : Nat) (stand : Option SetTable.Probe), n < fuel -> k0 + n <= 10 * (13 + t.mask) -> stand.getD (t.probeStart (hK prog w k)) = jA t.mask k0 (pst t.mask (hK prog w k)) -> (∀ q, q < k0 -> ∃ i : Nat, t.place[i]? = some (pth t.mask (hK prog w k) q) /\ ks[i]? ≠ some k) -> (pth t.mask (hK prog w k) (k0 + n) ∉ t.place.toList \/ ∃ i : Nat, t.place[i]? = some (pth t.mask (hK prog w k) (k0 + n)) /\ ks[i]? = some k) ->
  wpAny (model prog w) A (setSearchFrom S (.ref a) (hK prog w k) true fuel stand) Q E s
 | n, fuel + 1, k0, stand, hn, hB, hst, hN, hD => by
  have hf := R.fits
  have odd : t.gaveWay = false := by
   unfold SetTable.gaveWay
   rcases R.tb.m with z | z | z <;> rw [z] <;> rfl
  have psz : t.place.size = ks.length := by have := R.tb.s; rw [List.length_map] at this; exact this
  have inp : ∀ {i j : Nat}, t.place[i]? = some j -> j ∈ t.place.toList := fun e => Array.mem_toList_iff.mpr (Array.mem_of_getElem? e)
  have hash : ∀ (i : Nat) x, ks[i]? = some x -> (es[i]?.map (·.1)).getD 0 = hK prog w x := fun i x e => by
   obtain ⟨b, hb, _⟩ := R.at' i x e
   rw [hb]
   rfl
  have gk := aFr R.tb.d R.tb.r (f := fun i => (es[i]?.map (·.1)).getD 0) (h := hK prog w k) n (10 * SetTable.turns t.mask) k0 (by unfold SetTable.turns; omega) (hD.imp id fun ⟨i, e1, e2⟩ => ⟨i, e1, hash i k e2⟩)
  unfold setSearchFrom
  refine wpAny_bind (wpAny_setState_of R.g R.d hf ?_)
  dsimp only
  rw [odd]
  simp only [Bool.false_eq_true, if_false]
  generalize hg : t.probe _ (hK prog w k) _ = met
  have hg : SetTable.probe.go t (fun i => (es[i]?.map (·.1)).getD 0) (hK prog w k) (10 * SetTable.turns t.mask) (stand.getD (t.probeStart (hK prog w k))) = met := hg
  rw [hst] at hg
  rcases gk with ⟨k', a1, a2, a3, a4, a5⟩ | ⟨k', i, a1, a2, a3, a4, a5, a6⟩
  ·rw [a5] at hg
   subst hg
   dsimp only
   have occ : ∀ q, q < k' -> ∃ i : Nat, t.place[i]? = some (pth t.mask (hK prog w k) q) /\ ks[i]? ≠ some k := fun q hq => by
    rcases Nat.lt_or_ge q k0 with z | z
    ·exact hN q z
    ·obtain ⟨i, e1, e2⟩ := a4 q z hq
     exact ⟨i, e1, fun e => e2 (hash i k e)⟩
   refine wpAny_pure (q2 (fun z => ?_) k' (by omega) a3 fun q hq => inp (occ q hq).choose_spec.1)
   obtain ⟨i0, e0⟩ := List.mem_iff_getElem?.mp z
   have il : i0 < t.place.size := by rw [psz]; exact (List.getElem?_eq_some_iff.mp e0).1
   obtain ⟨m, _, m2, m3⟩ := R.tb.p i0 (hK prog w k) t.place[i0] (by rw [List.getElem?_map, e0]; rfl) (Array.getElem?_eq_getElem il)
   have pm : t.place[i0]? = some (pth t.mask (hK prog w k) m) := by rw [m2]; exact Array.getElem?_eq_getElem il
   rcases Nat.lt_trichotomy m k' with y | y | y
   ·obtain ⟨i, e1, e2⟩ := occ m y
    rw [pN R.tb.r e1 pm] at e2
    exact e2 e0
   ·rw [y] at pm
    exact a3 (inp pm)
   ·exact a3 (m3 k' y)
  ·rw [a6] at hg
   subst hg
   dsimp only
   have il : i < ks.length := by rw [<- psz]; exact (Array.getElem?_eq_some_iff.mp a3).1
   obtain ⟨b, hb, kb⟩ := R.at' i ks[i] (List.getElem?_eq_getElem il)
   have sto : ∀ v ∈ (es.filter (·.1 == hK prog w k)).toList.map (·.2), ∃ b k', v = Value.ref b /\ IK prog w s.heap k' b := fun v hv => by
    obtain ⟨e, he, rfl⟩ := List.mem_map.mp hv
    have he : e ∈ es := (Array.mem_filter.mp (Array.mem_toList_iff.mp he)).1
    obtain ⟨i5, e5⟩ := Array.mem_iff_getElem?.mp he
    have l5 : i5 < ks.length := by rw [<- R.sz]; exact (Array.getElem?_eq_some_iff.mp e5).1
    obtain ⟨b5, h5, k5⟩ := R.at' i5 ks[i5] (List.getElem?_eq_getElem l5)
    rw [h5] at e5
    cases e5
    exact ⟨b5, _, rfl, k5⟩
   rw [hb]
   dsimp only
   refine xB hk sto ?_
   refine wpAny_bind (wpAny_holding ((tupleKind (intKind prog w)).eqBool hu kb hk ?_))
   refine wpAny_bind (wpAny_setState_of R.g R.d hf ?_)
   dsimp only
   by_cases z : ks[i] = k
   ·rw [decide_eq_true z, if_pos (by decide)]
    exact wpAny_pure (q1 (z ▸ List.getElem_mem il))
   ·rw [decide_eq_false z, if_neg (by decide)]
    have sm : t.sameMemory t.moves t.mask = some true := by
     unfold SetTable.sameMemory
     rw [if_pos (beq_self_eq_true _)]
    rw [sm]
    dsimp only
    obtain ⟨i2, s1, s2⟩ := vN R.tb.r (inp a3)
    rw [pN R.tb.r s2 a3] at s1
    rw [if_pos rfl, s1]
    dsimp only
    rw [hb]
    dsimp only
    have self : isSame (.ref b) (.ref b) = pure true := by
     unfold isSame
     simp
    refine wpAny_bind (wpAny_of_eq self (wpAny_bind (wpAny_pure ?_)))
    rw [if_pos rfl]
    dsimp only
    rw [if_neg (by decide)]
    have lt : k' < k0 + n := by
     rcases Nat.lt_or_ge k' (k0 + n) with y | y
     ·exact y
     ·have : k' = k0 + n := by omega
      subst this
      rcases hD with e | ⟨i3, e1, e2⟩
      ·exact absurd (inp a3) e
      ·have := pN R.tb.r a3 e1
       subst this
       rw [List.getElem?_eq_getElem il] at e2
       exact absurd (Option.some.inj e2) z
    obtain ⟨n', hn'⟩ : ∃ n', k' + 1 + n' = k0 + n := ⟨k0 + n - (k' + 1), by omega⟩
    refine mV R hu hk q1 q2 n' fuel (k' + 1) _ (by omega) (by omega) rfl (fun q hq => ?_) (by rw [hn']; exact hD)
    rcases Nat.lt_or_ge q k0 with y | y
    ·exact hN q y
    ·rcases Nat.lt_or_ge q k' with x | x
     ·obtain ⟨i4, e1, e2⟩ := a5 q y x
      exact ⟨i4, e1, fun e => e2 (hash i4 k e)⟩
     ·have : q = k' := by omega
      subst this
      exact ⟨i, a3, by rw [List.getElem?_eq_getElem il]; exact fun e => z (Option.some.inj e)⟩
theorem IK.keep {h h' : Heap} {k : List Int} {a : Addr} (hk : IK prog w h k a) (q : ∀ o, h.get? a = some o -> h'.get? a = some o) : IK prog w h' k a := by
 obtain ⟨o, items, n, ho, r⟩ := hk
 exact ⟨o, items, n, q o ho, r⟩
theorem SetR.ne {h : Heap} {S a : Addr} {ks : List (List Int)} {o : Obj} {es : Array (Int × Value)} {ep : Nat} {t : SetTable} {k : List Int} (R : SetR prog w h S ks o es ep t) (hk : IK prog w h k a) : a ≠ S := fun z => by
 subst z
 obtain ⟨o', _, _, ho, hc, _⟩ := hk
 have g := R.g
 rw [ho] at g
 cases g
 have := R.x.1
 rw [hc] at this
 exact absurd this (by decide)
theorem y3 {h : Heap} {S : Addr} {o : Obj} {es : Array (Int × Value)} {ep : Nat} {t : SetTable} (ho : h.get? S = some o) (hd : o.data = .set es ep t) (es' : Array (Int × Value)) (t' : SetTable) :
  (h.update S (Obj.putSet es' t')).get? S = some { o with data := .set es' (ep + 1) t' } := by
 have := Heap.get?_update_self (Obj.putSet es' t') ho (by rw [putSet_of es' t' hd]; rfl)
 rw [putSet_of es' t' hd] at this
 exact this
theorem SetR.write {h : Heap} {S : Addr} {ks ks' : List (List Int)} {o : Obj} {es es' : Array (Int × Value)} {ep : Nat} {t t' : SetTable} (R : SetR prog w h S ks o es ep t) (pl : t'.plain = true) (ld : t'.led = t.led) (tb : Tab t' (ks'.map (hK prog w))) (nd : ks'.Nodup) (sz : es'.size = ks'.length)
  (at' : ∀ (i : Nat) k, ks'[i]? = some k -> ∃ a, es'[i]? = some (hK prog w k, .ref a) /\ IK prog w h k a) : SetR prog w (h.update S (Obj.putSet es' t')) S ks' { o with data := .set es' (ep + 1) t' } es' (ep + 1) t' := by
 refine ⟨y3 R.g R.d es' t', R.x, rfl, pl, by rw [ld]; exact R.ld, tb, nd, sz, fun i k e => ?_⟩
 obtain ⟨a, h1, h2⟩ := at' i k e
 refine ⟨a, h1, h2.keep fun o' ho' => ?_⟩
 rw [(Heap.SameBut.update h S (Obj.putSet es' t')).2 a (R.ne h2)]
 exact ho'
theorem aF8 {α : Type} (l : List α) : (List.range l.length).filterMap (l[·]?) = l := by
 have h : ∀ x ∈ List.range l.length, (l[x]?).isSome = true := fun x hx => by simp [List.mem_range.mp hx]
 apply List.ext_getElem?
 intro i
 rw [oG i h]
 by_cases z : i < l.length
 ·rw [List.getElem?_range z]
  rfl
 ·rw [List.getElem?_eq_none (by rw [List.length_range]; omega), List.getElem?_eq_none (by omega)]
  rfl
theorem yT {S : Addr} {ks : List (List Int)} {o : Obj} {es : Array (Int × Value)} {ep : Nat} {t : SetTable} {wanted : Nat} {Q : Unit -> Shared -> Prop} (R : SetR prog w s.heap S ks o es ep t) (hm : MOk (SetTable.sizeAbove wanted - 1)) (hl : SetTable.sizeAbove wanted <= 128) (hn : ks.length <= SetTable.sizeAbove wanted - 1)
  (q : ∀ h' ks' o' es' ep' t', Heap.SameBut S s.heap h' -> ks'.Perm ks -> t'.mask = SetTable.sizeAbove wanted - 1 -> (∀ e ∈ es', e ∈ es) -> SetR prog w h' S ks' o' es' ep' t' -> Q () { s with heap := h' }) : wpAny (model prog w) A (setRelay S wanted) Q E s := by
 have hf := R.fits
 have he : es.map (·.1) = (ks.map (hK prog w)).toArray := by
  apply Array.toList_inj.mp
  rw [Array.toList_map, List.toList_toArray]
  apply List.ext_getElem?
  intro i
  rw [List.getElem?_map, List.getElem?_map, Array.getElem?_toList]
  by_cases z : i < ks.length
  ·obtain ⟨a, h1, _⟩ := R.at' i ks[i] (List.getElem?_eq_getElem z)
   rw [h1, List.getElem?_eq_getElem z]
   rfl
  ·rw [Array.getElem?_eq_none (by rw [R.sz]; omega), List.getElem?_eq_none (by omega)]
   rfl
 obtain ⟨t', order, r1, r2, r3, r4, r5, r6⟩ := uX (t := t) (hs := ks.map (hK prog w)) (wanted := wanted) hm (by rw [List.length_map]; exact hn)
 rw [List.length_map] at r5
 have hb : ∀ x ∈ order.toList, x < ks.length := fun x hx => List.mem_range.mp (r5.mem_iff.mp hx)
 have k1 : ∀ x ∈ order.toList, (ks[x]?).isSome = true := fun x hx => by simp [hb x hx]
 have k2 : ∀ x ∈ order.toList, (es[x]?).isSome = true := fun x hx => by simp [R.sz, hb x hx]
 have ol : order.toList.length = ks.length := by rw [r5.length_eq, List.length_range]
 have el : (order.filterMap (es[·]?)).size = ks.length := by
  rw [<- Array.length_toList, Array.toList_filterMap, nR k2, ol]
 have eh : order.toList.filterMap ((ks.map (hK prog w))[·]?) = (order.toList.filterMap (ks[·]?)).map (hK prog w) := by
  rw [List.map_filterMap]
  congr 1
  funext x
  exact List.getElem?_map ..
 rw [eh] at r6
 have pm : (order.toList.filterMap (ks[·]?)).Perm ks := by
  have := r5.filterMap (ks[·]?)
  rw [aF8] at this
  exact this
 unfold setRelay
 refine wpAny_bind (wpAny_setState_of R.g R.d hf ?_)
 dsimp only
 rw [if_neg (by rw [sizeLine_eq]; omega), he, r1]
 refine wpAny_bind ?_
 show wpAny (model prog w) A (if ((order.filterMap (es[·]?)).size != es.size) = true then (unsupported "internal:set-table-lost-an-element" >>= fun _ => pure (order.filterMap (es[·]?), t')) else pure (order.filterMap (es[·]?), t')) _ _ _
 rw [if_neg (by rw [el, R.sz]; simp)]
 refine wpAny_pure ?_
 dsimp only
 have nl : ks.length <= 128 := by omega
 refine wpAny_storeSet_of R.g R.d ?_ (by rw [el, sizeLine_eq]; omega)
 refine q _ _ _ _ _ _ (Heap.SameBut.update ..) pm r2 (fun e he => by
  obtain ⟨x, _, hx⟩ := Array.mem_filterMap.mp he
  exact Array.mem_of_getElem? hx) (R.write (by rw [r4]; exact R.pl) r3 r6 (pm.nodup_iff.mpr R.nd) (by rw [el, nR k1, ol]) fun i k e => ?_)
 rw [oG i k1] at e
 cases ei : order.toList[i]? with
 | none => rw [ei] at e; cases e
 | some x =>
  rw [ei] at e
  obtain ⟨a, h1, h2⟩ := R.at' x k e
  refine ⟨a, ?_, h2⟩
  rw [<- Array.getElem?_toList, Array.toList_filterMap, oG i k2, ei]
  exact h1
def SetK (prog : Program) (w : World) (h : Heap) (S : Addr) (ks : List (List Int)) (L : Addr -> Prop) : Prop := ∃ ks' o es ep t, ks'.Perm ks /\ Fit t.mask ks'.length /\ (∀ e ∈ es, ∃ a, e.2 = Value.ref a /\ L a) /\ SetR prog w h S ks' o es ep t
theorem aAw {α : Type} (l : List α) (p : Nat) (hp : p <= l.length) (x : α) (i : Nat) : (l.take p ++ x :: l.drop p)[i]? = if i < p then l[i]? else if i = p then some x else l[i - 1]? := by
 have lt : (l.take p).length = p := by rw [List.length_take]; omega
 by_cases z : i < p
 ·rw [if_pos z, List.getElem?_append_left (by omega), List.getElem?_take, if_pos z]
 ·rw [if_neg z, List.getElem?_append_right (by omega), lt]
  by_cases y : i = p
  ·rw [if_pos y, y, Nat.sub_self]
   rfl
  ·rw [if_neg y]
   obtain ⟨d, hd⟩ : ∃ d, i - p = d + 1 := ⟨i - p - 1, by omega⟩
   rw [hd, List.getElem?_cons_succ, List.getElem?_drop]
   congr 1
   omega
theorem eQ {S a : Addr} {L : Addr -> Prop} {ks : List (List Int)} {k : List Int} {Q : Bool -> Shared -> Prop} (K : SetK prog w s.heap S ks L) (hu : A.units < cLine) (hk : IK prog w s.heap k a) (aL : L a) (hz : ks.length < 76)
  (q : ∀ b h', Heap.SameBut S s.heap h' -> SetK prog w h' S (if k ∈ ks then ks else k :: ks) L -> Q b { s with heap := h' }) : wpAny (model prog w) A (setAddHashed S (.ref a) (hK prog w k)) Q E s := by
 obtain ⟨ks', o, es, ep, t, pm, ft, lo, R⟩ := K
 have ml : ks'.length = ks.length := pm.length_eq
 have hf := R.fits
 have psz : t.place.size = ks'.length := by have := R.tb.s; rw [List.length_map] at this; exact this
 unfold setAddHashed setAddHashedIn
 refine wpAny_holding (wpAny_bind (wpAny_setState_of R.g R.d hf ?_))
 dsimp only
 rw [show byScan (.ref a) es = false from rfl]
 simp only [Bool.false_eq_true, if_false]
 refine wpAny_bind ?_
 unfold setSearch
 have m127 : t.mask <= 127 := by rcases R.tb.m with z | z | z <;> omega
 obtain ⟨n, nB, nD⟩ : ∃ n, n <= 10 * (13 + t.mask) /\ (pth t.mask (hK prog w k) (0 + n) ∉ t.place.toList \/ ∃ i : Nat, t.place[i]? = some (pth t.mask (hK prog w k) (0 + n)) /\ ks'[i]? = some k) := by
  by_cases z : k ∈ ks'
  ·obtain ⟨i0, e0⟩ := List.mem_iff_getElem?.mp z
   have il : i0 < t.place.size := by rw [psz]; exact (List.getElem?_eq_some_iff.mp e0).1
   obtain ⟨m, m1, m2, _⟩ := R.tb.p i0 (hK prog w k) t.place[i0] (by rw [List.getElem?_map, e0]; rfl) (Array.getElem?_eq_getElem il)
   exact ⟨m, m1, .inr ⟨i0, by rw [Nat.zero_add, m2]; exact Array.getElem?_eq_getElem il, e0⟩⟩
  ·obtain ⟨j, j1, j2⟩ := miss (mask := t.mask) (l := t.place.toList) (by rw [Array.length_toList, psz]; have := R.tb.z; rw [List.length_map] at this; exact this)
   obtain ⟨m, m1, m2⟩ := wJ R.tb.m (hK prog w k) j1
   exact ⟨m, m1, .inl (by rw [Nat.zero_add, m2]; exact j2)⟩
 refine mV R hu hk (fun z => ?_) (fun z kk hB hn hp => ?_) n 100000 0 none (by omega) (by omega) rfl (fun q hq => absurd hq (Nat.not_lt_zero _)) nD
 ·dsimp only
  refine wpAny_pure ?_
  have := q false s.heap (Heap.SameBut.refl S s.heap) (by rw [if_pos (pm.mem_iff.mp z)]; exact ⟨ks', o, es, ep, t, pm, ft, lo, R⟩)
  exact this
 ·dsimp only
  have nz : k ∉ ks := fun y => z (pm.mem_iff.mpr y)
  rw [if_neg nz] at q
  refine wpAny_bind (wpAny_setState_of R.g R.d hf ?_)
  dsimp only
  have zm : ks'.length + 1 <= t.mask := by rcases ft with y | y | y <;> omega
  have tb1 := R.tb.put (h := hK prog w k) hB hn hp (by rw [List.length_map]; exact zm)
  obtain ⟨b1, _, _⟩ := gH R.tb.r (pth t.mask (hK prog w k) kk)
  have pe := (jF t (pth t.mask (hK prog w k) kk)).2
  have pl1 : (t.put (pth t.mask (hK prog w k) kk)).1.plain = true := R.pl
  have ld1 : (t.put (pth t.mask (hK prog w k) kk)).1.led = t.led := rfl
  have mk1 : (t.put (pth t.mask (hK prog w k) kk)).1.mask = t.mask := rfl
  generalize t.put (pth t.mask (hK prog w k) kk) = tp at *
  obtain ⟨t1, p⟩ := tp
  dsimp only at tb1 pe pl1 ld1 mk1 ⊢
  have hp1 : p <= ks'.length := by rw [pe]; omega
  rw [<- List.map_take, <- List.map_drop, <- List.map_cons, <- List.map_append] at tb1
  have pm1 : (ks'.take p ++ k :: ks'.drop p).Perm (k :: ks) := by
   refine List.perm_middle.trans (List.Perm.cons k ?_)
   rw [List.take_append_drop]
   exact pm
  have il : (SetTable.insertAt es p (hK prog w k, Value.ref a)).toList = es.toList.take p ++ (hK prog w k, Value.ref a) :: es.toList.drop p := eA _ _ _
  have hpe : p <= es.toList.length := by rw [Array.length_toList, R.sz]; exact hp1
  have sz1 : (SetTable.insertAt es p (hK prog w k, Value.ref a)).size = (ks'.take p ++ k :: ks'.drop p).length := by
   rw [<- Array.length_toList, il, List.length_append, List.length_append, List.length_cons, List.length_cons, List.length_take, List.length_take, List.length_drop, List.length_drop, Array.length_toList, R.sz]
  have ln1 : (ks'.take p ++ k :: ks'.drop p).length = ks'.length + 1 := by rw [pm1.length_eq, List.length_cons, ml]
  rw [pl1, if_pos rfl]
  refine wpAny_bind (aB2 hk ?_)
  rw [if_pos rfl]
  have nl : ks'.length <= 76 := by omega
  refine wpAny_bind (wpAny_storeSet_of R.g R.d ?_ (by rw [sz1, ln1, sizeLine_eq]; omega))
  have R1 := R.write (es' := SetTable.insertAt es p (hK prog w k, Value.ref a)) pl1 ld1 tb1 (pm1.nodup_iff.mpr (List.nodup_cons.mpr ⟨nz, pm.nodup_iff.mp R.nd⟩)) sz1 (fun i x e => by
   rw [aAw ks' p hp1 k i] at e
   rw [<- Array.getElem?_toList, il, aAw es.toList p hpe _ i]
   by_cases y : i < p
   ·rw [if_pos y] at e ⊢
    obtain ⟨c, h1, h2⟩ := R.at' i x e
    exact ⟨c, by rw [Array.getElem?_toList]; exact h1, h2⟩
   ·rw [if_neg y] at e ⊢
    by_cases y2 : i = p
    ·rw [if_pos y2] at e ⊢
     cases e
     exact ⟨a, rfl, hk⟩
    ·rw [if_neg y2] at e ⊢
     obtain ⟨c, h1, h2⟩ := R.at' _ x e
     exact ⟨c, by rw [Array.getElem?_toList]; exact h1, h2⟩)
  have sb := Heap.SameBut.update s.heap S (Obj.putSet (SetTable.insertAt es p (hK prog w k, Value.ref a)) t1)
  have lo1 : ∀ e ∈ SetTable.insertAt es p (hK prog w k, Value.ref a), ∃ a, e.2 = Value.ref a /\ L a := fun e he => by
   rw [<- Array.mem_toList_iff, il] at he
   rcases List.mem_append.mp he with y | y
   ·exact lo e (Array.mem_toList_iff.mp (List.mem_of_mem_take y))
   ·rcases List.mem_cons.mp y with x | x
    ·rw [x]; exact ⟨a, rfl, aL⟩
    ·exact lo e (Array.mem_toList_iff.mp (List.mem_of_mem_drop x))
  generalize (SetTable.insertAt es p (hK prog w k, Value.ref a)) = es1 at *
  have full : t1.tooFull = decide ((t.mask = 7 /\ ks'.length = 4) \/ (t.mask = 31 /\ ks'.length = 18)) := by
   unfold SetTable.tooFull SetTable.fill
   have a1 := tb1.s
   rw [List.length_map, ln1] at a1
   rw [tb1.d, a1, mk1]
   rcases ft with ⟨y, x⟩ | ⟨y, x⟩ | ⟨y, x⟩ <;> rw [y] <;> simp <;> omega
  rw [full]
  by_cases y : (t.mask = 7 /\ ks'.length = 4) \/ (t.mask = 31 /\ ks'.length = 18)
  ·rw [decide_eq_true y, if_pos (by decide), R.sz]
   have go : ∀ wn, SetTable.grown (ks'.length + 1) = wn -> MOk (SetTable.sizeAbove wn - 1) -> SetTable.sizeAbove wn <= 128 -> ks'.length + 1 <= SetTable.sizeAbove wn - 1 -> Fit (SetTable.sizeAbove wn - 1) (ks'.length + 1) -> wpAny (model prog w) A (do
     setRelay S (SetTable.grown (ks'.length + 1))
     pure true) Q E { s with heap := s.heap.update S (Obj.putSet es1 t1) } := fun wn e1 e2 e3 e4 e5 => by
    rw [e1]
    refine wpAny_bind (yT R1 e2 e3 (by rw [ln1]; exact e4) fun h' ks2 o2 es2 ep2 t2 sb2 pm2 mk2 in2 R2 => wpAny_pure (q true h' (sb.trans sb2) ⟨ks2, o2, es2, ep2, t2, pm2.trans pm1, ?_, fun e he => lo1 e (in2 e he), R2⟩))
    rw [mk2, pm2.length_eq, ln1]
    exact e5
   rcases y with ⟨_, y⟩ | ⟨_, y⟩ <;> rw [y] at go ⊢
   ·exact go 20 (by decide) (by unfold MOk; decide) (by decide) (by decide) (by unfold Fit; decide)
   ·exact go 76 (by decide) (by unfold MOk; decide) (by decide) (by decide) (by unfold Fit; decide)
  ·rw [decide_eq_false y, if_neg (by decide)]
   refine wpAny_pure (q true _ sb ⟨_, _, _, _, t1, pm1, ?_, lo1, R1⟩)
   rw [mk1, ln1]
   unfold Fit at ft ⊢
   omega
theorem SetK.at {h h' : Heap} {S : Addr} {L : Addr -> Prop} {ks : List (List Int)} (K : SetK prog w h S ks L) (q : ∀ b o, (L b \/ b = S) -> h.get? b = some o -> h'.get? b = some o) : SetK prog w h' S ks L := by
 obtain ⟨ks', o, es, ep, t, pm, ft, lo, R⟩ := K
 refine ⟨ks', o, es, ep, t, pm, ft, lo, q _ _ (.inr rfl) R.g, R.x, R.d, R.pl, R.ld, R.tb, R.nd, R.sz, fun i k e => ?_⟩
 obtain ⟨a, h1, h2⟩ := R.at' i k e
 obtain ⟨b, e1, e2⟩ := lo _ (Array.mem_of_getElem? h1)
 cases e1
 exact ⟨a, h1, h2.keep fun o ho => q a o (.inl e2) ho⟩
def sH (w : World) : Obj := { cls := .type "set", dict := none, data := .set #[] 0 (.fresh 0 0 (!w.params.followText "set-order")) }
theorem SetK.new {h : Heap} {S : Addr} {L : Addr -> Prop} (hS : h.get? S = some (sH w)) : SetK prog w h S [] L := by
 refine ⟨[], sH w, #[], 0, .fresh 0 0 (!w.params.followText "set-order"), List.Perm.refl _, .inl ⟨rfl, Nat.zero_le _⟩, fun e he => by simp at he, hS, ⟨rfl, rfl, rfl⟩, rfl, rfl, rfl, ⟨rfl, .inl rfl, fun i j a b _ e => by simp [SetTable.fresh] at e, rfl, Nat.zero_le _, fun i h j e => by simp at e⟩, List.Pairwise.nil, rfl, fun i k e => by simp at e⟩
theorem wW (x : Value) {Q₁ : Value -> Shared -> Prop} (h : Q₁ (.ref s.heap.objs.size) { s with heap := s.heap.push (sH w) }) :
  codeAny (model prog w) A (.call (.builtin "set.__new__") ⟨[.type "set", x], []⟩) (wants Q₁ E) s := by
 refine codeAny_of_tree (show wpAny _ A.in1 (do checkBuiltinCall "set.__new__" ⟨[.type "set", x], []⟩; again (.builtin "set.__new__" ⟨[.type "set", x], []⟩)) _ _ s from ?_)
 refine wpAny_bind (wpAny_of_eq (F.newCall_set_1 x) (wpAny_pure ⟨plainId_quiet F.plain_set_new _, codeAny_builtin F.entry_set_new ?_⟩))
 rw [Around.under_plainId F.plain_set_new _]
 unfold Builtin.«set.__new__» Builtin.Frozenset.newClass
 have hsub := sub_set_self
 obtain ⟨hp, g, d, tk, os⟩ := s
 dsimp only
 wp_walk
 refine wpAny_askSetting (wpAny_pure ?_)
 dsimp only
 simp only [newObj]
 exact wpAny_bind (wpAny_alloc (wpAny_pure (wpAny_pure h)))
def sV (f : Nat -> List Int) : Nat -> List (List Int)
 | 0 => []
 | n + 1 => if f n ∈ sV f n then sV f n else f n :: sV f n
theorem lV (f : Nat -> List Int) : ∀ n, (sV f n).length <= n
 | 0 => Nat.le_refl _
 | n + 1 => by
  have := lV f n
  unfold sV
  split
  ·omega
  ·rw [List.length_cons]; omega
theorem yK {I : Addr} {fp wr : List Addr} {G : Array GenState -> Array GenState -> Prop} {n : Nat} {L : Addr -> Prop} {P : Nat -> Value -> Prop} {St : Nat -> Shared -> Prop} {R : Result -> Shared -> Prop} (W : WalksS prog w A.in1 I fp wr G n P St) (hu : A.in1.units < cLine) {S : Addr} (hSf : S ∉ fp) (hwL : ∀ b, L b -> b ∉ S :: wr) (ky : Nat -> List Int) (hb : n <= 76) :
  ∀ (k i : Nat) (s : Shared), n - i = k -> i <= n -> St i s -> SetK prog w s.heap S (sV ky i) L -> (∀ i v, i < n -> P i v -> ∃ a, v = .ref a /\ L a /\ IK prog w s.heap (ky i) a) ->
   (∀ s', Moved (S :: wr) G s s' -> SetK prog w s'.heap S (sV ky n) L -> R (.ok (.ret .none)) s') ->
   codeAny (model prog w) A (.builtin "set.update.loop" ⟨[.ref S, .ref I], []⟩) R s := by
 have hSw : S ∉ wr := fun z => hSf (W.sub _ z)
 have sub : ∀ b ∈ wr, b ∈ S :: wr := fun b z => .tail _ z
 have low : ∀ b, L b \/ b = S -> b ∉ wr := fun b z y => by
  rcases z with z | z
  ·exact hwL b z (.tail _ y)
  ·exact hSw (z ▸ y)
 intro k
 induction k with
 | zero =>
  intro i s hk hi st K _ q
  cases (show i = n by omega)
  refine codeAny_builtin PyProof.Rows.F.entry_set_update_loop ?_
  rw [Around.under_plainId PyProof.Rows.F.plain_set_update_loop _]
  unfold Builtin.«set.update.loop»
  refine wpAny_bind (W.done s _ _ st fun s' mv => ?_)
  exact wpAny_pure (q s' (mv.mono sub) (K.at fun b o hb e => mv.heap b o (low b hb) e))
 | succ k ih =>
  intro i s hk hi st K kt q
  have lt : i < n := by omega
  refine codeAny_builtin PyProof.Rows.F.entry_set_update_loop ?_
  rw [Around.under_plainId PyProof.Rows.F.plain_set_update_loop _]
  unfold Builtin.«set.update.loop»
  refine wpAny_bind (W.item i s _ _ lt st fun v s' hP st' mv => ?_)
  obtain ⟨a, rfl, aL, hka⟩ := kt i v lt hP
  have K' := K.at (h' := s'.heap) fun b o hb e => mv.heap b o (low b hb) e
  have hka' := IK.keep (h' := s'.heap) hka fun o e => mv.heap a o (low a (.inl aL)) e
  dsimp only
  refine wpAny_bind (wpAny_holding ?_)
  unfold setAdd
  refine wpAny_holding (wpAny_bind (wpAny_pyHash_tuple hu hka' ?_))
  refine eQ (s := { s' with toks := s'.toks + ((ky i).length + 1) }) K' hu hka' aL (by have := lV ky i; omega) fun b h' sb K2 => ?_
  have mv2 : Moved (S :: wr) G s { s' with heap := h', toks := s'.toks + ((ky i).length + 1) } := (mv.mono sub).then_heap (Nat.le_add_right _ _) fun b o hb e => by
   rw [sb.2 b (fun z => hb (by rw [z]; exact .head _))]
   exact e
  refine wpAny_pure ⟨plainId_quiet PyProof.Rows.F.plain_set_update_loop _, ih (i + 1) _ (by omega) lt (W.frame _ s' _ _ st' (Nat.le_add_right _ _) fun b hb o e => ?_) K2 (fun j v hj hv => ?_) fun s2 m2 K3 => ?_⟩
  ·rw [sb.2 b (fun z => hSf (by rw [<- z]; exact hb))]
   exact e
  ·obtain ⟨c, rfl, cL, hkc⟩ := kt j v hj hv
   exact ⟨c, rfl, cL, IK.keep hkc fun o e => mv2.heap c o (hwL c cL) e⟩
  ·exact q s2 (Moved.trans W.gtrans mv2 m2) K3
theorem uQ {x : Value} {Q : Value -> Shared -> Prop}
  (h : wpAny (model prog w) A.in1.in1 (Builtin.«set.__init__» ⟨[.ref s.heap.objs.size, x], []⟩)
   (fun fin s' => match fin with | .done f => wants (fun r s₂ => r = .none /\ Q (.ref s.heap.objs.size) s₂) E (.ok f) s' | .again c' => c'.quiet = true /\ codeAny (model prog w) A.in1 c' (wants (fun r s₂ => r = .none /\ Q (.ref s.heap.objs.size) s₂) E) s')
   (fun e s' => wants (fun r s₂ => r = .none /\ Q (.ref s.heap.objs.size) s₂) E (.error e) s') { s with heap := s.heap.push (sH w) }) :
  wpAny (model prog w) A (call (.type "set") [x]) Q E s := by
 have ft := F.called_set
 obtain ⟨c, tl, hmro⟩ := ft.mro
 have hmade := ft.made
 have hsub := ft.sub
 have h1 := ft.notType
 have h2 := ft.canCreate
 have hct := F.typeCall_set_1 x
 refine wpAny_call (codeAny_of_tree (wpAny_pure ⟨Code.quiet_builtin _ (by decide +kernel), codeAny_builtin F.entry_type_call ?_⟩))
 rw [Around.under_plain (weight_type_call_type "set" [x] []) rfl]
 repeat (any_goals (first | assumption | wp_step))
 refine codeAny_mono (wW x (E := E) (Q₁ := fun obj s₁ => obj = .ref s.heap.objs.size /\ s₁ = { s with heap := s.heap.push (sH w) }) ⟨rfl, rfl⟩) fun r s₁ hr => ?_
 cases r with
 | error e => exact hr
 | ok fl =>
  cases fl with
  | ret obj =>
   obtain ⟨rfl, rfl⟩ := hr
   have hT : Shared.TypeIs { s with heap := s.heap.push (sH w) } (.ref s.heap.objs.size) "set" := ⟨_, Heap.get?_push_size _ rfl, rfl⟩
   have hli := ft.init.lookup
   have hbi := ft.init.bind (.ref s.heap.objs.size)
   repeat (any_goals (first | assumption | wp_step))
   refine codeAny_mono (codeAny_call_builtin ft.init.plain F.entry_set_init (check_set_init_1 hT h)) fun r₂ s₂ hr₂ => ?_
   cases r₂ with
   | error e => exact hr₂
   | ok f2 =>
    cases f2 with
    | ret u =>
     obtain ⟨rfl, hq⟩ := hr₂
     repeat (any_goals (first | assumption | wp_step))
    | _ => exact hr₂.elim
  | _ => exact hr.elim
theorem yU {l : Addr} {items : Array Value} (hh : A.handled = none) (hu : A.units + 10 < cLine) (ky : Nat -> List Int) (hl : s.heap.IsList l items) (hz : items.size <= 76)
  {L : Addr -> Prop} (hL : ∀ a, L a -> a < s.heap.objs.size) (hk : ∀ i v, items[i]? = some v -> ∃ a, v = .ref a /\ L a /\ IK prog w s.heap (ky i) a)
  {Q : Value -> Shared -> Prop} (q : ∀ h' tk, SetK prog w h' s.heap.objs.size (sV ky items.size) L -> (∀ b o, s.heap.get? b = some o -> h'.get? b = some o) -> s.toks <= tk -> Q (.ref s.heap.objs.size) { s with heap := h', toks := tk }) :
  wpAny (model prog w) A (call (.type "set") [.ref l]) Q E s := by
 refine uQ ?_
 obtain ⟨ol, hol, hcl, nl, hdl⟩ := id hl
 have hS : (s.heap.push (sH w)).get? s.heap.objs.size = some (sH w) := Heap.get?_push_size _ rfl
 have hl1 : (s.heap.push (sH w)).IsList l items := ⟨ol, Heap.get?_push_of_some _ hol, hcl, nl, hdl⟩
 have hls : l < s.heap.objs.size := Heap.lt_size hol
 obtain ⟨ocls, odict, odata, oslots⟩ := ol
 simp only at hcl hdl
 subst hcl hdl
 have hol' : (s.heap.push (sH w)).get? l = some { cls := .type "list", dict := odict, data := .seq items nl, slots := oslots } := Heap.get?_push_of_some _ hol
 have a1 := F.sub_list_set
 have a2 := F.sub_list_frozenset
 have a3 : (Value.type "list" == Value.type "dict") = false := by decide
 unfold sH at hS hol' hl1 ⊢
 unfold Builtin.«set.__init__» noKeywords Builtin.Frozenset.updateFrom
 generalize hPI : pyIter = PI
 wp_walk
 subst hPI
 refine wpAny_pyIter_list hl1 (wpAny_bind (wpAny_runValue ?_))
 generalize hO : ({ cls := Value.type "set", data := Data.set #[] 0 (SetTable.fresh 0 0 (!w.params.followText "set-order")) } : Obj) = O at *
 have eO : O = sH w := by rw [<- hO]; rfl
 have sz : (s.heap.push O).objs.size = s.heap.objs.size + 1 := by rw [Heap.size_push]
 have kp : ∀ b o, s.heap.get? b = some o -> ((s.heap.push O).push { cls := .type "list_iterator", data := .fields #[.ref l, .int 0 0] }).get? b = some o := fun b o e => Heap.get?_push_of_some _ (Heap.get?_push_of_some _ e)
 have nI : ∀ b, b <= s.heap.objs.size -> b ≠ (s.heap.push O).objs.size := fun b z y => by rw [sz] at y; omega
 refine yK (A := A.in1.in1) (L := L) ((Walks.list (A := A.in1.in1.in1) hh (s.heap.push O).objs.size l (nI l (Nat.le_of_lt hls)) items).toS) (show A.units + 1 + 1 + 1 < cLine by omega) (S := s.heap.objs.size) (fun z => ?_) (fun b hb z => ?_) ky hz items.size 0 _ rfl (Nat.zero_le _) ⟨⟨_, Heap.get?_push_size _ rfl, rfl, rfl⟩, hl1.push _⟩ (SetK.new (by rw [<- eO]; exact Heap.get?_push_of_some _ hS)) (fun i v _ hv => ?_) fun s' mv T => ?_
 ·rcases List.mem_cons.mp z with z | z
  ·exact nI _ (Nat.le_refl _) z
  ·rw [List.mem_singleton.mp z] at hls
   exact Nat.lt_irrefl _ hls
 ·have lb := hL b hb
  rcases List.mem_cons.mp z with z | z
  ·rw [z] at lb
   exact Nat.lt_irrefl _ lb
  ·exact nI b (Nat.le_of_lt lb) (List.mem_singleton.mp z)
 ·obtain ⟨a, rfl, la, ka⟩ := hk i v hv
  exact ⟨a, rfl, la, ka.keep fun o e => kp a o e⟩
 ·refine wpAny_pure (wpAny_pure ⟨rfl, ?_⟩)
  obtain ⟨h', g', d', tk', os'⟩ := s'
  cases (show g' = s.gens from mv.gens)
  cases (show d' = s.drawn from mv.drawn)
  cases (show os' = s.os from mv.os)
  refine q h' tk' T (fun b o e => mv.heap b o (fun z => ?_) (kp b o e)) mv.toks
  have lb := Heap.lt_size e
  rcases List.mem_cons.mp z with z | z
  ·rw [z] at lb
   exact Nat.lt_irrefl _ lb
  ·exact nI b (Nat.le_of_lt lb) (List.mem_singleton.mp z)
end
theorem sl_next : Slot "set_iterator" "__next__" "set_iterator.__next__" :=
 .of (owner := "set_iterator") (n := "__next__") (by rw [typeLookup_type, builtinLookup_eq_fast]; kernel_rfl) (by decide +kernel) (by decide +kernel) (by decide +kernel) (by first | exact .inl (by decide +kernel) | exact .inr (by decide +kernel)) (by rw [isSubtype_type]; kernel_rfl)
theorem sU : Slot "set_iterator" "__iter__" "set_iterator.__iter__" :=
 .of (owner := "set_iterator") (n := "__iter__") (by rw [typeLookup_type, builtinLookup_eq_fast]; kernel_rfl) (by decide +kernel) (by decide +kernel) (by decide +kernel) (by first | exact .inl (by decide +kernel) | exact .inr (by decide +kernel)) (by rw [isSubtype_type]; kernel_rfl)
theorem aA9 : Manifest.owners.lookup (String.ofList ['r', 'o', 't', 'a', 'r', 'e', 't', 'i', '_', 't', 'e', 's'].reverse) = some Manifest.sig_set_iterator := by kernel_rfl
theorem sZ : entryFor table "set_iterator.__next__" = some Builtin.«set_iterator.__next__» := entryFor_of_tree (by kernel_rfl)
theorem aBa : entryFor table "set_iterator.__iter__" = some Builtin.«dict_keyiterator.__iter__» := entryFor_alias (id' := "dict_keyiterator.__iter__") (by kernel_rfl) rfl (by decide +kernel) (by kernel_rfl)
theorem yY : entryFor table "set.__iter__" = some Builtin.«frozenset.__iter__» := entryFor_alias (id' := "frozenset.__iter__") (by kernel_rfl) rfl (by decide +kernel) (by kernel_rfl)
theorem uG (a : Value) : argsOk "set_iterator.__next__" ⟨[a], []⟩ := by
 unfold argsOk
 rw [signature?_of (id := "set_iterator.__next__") (n := ['_', '_', 't', 'x', 'e', 'n', '_', '_']) (o := ['r', 'o', 't', 'a', 'r', 'e', 't', 'i', '_', 't', 'e', 's']) (by kernel_rfl) aA9]
 kernel_rfl
theorem aC0 (a : Value) : argsOk "set_iterator.__iter__" ⟨[a], []⟩ := by
 unfold argsOk
 rw [signature?_of (id := "set_iterator.__iter__") (n := ['_', '_', 'r', 'e', 't', 'i', '_', '_']) (o := ['r', 'o', 't', 'a', 'r', 'e', 't', 'i', '_', 't', 'e', 's']) (by kernel_rfl) aA9]
 kernel_rfl
theorem vZ {α : Type} (next : Nat -> Nat) : ∀ (fuel k : Nat) (left : List α) (out : Array α), fuel = left.length -> (pickOrder.go next fuel k left out).toList.Perm (out.toList ++ left)
 | 0, k, left, out, h => by
  have : left = [] := List.length_eq_zero_iff.mp h.symm
  subst this
  unfold pickOrder.go
  rw [List.append_nil]
 | fuel + 1, k, left, out, h => by
  have hl : next k % left.length < left.length := Nat.mod_lt _ (by omega)
  unfold pickOrder.go
  rw [List.getElem?_eq_getElem hl]
  dsimp only
  refine (vZ next fuel (k + 1) _ _ (by rw [List.length_eraseIdx_of_lt hl]; omega)).trans ?_
  rw [Array.toList_push, List.append_assoc]
  refine List.Perm.append_left _ ?_
  rw [List.eraseIdx_eq_take_drop_succ]
  show (left[next k % left.length] :: (left.take (next k % left.length) ++ left.drop (next k % left.length + 1))).Perm left
  refine (List.perm_middle (l₁ := left.take (next k % left.length))).symm.trans ?_
  rw [List.getElem_cons_drop, List.take_append_drop]
theorem vO {α : Type} (next : Nat -> Nat) (xs : Array α) : (pickOrder next xs).toList.Perm xs.toList := by
 have := vZ next xs.size 0 xs.toList #[] (Array.length_toList ..).symm
 exact this
def rW (w : World) (S : Addr) (ep : Nat) (es : Array (Int × Value)) : Array (Int × Value) := if w.params.followText "set-order" = true then pickOrder (w.params.setOrder S ep) es else es
theorem qS (w : World) (S : Addr) (ep : Nat) (es : Array (Int × Value)) : (rW w S ep es).toList.Perm es.toList := by
 unfold rW
 split
 ·exact vO _ _
 ·exact List.Perm.refl _
theorem mL (w : World) (S : Addr) (ep : Nat) (es : Array (Int × Value)) : (rW w S ep es).size = es.size := by
 have := (qS w S ep es).length_eq
 rw [Array.length_toList, Array.length_toList] at this
 exact this
def slotAt (w : World) (t : SetTable) (i : Nat) : Nat := if w.params.followText "set-order" = true then 0 else match i with
 | 0 => 0
 | i + 1 => t.place.getD i 0 + 1
def IterAt (w : World) (h : Heap) (I S : Addr) (t : SetTable) (n ep i : Nat) : Prop := ∃ o, h.get? I = some o /\ o.cls = .type "set_iterator" /\ ∃ u0 u1 u2 u3, o.data = .fields #[.int (slotAt w t i : Nat) u0, .int (i : Nat) u1, .ref S, .int (n : Nat) u2, .int (ep : Nat) u3]
structure SetW (w : World) (h : Heap) (S : Addr) (hs : List Int) (o : Obj) (es : Array (Int × Value)) (ep : Nat) (t : SetTable) : Prop where
 g : h.get? S = some o
 x : o.ExactSet
 d : o.data = .set es ep t
 pl : t.plain = true
 ld : t.led = !w.params.followText "set-order"
 tb : Tab t hs
 sz : es.size = hs.length
theorem SetR.w {prog : Program} {w : World} {h : Heap} {S : Addr} {ks : List (List Int)} {o : Obj} {es : Array (Int × Value)} {ep : Nat} {t : SetTable} (R : SetR prog w h S ks o es ep t) : SetW w h S (ks.map (hK prog w)) o es ep t := ⟨R.g, R.x, R.d, R.pl, R.ld, R.tb, by rw [List.length_map]; exact R.sz⟩
theorem SetW.fits {w : World} {h : Heap} {S : Addr} {hs : List Int} {o : Obj} {es : Array (Int × Value)} {ep : Nat} {t : SetTable} (R : SetW w h S hs o es ep t) : t.fits es.size = true := by
 unfold SetTable.fits SetTable.fill
 have a := R.tb.s
 have b := R.tb.z
 rw [R.tb.d, a, R.sz]
 simpa using b
section
variable {prog : Program} {w : World} {A : Around} {E : Value -> Shared -> Prop} {s : Shared} {S I : Addr} {hs : List Int} {o : Obj} {es : Array (Int × Value)} {ep : Nat} {t : SetTable}
theorem IterAt.ty {n i : Nat} (h : IterAt w s.heap I S t n ep i) : s.TypeIs (.ref I) "set_iterator" := by
 obtain ⟨o, h1, h2, _⟩ := h
 exact ⟨o, h1, h2⟩
theorem SetW.ty (R : SetW w s.heap S hs o es ep t) : s.TypeIs (.ref S) "set" := ⟨o, R.g, R.x.1⟩
theorem xQ {Q : Value -> Shared -> Prop} (R : SetW w s.heap S hs o es ep t) (q : Q (.ref s.heap.objs.size) { s with heap := s.heap.push { cls := .type "set_iterator", data := .fields #[rawInt 0, rawInt 0, .ref S, rawInt es.size, rawInt ep] } }) : wpAny (model prog w) A (pyIter (.ref S)) Q E s := by
 have hf := R.fits
 refine wpAny_pyIter_slot R.ty F.slot_set_iter (wpAny_call_entry F.slot_set_iter R.ty yY ?_ (F.args_set_iter_1 _))
 unfold Builtin.«frozenset.__iter__»
 refine wpAny_bind (m := Builtin.Frozenset.slot0 "__iter__" _) (wpAny_pure ?_)
 unfold Builtin.Frozenset.sizeOf setEntries
 refine wpAny_bind (wpAny_bind (wpAny_bind (wpAny_setState_of R.g R.d hf (wpAny_pure (wpAny_pure ?_)))))
 dsimp only
 unfold setDrawn
 refine wpAny_bind (wpAny_bind (wpAny_setState_of R.g R.d hf ?_))
 dsimp only
 unfold setsByText
 refine wpAny_bind (wpAny_bind (wpAny_askSetting (wpAny_pure (wpAny_pure ?_))))
 generalize hg : (!(model prog w).w.params.followText "set-order" && _) = b
 have hg : (!w.params.followText "set-order" && (!t.plain && decide (es.size > 1))) = b := hg
 have : b = false := by
  rw [<- hg, R.pl]
  simp
 subst this
 rw [if_neg (by decide)]
 refine wpAny_bind (wpAny_pure ?_)
 unfold setEpoch
 refine wpAny_bind (wpAny_bind (wpAny_setState_of R.g R.d hf (wpAny_pure ?_)))
 dsimp only
 exact wpAny_bind (wpAny_newObj_type (wpAny_pure ⟨_, rfl, _, _, ⟨_, Heap.get?_push_size _ rfl, rfl⟩, sl_next.lookup, q⟩))
theorem below_at (R : SetW w s.heap S hs o es ep t) (hb : w.params.followText "set-order" = false) {i : Nat} (hi : i <= t.place.size) : SetTable.below t.place (slotAt w t i) = i := by
 obtain ⟨b1, b2, b3⟩ := gH R.tb.r (slotAt w t i)
 unfold slotAt at b1 b2 b3 ⊢
 rw [if_neg (by rw [hb]; decide)] at b1 b2 b3 ⊢
 cases i with
 | zero =>
  dsimp only at b1 b2 b3 ⊢
  rcases Nat.eq_zero_or_pos (SetTable.below t.place 0) with z | z
  ·exact z
  ·have := b2 0 _ z (Array.getElem?_eq_getElem (by omega))
   omega
 | succ i =>
  dsimp only at b1 b2 b3 ⊢
  have il : i < t.place.size := hi
  have g : t.place.getD i 0 = t.place[i] := by simp [Array.getD, il]
  rw [g] at b1 b2 b3 ⊢
  rcases Nat.lt_trichotomy (SetTable.below t.place (t.place[i] + 1)) (i + 1) with z | z | z
  ·have := b3 i _ (by omega) (Array.getElem?_eq_getElem il)
   omega
  ·exact z
  ·have l1 : i + 1 < t.place.size := by omega
   have a := b2 (i + 1) _ z (Array.getElem?_eq_getElem l1)
   have b := R.tb.r i (i + 1) _ _ (Nat.lt_succ_self _) (Array.getElem?_eq_getElem il) (Array.getElem?_eq_getElem l1)
   omega
theorem v3 {Q : Option (Value × Nat) -> Shared -> Prop} (R : SetW w s.heap S hs o es ep t) {i : Nat} (hi : i <= es.size) (q : Q (((rW w S ep es)[i]?).map fun e => (e.2, slotAt w t (i + 1))) s) : wpAny (model prog w) A (setNext S (slotAt w t i) i ep) Q E s := by
 have hf := R.fits
 have psz : t.place.size = es.size := by rw [R.tb.s, R.sz]
 unfold setNext
 refine wpAny_bind (wpAny_setState_of R.g R.d hf ?_)
 dsimp only
 unfold setsByText
 refine wpAny_bind (wpAny_bind (wpAny_askSetting (wpAny_pure ?_)))
 show wpAny (model prog w) A (if w.params.followText "set-order" = true then _ else _) Q E s
 cases hb : w.params.followText "set-order" with
 | true =>
  rw [if_pos rfl, if_neg (by simp)]
  unfold setWalk
  refine wpAny_bind (wpAny_bind (wpAny_setState_of R.g R.d hf ?_))
  dsimp only
  unfold setsByText
  refine wpAny_bind (wpAny_bind (wpAny_askSetting (wpAny_pure ?_)))
  show wpAny (model prog w) A (if w.params.followText "set-order" = true then _ else _) _ _ _
  rw [hb, if_pos rfl]
  refine wpAny_bind (wpAny_askSetting (wpAny_pure (wpAny_pure ?_)))
  have e : rW w S ep es = pickOrder (w.params.setOrder S ep) es := by unfold rW; rw [if_pos hb]
  have e0 : ∀ i, slotAt w t i = 0 := fun i => by unfold slotAt; rw [if_pos hb]
  rw [e, e0] at q
  rw [e0]
  exact q
 | false =>
  rw [if_neg (by decide)]
  have e : rW w S ep es = es := by unfold rW; rw [if_neg (by rw [hb]; decide)]
  rw [e] at q
  refine wpAny_ite_split (fun h => ?_) (fun _ => ?_)
  ·have h : (!t.plain && decide (es.size > 1)) = true := h
   rw [R.pl] at h
   simp at h
  ·have led : t.led = true := by rw [R.ld, hb]; rfl
   refine wpAny_bind ?_
   show wpAny (model prog w) A (if (!t.led && !es.isEmpty) = true then unsupported "set:maker-not-led" else pure ()) _ E s
   rw [led, if_neg (by simp)]
   refine wpAny_pure (wpAny_pure ?_)
   rw [below_at R hb (by rw [psz]; exact hi)]
   rcases Nat.lt_or_ge i es.size with z | z
   ·have pl : i < t.place.size := by rw [psz]; exact z
    have sa : slotAt w t (i + 1) = t.place[i] + 1 := by
     unfold slotAt
     rw [if_neg (by rw [hb]; decide)]
     simp [Array.getD, pl]
    rw [Array.getElem?_eq_getElem z, sa] at q
    rw [Array.getElem?_eq_getElem z, Array.getElem?_eq_getElem pl]
    exact q
   ·rw [Array.getElem?_eq_none z] at q
    rw [Array.getElem?_eq_none z]
    exact q
theorem aBz {Q : Option Value -> Shared -> Prop} {i : Nat} (hit : IterAt w s.heap I S t es.size ep i) (R : SetW w s.heap S hs o es ep t) (lt : i < es.size) {x : Int × Value} (hx : (rW w S ep es)[i]? = some x)
  (q : ∀ h', IterAt w h' I S t es.size ep (i + 1) -> Heap.SameBut I s.heap h' -> Q (some x.2) { s with heap := h' }) : wpAny (model prog w) A (pyNext (.ref I)) Q E s := by
 have ty := hit.ty
 have hf := R.fits
 obtain ⟨oI, ho, hc, u0, u1, u2, u3, hd⟩ := hit
 unfold pyNext
 refine wpAny_bind (wpAny_attempt (wpAny_callSpecial?_slot (name := Str.ofString "__next__") ty sl_next (wpAny_call_entry sl_next ty sZ ?_ (uG _))))
 unfold Builtin.«set_iterator.__next__»
 refine wpAny_bind (m := slotArgs "__next__" 0 _) (wpAny_pure ?_)
 refine wpAny_bind (wpAny_fieldsOf ho hd ?_)
 dsimp only
 unfold setEntries
 refine wpAny_bind (wpAny_bind (wpAny_setState_of R.g R.d hf (wpAny_pure ?_)))
 dsimp only
 rw [if_neg (by simp)]
 refine wpAny_bind ?_
 rw [Int.toNat_natCast, Int.toNat_natCast, Int.toNat_natCast]
 refine v3 R (Nat.le_of_lt lt) ?_
 rw [hx]
 dsimp only [Option.map]
 have g1 := Heap.get?_update_self (Obj.mapFields (·.setIfInBounds 0 (rawInt (slotAt w t (i + 1) : Nat)))) ho (Obj.isFreed_of_fields (Obj.data_mapFields hd _))
 refine wpAny_bind (wpAny_setField ho hd (by simp) ?_)
 have d1 := Obj.data_mapFields hd (·.setIfInBounds 0 (rawInt (slotAt w t (i + 1) : Nat)))
 refine wpAny_bind (wpAny_setField g1 d1 (by simp) ?_)
 have g2 := Heap.get?_update_self (Obj.mapFields (·.setIfInBounds 1 (rawInt ((i : Int) + 1)))) g1 (Obj.isFreed_of_fields (Obj.data_mapFields d1 _))
 have d2 := Obj.data_mapFields d1 (·.setIfInBounds 1 (rawInt ((i : Int) + 1)))
 refine wpAny_pure ⟨_, rfl, wpAny_pure (q _ ⟨_, g2, (Obj.cls_mapFields ..).trans ((Obj.cls_mapFields ..).trans hc), 0, 0, u2, u3, d2.trans (by simp [rawInt])⟩ ((Heap.SameBut.update ..).trans (Heap.SameBut.update ..)))⟩
theorem aGk {Q : Option Value -> Shared -> Prop} (hh : A.handled = none) (hit : IterAt w s.heap I S t es.size ep es.size) (R : SetW w s.heap S hs o es ep t) (q : ∀ h', Heap.ExtBut I s.heap h' -> Q none { s with heap := h' }) : wpAny (model prog w) A (pyNext (.ref I)) Q E s := by
 have ty := hit.ty
 have hf := R.fits
 obtain ⟨oI, ho, hc, u0, u1, u2, u3, hd⟩ := hit
 unfold pyNext
 refine wpAny_bind (wpAny_attempt (wpAny_callSpecial?_slot (name := Str.ofString "__next__") ty sl_next (wpAny_call_entry sl_next ty sZ ?_ (uG _))))
 unfold Builtin.«set_iterator.__next__»
 refine wpAny_bind (m := slotArgs "__next__" 0 _) (wpAny_pure ?_)
 refine wpAny_bind (wpAny_fieldsOf ho hd ?_)
 dsimp only
 unfold setEntries
 refine wpAny_bind (wpAny_bind (wpAny_setState_of R.g R.d hf (wpAny_pure ?_)))
 dsimp only
 rw [if_neg (by simp)]
 refine wpAny_bind ?_
 rw [Int.toNat_natCast, Int.toNat_natCast, Int.toNat_natCast]
 refine v3 R (Nat.le_refl _) ?_
 rw [Array.getElem?_eq_none (by rw [mL]; exact Nat.le_refl _)]
 dsimp only [Option.map]
 refine wpAny_bind (m := setField (.ref I) 2 .none) (wpAny_setField ho hd (by simp) ?_)
 refine wpAny_bind (m := newExc (.type "StopIteration") []) ?_
 simp only [newExc, newTuple]
 refine wpAny_bind (wpAny_newObj_type (wpAny_bind (m := firstArgMember _ _) (wpAny_of_eq (a := Value.none) (by first | rfl | (simp only [firstArgMember]; rfl)) ?_)) (by size_fits))
 refine wpAny_newObj_type ?_ (by size_fits)
 simp only [raiseNew]
 refine wpAny_bind (wpAny_handled ?_)
 rw [show A.in1.handled = none from hh]
 refine wpAny_bind (wpAny_pure (wpAny_throw ?_))
 refine wpAny_bind (wpAny_isInstance (T := "StopIteration") (b := true) ⟨_, Heap.get?_push_size _ rfl, rfl⟩ isSubtype_stop ?_)
 exact wpAny_pure (q _ (((Heap.SameBut.update ..).extBut.push _).push _))
theorem zG {r : Addr} {Q : Bool -> Shared -> Prop} (hT : s.TypeIs (.ref r) "set") (h : Q false s) : wpAny (model prog w) A (Builtin.List.listLengthHint (.ref r)) Q E s := by
 unfold Builtin.List.listLengthHint
 refine wpAny_bind (wpAny_specialOf hT F.slot_set_len.lookup ?_)
 generalize hid : ("set.__len__" : String) = id0
 wp_delta
 rw [show splitId id0 = some ("set", "__len__") from by subst hid; decide +kernel]
 subst hid
 refine wpAny_bind (wpAny_isInstance (T := "set") (b := true) hT sub_set_self ?_)
 refine wpAny_ite_split (fun hab => absurd hab (by decide)) (fun _ => ?_)
 refine wpAny_ite_split (fun _ => ?_) (fun hab => absurd (by decide +kernel) hab)
 exact wpAny_bind (wpAny_typeOf hT (wpAny_pure h))
theorem aBr {Q : Value -> Shared -> Prop} {n i : Nat} (hit : IterAt w s.heap I S t n ep i) (h : Q (.ref I) s) : wpAny (model prog w) A (pyIter (.ref I)) Q E s := by
 refine wpAny_pyIter_slot hit.ty sU (wpAny_call_entry sU hit.ty aBa ?_ (aC0 _))
 show wpAny _ _ (ret (.ref I)) _ _ s
 exact wpAny_pure ⟨_, rfl, "set_iterator", _, hit.ty, sl_next.lookup, h⟩
theorem t5 (hh : A.handled = none) (hne : S ≠ I) :
  Walks prog w A I [I, S] [I] es.size (fun i v => ∃ e, (rW w S ep es)[i]? = some e /\ v = e.2) (fun i h => IterAt w h I S t es.size ep i /\ ∃ o, SetW w h S hs o es ep t) where
 sub := fun b hb => List.mem_cons.mpr (.inl (List.mem_singleton.mp hb))
 frame := fun i h h' st hk => by
  obtain ⟨⟨oI, h1, h2, h3⟩, o, R⟩ := st
  exact ⟨⟨oI, hk I (by simp) oI h1, h2, h3⟩, o, ⟨hk S (by simp) o R.g, R.x, R.d, R.pl, R.ld, R.tb, R.sz⟩⟩
 item := fun i s Q E hi st hQ => by
  obtain ⟨st1, o, R⟩ := st
  have ol : i < (rW w S ep es).size := by rw [mL]; exact hi
  refine aBz st1 R hi (Array.getElem?_eq_getElem ol) fun h' hit' sb => hQ _ h' s.toks ⟨_, Array.getElem?_eq_getElem ol, rfl⟩ ⟨hit', o, ⟨(sb.2 S hne).trans R.g, R.x, R.d, R.pl, R.ld, R.tb, R.sz⟩⟩ fun b o hb e => (sb.2 b fun z => hb (by simp [z])).trans e
 done := fun s Q E st hQ => by
  obtain ⟨st1, o, R⟩ := st
  exact aGk hh st1 R fun h' he' => hQ h' s.toks fun b o hb e => he' b o (fun z => hb (by simp [z])) e
 self := fun _ _ _ _ st hQ => aBr st.1 hQ
theorem aCz : PySem.W.KdlSrc prog w "set" S S es.size (fun i v => ∃ e, (rW w S ep es)[i]? = some e /\ v = e.2) (fun h => ∃ o, SetW w h S hs o es ep t) where
 type := fun s ⟨o, R⟩ => R.ty
 there := fun h ⟨o, R⟩ => ⟨Heap.lt_size R.g, Heap.lt_size R.g⟩
 keep := fun h h' ⟨o, R⟩ hk => ⟨o, ⟨hk S (.inl rfl) o R.g, R.x, R.d, R.pl, R.ld, R.tb, R.sz⟩⟩
 notList := by decide
 notTuple := by decide
 hint := fun A E s Q ⟨o, R⟩ hq => zG R.ty hq
 iter := fun A s hh ⟨o, R⟩ => ⟨_, _, (fun E Q hq => xQ R hq), t5 (hs := hs) (t := t) hh (Nat.ne_of_lt (Heap.lt_size R.g)), ⟨_, Heap.get?_push_size _ rfl, rfl, 0, 0, 0, 0, by
  have : slotAt w t 0 = 0 := by unfold slotAt; split <;> rfl
  rw [this]
  rfl⟩, o, ⟨Heap.get?_push_of_some _ R.g, R.x, R.d, R.pl, R.ld, R.tb, R.sz⟩⟩
end
end HS
namespace L2
open PySem PySem.Spec PyProof.Rows
theorem uR {α β : Type} (f : α -> β) {a b : List β} (h : a.Perm b) : ∀ m : List α, m.map f = b -> ∃ l : List α, l.Perm m /\ l.map f = a := by
 induction h with
 | nil =>
  intro m e
  rw [List.map_eq_nil_iff.mp e]
  exact ⟨[], List.Perm.refl _, rfl⟩
 | cons x _ ih =>
  intro m e
  cases m with
  | nil => cases e
  | cons y m =>
   injection e with e1 e2
   obtain ⟨l, p, q⟩ := ih m e2
   exact ⟨y :: l, p.cons y, by rw [List.map_cons, q, e1]⟩
 | swap x y l =>
  intro m e
  match m, e with
  | p :: q :: m, e =>
   injection e with e1 e2
   injection e2 with e2 e3
   exact ⟨q :: p :: m, List.Perm.swap p q m, by rw [List.map_cons, List.map_cons, e1, e2, e3]⟩
 | trans _ _ ih1 ih2 =>
  intro m e
  obtain ⟨l, p, q⟩ := ih2 m e
  obtain ⟨l2, p2, q2⟩ := ih1 l q
  exact ⟨l2, p2.trans p, q2⟩
theorem iP {α : Type} [DecidableEq α] : ∀ {l m : List α}, l.Nodup -> m.Nodup -> (∀ x, x ∈ l ↔ x ∈ m) -> l.Perm m
 | [], m, _, _, h => by
  cases m with
  | nil => exact List.Perm.refl _
  | cons x m => exact absurd ((h x).mpr (.head _)) (List.not_mem_nil)
 | x :: l, m, h1, h2, h => by
  obtain ⟨n1, n2⟩ := List.nodup_cons.mp h1
  have hx := (h x).mp (.head _)
  have p := List.perm_cons_erase hx
  refine (List.Perm.cons x (iP n2 (List.Pairwise.sublist (List.erase_sublist) h2) fun y => ?_)).trans p.symm
  by_cases e : y = x
  ·subst e
   constructor
   ·exact fun z => absurd z n1
   ·exact fun z => absurd z (by
     have := p.nodup_iff.mp h2
     exact (List.nodup_cons.mp this).1)
  ·rw [List.mem_erase_of_ne e, <- h y, List.mem_cons]
   exact ⟨fun z => .inr z, fun z => z.resolve_left e⟩
theorem tZ {f : Nat -> List Int} {k : List Int} : ∀ {n : Nat}, k ∈ HS.sV f n ↔ ∃ i, i < n /\ f i = k
 | 0 => ⟨(fun h => nomatch h), fun ⟨i, h, _⟩ => absurd h (Nat.not_lt_zero _)⟩
 | n + 1 => by
  have ih := tZ (f := f) (k := k) (n := n)
  unfold HS.sV
  constructor
  ·intro h
   split at h
   ·obtain ⟨i, h1, h2⟩ := ih.mp h
    exact ⟨i, Nat.lt_succ_of_lt h1, h2⟩
   ·rcases List.mem_cons.mp h with z | z
    ·exact ⟨n, Nat.lt_succ_self _, z.symm⟩
    ·obtain ⟨i, h1, h2⟩ := ih.mp z
     exact ⟨i, Nat.lt_succ_of_lt h1, h2⟩
  ·rintro ⟨i, h1, h2⟩
   rcases Nat.lt_or_ge i n with z | z
   ·have := ih.mpr ⟨i, z, h2⟩
    split
    ·exact this
    ·exact .tail _ this
   ·have : i = n := by omega
    subst this
    split
    ·rename_i y
     rw [<- h2]; exact y
    ·rw [h2]; exact .head _
section
variable {X : Cx}
def vOf (v : Value) : V := match v with
 | .ref b => .ref b
 | _ => .non
theorem aDk : bootBuiltins "set" = some (.type "set") := by decide +kernel
theorem rT : bootBuiltins "sorted" = some (.builtin "sorted") := by decide +kernel
def tSS (K : PySem.W.Frag) (te : TE) : TE := fun σ H Q => te σ H fun x H1 => ∃ a xs ks, x = .ref a /\ SqL K H1 a xs /\ SRT.aDu H1 xs ks /\ ks.length < 64 /\
 ∀ ts ks2 D q, ks2.Nodup -> (∀ k, k ∈ ks2 ↔ k ∈ ks) -> SRT.aDu H1 ts ks2 -> H1 D = none -> SRT.Pm ts.length q -> SRT.Sd (SRT.aCg ks2) q ts.length -> Q (.ref D) (upd H1 D (.lst (q.toList.map fun i => ts.getD i .non)))
theorem rA : ∀ {xs : List V} {us : List Value}, Vals xs us -> ∀ (i : Nat) v, us[i]? = some v -> ∃ x, xs[i]? = some x /\ RelV x v
 | _, _, .nil, i, v, h => by simp at h
 | _, _, .cons r t, 0, v, h => by
  simp at h
  exact ⟨_, rfl, h ▸ r⟩
 | _, _, .cons r t, i + 1, v, h => rA t i v h
theorem aBg {P : Program} {w : World} {H : Hp} {h : Heap} {b : Addr} {k : List Int} (ok : HOk P w H h) (e : H b = some (.tup (k.map V.int))) : HS.IK P w h k b := by
 obtain ⟨_, its, rv, o, ho, hc, n, hd⟩ := (show ObjOk P w H h b (.tup (k.map V.int)) from ok b _ e)
 refine ⟨o, its.toArray, n, ho, hc, hd, ?_⟩
 rw [List.toList_toArray]
 have key : ∀ {ns : List Int} {vs : List Value}, IntsAre vs ns -> ItemsAre (intKind P w) ns vs := by
  intro ns vs q
  induction q with
  | nil => exact .nil
  | cons i t _ ih => exact .cons (intKind_is _ _ _ _) ih
 exact key (intsAre_of rv)
theorem yR {pins : List (Addr × Obj)} {s1 : Shared} {σ : St} {H1 : Hp} {a : Addr} {xs : List V} {ks : List (List Int)} {A : Around} {E : Value -> Shared -> Prop} {Q : Value -> Shared -> Prop} (I1 : Inv X pins σ H1 s1) (hh : A.handled = none) (hu : A.units + 10 < cLine) (hq : SqL X.K H1 a xs) (hr : SRT.aDu H1 xs ks) (h64 : ks.length < 64)
  (q : ∀ h' tk, HS.SetK X.prog X.w h' s1.heap.objs.size (HS.sV (fun i => ks.getD i []) ks.length) (fun b => ∃ k : List Int, H1 b = some (.tup (k.map V.int))) -> (∀ b o, s1.heap.get? b = some o -> h'.get? b = some o) -> Q (.ref s1.heap.objs.size) { s1 with heap := h', toks := tk }) :
  wpAny (model X.prog X.w) A (call (.type "set") [.ref a]) Q E s1 := by
 obtain ⟨its, rv, pl, _⟩ := I1.list hq
 have hlen := rv.length
 have sz : its.toArray.size = ks.length := by rw [List.size_toArray, <- hlen, hr.1]
 refine HS.yU (prog := X.prog) (w := X.w) hh hu (fun i => ks.getD i []) pl.isList (by rw [sz]; omega) (L := fun b => ∃ k : List Int, H1 b = some (.tup (k.map V.int))) (fun b ⟨k, hb⟩ => ?_) (fun i v hv => ?_) fun h' tk T kp ht => ?_
 ·obtain ⟨o, _, _, ho, _⟩ := aBg I1.hok hb
  exact Heap.lt_size ho
 ·rw [List.getElem?_toArray] at hv
  obtain ⟨x, hx, rx⟩ := rA rv i v hv
  have il : i < ks.length := by rw [<- hr.1]; exact (List.getElem?_eq_some_iff.mp hx).1
  obtain ⟨⟨b, eb, hb⟩, _⟩ := hr.2 i x ks[i] hx (List.getElem?_eq_getElem il)
  subst eb
  refine ⟨b, rx, ⟨_, hb⟩, ?_⟩
  have : ks.getD i [] = ks[i] := by simp [List.getD, il]
  rw [this]
  exact aBg I1.hok hb
 ·rw [sz] at T
  exact q h' tk T kp
theorem rK {e : Expr} {te : TE} {p1 p2 pos1 pos2 : Pos} (hc : X.calm = true) (hu : X.A.units + 64 < cLine) (hg1 : Gl X "sorted") (hm1 : X.mg "sorted" = none) (hg2 : Gl X "set") (hm2 : X.mg "set" = none) (he : PE X e te)
  (hs1 : starEach [.Call (.Name "set" p2) [e] [] pos2] X.env = (false, eval (.Call (.Name "set" p2) [e] [] pos2) X.env) :: starEach [] X.env := by rfl) (hs2 : starEach [e] X.env = (false, eval e X.env) :: starEach [] X.env := by rfl) :
  PE X (.Call (.Name "sorted" p1) [.Call (.Name "set" p2) [e] [] pos2] [] pos1) (tSS X.K te) := by
 intro pins s σ H Q I h
 refine wpAny_Call_Name_kw (hX I hg1 hm1 rT (PyProof.Rows.callWith_builtin1 ?_ hs1 rfl))
 rw [hs1]
 show wpAny _ _ (spliced ((false, eval _ X.env) :: backTo pos1 (starEach [] X.env))) _ _ s
 refine Calls.spliced_cons (wpAny_Call_Name_kw (hX I hg2 hm2 aDk (PyProof.Rows.callWith_type1 ?_ hs2 rfl)))
 rw [hs2]
 show wpAny _ _ (spliced ((false, eval _ X.env) :: backTo pos2 (starEach [] X.env))) _ _ s
 refine Calls.spliced_cons (thn (he pins s σ H _ I h) fun u s1 ⟨x, H1, I1, r1, a, xs, ks, ex, hq, hr, h64, q⟩ => Calls.spliced_nil ?_)
 subst ex
 cases (show u = Value.ref a from r1)
 refine yR I1 (I.ok.hd hc) (by omega) hq hr h64 fun h' tk T kp => Calls.spliced_nil ?_
 obtain ⟨ks', o, es, ep, t, pm, ft, lo, R⟩ := T
 have I2 : Inv X pins σ H1 { s1 with heap := h', toks := tk } := I1.kept (t' := tk) kp
 have mem : ∀ k, k ∈ ks' ↔ k ∈ ks := fun k => by
  rw [pm.mem_iff, tZ]
  constructor
  ·rintro ⟨i, h1, h2⟩
   rw [<- h2]
   have : ks.getD i [] = ks[i] := by simp [List.getD, h1]
   rw [this]
   exact List.getElem_mem h1
  ·intro hk
   obtain ⟨i, hi, e⟩ := List.mem_iff_getElem.mp hk
   exact ⟨i, hi, by rw [<- e]; simp [List.getD, hi]⟩
 have pl : ks'.length < 64 := by
  have := HS.lV (fun i => ks.getD i []) ks.length
  rw [pm.length_eq]
  omega
 have hes : (es.toList.zip ks').map Prod.fst = es.toList := by
  rw [List.map_fst_zip]
  rw [Array.length_toList, R.sz]
  exact Nat.le_refl _
 obtain ⟨pr, pp, pe⟩ := uR Prod.fst (HS.qS X.w s1.heap.objs.size ep es) (es.toList.zip ks') hes
 have pk : (pr.map Prod.snd).Perm ks' := by
  have := pp.map Prod.snd
  rw [List.map_snd_zip (by have := R.sz; rw [<- Array.length_toList] at this; omega)] at this
  exact this
 have each : ∀ p ∈ pr, ∃ b, p.1.2 = Value.ref b /\ H1 b = some (.tup (p.2.map V.int)) := fun p hp => by
  have hz := pp.mem_iff.mp hp
  obtain ⟨i, hi, e⟩ := List.mem_iff_getElem.mp hz
  rw [List.getElem_zip] at e
  rw [List.length_zip] at hi
  have ik : i < ks'.length := by omega
  obtain ⟨b, h1, h2⟩ := R.at' i ks'[i] (List.getElem?_eq_getElem ik)
  have ie : i < es.size := by rw [R.sz]; exact ik
  rw [Array.getElem?_eq_getElem ie] at h1
  have h1 := Option.some.inj h1
  obtain ⟨c, e1, k2, e2⟩ := lo _ (Array.getElem_mem ie)
  rw [h1] at e1
  cases e1
  have ik2 := aBg I2.hok e2
  have : k2 = ks'[i] := ik2.inj h2
  rw [<- e]
  refine ⟨b, ?_, ?_⟩
  ·show (es.toList[i]).2 = _
   rw [Array.getElem_toList, h1]
  ·show H1 b = some (.tup ((ks'[i]).map V.int))
   rw [<- this]
   exact e2
 have rts : SRT.aDu H1 (pr.map fun p => vOf p.1.2) (pr.map Prod.snd) := by
  refine ⟨by rw [List.length_map, List.length_map], fun i t k e1 e2 => ?_⟩
  rw [List.getElem?_map] at e1 e2
  cases ep' : pr[i]? with
  | none => rw [ep'] at e1; cases e1
  | some p =>
   rw [ep'] at e1 e2
   cases e1
   cases e2
   have hp := List.mem_of_getElem? ep'
   obtain ⟨b, h1, h2⟩ := each p hp
   refine ⟨⟨b, by show vOf p.1.2 = _; rw [h1]; rfl, h2⟩, ?_⟩
   have hk : p.2 ∈ ks := (mem _).mp (pk.mem_iff.mp (List.mem_map.mpr ⟨p, hp, rfl⟩))
   obtain ⟨j, hj, ej⟩ := List.mem_iff_getElem.mp hk
   have xl : j < xs.length := by rw [hr.1]; exact hj
   have := (hr.2 j xs[j] ks[j] (List.getElem?_eq_getElem xl) (List.getElem?_eq_getElem hj)).2
   rw [<- ej]
   exact this
 have rv : Vals (pr.map fun p => vOf p.1.2) (pr.map fun p => p.1.2) := by
  have : ∀ l : List ((Int × Value) × List Int), (∀ p ∈ l, ∃ b, p.1.2 = Value.ref b /\ H1 b = some (.tup (p.2.map V.int))) -> Vals (l.map fun p => vOf p.1.2) (l.map fun p => p.1.2) := by
   intro l
   induction l with
   | nil => exact fun _ => .nil
   | cons p l ih =>
    intro hl
    obtain ⟨b, h1, _⟩ := hl p (.head _)
    refine .cons ?_ (ih fun x hx => hl x (.tail _ hx))
    show RelV (vOf p.1.2) p.1.2
    rw [h1]
    rfl
  exact this pr each
 have prl : pr.length = ks'.length := by
  have := pk.length_eq
  rw [List.length_map] at this
  exact this
 have ev : (HS.rW X.w s1.heap.objs.size ep es).toList.map (·.2) = pr.map fun p => p.1.2 := by
  rw [<- pe, List.map_map]
  rfl
 refine SRT.rV (s := { s1 with heap := h', toks := tk }) (Ok := fun vs => vs = pr.map fun p => p.1.2) (fun R0 hR => ?_) (pr.map Prod.snd) (fun vs e => ⟨e ▸ SRT.uV I2.hok rts rv, by rw [e, List.length_map]; omega⟩) fun h2 hf tk2 c vs q' k1 k2 e p1 p2 hc2 => ?_
 ·refine PySem.W.kdu_collect (A := X.A.in1) (s := { s1 with heap := h', toks := tk }) (HS.aCz (prog := X.prog) (w := X.w) (hs := ks'.map (HS.hK X.prog X.w)) (t := t) (es := es) (ep := ep)) (I.ok.hd hc) ⟨o, R.w⟩ (by rw [R.sz, sizeLine_eq]; omega) fun h2 tk2 acc hk hacc => hR h2 tk2 _ hk ?_
  rw [<- ev]
  apply List.ext_getElem?
  intro i
  rw [Array.getElem?_toList, List.getElem?_map, Array.getElem?_toList]
  rcases Nat.lt_or_ge i acc.size with z | z
  ·obtain ⟨x, e1, e2⟩ := hacc.2 i acc[i] (Array.getElem?_eq_getElem z)
   rw [Array.getElem?_eq_getElem z, e1, e2]
   rfl
  ·rw [Array.getElem?_eq_none z, Array.getElem?_eq_none (by rw [HS.mL, <- hacc.1]; exact z)]
   rfl
 ·have hlen := rv.length
  subst e
  exact SRT.zS I2 rv (by rw [List.length_map]; omega) k1 k2 p1 hc2 fun D hD => q _ _ D q' (pk.nodup_iff.mpr R.nd) (fun k => by rw [pk.mem_iff]; exact mem k) rts hD (hlen ▸ p1) (hlen ▸ p2)
end
end L2
namespace M
open PySem PySem.Spec PyProof.Rows L2
def ddK : List (List Int) -> List (List Int)
 | [] => []
 | k :: r => if k ∈ ddK r then ddK r else k :: ddK r
theorem ddK_mem {x : List Int} : ∀ {ks : List (List Int)}, x ∈ ddK ks ↔ x ∈ ks
 | [] => Iff.rfl
 | k :: r => by
  have ih := ddK_mem (x := x) (ks := r)
  unfold ddK
  split
  ·rename_i z
   rw [ih, List.mem_cons]
   constructor
   ·exact .inr
   ·rintro (e | e)
    ·rw [e]; exact ddK_mem.mp z
    ·exact e
  ·rw [List.mem_cons, List.mem_cons, ih]
theorem q0 : ∀ ks : List (List Int), (ddK ks).Nodup
 | [] => List.Pairwise.nil
 | k :: r => by
  unfold ddK
  split
  ·exact q0 r
  ·rename_i z
   exact List.nodup_cons.mpr ⟨z, q0 r⟩
def dJ (x : Ev) : Res Ev := match dY x with
 | some ds => match mU ds with
  | some ks => if (ks.all fun k => !k.isEmpty) = true /\ ks.length < 64 then .ok (.f (.list ((jE (ddK ks)).map oR))) else .bad
  | none => .bad
 | none => .bad
theorem aD0 {ks : List (List Int)} (h : (ks.all fun k => !k.isEmpty) = true) : ∀ k ∈ ks, k ≠ [] := fun k hk z => by
 have := List.all_eq_true.mp h k hk
 rw [z] at this
 cases this
theorem aDb {ks ks2 : List (List Int)} (nd : ks2.Nodup) (hm : ∀ k, k ∈ ks2 ↔ k ∈ ks) : ks2.Perm (ddK ks) := iP nd (q0 ks) fun x => by rw [hm, ddK_mem]
theorem kN {X : Cx} {E : L2.St -> XK} {e : Expr} {fe : En -> Res Ev} {p1 p2 pos1 pos2 : Pos} (hc : X.calm = true) (hu : X.A.units + 64 < cLine) (hg1 : Gl X "sorted") (hm1 : X.mg "sorted" = none) (hg2 : Gl X "set") (hm2 : X.mg "set" = none) (he : DE X E e fe)
  (hs1 : starEach [.Call (.Name "set" p2) [e] [] pos2] X.env = (false, eval (.Call (.Name "set" p2) [e] [] pos2) X.env) :: starEach [] X.env := by rfl) (hs2 : starEach [e] X.env = (false, eval e X.env) :: starEach [] X.env := by rfl) :
  DE X E (.Call (.Name "sorted" p1) [.Call (.Name "set" p2) [e] [] pos2] [] pos1) (mUn dJ fe) := by
 obtain ⟨t, q, m⟩ := he.out
 refine DE.in ⟨_, rK hc hu hg1 hm1 hg2 hm2 q hs1 hs2, fun B G0 G W H σ en Q hh hs hw => m B G0 G W H σ en _ hh hs ?_⟩
 have hw : wpR ((fe en).bind _) _ _ := hw
 rw [aZ] at hw
 refine aR hw (fun r hr G1 H1 v s e => ?_) fun C h => h
 obtain ⟨G2, s2, e2⟩ := e.c s
 unfold dJ at hr
 cases el : dY r.c with
 | none => rw [el] at hr; exact hr.elim
 | some ds =>
  rw [el] at hr
  dsimp only at hr
  cases ek : mU ds with
  | none => rw [ek] at hr; exact hr.elim
  | some ks =>
   rw [ek] at hr
   dsimp only at hr
   by_cases hz : (ks.all fun k => !k.isEmpty) = true /\ ks.length < 64
   ·rw [if_pos hz] at hr
    obtain ⟨a, xs, rfl, h1, h2⟩ := kT s2.gh e2 el
    cases (qA ek)
    refine ⟨a, xs, ks, rfl, .inl h1, uI s2.gh h2 (aD0 hz.1), hz.2, fun ts ks2 D q nd hm rf hD hp hS => ?_⟩
    have hl : ts.length = ks2.length := rf.1
    have pk := picked hl hp hS
    have se : jE ks2 = jE (ddK ks) := fQ ((cC ks2).trans ((aDb nd hm).trans (cC _).symm)) (cV _) (cV _)
    have st := (s2.trans (aCh s2.gh)).trans (Step.lay (o := .lst (q.toList.map fun i => ts.getD i .non)) (aBl s2.gh) hD)
    refine hr _ _ _ st ⟨D, _, rfl, s2.h.free hD, (aBl s2.gh).free hD, a9, .lst ?_⟩
    rw [<- se, <- pk]
    refine nZ (fun i hi => ?_) _ (fun i hi => by rw [<- hl]; exact aG8 hp i hi)
    have hi' : i < ts.length := by omega
    obtain ⟨⟨b, eb, hb⟩, _⟩ := rf.2 i ts[i] ks2[i] (List.getElem?_eq_getElem hi') (List.getElem?_eq_getElem hi)
    have e1 : ts.getD i .non = ts[i] := by simp [hi']
    have e2 : ks2.getD i [] = ks2[i] := by simp [hi]
    rw [e1, e2, eb]
    exact yJ (aFe s2.gh hb)
   ·rw [if_neg hz] at hr
    exact hr.elim
end M
namespace N
open PySem PySem.Spec PyProof.Rows L2 M
def frD (x : Int × Int) : D := .tuple [.int x.1, .int x.2]
abbrev Pl := Int × Int × (Int × Int)
def plD (p : Pl) : D := .tuple [.int p.1, .int p.2.1, frD p.2.2]
def slD (p : Int × Int) : D := .tuple [.int p.1, .int p.2]
theorem at0 {α : Type} (x : α) (r : List α) : atI (x :: r) 0 = some x := jQ (j := 0) rfl
theorem at1 {α : Type} (x y : α) (r : List α) : atI (x :: y :: r) 1 = some y := jQ (j := 1) rfl
theorem at2 {α : Type} (x y z : α) (r : List α) : atI (x :: y :: z :: r) 2 = some z := jQ (j := 2) rfl
theorem jR (i j : Int) : PyData.eqv (.int i) (.int j) = (i == j) := by simp [PyData.eqv]
theorem gZ (i : Int) : SeqAt.shaped (.int i) = true := by simp [SeqAt.shaped, PyData.canLay0, PyData.depth]
theorem iI {α : Type} {g : D -> Option (Option D)} {enc : α -> D} {out : α -> D} : ∀ xs : List α, (∀ x ∈ xs, g (enc x) = some (some (out x))) -> xE g (xs.map enc) = some (xs.map out)
 | [], _ => rfl
 | x :: xs, h => by
  show (match g (enc x) with | none => none | some o => match xE g (xs.map enc) with | none => none | some r => some (match o with | some y => y :: r | none => r)) = _
  rw [h x (.head _), iI xs fun y hy => h y (.tail _ hy)]
  rfl
open Classical in
noncomputable def mOf {α : Type} (enc : α -> List L) (P : α -> Prop) (g : α -> Res L) (ls : List L) : Res L := if h : ∃ a, enc a = ls /\ P a then g h.choose else .bad
theorem jC {α : Type} {enc : α -> List L} {P : α -> Prop} {g : α -> Res L} (inj : ∀ a b, enc a = enc b -> a = b) {a : α} (h : P a) : mOf enc P g (enc a) = g a := by
 have hx : ∃ b, enc b = enc a /\ P b := ⟨a, rfl, h⟩
 unfold mOf
 rw [dif_pos hx, inj _ _ hx.choose_spec.1]
theorem jB {α : Type} {enc : α -> List L} {P : α -> Prop} {g : α -> Res L} {n : Nat} {f : MS} (h : ∀ a, P a -> fN n f (enc a) = g a) : ∀ ls, mOf enc P g ls = .bad \/ fN n f ls = mOf enc P g ls := by
 intro ls
 unfold mOf
 by_cases hx : ∃ a, enc a = ls /\ P a
 ·rw [dif_pos hx]
  exact .inr ((congrArg _ hx.choose_spec.1.symm).trans (h _ hx.choose_spec.2))
 ·exact .inl (dif_neg hx)
theorem kA (a : D) (r : List D) : ixE (.p (.tuple (a :: r))) (.p (.int 0)) = .ok (.p a) := by simp [ixE, eP, at0]
theorem kH (a b : D) (r : List D) : ixE (.p (.tuple (a :: b :: r))) (.p (.int 1)) = .ok (.p b) := by simp [ixE, eP, at1]
theorem tH (a b d : D) (r : List D) : ixE (.p (.tuple (a :: b :: d :: r))) (.p (.int 2)) = .ok (.p d) := by simp [ixE, eP, at2]
theorem pS (p : Pl) : ixE (.p (plD p)) (.p (.int 0)) = .ok (.p (.int p.1)) := kA _ _
theorem qV (p : Pl) : ixE (.p (plD p)) (.p (.int 1)) = .ok (.p (.int p.2.1)) := kH _ _ _
theorem qG (p : Pl) : ixE (.p (plD p)) (.p (.int 2)) = .ok (.p (frD p.2.2)) := tH _ _ _ _
theorem qD (p : Int × Int) : ixE (.p (frD p)) (.p (.int 0)) = .ok (.p (.int p.1)) := kA _ _
theorem pQ (p : Int × Int) : ixE (.p (frD p)) (.p (.int 1)) = .ok (.p (.int p.2)) := kH _ _ _
section
variable {κ α : Type} [DecidableEq κ]
variable {ek : κ -> D} {ev : α -> D} (inj : ∀ a b, ek a = ek b -> a = b)
include inj
end
theorem gQ (a b : Int × Int) (h : slD a = slD b) : a = b := by
 unfold slD at h
 injection h with h
 injection h with h1 h2
 injection h2 with h2 _
 injection h1 with h1
 injection h2 with h2
 exact Prod.ext h1 h2
theorem eI {a b : Int} (hb : 0 < b) : 0 <= a.fmod b /\ a.fmod b < b := by
 rw [Int.fmod_eq_emod_of_nonneg a (Int.le_of_lt hb)]
 exact ⟨Int.emod_nonneg a (by omega), Int.emod_lt_of_pos a hb⟩
theorem aO {f g : MS} {en e1 : En} (h : f en = some (.nx e1)) : cG f g en = g e1 := by unfold cG; rw [h]
theorem wK {f g : MS} {en : En} {l : L} (h : f en = some (.rt l)) : cG f g en = some (.rt l) := by unfold cG; rw [h]
theorem dQ {i : Nat} {fe : En -> Res Ev} {en : En} {d : D} (h : fe en = .ok (.p d)) : dX i fe en = some (.nx (en.set i (some (.p d)))) := by unfold dX; rw [h]
theorem fM {i : Nat} {fe : En -> Res Ev} {en : En} {d : D} (h : fe en = .ok (.f d)) : dX i fe en = some (.nx (en.set i (some (.o d)))) := by unfold dX; rw [h]
theorem yN {ft : En -> Res Bool} {f g : MS} {en : En} (h : ft en = .ok true) : k7 ft f g en = f en := by unfold k7; rw [h]; rfl
theorem sJ {ft : En -> Res Bool} {f g : MS} {en : En} (h : ft en = .ok false) : k7 ft f g en = g en := by unfold k7; rw [h]; rfl
theorem dM {n : Nat} {f : MS} {ls : List L} {l : L} (h : f (bX n ls) = some (.rt l)) : fN n f ls = .ok l := by unfold fN; rw [h]
theorem xR {x y : Ev} {d : D} (h1 : dat x = some d) (h2 : dat y = some d) (hs : SeqAt.shaped d = true) (ng : Bool) : eqE ng x y = .ok (.p (.bool (!ng))) := by
 have hc : PyData.canLay0 d = true := by
  unfold SeqAt.shaped at hs
  exact (Bool.and_eq_true_iff.mp hs).1
 unfold eqE
 rw [h1, h2]
 dsimp only
 rw [if_pos ⟨hs, hs⟩, SeqAt.eqv_refl d hc]
 cases ng <;> rfl
theorem jP {fi : En -> Res (List D)} {tg : D -> En -> Option En} {f : MS} {en : En} {ds : List D} (h : fi en = .ok ds) : p7 fi tg f en = dI tg f ds en := by unfold p7; rw [h]
theorem aAl (x y : Int × Int) : PyData.eqv (frD x) (frD y) = decide (x = y) := by
 have : PyData.eqv (frD x) (frD y) = (x.1 == y.1 && (x.2 == y.2 && true)) := by simp [frD, PyData.eqv, PyData.eqvAll]
 rw [this]
 by_cases h : x = y
 ·subst h; simp
 ·rw [decide_eq_false h]
  by_cases h1 : x.1 = y.1
  ·have h2 : ¬ x.2 = y.2 := fun h2 => h (Prod.ext h1 h2)
   simp [h1, h2]
  ·simp [h1]
theorem vT {α : Type} (f : α -> D) (h : ∀ a, lfD (f a) = true) : ∀ xs : List α, lfA (xs.map f) = true
 | [] => by simp [lfA]
 | x :: xs => by rw [List.map_cons]; unfold lfA; rw [h x, vT f h xs]; rfl
theorem aIk (x : Int × Int) : lfD (slD x) = true := by simp [slD, lfD, lfA]
theorem Sz.addM {m n : Nat} {x y : Int} (hx : Sz m x) (hy : Sz n y) : Sz (max m n + 1) (x + y) := Sz.add (hx.mono (Nat.le_max_left _ _)) (hy.mono (Nat.le_max_right _ _))
theorem Sz.subM {m n : Nat} {x y : Int} (hx : Sz m x) (hy : Sz n y) : Sz (max m n + 1) (x - y) := Sz.sub (hx.mono (Nat.le_max_left _ _)) (hy.mono (Nat.le_max_right _ _))
theorem aAq {i j : Int} (h : CMulW i j) : sG (.p (.int i)) (.p (.int j)) = .ok (.p (.int (i * j))) := by simp [sG, qJ, h]
theorem eV {i j : Int} (h : nY i j) : j6 (.p (.int i)) (.p (.int j)) = .ok (.p (.int (i.fdiv j))) := by simp [j6, qJ, h]
theorem kU {i j : Int} (h : j ≠ 0) : j8 (.p (.int i)) (.p (.int j)) = .ok (.p (.int (i.fmod j))) := by simp [j8, qJ, h]
theorem aAi {i j : Int} (h : aAm i j) : sN (.p (.int i)) (.p (.int j)) = .ok (.p (.int (i ^ j.toNat))) := by simp [sN, qJ, h]
theorem eQ (i j : Int) : eE (.p (.int i)) (.p (.int j)) = .ok (.p (.int (i + j))) := by simp [eE]
theorem vJ (i j : Int) : fV (.p (.int i)) (.p (.int j)) = .ok (.p (.int (i - j))) := by simp [fV, dU]
abbrev Pt := (Int × Int) × (Int × Int)
theorem k9 {α β : Type} (a : α) (f : α -> Res β) : (Res.ok a).bind f = f a := rfl
theorem aHo {fe : En -> Res Ev} {en : En} {d : D} (h : fe en = .ok (.f d)) : fP fe en = some (.rt (.o d)) := by unfold fP; rw [h]; rfl
theorem n5 {fe : En -> Res Ev} {en : En} {d : D} (h : fe en = .ok (.p d)) : fP fe en = some (.rt (.p d)) := by unfold fP; rw [h]; rfl
theorem uZ {n : Nat} {js : List Nat} {fi : En -> Res (List D)} {tg : D -> En -> Option En} {ft : En -> Res Bool} {fe : En -> Res Ev} {en : En} {ds es : List D} (h1 : fi en = .ok ds) (h2 : ds.length <= 100000) (h3 : xE (cD n js tg ft fe en) ds = some es) : lN n js fi tg ft fe en = .ok (.f (.list es)) := by
 unfold lN
 rw [h1, k9]
 unfold aDa
 rw [if_pos h2, h3]
end N
local macro_rules | `(tactic| walk_at "z") => `(tactic| repeat (first | assumption | apply L2.Sz.mul | apply N.Sz.addM | apply N.Sz.subM | apply L2.Sz.neg | apply N.sz_fdiv | (apply N.sz_fmod; (first | decide | omega)) | exact N.sz_lit4 (by decide) | exact N.sz_lit (by decide) | exact N.sz_lit70 (by decide) | exact N.sz_big (by decide)))
local macro_rules | `(tactic| walk_at "d") => `(tactic| first | assumption | (first | apply N.cm2 | apply N.cd2) <;> (first | decide | omega | (walk_at "z")) | decide | omega)
namespace N
abbrev Q2 := Int × Int
def aA (a b c : Q2) : Int := (b.1 - a.1) * (c.2 - a.2) - (b.2 - a.2) * (c.1 - a.1)
def dC (p : Q2) : List Q2 -> List Q2
 | k1 :: k2 :: r => if aA k2 k1 p <= 0 then dC p (k2 :: r) else k1 :: k2 :: r
 | s => s
def pushS (s : List Q2) (p : Q2) : List Q2 := p :: dC p s
def aS (ps : List Q2) : List Q2 := ps.foldl pushS []
def eL : List Q2 -> List (Q2 × Q2)
 | a :: b :: r => (b, a) :: eL (b :: r)
 | _ => []
def kG : List Q2 -> Prop
 | a :: b :: c :: r => 0 < aA c b a /\ kG (b :: c :: r)
 | _ => True
def sL (l : List Q2) : Prop := l.Pairwise fun a b => a.1 < b.1
theorem sA {a b : Int} (ha : a <= 0) (hb : 0 <= b) : a * b <= 0 := by
 have := Int.mul_nonneg (show 0 <= -a by omega) hb
 rw [Int.neg_mul] at this
 omega
theorem uY {a b : Int} (ha : a < 0) (h : a * b <= 0) : 0 <= b := by
 by_cases z : 0 <= b
 ·exact z
 ·have := Int.mul_pos_of_neg_of_neg ha (show b < 0 by omega)
  omega
theorem aEd {a b : Int} (ha : a < 0) (h : a * b < 0) : 0 < b := by
 by_cases z : 0 < b
 ·exact z
 ·have := Int.mul_nonneg_of_nonpos_of_nonpos (Int.le_of_lt ha) (show b <= 0 by omega)
  omega
theorem yH {a b c p : Q2} (h1 : b.1 < a.1) (h2 : c.1 < b.1) (h3 : p.1 < c.1) (t1 : 0 < aA a b c) (t2 : 0 < aA b c p) : 0 < aA a b p := by
 refine aEd (a := c.1 - b.1) (by omega) ?_
 have e : (c.1 - b.1) * aA a b p = (p.1 - b.1) * aA a b c + (b.1 - a.1) * aA b c p := by unfold aA; grind
 rw [e]
 have x := Int.mul_neg_of_neg_of_pos (show p.1 - b.1 < 0 by omega) t1
 have y := Int.mul_neg_of_neg_of_pos (show b.1 - a.1 < 0 by omega) t2
 omega
theorem vI {k2 k1 p q : Q2} (h1 : k1.1 < k2.1) (h2 : p.1 < k2.1) (hq : q.1 <= k2.1) (l : 0 <= aA k2 k1 q) (t : aA k2 k1 p <= 0) : 0 <= aA k2 p q := by
 refine uY (a := k1.1 - k2.1) (by omega) ?_
 have e : (k1.1 - k2.1) * aA k2 p q = (p.1 - k2.1) * aA k2 k1 q + (k2.1 - q.1) * aA k2 k1 p := by unfold aA; grind
 rw [e]
 have x := sA (show p.1 - k2.1 <= 0 by omega) l
 have y := Int.mul_nonpos_of_nonneg_of_nonpos (show 0 <= k2.1 - q.1 by omega) t
 omega
theorem pH {k2 k1 p q : Q2} (h1 : k1.1 < k2.1) (h2 : p.1 < k1.1) (hq : p.1 <= q.1) (l : 0 <= aA k1 p q) (t : aA k2 k1 p <= 0) : 0 <= aA k2 p q := by
 have e : (k1.1 - p.1) * aA k2 p q = (k2.1 - p.1) * aA k1 p q + (q.1 - p.1) * (- aA k2 k1 p) := by unfold aA; grind
 have x := Int.mul_nonneg (show 0 <= k2.1 - p.1 by omega) l
 have y := Int.mul_nonneg (show 0 <= q.1 - p.1 by omega) (show 0 <= - aA k2 k1 p by omega)
 have z : 0 <= (k1.1 - p.1) * aA k2 p q := by rw [e]; omega
 by_cases w : 0 <= aA k2 p q
 ·exact w
 ·have := Int.mul_neg_of_pos_of_neg (show 0 < k1.1 - p.1 by omega) (show aA k2 p q < 0 by omega)
  omega
theorem sC {k' k p q : Q2} (h1 : k.1 < k'.1) (h2 : p.1 < k.1) (hq : k.1 <= q.1) (l : 0 <= aA k' k q) (t : 0 < aA k' k p) : 0 <= aA k p q := by
 have e : (k'.1 - k.1) * aA k p q = (k.1 - p.1) * aA k' k q + (q.1 - k.1) * aA k' k p := by unfold aA; grind
 have x := Int.mul_nonneg (show 0 <= k.1 - p.1 by omega) l
 have y := Int.mul_nonneg (show 0 <= q.1 - k.1 by omega) (Int.le_of_lt t)
 have z : 0 <= (k'.1 - k.1) * aA k p q := by rw [e]; omega
 by_cases w : 0 <= aA k p q
 ·exact w
 ·have := Int.mul_neg_of_pos_of_neg (show 0 < k'.1 - k.1 by omega) (show aA k p q < 0 by omega)
  omega
structure ChI (seen s : List Q2) : Prop where
 sub : s.Sublist seen
 hd : s.head? = seen.head?
 ls : s.getLast? = seen.getLast?
 conv : kG s
 left : ∀ e ∈ eL s, ∀ q ∈ seen, 0 <= aA e.1 e.2 q
theorem cK (p : Q2) : ∀ s : List Q2, dC p s <:+ s
 | [] => by unfold dC; exact List.suffix_refl _
 | [a] => by unfold dC; exact List.suffix_refl _
 | k1 :: k2 :: r => by
  unfold dC
  split
  ·exact (cK p (k2 :: r)).trans (List.suffix_cons _ _)
  ·exact List.suffix_refl _
theorem pO : ∀ (u t : List Q2), kG (u ++ t) -> kG t
 | [], _, h => h
 | a :: u, t, h => by
  refine pO u t ?_
  rw [List.cons_append] at h
  revert h
  generalize u ++ t = l
  intro h
  cases l with
  | nil => exact trivial
  | cons b l =>
   cases l with
   | nil => exact trivial
   | cons c r => exact h.2
theorem oV {s t : List Q2} (h : t <:+ s) (hc : kG s) : kG t := by
 obtain ⟨u, e⟩ := h
 rw [<- e] at hc
 exact pO u t hc
theorem n6 (e : Q2 × Q2) : ∀ (u t : List Q2), e ∈ eL t -> e ∈ eL (u ++ t)
 | [], _, h => h
 | a :: u, t, h => by
  have ih := n6 e u t h
  rw [List.cons_append]
  revert ih
  generalize u ++ t = l
  intro ih
  cases l with
  | nil => exact nomatch ih
  | cons b r => exact .tail _ ih
theorem g5 {s t : List Q2} (h : t <:+ s) (e : Q2 × Q2) (he : e ∈ eL t) : e ∈ eL s := by
 obtain ⟨u, eu⟩ := h
 rw [<- eu]
 exact n6 e u t he
theorem vK {p : Q2} {seen : List Q2} : ∀ {s : List Q2}, (∀ k ∈ s, p.1 < k.1) -> sL s -> (∀ e ∈ eL s, ∀ q ∈ seen, 0 <= aA e.1 e.2 q) -> (∀ q ∈ seen, p.1 <= q.1) -> (∀ k ∈ s.head?, ∀ q ∈ seen, q.1 <= k.1 -> 0 <= aA k p q) ->
  (∀ k ∈ (dC p s).head?, ∀ q ∈ seen, q.1 <= k.1 -> 0 <= aA k p q) /\ ∀ k1 k2 r, dC p s = k1 :: k2 :: r -> 0 < aA k2 k1 p
 | [], _, _, _, _, h => ⟨by unfold dC; exact h, fun k1 k2 r e => by unfold dC at e; cases e⟩
 | [a], _, _, _, _, h => ⟨by unfold dC; exact h, fun k1 k2 r e => by unfold dC at e; cases e⟩
 | k1 :: k2 :: r, hp, hf, hl, hq, h => by
  unfold dC
  split
  ·rename_i z
   have f := List.pairwise_cons.mp hf
   have f2 : k1.1 < k2.1 := f.1 k2 (.head _)
   refine vK (fun k hk => hp k (.tail _ hk)) f.2 (fun e he => hl e (.tail _ he)) hq ?_
   intro k hk q hqs hle
   have : k2 = k := by simpa using hk
   subst this
   by_cases c : q.1 <= k1.1
   ·exact pH f2 (hp k1 (.head _)) (hq q hqs) (h k1 rfl q hqs c) z
   ·exact vI f2 (hp k2 (.tail _ (.head _))) hle (hl (k2, k1) (.head _) q hqs) z
  ·rename_i z
   refine ⟨h, fun a b c e => ?_⟩
   injection e with e1 e2
   injection e2 with e2 _
   subst e1 e2
   omega
theorem kW {p : Q2} : ∀ {s : List Q2}, (∀ k ∈ s, p.1 < k.1) -> sL s -> kG s -> (∀ k1 k2 r, s = k1 :: k2 :: r -> 0 < aA k2 k1 p) -> ∀ e ∈ eL s, 0 < aA e.1 e.2 p
 | [], _, _, _, _, e, he => nomatch he
 | [a], _, _, _, _, e, he => nomatch he
 | k1 :: k2 :: r, hp, hf, hc, h, e, he => by
  have f := List.pairwise_cons.mp hf
  rcases List.mem_cons.mp he with z | z
  ·rw [z]; exact h k1 k2 r rfl
  ·refine kW (fun k hk => hp k (.tail _ hk)) f.2 ?_ ?_ e z
   ·match r, hc with
    | [], _ => exact trivial
    | c :: r', hc => exact hc.2
   ·intro a b c e2
    injection e2 with e1 e3
    subst e1
    subst e3
    have g := List.pairwise_cons.mp f.2
    exact yH (g.1 b (.head _)) (f.1 k2 (.head _)) (hp k1 (.head _)) hc.1 (h k1 k2 (b :: c) rfl)
theorem yO {l : List Q2} (hf : sL l) {k : Q2} (h : l.getLast? = some k) : ∀ q ∈ l, q.1 <= k.1 := by
 induction l with
 | nil => cases h
 | cons a l ih =>
  intro q hq
  have f := List.pairwise_cons.mp hf
  cases l with
  | nil =>
   have : a = k := by simpa using h
   rw [List.mem_singleton.mp hq, this]
   exact Int.le_refl _
  | cons b r =>
   have h' : (b :: r).getLast? = some k := by simpa using h
   have ih := ih f.2 h'
   rcases List.mem_cons.mp hq with z | z
   ·rw [z]
    have := f.1 b (.head _)
    have := ih b (.head _)
    omega
   ·exact ih q z
theorem zN {seen s : List Q2} {p : Q2} (h : ChI seen s) (hn : seen ≠ []) (hf : sL (p :: seen)) : ChI (p :: seen) (pushS s p) := by
 have f := List.pairwise_cons.mp hf
 have fs : sL s := List.Pairwise.sublist h.sub f.2
 have ps : ∀ k ∈ s, p.1 < k.1 := fun k hk => f.1 k (h.sub.subset hk)
 have s0 : s ≠ [] := fun z => by
  have := h.hd
  rw [z] at this
  cases seen with
  | nil => exact hn rfl
  | cons a r => cases this
 obtain ⟨a1, a2⟩ := vK (p := p) (seen := seen) ps fs h.left (fun q hq => Int.le_of_lt (f.1 q hq)) (fun k hk q hq hle => by
  rw [h.hd] at hk
  cases seen with
  | nil => exact nomatch hk
  | cons b r =>
   have : b = k := by simpa using hk
   subst this
   rcases List.mem_cons.mp hq with z | z
   ·rw [z]; unfold aA; simp
   ·have := (List.pairwise_cons.mp f.2).1 q z
    omega)
 have suf := cK p s
 have fs' : sL (dC p s) := List.Pairwise.sublist suf.sublist fs
 have ps' : ∀ k ∈ dC p s, p.1 < k.1 := fun k hk => ps k (suf.subset hk)
 have cs' := oV suf h.conv
 have el := kW ps' fs' cs' a2
 have ne : dC p s ≠ [] := by
  intro z
  match s, s0 with
  | [a], _ => unfold dC at z; cases z
  | k1 :: k2 :: r, _ =>
   have : ∀ t : List Q2, t ≠ [] -> dC p t ≠ [] := fun t => by
    induction t with
    | nil => intro h; exact absurd rfl h
    | cons x t ih =>
     intro _
     cases t with
     | nil => unfold dC; exact List.cons_ne_nil _ _
     | cons y t =>
      unfold dC
      split
      ·exact ih (List.cons_ne_nil _ _)
      ·exact List.cons_ne_nil _ _
   exact this _ (List.cons_ne_nil _ _) z
 have lst : (dC p s).getLast? = seen.getLast? := by
  obtain ⟨u, e⟩ := suf
  have e2 := congrArg List.getLast? e
  rw [List.getLast?_append] at e2
  rw [<- h.ls, <- e2]
  cases hg : (dC p s).getLast? with
  | none => exact absurd (List.getLast?_eq_none_iff.mp hg) ne
  | some x => rfl
 refine ⟨(suf.sublist.trans h.sub).cons₂ p, rfl, ?_, ?_, ?_⟩
 ·unfold pushS
  cases hs : dC p s with
  | nil => exact absurd hs ne
  | cons k r =>
   rw [List.getLast?_cons_cons, <- hs, lst]
   cases seen with
   | nil => exact absurd rfl hn
   | cons b t => rw [List.getLast?_cons_cons]
 ·unfold pushS
  match hs : dC p s, cs', a2 with
  | [], _, _ => exact trivial
  | [k], _, _ => exact trivial
  | k1 :: k2 :: r, c, a2 => exact ⟨a2 k1 k2 r rfl, c⟩
 ·intro e he q hq
  unfold pushS at he
  cases hs : dC p s with
  | nil => exact absurd hs ne
  | cons k r =>
   rw [hs] at he
   rcases List.mem_cons.mp he with z | z
   ·rw [z]
    show 0 <= aA k p q
    rcases List.mem_cons.mp hq with y | y
    ·rw [y]; unfold aA; rw [Int.mul_comm]; omega
    ·by_cases c : q.1 <= k.1
     ·exact a1 k (by rw [hs]; rfl) q y c
     ·cases r with
      | nil =>
       have : seen.getLast? = some k := by rw [<- lst, hs]; rfl
       exact absurd (yO f.2 this q y) c
      | cons k' r =>
       have kk := List.pairwise_cons.mp (show sL (k :: k' :: r) by rw [<- hs]; exact fs')
       have em : ((k', k) : Q2 × Q2) ∈ eL s := g5 suf _ (by rw [hs]; exact .head _)
       exact sC (kk.1 k' (.head _)) (ps' k (by rw [hs]; exact .head _)) (by omega) (h.left _ em q y) (a2 k k' r hs)
   ·rcases List.mem_cons.mp hq with y | y
    ·rw [y]; exact Int.le_of_lt (el e (by rw [hs]; exact z))
    ·exact h.left e (g5 suf e (by rw [hs]; exact z)) q y
theorem nF : ∀ (ps seen s : List Q2), ChI seen s -> seen ≠ [] -> sL (ps.reverse ++ seen) -> ChI (ps.reverse ++ seen) (ps.foldl pushS s)
 | [], seen, s, h, _, _ => h
 | p :: ps, seen, s, h, hn, hf => by
  rw [List.reverse_cons, List.append_assoc] at hf ⊢
  have hf2 : sL (p :: seen) := (List.pairwise_append.mp hf).2.1
  rw [List.foldl_cons]
  exact nF ps (p :: seen) (pushS s p) (zN h hn hf2) (List.cons_ne_nil _ _) hf
theorem zH {p : Q2} {ps : List Q2} (hf : sL (p :: ps).reverse) : ChI (p :: ps).reverse (aS (p :: ps)) := by
 rw [List.reverse_cons] at hf ⊢
 have h1 : ChI [p] [p] := ⟨List.Sublist.refl _, rfl, rfl, trivial, fun e he => nomatch he⟩
 exact nF ps [p] [p] h1 (List.cons_ne_nil _ _) hf
end N
namespace N
def ltQ (a b : Q2) : Prop := a.1 < b.1 \/ (a.1 = b.1 /\ a.2 < b.2)
def phi (M e : Int) (p : Q2) : Q2 := (e * ((2 * M + 1) * p.1 + p.2), e * p.2)
theorem mI {M e : Int} (he : e = 1 \/ e = -1) (a b c : Q2) : aA (phi M e a) (phi M e b) (phi M e c) = (2 * M + 1) * aA a b c := by
 unfold aA phi
 rcases he with z | z <;> subst z <;> grind
theorem aAg {M : Int} {a b : Q2} (ha : -M <= a.2 /\ a.2 <= M) (hb : -M <= b.2 /\ b.2 <= M) (h : ltQ a b) : (2 * M + 1) * a.1 + a.2 < (2 * M + 1) * b.1 + b.2 := by
 rcases h with h | ⟨h1, h2⟩
 ·have e : (2 * M + 1) * b.1 = (2 * M + 1) * a.1 + (2 * M + 1) * (b.1 - a.1) := by grind
  have k := Int.mul_le_mul_of_nonneg_left (show 1 <= b.1 - a.1 by omega) (show 0 <= 2 * M + 1 by omega)
  omega
 ·rw [h1]
  omega
theorem sY (p a b : Q2) (r : List Q2) : dC p (a :: b :: r) = if aA b a p <= 0 then dC p (b :: r) else a :: b :: r := by
 conv => lhs; unfold dC
theorem u7 {M e : Int} (hM : 0 <= M) (he : e = 1 \/ e = -1) (p : Q2) : ∀ s : List Q2, dC (phi M e p) (s.map (phi M e)) = (dC p s).map (phi M e)
 | [] => rfl
 | [a] => rfl
 | a :: b :: r => by
  have t := mI (M := M) he b a p
  have ih := u7 hM he p (b :: r)
  rw [sY p a b r]
  have e : dC (phi M e p) ((a :: b :: r).map (phi M e)) = _ := sY (phi M e p) (phi M e a) (phi M e b) (r.map (phi M e))
  rw [e, t]
  by_cases z : aA b a p <= 0
  ·rw [if_pos z, if_pos (Int.mul_nonpos_of_nonneg_of_nonpos (by omega) z)]
   exact ih
  ·have := Int.mul_pos (show 0 < 2 * M + 1 by omega) (show 0 < aA b a p by omega)
   rw [if_neg z, if_neg (by omega)]
   rfl
theorem oH {M e : Int} (hM : 0 <= M) (he : e = 1 \/ e = -1) : ∀ (ps s : List Q2), (ps.map (phi M e)).foldl pushS (s.map (phi M e)) = (ps.foldl pushS s).map (phi M e)
 | [], s => rfl
 | p :: ps, s => by
  rw [List.map_cons, List.foldl_cons, List.foldl_cons]
  have : pushS (s.map (phi M e)) (phi M e p) = (pushS s p).map (phi M e) := by
   unfold pushS
   rw [u7 hM he]
   rfl
  rw [this]
  exact oH hM he ps _
theorem i6 : ∀ (ps s seen : List Q2), s.Sublist seen -> (ps.foldl pushS s).Sublist (ps.reverse ++ seen)
 | [], s, seen, h => h
 | p :: ps, s, seen, h => by
  rw [List.foldl_cons, List.reverse_cons, List.append_assoc]
  exact i6 ps _ (p :: seen) (((cK p s).sublist.trans h).cons₂ p)
theorem sS : ∀ (s : List Q2) (i : Nat) (h : i + 1 < s.length), (s[i + 1], s[i]) ∈ eL s
 | a :: b :: r, 0, _ => .head _
 | a :: b :: r, i + 1, h => .tail _ (sS (b :: r) i (by simpa using h))
theorem vH : ∀ (s : List Q2), kG s -> ∀ (i : Nat) (h : i + 2 < s.length), 0 < aA s[i + 2] s[i + 1] s[i]
 | a :: b :: c :: r, hc, 0, _ => hc.1
 | a :: b :: c :: r, hc, i + 1, h => vH (b :: c :: r) hc.2 i (by simpa using h)
theorem pR (f : Q2 -> Q2) : ∀ (s : List Q2) (a b : Q2), (a, b) ∈ eL s -> (f a, f b) ∈ eL (s.map f)
 | x :: y :: r, a, b, h => by
  rcases List.mem_cons.mp h with z | z
  ·injection z with z1 z2
   rw [z1, z2]
   exact .head _
  ·exact .tail _ (pR f (y :: r) a b z)
theorem qR {M e : Int} (hM : 0 <= M) (he : e = 1 \/ e = -1) : ∀ s : List Q2, kG (s.map (phi M e)) -> kG s
 | [], _ => trivial
 | [_], _ => trivial
 | [_, _], _ => trivial
 | a :: b :: c :: r, h => by
  have t := mI (M := M) he c b a
  have h1 : 0 < aA (phi M e c) (phi M e b) (phi M e a) := h.1
  rw [t] at h1
  refine ⟨?_, qR hM he (b :: c :: r) h.2⟩
  by_cases z : 0 < aA c b a
  ·exact z
  ·have := Int.mul_nonpos_of_nonneg_of_nonpos (show 0 <= 2 * M + 1 by omega) (show aA c b a <= 0 by omega)
   omega
structure Way (P T : List Q2) (lt : Q2 -> Q2 -> Prop) (x y : Q2) : Prop where
 sub : T.Sublist P
 h0 : T.head? = some x
 h1 : T.getLast? = some y
 left : ∀ (i : Nat) (h : i + 1 < T.length), ∀ q ∈ P, 0 <= aA T[i] T[i + 1] q
 conv : ∀ (i : Nat) (h : i + 2 < T.length), 0 < aA T[i] T[i + 1] T[i + 2]
theorem aIs : ∀ ps : List Q2, ∃ M : Int, 0 <= M /\ ∀ p ∈ ps, -M <= p.2 /\ p.2 <= M
 | [] => ⟨0, Int.le_refl _, fun _ h => nomatch h⟩
 | p :: ps => by
  obtain ⟨M, m1, m2⟩ := aIs ps
  refine ⟨M + p.2.natAbs, by omega, fun q hq => ?_⟩
  rcases List.mem_cons.mp hq with z | z
  ·rw [z]; omega
  ·have := m2 q z; omega
theorem aA6 {e : Int} (he : e = 1 \/ e = -1) {ps : List Q2} {x y : Q2} (hx : ps.head? = some x) (hy : ps.getLast? = some y) (hs : ps.Pairwise fun a b => if e = 1 then ltQ b a else ltQ a b) : Way ps (aS ps).reverse ltQ x y := by
 obtain ⟨M, hM, hb⟩ := aIs ps
 cases ps with
 | nil => cases hx
 | cons p ps =>
 have hx : p = x := by simpa using hx
 subst hx
 have cp := oH hM he (p :: ps) []
 have cp : aS ((p :: ps).map (phi M e)) = (aS (p :: ps)).map (phi M e) := cp
 have fl : sL ((p :: ps).map (phi M e)).reverse := by
  unfold sL
  rw [List.pairwise_reverse, List.pairwise_map]
  refine List.Pairwise.imp_of_mem (fun {a b} ha hb' w => ?_) hs
  have na := hb a ha
  have nb := hb b hb'
  unfold phi
  dsimp only
  rcases he with z | z
  ·rw [if_pos z] at w
   have := aAg nb na w
   rw [z]
   omega
  ·rw [if_neg (by omega)] at w
   have := aAg na nb w
   rw [z]
   omega
 have ch := zH (p := phi M e p) (ps := ps.map (phi M e)) fl
 have ch : ChI (((p :: ps).map (phi M e)).reverse) (aS ((p :: ps).map (phi M e))) := ch
 rw [cp] at ch
 have sb := i6 (p :: ps) [] [] (List.Sublist.refl _)
 rw [List.append_nil] at sb
 have sb : (aS (p :: ps)).Sublist (p :: ps).reverse := sb
 have lenT : (aS (p :: ps)).reverse.length = (aS (p :: ps)).length := List.length_reverse
 refine ⟨?_, ?_, ?_, fun i h q hq => ?_, fun i h => ?_⟩
 ·have := List.reverse_sublist.mpr sb
  rw [List.reverse_reverse] at this
  exact this
 ·have := ch.ls
  rw [List.getLast?_map, List.getLast?_reverse, List.map_cons, List.head?_cons] at this
  rw [List.head?_reverse]
  cases q : (aS (p :: ps)).getLast? with
  | none => rw [q] at this; cases this
  | some z =>
   rw [q] at this
   have e1 : phi M e z = phi M e p := Option.some.inj this
   unfold phi at e1
   injection e1 with e2 e3
   have e3 : z.2 = p.2 := by rcases he with w | w <;> rw [w] at e3 <;> omega
   have e4 : (2 * M + 1) * z.1 = (2 * M + 1) * p.1 := by rcases he with w | w <;> rw [w] at e2 <;> omega
   have := Int.eq_of_mul_eq_mul_left (show 2 * M + 1 ≠ 0 by omega) e4
   rw [Prod.ext this e3]
 ·rw [List.getLast?_reverse, <- hy]
  have := ch.hd
  rw [List.head?_map, List.head?_reverse, List.getLast?_map, hy] at this
  cases q : (aS (p :: ps)).head? with
  | none => rw [q] at this; cases this
  | some z =>
   rw [q] at this
   have e1 : phi M e z = phi M e y := Option.some.inj this
   unfold phi at e1
   injection e1 with e2 e3
   have e3 : z.2 = y.2 := by rcases he with w | w <;> rw [w] at e3 <;> omega
   have e4 : (2 * M + 1) * z.1 = (2 * M + 1) * y.1 := by rcases he with w | w <;> rw [w] at e2 <;> omega
   have := Int.eq_of_mul_eq_mul_left (show 2 * M + 1 ≠ 0 by omega) e4
   rw [Prod.ext this e3, hy]
 ·rw [List.length_reverse] at h
  rw [List.getElem_reverse, List.getElem_reverse]
  have em := sS (aS (p :: ps)) ((aS (p :: ps)).length - 1 - (i + 1)) (by omega)
  have ee := pR (phi M e) _ _ _ em
  have := ch.left _ ee (phi M e q) (List.mem_reverse.mpr (List.mem_map.mpr ⟨q, hq, rfl⟩))
  dsimp only at this
  rw [mI he] at this
  have i1 : (aS (p :: ps)).length - 1 - (i + 1) + 1 = (aS (p :: ps)).length - 1 - i := by omega
  simp only [i1] at this
  by_cases z : 0 <= aA (aS (p :: ps))[(aS (p :: ps)).length - 1 - i] (aS (p :: ps))[(aS (p :: ps)).length - 1 - (i + 1)] q
  ·exact z
  ·have := Int.mul_neg_of_pos_of_neg (show 0 < 2 * M + 1 by omega) (Int.not_le.mp z)
   omega
 ·rw [List.length_reverse] at h
  rw [List.getElem_reverse, List.getElem_reverse, List.getElem_reverse]
  have cv := vH _ (qR hM he _ ch.conv) ((aS (p :: ps)).length - 1 - (i + 2)) (by omega)
  have i1 : (aS (p :: ps)).length - 1 - (i + 2) + 1 = (aS (p :: ps)).length - 1 - (i + 1) := by omega
  have i2 : (aS (p :: ps)).length - 1 - (i + 2) + 2 = (aS (p :: ps)).length - 1 - i := by omega
  simp only [i1, i2] at cv
  exact cv
def LP (a1 a2 : Int) : Prop := 0 < a1 \/ (a1 = 0 /\ 0 < a2)
theorem aCt {a1 a2 b1 b2 s t : Int} (ha : LP a1 a2) (hb : LP b1 b2) (hs : s <= 0) (ht : 0 <= t) (e1 : t * a1 = s * b1) (e2 : t * a2 = s * b2) : s = 0 := by
 by_cases z : s = 0
 ·exact z
 have hs : s < 0 := by omega
 have h0 : t = 0 \/ 0 < t := by omega
 rcases h0 with h | h
 ·subst h
  rw [Int.zero_mul] at e1 e2
  rcases hb with b | ⟨b, b'⟩
  ·have := Int.mul_neg_of_neg_of_pos hs b
   omega
  ·have := Int.mul_neg_of_neg_of_pos hs b'
   omega
 ·rcases ha with a | ⟨a, a'⟩
  ·have p := Int.mul_pos h a
   have : s * b1 <= 0 := Int.mul_nonpos_of_nonpos_of_nonneg (Int.le_of_lt hs) (by rcases hb with b | ⟨b, _⟩ <;> omega)
   omega
  ·have p := Int.mul_pos h a'
   subst a
   rw [Int.mul_zero] at e1
   have b0 : b1 = 0 := by
    rcases Int.mul_eq_zero.mp e1.symm with w | w
    ·omega
    ·exact w
   rcases hb with b | ⟨b, b'⟩
   ·omega
   ·have := Int.mul_neg_of_neg_of_pos hs b'
    omega
theorem zR {a1 a2 c1 c2 f1 f2 p q r : Int} (ha : LP a1 a2) (hc : LP c1 c2) (hf : LP f1 f2) (hp : 0 <= p) (hq : 0 < q) (hr : 0 <= r) (e1 : p * c1 + q * f1 + r * a1 = 0) (e2 : p * c2 + q * f2 + r * a2 = 0) : False := by
 have ge : ∀ {x y s : Int}, LP x y -> 0 <= s -> 0 <= s * x /\ (s * x = 0 -> 0 <= s * y) := fun {x y s} h hs => by
  rcases h with h | ⟨h, h'⟩
  ·refine ⟨Int.mul_nonneg hs (Int.le_of_lt h), fun e => ?_⟩
   rcases Int.mul_eq_zero.mp e with w | w
   ·rw [w, Int.zero_mul]; exact Int.le_refl _
   ·omega
  ·rw [h, Int.mul_zero]
   exact ⟨Int.le_refl _, fun _ => Int.mul_nonneg hs (Int.le_of_lt h')⟩
 have g1 := ge hc hp
 have g2 := ge hf (Int.le_of_lt hq)
 have g3 := ge ha hr
 have z1 := g1.2 (by omega)
 have z3 := g3.2 (by omega)
 have z2 : q * f1 = 0 := by omega
 have f0 : f1 = 0 := by
  rcases Int.mul_eq_zero.mp z2 with w | w
  ·omega
  ·exact w
 rcases hf with b | ⟨b, b'⟩
 ·omega
 ·have := Int.mul_pos hq b'
  omega
theorem kB {a b : Q2} (h : ltQ a b) : LP (b.1 - a.1) (b.2 - a.2) := by
 rcases h with h | ⟨h, h'⟩
 ·exact .inl (by omega)
 ·exact .inr (by omega)
theorem aAt {e : Int} (he : e = 1 \/ e = -1) {u y v q x : Q2} (hu : LP (e * (y.1 - u.1)) (e * (y.2 - u.2))) (hv : LP (e * (y.1 - v.1)) (e * (y.2 - v.2))) (h0 : aA u y v = 0) (q1 : 0 <= aA u y q) (q2 : 0 <= aA y v q) (x1 : 0 <= aA u y x) (x2 : 0 <= aA y v x) : aA x y q = 0 := by
 have key : ∀ w : Q2, 0 <= aA u y w -> 0 <= aA y v w -> aA u y w = 0 := fun w w1 w2 => by
  have := aCt hu hv (s := - aA u y w) (t := aA y v w) (by omega) w2 (by unfold aA at h0 ⊢; grind) (by unfold aA at h0 ⊢; grind)
  omega
 have kq := key q q1 q2
 have kx := key x x1 x2
 have e1 : aA x y q * (y.1 - u.1) = 0 := by unfold aA at kq kx ⊢; grind
 have e2 : aA x y q * (y.2 - u.2) = 0 := by unfold aA at kq kx ⊢; grind
 rcases Int.mul_eq_zero.mp e1 with w | w
 ·exact w
 rcases Int.mul_eq_zero.mp e2 with w' | w'
 ·exact w'
 rw [w, w', Int.mul_zero] at hu
 rcases hu with h | ⟨_, h⟩ <;> omega
theorem uA {x y p q : Q2} (hxy : x ≠ y) (hp : aA x y p = 0) (hq : aA x y q = 0) : aA x p q = 0 /\ aA y p q = 0 := by
 have d : y.1 - x.1 = 0 -> y.2 - x.2 = 0 -> False := fun h1 h2 => hxy (Prod.ext (by omega) (by omega))
 have e1 : aA x p q * (y.1 - x.1) = 0 := by unfold aA at hp hq ⊢; grind
 have e2 : aA x p q * (y.2 - x.2) = 0 := by unfold aA at hp hq ⊢; grind
 have e3 : aA y p q * (y.1 - x.1) = 0 := by unfold aA at hp hq ⊢; grind
 have e4 : aA y p q * (y.2 - x.2) = 0 := by unfold aA at hp hq ⊢; grind
 refine ⟨?_, ?_⟩
 ·rcases Int.mul_eq_zero.mp e1 with w | w
  ·exact w
  rcases Int.mul_eq_zero.mp e2 with w' | w'
  ·exact w'
  exact (d w w').elim
 ·rcases Int.mul_eq_zero.mp e3 with w | w
  ·exact w
  rcases Int.mul_eq_zero.mp e4 with w' | w'
  ·exact w'
  exact (d w w').elim
theorem apart {p a c f : Q2} (ha : ltQ a p) (hc : ltQ p c) (hf : ltQ p f) (h1 : 0 < aA a p c) (h2 : 0 <= aA f p a) (h3 : 0 <= aA f p c) : False := by
 refine zR (p := aA f p a) (q := aA a p c) (r := aA f p c) (kB ha) (kB hc) (kB hf) h2 h1 h3 ?_ ?_ <;> unfold aA <;> grind
theorem fX (x y q : Q2) : aA y x q = - aA x y q := by unfold aA; grind
theorem mR (x q : Q2) : aA x x q = 0 := by unfold aA; grind
def pr (R : List Q2) (k d : Nat) : Q2 := R.getD (if k < d then R.length + k - d else k - d) (0, 0)
structure RingOk (R ps : List Q2) (x : Q2) : Prop where
 len : 3 <= R.length
 h0 : R.getD 0 (0, 0) = x
 nd : R.Nodup
 sub : ∀ p ∈ R, p ∈ ps
 conv : ∀ k, k < R.length -> 0 < aA (pr R k 2) (pr R k 1) (R.getD k (0, 0))
 left : ∀ k, k < R.length -> ∀ q ∈ ps, 0 <= aA (pr R k 1) (R.getD k (0, 0)) q
theorem gY {a b : Q2} (h : ltQ a b) : a ≠ b := fun e => by
 subst e
 rcases h with h | ⟨_, h⟩ <;> omega
theorem getD_get {T : List Q2} {i : Nat} (h : i < T.length) : T.getD i (0, 0) = T[i] := by
 rw [List.getD_eq_getElem?_getD, List.getElem?_eq_getElem h]
 rfl
theorem gM {lt : Q2 -> Q2 -> Prop} {T : List Q2} (h : T.Pairwise lt) {i j : Nat} (hij : i < j) (hj : j < T.length) : lt (T.getD i (0, 0)) (T.getD j (0, 0)) := by
 rw [getD_get (Nat.lt_trans hij hj), getD_get hj]
 exact List.pairwise_iff_getElem.mp h i j (Nat.lt_trans hij hj) hj hij
theorem o5 {P T : List Q2} {lt : Q2 -> Q2 -> Prop} {x y : Q2} (w : Way P T lt x y) (hxy : x ≠ y) : 2 <= T.length /\ T.getD 0 (0, 0) = x /\ T.getD (T.length - 1) (0, 0) = y := by
 have h0 := w.h0
 have h1 := w.h1
 match T, h0, h1 with
 | [a], h0, h1 => exact absurd ((Option.some.inj h0).symm.trans (Option.some.inj h1)) hxy
 | a :: b :: r, h0, h1 =>
  refine ⟨by simp, Option.some.inj h0, ?_⟩
  rw [List.getLast?_eq_getElem?] at h1
  rw [List.getD_eq_getElem?_getD, h1]
  rfl
theorem aB4 {ps T B : List Q2} {x y : Q2} (hs : ps.Pairwise ltQ) (wt : Way ps T ltQ x y) (wb : Way ps.reverse B ltQ y x) (hxy : x ≠ y) (hf : ∃ q ∈ ps, aA x y q ≠ 0) : RingOk (T.dropLast ++ B.dropLast) ps x := by
 obtain ⟨m2, t0, t1⟩ := o5 wt hxy
 obtain ⟨n2, b0, b1⟩ := o5 wb (fun e => hxy e.symm)
 have pt : T.Pairwise ltQ := hs.sublist wt.sub
 have pb : B.Pairwise fun a b => ltQ b a := (List.pairwise_reverse.mpr hs).sublist wb.sub
 have mT : ∀ {i}, i < T.length -> T.getD i (0, 0) ∈ ps := fun {i} h => wt.sub.subset (by rw [getD_get h]; exact List.getElem_mem h)
 have mB : ∀ {i}, i < B.length -> B.getD i (0, 0) ∈ ps := fun {i} h => List.mem_reverse.mp (wb.sub.subset (by rw [getD_get h]; exact List.getElem_mem h))
 have eT : ∀ {i}, i + 1 < T.length -> ∀ q ∈ ps, 0 <= aA (T.getD i (0, 0)) (T.getD (i + 1) (0, 0)) q := fun {i} h q hq => by
  rw [getD_get h, getD_get (Nat.lt_of_succ_lt h)]
  exact wt.left i h q hq
 have eB : ∀ {i}, i + 1 < B.length -> ∀ q ∈ ps, 0 <= aA (B.getD i (0, 0)) (B.getD (i + 1) (0, 0)) q := fun {i} h q hq => by
  rw [getD_get h, getD_get (Nat.lt_of_succ_lt h)]
  exact wb.left i h q (List.mem_reverse.mpr hq)
 have cT : ∀ {i}, i + 2 < T.length -> 0 < aA (T.getD i (0, 0)) (T.getD (i + 1) (0, 0)) (T.getD (i + 2) (0, 0)) := fun {i} h => by
  rw [getD_get h, getD_get (show i + 1 < T.length by omega), getD_get (show i < T.length by omega)]
  exact wt.conv i h
 have cB : ∀ {i}, i + 2 < B.length -> 0 < aA (B.getD i (0, 0)) (B.getD (i + 1) (0, 0)) (B.getD (i + 2) (0, 0)) := fun {i} h => by
  rw [getD_get h, getD_get (show i + 1 < B.length by omega), getD_get (show i < B.length by omega)]
  exact wb.conv i h
 have mx : x ∈ ps := t0 ▸ mT (by omega)
 have my : y ∈ ps := b0 ▸ mB (by omega)
 obtain ⟨q, hq, hne⟩ := hf
 have len : 3 <= T.length - 1 + (B.length - 1) := by
  by_cases z : 3 <= T.length - 1 + (B.length - 1)
  ·exact z
  have e1 : T.length = 2 := by omega
  have e2 : B.length = 2 := by omega
  have a := eT (i := 0) (by omega) q hq
  have b := eB (i := 0) (by omega) q hq
  rw [e1] at t1
  rw [e2] at b1
  have t1 : T.getD (0 + 1) (0, 0) = y := t1
  have b1 : B.getD (0 + 1) (0, 0) = x := b1
  rw [t0, t1] at a
  rw [b0, b1] at b
  rw [fX] at b
  omega
 have cy : 0 < aA (T.getD (T.length - 2) (0, 0)) y (B.getD 1 (0, 0)) := by
  have l1 := eT (i := T.length - 2) (by omega)
  have l2 := eB (i := 0) (by omega)
  rw [show T.length - 2 + 1 = T.length - 1 by omega, t1] at l1
  rw [b0] at l2
  have l0 := l1 _ (mB (i := 1) (by omega))
  by_cases z : aA (T.getD (T.length - 2) (0, 0)) y (B.getD 1 (0, 0)) = 0
  ·have u := gM pt (show T.length - 2 < T.length - 1 by omega) (by omega)
   have v := gM pb (show 0 < 1 by omega) (show 1 < B.length by omega)
   rw [t1] at u
   rw [b0] at v
   exact absurd (aAt (e := 1) (.inl rfl) (by simpa using kB u) (by simpa using kB v) z (l1 q hq) (l2 q hq) (l1 x mx) (l2 x mx)) hne
  ·omega
 have cx : 0 < aA (B.getD (B.length - 2) (0, 0)) x (T.getD 1 (0, 0)) := by
  have l1 := eB (i := B.length - 2) (by omega)
  have l2 := eT (i := 0) (by omega)
  rw [show B.length - 2 + 1 = B.length - 1 by omega, b1] at l1
  rw [t0] at l2
  have l0 := l1 _ (mT (i := 1) (by omega))
  by_cases z : aA (B.getD (B.length - 2) (0, 0)) x (T.getD 1 (0, 0)) = 0
  ·have u := gM pb (show B.length - 2 < B.length - 1 by omega) (by omega)
   have v := gM pt (show 0 < 1 by omega) (show 1 < T.length by omega)
   rw [b1] at u
   rw [t0] at v
   have u := kB u
   have v := kB v
   have n : ∀ a b : Int, -1 * (a - b) = b - a := fun a b => by omega
   have := aAt (e := -1) (.inr rfl) (by rw [n, n]; exact u) (by rw [n, n]; exact v) z (l1 q hq) (l2 q hq) (l1 y my) (l2 y my)
   rw [fX] at this
   omega
  ·omega
 have hR : (T.dropLast ++ B.dropLast).length = T.length - 1 + (B.length - 1) := by simp
 have gt : ∀ i, i < T.length -> (T.dropLast ++ B.dropLast).getD i (0, 0) = T.getD i (0, 0) := fun i h => by
  by_cases z : i < T.length - 1
  ·rw [List.getD_eq_getElem?_getD, List.getElem?_append_left (by simpa using z), List.getElem?_dropLast, if_pos z]
   rfl
  ·have e : i = T.length - 1 := by omega
   rw [e, t1, List.getD_eq_getElem?_getD, List.getElem?_append_right (by simp), List.length_dropLast, Nat.sub_self, List.getElem?_dropLast, if_pos (by omega), <- b0]
   rfl
 have gb : ∀ j, j < B.length - 1 -> (T.dropLast ++ B.dropLast).getD (T.length - 1 + j) (0, 0) = B.getD j (0, 0) := fun j h => by
  rw [List.getD_eq_getElem?_getD, List.getElem?_append_right (by simp), List.length_dropLast, Nat.add_sub_cancel_left, List.getElem?_dropLast, if_pos h]
  rfl
 let g : Nat -> Q2 := fun i => if i < T.length then T.getD i (0, 0) else B.getD (i - (T.length - 1)) (0, 0)
 have g1 : ∀ i, i < T.length -> g i = T.getD i (0, 0) := fun i h => if_pos h
 have g2 : ∀ j, g (T.length - 1 + j) = B.getD j (0, 0) := fun j => by
  show (if _ then _ else _) = _
  by_cases z : j = 0
  ·rw [z, if_pos (by omega), Nat.add_zero, t1, b0]
  ·rw [if_neg (by omega), Nat.add_sub_cancel_left]
 have gR : ∀ i, i < T.length - 1 + (B.length - 1) -> (T.dropLast ++ B.dropLast).getD i (0, 0) = g i := fun i h => by
  by_cases z : i < T.length
  ·rw [gt i z, g1 i z]
  ·rw [show i = T.length - 1 + (i - (T.length - 1)) by omega, gb _ (by omega), g2]
 have gl : g (T.length - 1 + (B.length - 1)) = x := by rw [g2, b1]
 have g0 : g 0 = x := by rw [g1 0 (by omega), t0]
 have A : ∀ i, i + 2 <= T.length - 1 + (B.length - 1) -> 0 < aA (g i) (g (i + 1)) (g (i + 2)) := fun i h => by
  by_cases z : i + 2 < T.length
  ·rw [g1 _ z, g1 _ (by omega), g1 _ (by omega)]
   exact cT z
  ·by_cases z' : i + 2 = T.length
   ·have q1 := g1 i (by omega)
    have q2 := g1 (i + 1) (by omega)
    have q3 := g2 1
    rw [show T.length - 1 + 1 = i + 2 by omega] at q3
    rw [q1, q2, q3, show i = T.length - 2 by omega, show T.length - 2 + 1 = T.length - 1 by omega, t1]
    exact cy
   ·obtain ⟨j, rfl⟩ : ∃ j, i = T.length - 1 + j := ⟨i - (T.length - 1), by omega⟩
    rw [Nat.add_assoc, Nat.add_assoc, g2, g2, g2]
    exact cB (by omega)
 have E : ∀ i, i + 1 <= T.length - 1 + (B.length - 1) -> ∀ q ∈ ps, 0 <= aA (g i) (g (i + 1)) q := fun i h q hq => by
  by_cases z : i + 1 < T.length
  ·rw [g1 _ z, g1 _ (by omega)]
   exact eT z q hq
  ·obtain ⟨j, rfl⟩ : ∃ j, i = T.length - 1 + j := ⟨i - (T.length - 1), by omega⟩
   rw [Nat.add_assoc, g2, g2]
   exact eB (by omega) q hq
 refine ⟨by omega, by rw [gR 0 (by omega), g0], ?_, ?_, fun k hk => ?_, fun k hk q hq => ?_⟩
 ·have ndT : T.Nodup := pt.imp gY
  have ndB : B.Nodup := pb.imp fun h => (gY h).symm
  refine List.nodup_append.mpr ⟨ndT.sublist (List.dropLast_sublist _), ndB.sublist (List.dropLast_sublist _), fun a ha b hb e => ?_⟩
  subst e
  obtain ⟨i, hi, ei⟩ := List.getElem_of_mem ha
  obtain ⟨j, hj, ej⟩ := List.getElem_of_mem hb
  rw [List.length_dropLast] at hi hj
  rw [List.getElem_dropLast] at ei ej
  have ei : T.getD i (0, 0) = a := (getD_get (by omega)).trans ei
  have ej : B.getD j (0, 0) = a := (getD_get (by omega)).trans ej
  have i0 : 0 < i := Nat.pos_of_ne_zero fun z => by
   subst z
   have := gY (gM pb (show j < B.length - 1 by omega) (by omega))
   rw [b1, ej] at this
   exact this (t0.symm.trans ei)
  have j0 : 0 < j := Nat.pos_of_ne_zero fun z => by
   subst z
   have := gY (gM pt (show i < T.length - 1 by omega) (by omega))
   rw [t1, ei] at this
   exact this (ej.symm.trans b0)
  have c1 := cT (i := i - 1) (by omega)
  have o1 := gM pt (show i - 1 < i by omega) (by omega)
  have o2 := gM pt (show i < i + 1 by omega) (by omega)
  have o3 := gM pb (show j - 1 < j by omega) (by omega)
  have l1 := eB (i := j - 1) (by omega) _ (mT (i := i - 1) (by omega))
  have l2 := eB (i := j - 1) (by omega) _ (mT (i := i + 1) (by omega))
  rw [show i - 1 + 1 = i by omega, show i - 1 + 2 = i + 1 by omega, ei] at c1
  rw [show j - 1 + 1 = j by omega, ej] at l1 l2
  rw [ei] at o1 o2
  rw [ej] at o3
  exact apart o1 o2 o3 c1 l1 l2
 ·intro p hp
  rcases List.mem_append.mp hp with z | z
  ·exact wt.sub.subset ((List.dropLast_sublist _).subset z)
  ·exact List.mem_reverse.mp (wb.sub.subset ((List.dropLast_sublist _).subset z))
 ·rw [hR] at hk
  unfold pr
  rw [hR, gR k hk]
  by_cases k0 : k = 0
  ·subst k0
   rw [if_pos (by omega), if_pos (by omega), gR _ (by omega), gR _ (by omega), g0, <- gl]
   have := A (T.length - 1 + (B.length - 1) - 2) (by omega)
   rw [show T.length - 1 + (B.length - 1) - 2 + 1 = T.length - 1 + (B.length - 1) + 0 - 1 by omega, show T.length - 1 + (B.length - 1) - 2 + 2 = T.length - 1 + (B.length - 1) by omega] at this
   exact this
  ·by_cases k1 : k = 1
   ·subst k1
    rw [if_pos (by omega), if_neg (by omega), gR _ (by omega), gR _ (by omega), g0, show T.length - 1 + (B.length - 1) + 1 - 2 = T.length - 1 + (B.length - 2) by omega, g2, g1 1 (by omega)]
    exact cx
   ·rw [if_neg (by omega), if_neg (by omega), gR _ (by omega), gR _ (by omega)]
    have := A (k - 2) (by omega)
    rw [show k - 2 + 1 = k - 1 by omega, show k - 2 + 2 = k by omega] at this
    exact this
 ·rw [hR] at hk
  unfold pr
  rw [hR, gR k hk]
  by_cases k0 : k = 0
  ·subst k0
   rw [if_pos (by omega), gR _ (by omega), g0, <- gl]
   have := E (T.length - 1 + (B.length - 1) - 1) (by omega) q hq
   rw [show T.length - 1 + (B.length - 1) - 1 + 1 = T.length - 1 + (B.length - 1) by omega] at this
   exact this
  ·rw [if_neg (by omega), gR _ (by omega)]
   have := E (k - 1) (by omega) q hq
   rw [show k - 1 + 1 = k by omega] at this
   exact this
theorem qB {P T : List Q2} {lt : Q2 -> Q2 -> Prop} {x y : Q2} (w : Way P T lt x y) (hxy : x ≠ y) (hf : ∀ q ∈ P, aA x y q = 0) : T = [x, y] := by
 obtain ⟨m2, t0, t1⟩ := o5 w hxy
 match T, w, m2, t0, t1 with
 | [a, b], _, _, t0, t1 =>
  have t0 : a = x := t0
  have t1 : b = y := t1
  rw [t0, t1]
 | a :: b :: c :: r, w, _, t0, _ =>
  have t0 : a = x := t0
  have := w.conv 0 (by simp)
  have this : 0 < aA a b c := this
  rw [t0, (uA hxy (hf b (w.sub.subset (.tail _ (.head _)))) (hf c (w.sub.subset (.tail _ (.tail _ (.head _)))))).1] at this
  omega
def bM (ps : List Q2) : List Q2 := if ps.length = 1 then ps else (aS ps).reverse.dropLast ++ (aS ps.reverse).reverse.dropLast
theorem fY {ps : List Q2} {x y : Q2} (hs : ps.Pairwise ltQ) (hx : ps.head? = some x) (hy : ps.getLast? = some y) : if ∀ q ∈ ps, aA x y q = 0 then bM ps = if x = y then [x] else [x, y] else RingOk (bM ps) ps x := by
 match ps, hs, hx, hy with
 | [p], _, hx, hy =>
  have hx : p = x := Option.some.inj hx
  have hy : p = y := Option.some.inj hy
  subst hx
  subst hy
  rw [if_pos (fun q hq => by exact mR _ _), if_pos rfl]
  rfl
 | p :: p' :: r, hs, hx, hy =>
  have hxy : x ≠ y := by
   have hx : p = x := Option.some.inj hx
   subst hx
   have hm : y ∈ p' :: r := by
    rw [List.getLast?_cons_cons] at hy
    exact List.mem_of_getLast? hy
   exact gY (List.rel_of_pairwise_cons hs hm)
  have wt := aA6 (e := -1) (.inr rfl) hx hy (by simpa using hs)
  have wb := aA6 (e := 1) (.inl rfl) (ps := (p :: p' :: r).reverse) (x := y) (y := x) (by rw [List.head?_reverse]; exact hy) (by rw [List.getLast?_reverse]; exact hx) (by rw [List.pairwise_reverse]; exact hs.imp fun h => by rw [if_pos rfl]; exact h)
  have eh : bM (p :: p' :: r) = (aS (p :: p' :: r)).reverse.dropLast ++ (aS (p :: p' :: r).reverse).reverse.dropLast := if_neg (by simp)
  by_cases z : ∀ q ∈ p :: p' :: r, aA x y q = 0
  ·rw [if_pos z, if_neg hxy, eh, qB wt hxy z, qB wb (fun e => hxy e.symm) (fun q hq => by
    have := z q (List.mem_reverse.mp hq)
    rw [fX]
    omega)]
   rfl
  ·rw [if_neg z, eh]
   refine aB4 hs wt wb hxy ?_
   by_cases w : ∃ q ∈ p :: p' :: r, aA x y q ≠ 0
   ·exact w
   ·exact absurd (fun q hq => Decidable.byContradiction fun h => w ⟨q, hq, h⟩) z
end N
namespace N
def edg (R : List Q2) : List (Q2 × Q2) := (List.range R.length).map fun k => (pr R k 1, R.getD k (0, 0))
def crs (e : Q2 × Q2) : Int := aA (0, 0) e.1 e.2
def fD (R : List Q2) : Int := ((edg R).map crs).sum
def Flt (ps : List Q2) : Prop := ∀ a ∈ ps, ∀ b ∈ ps, ∀ c ∈ ps, aA a b c = 0
theorem aFa {R : List Q2} {k : Nat} (hk : k < R.length) : pr R k 1 = R.getD (if k = 0 then R.length - 1 else k - 1) (0, 0) := by
 unfold pr
 by_cases z : k = 0
 ·rw [if_pos z, if_pos (by omega), z, Nat.add_zero]
 ·rw [if_neg z, if_neg (by omega)]
theorem aIo {R : List Q2} {k : Nat} (hk : k < R.length) (h2 : 2 <= R.length) : pr R k 2 = pr R (if k = 0 then R.length - 1 else k - 1) 1 := by
 unfold pr
 by_cases z : k = 0
 ·rw [if_pos z, if_pos (by omega), if_neg (by omega), z]
  congr 1
 ·rw [if_neg z]
  by_cases w : k = 1
  ·rw [w, if_pos (by omega), if_pos (by omega)]
   congr 1
  ·rw [if_neg (by omega), if_neg (by omega)]
   congr 1
theorem aGm {R : List Q2} {i : Nat} (hi : i < R.length) : ∃ k, k < R.length /\ pr R k 1 = R.getD i (0, 0) /\ (2 <= R.length -> pr R k 2 = pr R i 1) := by
 refine ⟨if i + 1 = R.length then 0 else i + 1, by split <;> omega, ?_, fun h2 => ?_⟩
 ·rw [aFa (by split <;> omega)]
  congr 1
  split <;> split <;> omega
 ·rw [aIo (by split <;> omega) h2]
  congr 1
  split <;> split <;> omega
theorem aAx {R : List Q2} {r : Q2} (h : r ∈ R) : ∃ k, k < R.length /\ pr R k 1 = r := by
 obtain ⟨i, hi, e⟩ := List.mem_iff_getElem.mp h
 obtain ⟨k, hk, e1, _⟩ := aGm hi
 exact ⟨k, hk, by rw [e1, getD_get hi, e]⟩
theorem hU {R : List Q2} {k d : Nat} (hk : k < R.length) (hd : d <= R.length) : pr R k d ∈ R := by
 unfold pr
 have : (if k < d then R.length + k - d else k - d) < R.length \/ d = 0 := by split <;> omega
 rcases this with h | h
 ·rw [getD_get h]; exact List.getElem_mem h
 ·subst h
  rw [if_neg (by omega), Nat.sub_zero, getD_get hk]; exact List.getElem_mem hk
theorem get_mem {R : List Q2} {k : Nat} (hk : k < R.length) : R.getD k (0, 0) ∈ R := by rw [getD_get hk]; exact List.getElem_mem hk
section
variable {R P : List Q2} {x : Q2}
theorem RingOk.left2 (ok : RingOk R P x) {k : Nat} (hk : k < R.length) : ∀ q ∈ P, 0 <= aA (pr R k 2) (pr R k 1) q := fun q hq => by
 have h3 := ok.len
 rw [aIo hk (by omega), aFa hk]
 exact ok.left _ (by split <;> omega) q hq
def Edg (P : List Q2) (u v : Q2) : Prop := u ∈ P /\ v ∈ P /\ u ≠ v /\ ∀ q ∈ P, 0 <= aA u v q /\ (aA u v q = 0 -> ∀ w ∈ P, 0 <= aA q v w /\ 0 <= aA u q w)
theorem bS {a b c : Int} (hb : 0 < b) (h : a * b = c) (hc : 0 <= c) : 0 <= a := by
 by_cases z : 0 <= a
 ·exact z
 ·have := Int.mul_neg_of_neg_of_pos (Int.not_le.mp z) hb
  omega
theorem jI (ok : RingOk R P x) {u v : Q2} (h : (u, v) ∈ edg R) : Edg P u v := by
 unfold edg at h
 obtain ⟨k, hk, e⟩ := List.mem_map.mp h
 have hk := List.mem_range.mp hk
 have h3 := ok.len
 injection e with e1 e2
 obtain ⟨j, hj, j1, j2⟩ := aGm hk
 have j2 := j2 (by omega)
 have c1 := ok.conv k hk
 have c2 := ok.conv j hj
 have l1 := ok.left2 hk
 have l2 := ok.left k hk
 have l3 := ok.left j hj
 rw [e1, e2] at c1
 rw [j1, j2, e1, e2] at c2
 rw [e1] at l1
 rw [e1, e2] at l2
 rw [j1, e2] at l3
 generalize pr R k 2 = s at c1 l1
 generalize R.getD j (0, 0) = t at c2 l3
 refine ⟨e1 ▸ ok.sub _ (hU hk (by omega)), e2 ▸ ok.sub _ (get_mem hk), fun z => ?_, fun q hq => ⟨l2 q hq, fun h0 w hw => ⟨?_, ?_⟩⟩⟩
 ·subst z
  have : aA s u u = 0 := by unfold aA; grind
  omega
 ·have w1 := l2 w hw
  have q1 := l3 q hq
  refine bS (b := aA u v t) (c := aA v t q * aA u v w) c2 ?_ (Int.mul_nonneg q1 w1)
  unfold aA at h0 ⊢
  grind
 ·have w1 := l2 w hw
  have q1 := l1 q hq
  refine bS (b := aA s u v) (c := aA s u q * aA u v w) c1 ?_ (Int.mul_nonneg q1 w1)
  unfold aA at h0 ⊢
  grind
theorem n8 {α : Type} (f : α -> Int) : ∀ {l : List α}, l ≠ [] -> ∃ a ∈ l, ∀ b ∈ l, f a <= f b
 | [a], _ => ⟨a, .head _, fun b hb => by rw [List.mem_singleton.mp hb]; exact Int.le_refl _⟩
 | a :: b :: r, _ => by
  obtain ⟨m, hm, h⟩ := n8 f (List.cons_ne_nil b r)
  by_cases z : f a <= f m
  ·refine ⟨a, .head _, fun c hc => ?_⟩
   rcases List.mem_cons.mp hc with e | e
   ·rw [e]; exact Int.le_refl _
   ·exact Int.le_trans z (h c e)
  ·refine ⟨m, .tail _ hm, fun c hc => ?_⟩
   rcases List.mem_cons.mp hc with e | e
   ·rw [e]; omega
   ·exact h c e
theorem qZ (ok : RingOk R P x) (c1 c2 : Int) : ∃ r ∈ R, ∀ q ∈ P, c1 * r.1 + c2 * r.2 <= c1 * q.1 + c2 * q.2 := by
 have h3 := ok.len
 obtain ⟨r, hr, hm⟩ := n8 (fun r : Q2 => c1 * r.1 + c2 * r.2) (l := R) (fun z => by rw [z] at h3; simp at h3)
 refine ⟨r, hr, fun q hq => ?_⟩
 obtain ⟨k, hk, e⟩ := aAx hr
 have cv := ok.conv k hk
 have l1 := ok.left2 hk q hq
 have l2 := ok.left k hk q hq
 have ms := hm _ (hU (d := 2) hk (by omega))
 have mp := hm _ (get_mem hk)
 rw [e] at cv l1 l2
 generalize pr R k 2 = s at cv l1 ms
 generalize R.getD k (0, 0) = p at cv l2 mp
 have := bS (a := c1 * q.1 + c2 * q.2 - (c1 * r.1 + c2 * r.2)) (b := aA s r p) (c := aA s r q * (c1 * p.1 + c2 * p.2 - (c1 * r.1 + c2 * r.2)) + aA r p q * (c1 * s.1 + c2 * s.2 - (c1 * r.1 + c2 * r.2))) cv (by unfold aA; grind) (Int.add_nonneg (Int.mul_nonneg l1 (by omega)) (Int.mul_nonneg l2 (by omega)))
 omega
theorem aAv (f : Q2 -> Int) : ∀ ps : List Q2, ∃ A : Int, 0 <= A /\ ∀ p ∈ ps, -A <= f p /\ f p <= A
 | [] => ⟨0, Int.le_refl _, fun _ h => nomatch h⟩
 | p :: ps => by
  obtain ⟨M, m1, m2⟩ := aAv f ps
  refine ⟨M + (f p).natAbs, by omega, fun q hq => ?_⟩
  rcases List.mem_cons.mp hq with z | z
  ·rw [z]; omega
  ·have := m2 q z; omega
theorem iG (ok : RingOk R P x) {u v : Q2} (hne : u ≠ v) : ∃ z ∈ P, aA u v z ≠ 0 := by
 by_cases h : ∃ z ∈ P, aA u v z ≠ 0
 ·exact h
 have h : ∀ z ∈ P, aA u v z = 0 := fun z hz => Decidable.byContradiction fun w => h ⟨z, hz, w⟩
 have h3 := ok.len
 have cv := ok.conv 0 (by omega)
 have m0 := h _ (ok.sub _ (hU (d := 2) (k := 0) (by omega) (by omega)))
 have m1 := h _ (ok.sub _ (hU (d := 1) (k := 0) (by omega) (by omega)))
 have m2 := h _ (ok.sub _ (get_mem (k := 0) (by omega)))
 generalize pr R 0 2 = a at cv m0
 generalize pr R 0 1 = b at cv m1
 generalize R.getD 0 (0, 0) = d at cv m2
 have e1 : aA a b d * (v.1 - u.1) = 0 := by unfold aA at m0 m1 m2 ⊢; grind
 have e2 : aA a b d * (v.2 - u.2) = 0 := by unfold aA at m0 m1 m2 ⊢; grind
 rcases Int.mul_eq_zero.mp e1 with w | w
 ·omega
 rcases Int.mul_eq_zero.mp e2 with w' | w'
 ·omega
 exact absurd (Prod.ext (by omega) (by omega)) hne
theorem aB5 (ok : RingOk R P x) {u v : Q2} (h : Edg P u v) : u ∈ R := by
 obtain ⟨hu, hv, hne, hq⟩ := h
 obtain ⟨z, hz, hz0⟩ := iG ok hne
 have hz1 := (hq z hz).1
 obtain ⟨A, A0, hA⟩ := aAv (fun w => aA u w z) P
 obtain ⟨r, hr, hm⟩ := qZ ok ((A + 1) * -(v.2 - u.2) + (z.2 - u.2)) ((A + 1) * (v.1 - u.1) - (z.1 - u.1))
 have rP := ok.sub r hr
 have g := hm u hu
 have f : (A + 1) * aA u v r + aA u r z <= 0 := by
  have e : (A + 1) * aA u v r + aA u r z = (((A + 1) * -(v.2 - u.2) + (z.2 - u.2)) * r.1 + ((A + 1) * (v.1 - u.1) - (z.1 - u.1)) * r.2) - (((A + 1) * -(v.2 - u.2) + (z.2 - u.2)) * u.1 + ((A + 1) * (v.1 - u.1) - (z.1 - u.1)) * u.2) := by unfold aA; grind
  omega
 obtain ⟨r0, r1⟩ := hq r rP
 have ra := hA r rP
 have t0 : aA u v r = 0 := by
  by_cases w : aA u v r = 0
  ·exact w
  ·have := Int.mul_le_mul_of_nonneg_left (show 1 <= aA u v r by omega) (show 0 <= A + 1 by omega)
   omega
 have b := (r1 t0 z hz).2
 rw [t0, Int.mul_zero] at f
 have b0 : aA u r z = 0 := by omega
 have e1 : aA u v z * (r.1 - u.1) = 0 := by unfold aA at t0 b0 ⊢; grind
 have e2 : aA u v z * (r.2 - u.2) = 0 := by unfold aA at t0 b0 ⊢; grind
 have w1 : r.1 - u.1 = 0 := (Int.mul_eq_zero.mp e1).resolve_left hz0
 have w2 : r.2 - u.2 = 0 := (Int.mul_eq_zero.mp e2).resolve_left hz0
 have e : r = u := Prod.ext (by omega) (by omega)
 rw [<- e]
 exact hr
theorem uS (ok : RingOk R P x) {u v : Q2} (h : Edg P u v) : (u, v) ∈ edg R := by
 have hu := aB5 ok h
 obtain ⟨k, hk, e⟩ := aAx hu
 have me : (u, R.getD k (0, 0)) ∈ edg R := List.mem_map.mpr ⟨k, List.mem_range.mpr hk, by rw [e]⟩
 obtain ⟨pu, pp, np, hp⟩ := jI ok me
 generalize R.getD k (0, 0) = p at me pp np hp
 obtain ⟨_, pv, nv, hv⟩ := h
 by_cases z : p = v
 ·rw [<- z]; exact me
 exfalso
 have a1 := (hv p pp).1
 have a2 := (hp v pv).1
 have s : aA u p v = - aA u v p := by unfold aA; grind
 have z1 : aA u v p = 0 := by omega
 have z2 : aA u p v = 0 := by omega
 obtain ⟨w, hw, hw0⟩ := iG ok z
 have b1 := ((hv p pp).2 z1 w hw).1
 have b2 := ((hp v pv).2 z2 w hw).1
 have s2 : aA v p w = - aA p v w := by unfold aA; grind
 omega
theorem mH (ok : RingOk R P x) {e : Q2 × Q2} : e ∈ edg R ↔ Edg P e.1 e.2 := ⟨fun h => jI ok (u := e.1) (v := e.2) h, fun h => uS ok h⟩
theorem w8 (ok : RingOk R P x) : (edg R).Nodup := by
 unfold edg
 refine List.pairwise_map.mpr (List.Pairwise.imp_of_mem (fun {i j} hi hj hij e => ?_) (List.nodup_range (n := R.length)))
 injection e with _ e
 have hi := List.mem_range.mp hi
 have hj := List.mem_range.mp hj
 rw [getD_get hi, getD_get hj] at e
 rcases Nat.lt_or_gt_of_ne hij with z | z
 ·exact List.pairwise_iff_getElem.mp ok.nd i j hi hj z e
 ·exact List.pairwise_iff_getElem.mp ok.nd j i hj hi z e.symm
end
end N
namespace N
theorem mD {l m : List Int} (h : l.Perm m) : l.sum = m.sum := by
 induction h with
 | nil => rfl
 | cons x _ ih => rw [List.sum_cons, List.sum_cons, ih]
 | swap x y l => simp only [List.sum_cons]; omega
 | trans _ _ i1 i2 => exact i1.trans i2
theorem vC {α : Type} (D : Int) {f g : α -> Int} : ∀ {l : List α}, (∀ e ∈ l, f e = D * g e) -> (l.map f).sum = D * (l.map g).sum
 | [], _ => by simp
 | x :: l, h => by
  rw [List.map_cons, List.map_cons, List.sum_cons, List.sum_cons, vC D (l := l) fun y hy => h y (.tail _ hy), h x (.head _), Int.mul_add]
theorem wZ {α : Type} {f g h1 h2 : α -> Int} : ∀ {l : List α}, (∀ e, f e = g e - h1 e + h2 e) -> (l.map f).sum = (l.map g).sum - (l.map h1).sum + (l.map h2).sum
 | [], _ => rfl
 | x :: l, h => by
  simp only [List.map_cons, List.sum_cons]
  rw [wZ (l := l) h, h x]
  omega
theorem gK {β : Type} (h : Q2 -> β) : ∀ L : List Q2, (List.range L.length).map (fun i => h (L.getD i (0, 0))) = L.map h := fun L => by
 refine List.ext_getElem (by simp) fun i h1 h2 => ?_
 rw [List.length_map, List.length_range] at h1
 rw [List.getElem_map, List.getElem_map, List.getElem_range, getD_get h1]
theorem aIv (h : Q2 -> Int) (R : List Q2) : ((edg R).map fun e => h e.1).sum = ((edg R).map fun e => h e.2).sum := by
 have e2 : ((edg R).map fun e => h e.2) = R.map h := by
  unfold edg
  rw [List.map_map]
  exact gK h R
 rw [e2]
 rcases List.eq_nil_or_concat R with z | ⟨Q, l, z⟩
 ·rw [z]; rfl
 ·have z : R = Q ++ [l] := by rw [z, List.concat_eq_append]
  have hl : R.length = Q.length + 1 := by rw [z, List.length_append]; rfl
  have e1 : ((edg R).map fun e => h e.1) = h l :: Q.map h := by
   unfold edg
   rw [List.map_map, hl, List.range_succ_eq_map, List.map_cons, List.map_map]
   congr 1
   ·show h (pr R 0 1) = h l
    rw [aFa (by omega), if_pos rfl, hl, z]
    simp
   ·rw [<- gK h Q]
    refine List.map_congr_left fun i hi => ?_
    have hi := List.mem_range.mp hi
    show h (pr R (i + 1) 1) = h (Q.getD i (0, 0))
    rw [aFa (by omega), if_neg (by omega), Nat.add_sub_cancel, z, List.getD_eq_getElem?_getD, List.getElem?_append_left hi, List.getD_eq_getElem?_getD]
  rw [e1, z, List.map_append, List.sum_append, List.sum_cons]
  simp
  omega
theorem oO (o : Q2) (R : List Q2) : ((edg R).map fun e => aA o e.1 e.2).sum = fD R := by
 have t := wZ (f := fun e : Q2 × Q2 => aA o e.1 e.2) (g := crs) (h1 := fun e => e.1.1 * o.2 - e.1.2 * o.1) (h2 := fun e => e.2.1 * o.2 - e.2.2 * o.1) (l := edg R) fun e => by unfold crs aA; grind
 rw [t, aIv (fun p => p.1 * o.2 - p.2 * o.1) R]
 unfold fD
 omega
theorem aHy {u v a b d : Q2} (hne : u ≠ v) (m0 : aA u v a = 0) (m1 : aA u v b = 0) (m2 : aA u v d = 0) : aA a b d = 0 := by
 have e1 : aA a b d * (v.1 - u.1) = 0 := by unfold aA at m0 m1 m2 ⊢; grind
 have e2 : aA a b d * (v.2 - u.2) = 0 := by unfold aA at m0 m1 m2 ⊢; grind
 rcases Int.mul_eq_zero.mp e1 with w | w
 ·exact w
 rcases Int.mul_eq_zero.mp e2 with w' | w'
 ·exact w'
 exact absurd (Prod.ext (by omega) (by omega)) hne
def Hl (ps R : List Q2) : Prop := (Flt ps /\ fD R = 0) \/ (¬ Flt ps /\ ∃ x, RingOk R ps x)
theorem xW (x : Q2) : fD [x] = 0 := by
 show crs (x, x) + 0 = 0
 unfold crs aA
 grind
theorem xT (x y : Q2) : fD [x, y] = 0 := by
 show crs (y, x) + (crs (x, y) + 0) = 0
 unfold crs aA
 grind
theorem lS {rs ps : List Q2} (hs : rs.Pairwise ltQ) (hm : ∀ p, p ∈ rs ↔ p ∈ ps) (h0 : rs ≠ []) : Hl ps (bM rs) := by
 obtain ⟨x, hx⟩ : ∃ x, rs.head? = some x := by
  cases rs with
  | nil => exact absurd rfl h0
  | cons a r => exact ⟨a, rfl⟩
 obtain ⟨y, hy⟩ : ∃ y, rs.getLast? = some y := by
  cases e : rs.getLast? with
  | none => exact absurd (List.getLast?_eq_none_iff.mp e) h0
  | some a => exact ⟨a, rfl⟩
 have hr := fY hs hx hy
 have xm := (hm x).mp (List.mem_of_head? hx)
 have ym := (hm y).mp (List.mem_of_getLast? hy)
 by_cases z : ∀ q ∈ rs, aA x y q = 0
 ·rw [if_pos z] at hr
  refine .inl ⟨?_, ?_⟩
  ·by_cases w : x = y
   ·have all : ∀ q ∈ rs, q = x := fun q hq => by
     cases rs with
     | nil => cases hq
     | cons a r =>
      have e : a = x := Option.some.inj hx
      rcases List.mem_cons.mp hq with k | k
      ·rw [k, e]
      ·have hr' : r ≠ [] := fun z => by rw [z] at k; cases k
       have hl : y ∈ r := by
        have : (a :: r).getLast? = r.getLast? := by
         cases r with
         | nil => exact absurd rfl hr'
         | cons b s => exact List.getLast?_cons_cons
        rw [this] at hy
        exact List.mem_of_getLast? hy
       exact absurd (e.trans w) (gY (List.rel_of_pairwise_cons hs hl))
    intro a ha b hb c hc
    rw [all a ((hm a).mpr ha), all b ((hm b).mpr hb)]
    exact mR _ _
   ·intro a ha b hb c hc
    exact aHy w (z a ((hm a).mpr ha)) (z b ((hm b).mpr hb)) (z c ((hm c).mpr hc))
  ·rw [hr]
   split
   ·exact xW x
   ·exact xT x y
 ·rw [if_neg z] at hr
  refine .inr ⟨fun f => z fun q hq => f x xm y ym q ((hm q).mp hq), x, ?_⟩
  exact ⟨hr.len, hr.h0, hr.nd, fun p hp => (hm p).mp (hr.sub p hp), hr.conv, fun k hk q hq => hr.left k hk q ((hm q).mpr hq)⟩
theorem Hl.zero {ps R : List Q2} (h : Hl ps R) (f : Flt ps) : fD R = 0 := by
 rcases h with ⟨_, h⟩ | ⟨g, _⟩
 ·exact h
 ·exact absurd f g
theorem yF {P P' R R' : List Q2} {x x' o o' : Q2} {D : Int} (ψ : Q2 × Q2 -> Q2 × Q2) (inj : ∀ a b, ψ a = ψ b -> a = b) (ok : RingOk R P x) (ok' : RingOk R' P' x') (h : ∀ e', Edg P' e'.1 e'.2 ↔ ∃ e : Q2 × Q2, e' = ψ e /\ Edg P e.1 e.2) (s : ∀ e, aA o' (ψ e).1 (ψ e).2 = D * aA o e.1 e.2) : fD R' = D * fD R := by
 have pm : (edg R').Perm ((edg R).map ψ) := L2.iP (w8 ok') (List.Pairwise.map ψ (fun a b hab e => hab (inj a b e)) (w8 ok)) fun e' => by
  rw [mH ok', h e', List.mem_map]
  constructor
  ·rintro ⟨e, rfl, he⟩; exact ⟨e, (mH ok).mpr he, rfl⟩
  ·rintro ⟨e, he, rfl⟩; exact ⟨e, rfl, (mH ok).mp he⟩
 rw [<- oO o' R', <- oO o R, mD (pm.map _), List.map_map]
 exact vC D fun e _ => s e
theorem kP {α : Type} [DecidableEq α] : ∀ {l m : List α}, l.Nodup -> (∀ x ∈ l, x ∈ m) -> l.length <= m.length
 | [], m, _, _ => Nat.zero_le _
 | a :: l, m, h, hs => by
  obtain ⟨h1, h2⟩ := List.nodup_cons.mp h
  have am := hs a (.head _)
  have := kP (l := l) (m := m.erase a) h2 fun x hx => (List.mem_erase_of_ne fun e => h1 (by rw [<- e]; exact hx)).mpr (hs x (.tail _ hx))
  rw [List.length_erase_of_mem am] at this
  have := List.length_pos_of_mem am
  rw [List.length_cons]
  omega
end N
namespace N
def ab (i : Int) : Int := if i < 0 then -i else i
def dst (p q : Q2) : Int := ab (q.1 - p.1) + ab (q.2 - p.2)
def g9 (r far p : Q2) : Bool := if aA r far p ≠ 0 then decide (aA r far p < 0) else decide (dst r far < dst r p)
def fT (r : Q2) (far : Option Q2) (p : Q2) : Option Q2 := match far with
 | none => if p ≠ r then some p else none
 | some f => if p ≠ r /\ g9 r f p = true then some p else some f
def iC (ps : List Q2) (r : Q2) : Option Q2 := ps.foldl (fT r) none
structure Nxt (ps : List Q2) (r v : Q2) : Prop where
 mem : v ∈ ps
 ne : v ≠ r
 stay : ∀ p ∈ ps, g9 r v p = false
 win : ∀ p ∈ ps, p ≠ r -> p ≠ v -> g9 r p v = true
theorem nM {ps : List Q2} {r v : Q2} : ∀ qs : List Q2, (∀ p ∈ qs, g9 r v p = false) -> qs.foldl (fT r) (some v) = some v
 | [], _ => rfl
 | q :: qs, h => by
  rw [List.foldl_cons]
  have e : fT r (some v) q = some v := by
   show (if q ≠ r /\ g9 r v q = true then some q else some v) = some v
   rw [if_neg]
   rintro ⟨_, z⟩
   rw [h q (.head _)] at z
   cases z
  rw [e]
  exact nM (ps := ps) qs fun p hp => h p (.tail _ hp)
theorem pG {ps : List Q2} {r v : Q2} (h : Nxt ps r v) : iC ps r = some v := by
 have go : ∀ (qs : List Q2) (far : Option Q2), (∀ p ∈ qs, p ∈ ps) -> v ∈ qs -> (∀ f, far = some f -> f ∈ ps /\ f ≠ r) -> qs.foldl (fT r) far = some v := by
  intro qs
  induction qs with
  | nil => exact fun far _ hv _ => nomatch hv
  | cons q qs ih =>
   intro far hs hv hf
   rw [List.foldl_cons]
   by_cases e : q = v
   ·have e1 : fT r far q = some v := by
     subst e
     cases far with
     | none => exact if_pos h.ne
     | some f =>
      obtain ⟨f1, f2⟩ := hf f rfl
      show (if q ≠ r /\ g9 r f q = true then some q else some f) = some q
      by_cases z : f = q
      ·rw [z]; split <;> rfl
      ·exact if_pos ⟨h.ne, h.win f f1 f2 z⟩
    rw [e1]
    exact nM (ps := ps) qs fun p hp => h.stay p (hs p (.tail _ hp))
   ·have hv' : v ∈ qs := by
     rcases List.mem_cons.mp hv with z | z
     ·exact absurd z.symm e
     ·exact z
    refine ih _ (fun p hp => hs p (.tail _ hp)) hv' fun f ef => ?_
    have qm := hs q (.head _)
    cases far with
    | none =>
     have ef : (if q ≠ r then some q else none) = some f := ef
     by_cases z : q ≠ r
     ·rw [if_pos z] at ef
      rw [<- Option.some.inj ef]
      exact ⟨qm, z⟩
     ·rw [if_neg z] at ef; cases ef
    | some g =>
     have ef : (if q ≠ r /\ g9 r g q = true then some q else some g) = some f := ef
     by_cases z : q ≠ r /\ g9 r g q = true
     ·rw [if_pos z] at ef
      rw [<- Option.some.inj ef]
      exact ⟨qm, z.1⟩
     ·rw [if_neg z] at ef
      rw [<- Option.some.inj ef]
      exact hf g rfl
 exact go ps none (fun _ h => h) h.mem fun _ z => nomatch z
theorem aGc (i : Int) : 0 <= ab i := by unfold ab; split <;> omega
theorem aAr {i j : Int} (h : 0 <= j) : ab (j * i) = j * ab i := by
 unfold ab
 by_cases z : i < 0
 ·rw [if_pos z]
  by_cases w : j = 0
  ·subst w; simp
  ·have := Int.mul_neg_of_pos_of_neg (show 0 < j by omega) z
   rw [if_pos this, Int.mul_neg]
 ·rw [if_neg z]
  have := Int.mul_nonneg h (show 0 <= i by omega)
  rw [if_neg (by omega)]
theorem part {a d s t : Int} (h1 : t * a = s * d) (s0 : 0 <= s) (st : s <= t) (t0 : 0 < t) : ab a <= ab d /\ (s < t -> ab d ≠ 0 -> ab a < ab d) := by
 have e : t * ab a = s * ab d := by rw [<- aAr (by omega), <- aAr s0, h1]
 have nd := aGc d
 have na := aGc a
 constructor
 ·by_cases z : ab a <= ab d
  ·exact z
  ·have k1 := Int.mul_lt_mul_of_pos_left (Int.not_le.mp z) t0
   have k2 := Int.mul_le_mul_of_nonneg_right st nd
   omega
 ·intro lt n0
  by_cases z : ab a < ab d
  ·exact z
  ·have k1 := Int.mul_le_mul_of_nonneg_left (Int.not_lt.mp z) (show 0 <= t by omega)
   have k2 := Int.mul_lt_mul_of_pos_right lt (show 0 < ab d by omega)
   omega
theorem wA {i : Int} (h : ab i = 0) : i = 0 := by unfold ab at h; split at h <;> omega
theorem gG {r v w : Q2} {s t : Int} (h1 : t * (w.1 - r.1) = s * (v.1 - r.1)) (h2 : t * (w.2 - r.2) = s * (v.2 - r.2)) (s0 : 0 <= s) (st : s <= t) (t0 : 0 < t) : dst r w <= dst r v /\ (w ≠ v -> dst r w < dst r v) := by
 obtain ⟨a1, a2⟩ := part h1 s0 st t0
 obtain ⟨b1, b2⟩ := part h2 s0 st t0
 unfold dst
 refine ⟨by omega, fun hne => ?_⟩
 by_cases lt : s < t
 ·by_cases z1 : ab (v.1 - r.1) = 0
  ·by_cases z2 : ab (v.2 - r.2) = 0
   ·exfalso
    have y1 := wA z1
    have y2 := wA z2
    rw [y1, Int.mul_zero] at h1
    rw [y2, Int.mul_zero] at h2
    have x1 := (Int.mul_eq_zero.mp h1).resolve_left (by omega)
    have x2 := (Int.mul_eq_zero.mp h2).resolve_left (by omega)
    exact hne (Prod.ext (by omega) (by omega))
   ·have := b2 lt z2; omega
  ·have := a2 lt z1; omega
 ·exfalso
  have e : s = t := by omega
  subst e
  have x1 := Int.eq_of_mul_eq_mul_left (by omega) h1
  have x2 := Int.eq_of_mul_eq_mul_left (by omega) h2
  exact hne (Prod.ext (by omega) (by omega))
section
variable {R P : List Q2} {x : Q2}
theorem vD (ok : RingOk R P x) {r v : Q2} (h : (r, v) ∈ edg R) : Nxt P r v := by
 obtain ⟨mr, mv, hne, hq⟩ := jI ok h
 obtain ⟨z, hz, hz0⟩ := iG ok hne
 have zt := (hq z hz).1
 have key : ∀ p ∈ P, aA r v p = 0 -> dst r p <= dst r v /\ (p ≠ v -> dst r p < dst r v) := fun p hp h0 => by
  obtain ⟨b1, b2⟩ := (hq p hp).2 h0 z hz
  refine gG (s := aA r p z) (t := aA r v z) ?_ ?_ b2 ?_ (by omega)
  ·unfold aA at h0 ⊢; grind
  ·unfold aA at h0 ⊢; grind
  ·have e : aA p v z = aA r v z - aA r p z := by unfold aA at h0 ⊢; grind
   omega
 refine ⟨mv, fun e => hne e.symm, fun p hp => ?_, fun p hp pr pv => ?_⟩
 ·have h0 := (hq p hp).1
  unfold g9
  by_cases w : aA r v p ≠ 0
  ·rw [if_pos w]
   exact decide_eq_false (by omega)
  ·rw [if_neg w]
   have := (key p hp (Decidable.not_not.mp w)).1
   exact decide_eq_false (by omega)
 ·have h0 := (hq p hp).1
  have s : aA r p v = - aA r v p := by unfold aA; grind
  unfold g9
  by_cases w : aA r p v ≠ 0
  ·rw [if_pos w]
   exact decide_eq_true (by omega)
  ·rw [if_neg w]
   have := (key p hp (by have := Decidable.not_not.mp w; omega)).2 pv
   exact decide_eq_true this
end
def kC (ps : List Q2) (x : Q2) : Nat -> List Q2 -> Q2 -> List Q2
 | 0, acc, _ => acc
 | n + 1, acc, r => match iC ps r with
  | none => acc
  | some v => if v = x then acc else kC ps x n (acc ++ [v]) v
def sD (ps : List Q2) (x : Q2) : List Q2 := kC ps x ps.length [x] x
theorem tR {R P : List Q2} {x : Q2} (ok : RingOk R P x) (hl : R.length <= P.length) : sD P x = R := by
 have h3 := ok.len
 have go : ∀ (m k : Nat), k + 1 <= R.length -> R.length <= k + m -> kC P x m (R.take (k + 1)) (R.getD k (0, 0)) = R := by
  intro m
  induction m with
  | zero => intro k h1 h2; omega
  | succ m ih =>
   intro k h1 h2
   obtain ⟨j, hj, j1, _⟩ : ∃ j, j < R.length /\ pr R j 1 = R.getD k (0, 0) /\ j = (if k + 1 = R.length then 0 else k + 1) := by
    refine ⟨if k + 1 = R.length then 0 else k + 1, by split <;> omega, ?_, rfl⟩
    rw [aFa (by split <;> omega)]
    congr 1
    split <;> split <;> omega
   have ej : j = (if k + 1 = R.length then 0 else k + 1) := by assumption
   have me : (R.getD k (0, 0), R.getD j (0, 0)) ∈ edg R := List.mem_map.mpr ⟨j, List.mem_range.mpr hj, by rw [j1]⟩
   have pk := pG (vD ok me)
   show (match iC P (R.getD k (0, 0)) with | none => R.take (k + 1) | some v => if v = x then R.take (k + 1) else kC P x m (R.take (k + 1) ++ [v]) v) = R
   rw [pk]
   dsimp only
   by_cases z : k + 1 = R.length
   ·rw [if_pos z] at ej
    rw [ej, ok.h0, if_pos rfl, z, List.take_length]
   ·rw [if_neg z] at ej
    have hk : k + 1 < R.length := by omega
    have nx : R.getD j (0, 0) ≠ x := fun e => by
     rw [<- ok.h0, ej, getD_get hk, getD_get (show 0 < R.length by omega)] at e
     exact List.pairwise_iff_getElem.mp ok.nd 0 (k + 1) (by omega) hk (by omega) e.symm
    rw [if_neg nx, ej, getD_get hk]
    have t : R.take (k + 1) ++ [R[k + 1]] = R.take (k + 1 + 1) := List.take_append_getElem hk
    rw [t]
    have := ih (k + 1) (by omega) (by omega)
    rw [getD_get hk] at this
    exact this
 have := go P.length 0 (by omega) (by omega)
 rw [ok.h0] at this
 have t : R.take 1 = [x] := by
  have h0 := ok.h0
  match R, h3, h0 with
  | a :: r, _, h0 =>
   have h0 : a = x := h0
   rw [h0]
   rfl
 rw [show 0 + 1 = 1 from rfl, t] at this
 exact this
theorem mQ {lt : Q2 -> Q2 -> Prop} {rs : List Q2} (h : rs.Pairwise lt) {x : Q2} (hx : rs.head? = some x) {q : Q2} (hq : q ∈ rs) : q = x \/ lt x q := by
 cases rs with
 | nil => cases hx
 | cons a r =>
  have e : a = x := Option.some.inj hx
  subst e
  rcases List.mem_cons.mp hq with z | z
  ·exact .inl z
  ·exact .inr (List.rel_of_pairwise_cons h z)
theorem wQ {x y q : Q2} (hxy : ltQ x y) (h1 : q = x \/ ltQ x q) (h2 : q = y \/ ltQ q y) (h0 : aA x y q = 0) : (dst x q <= dst x y /\ (q ≠ y -> dst x q < dst x y)) /\ (dst y q <= dst y x /\ (q ≠ x -> dst y q < dst y x)) := by
 by_cases d : 0 < y.1 - x.1
 ·have a1 : 0 <= q.1 - x.1 := by
   rcases h1 with z | z | z
   ·rw [z]; omega
   ·omega
   ·omega
  have a2 : q.1 <= y.1 := by
   rcases h2 with z | z | z
   ·rw [z]; omega
   ·omega
   ·omega
  constructor
  ·exact gG (s := q.1 - x.1) (t := y.1 - x.1) (Int.mul_comm _ _) (by unfold aA at h0; grind) a1 (by omega) d
  ·exact gG (s := y.1 - q.1) (t := y.1 - x.1) (by grind) (by unfold aA at h0; grind) (by omega) (by omega) d
 ·have e1 : y.1 = x.1 := by rcases hxy with z | z <;> omega
  have e2 : x.2 < y.2 := by rcases hxy with z | z <;> omega
  have q1 : q.1 = x.1 /\ x.2 <= q.2 /\ q.2 <= y.2 := by
   rcases h1 with z | z | z <;> rcases h2 with w | w | w
   ·rw [z] at w; rw [w] at e2; omega
   ·rw [z] at w; omega
   ·rw [z] at w ⊢; omega
   ·rw [w] at z ⊢; omega
   ·omega
   ·omega
   ·rw [w] at z ⊢; omega
   ·omega
   ·omega
  obtain ⟨q1, q2, q3⟩ := q1
  have c1 : ∀ i, ab (q.1 - x.1) = i ↔ i = 0 := fun i => by rw [q1, Int.sub_self]; unfold ab; rw [if_neg (by omega)]; omega
  constructor
  ·exact gG (s := q.2 - x.2) (t := y.2 - x.2) (by rw [q1, e1]; simp) (Int.mul_comm _ _) (by omega) (by omega) (by omega)
  ·exact gG (s := y.2 - q.2) (t := y.2 - x.2) (by rw [q1, e1]; simp) (by grind) (by omega) (by omega) (by omega)
theorem wF {rs : List Q2} {x y : Q2} (hs : rs.Pairwise ltQ) (hx : rs.head? = some x) (hy : rs.getLast? = some y) (hf : ∀ q ∈ rs, aA x y q = 0) : sD rs x = if x = y then [x] else [x, y] := by
 have xm := List.mem_of_head? hx
 have ym := List.mem_of_getLast? hy
 have f1 : ∀ {q}, q ∈ rs -> q = x \/ ltQ x q := fun hq => mQ hs hx hq
 have f2 : ∀ {q}, q ∈ rs -> q = y \/ ltQ q y := fun {q} hq => mQ (lt := fun a b => ltQ b a) (rs := rs.reverse) (List.pairwise_reverse.mpr hs) (by rw [List.head?_reverse]; exact hy) (List.mem_reverse.mpr hq)
 by_cases e : x = y
 ·rw [if_pos e]
  have all : ∀ q ∈ rs, q = x := fun q hq => by
   rcases f1 hq with z | z
   ·exact z
   ·rcases f2 hq with w | w
    ·rw [w, e]
    ·exfalso
     rw [<- e] at w
     rcases z with z | z <;> rcases w with w | w <;> omega
  have pk : iC rs x = none := by
   unfold iC
   have go : ∀ qs : List Q2, (∀ q ∈ qs, q = x) -> qs.foldl (fT x) none = none := by
    intro qs
    induction qs with
    | nil => exact fun _ => rfl
    | cons q qs ih =>
     intro h
     rw [List.foldl_cons, show fT x none q = none from if_neg (fun z => z (h q (.head _)))]
     exact ih fun p hp => h p (.tail _ hp)
   exact go rs all
  unfold sD
  cases rs with
  | nil => cases xm
  | cons a r =>
   show (match iC (a :: r) x with | none => [x] | some v => if v = x then [x] else kC (a :: r) x r.length ([x] ++ [v]) v) = [x]
   rw [pk]
 ·rw [if_neg e]
  have lt : ltQ x y := (f1 ym).resolve_left (fun z => e z.symm)
  have k := fun {q} (hq : q ∈ rs) => wQ lt (f1 hq) (f2 hq) (hf q hq)
  have n1 : Nxt rs x y := ⟨ym, fun z => e z.symm, fun p hp => by
   unfold g9
   rw [if_neg (fun z => z (hf p hp))]
   have := (k hp).1.1
   exact decide_eq_false (by omega), fun p hp _ py => by
   unfold g9
   have t : aA x p y = 0 := by have := hf p hp; unfold aA at this ⊢; grind
   rw [if_neg (fun z => z t)]
   exact decide_eq_true ((k hp).1.2 py)⟩
  have n2 : Nxt rs y x := ⟨xm, e, fun p hp => by
   unfold g9
   have t : aA y x p = 0 := by rw [fX, hf p hp]; rfl
   rw [if_neg (fun z => z t)]
   have := (k hp).2.1
   exact decide_eq_false (by omega), fun p hp _ px => by
   unfold g9
   have t : aA y p x = 0 := by have := hf p hp; unfold aA at this ⊢; grind
   rw [if_neg (fun z => z t)]
   exact decide_eq_true ((k hp).2.2 px)⟩
  have p1 := pG n1
  have p2 := pG n2
  unfold sD
  match rs, xm, ym, p1, p2 with
  | [a], xm, ym, _, _ => exact absurd ((List.mem_singleton.mp xm).trans (List.mem_singleton.mp ym).symm) e
  | a :: b :: r, _, _, p1, p2 =>
   show (match iC (a :: b :: r) x with | none => [x] | some v => if v = x then [x] else kC (a :: b :: r) x (r.length + 1) ([x] ++ [v]) v) = [x, y]
   rw [p1]
   dsimp only
   rw [if_neg (fun z => e z.symm)]
   show (match iC (a :: b :: r) y with | none => [x] ++ [y] | some v => if v = x then [x] ++ [y] else kC (a :: b :: r) x r.length ([x] ++ [y] ++ [v]) v) = [x, y]
   rw [p2]
   dsimp only
   rw [if_pos rfl]
   rfl
theorem wU {rs : List Q2} {x : Q2} (hs : rs.Pairwise ltQ) (hx : rs.head? = some x) : sD rs x = bM rs := by
 obtain ⟨y, hy⟩ : ∃ y, rs.getLast? = some y := by
  cases e : rs.getLast? with
  | none => rw [List.getLast?_eq_none_iff.mp e] at hx; cases hx
  | some a => exact ⟨a, rfl⟩
 have hr := fY hs hx hy
 by_cases z : ∀ q ∈ rs, aA x y q = 0
 ·rw [if_pos z] at hr
  rw [hr]
  exact wF hs hx hy z
 ·rw [if_neg z] at hr
  exact tR hr (kP hr.nd hr.sub)
end N
namespace N
def cr (a b : Q2) : Int := a.1 * b.2 - a.2 * b.1
def dt (a b : Q2) : Int := a.1 * b.1 + a.2 * b.2
def ad (a b : Q2) : Q2 := (a.1 + b.1, a.2 + b.2)
def sb (a b : Q2) : Q2 := (a.1 - b.1, a.2 - b.2)
theorem zO (x : Int) : 0 <= x * x := by
 rw [<- Int.natAbs_mul_self]
 exact Int.natCast_nonneg _
theorem fZ {f : Q2} (h : f ≠ (0, 0)) : 0 < dt f f := by
 unfold dt
 have a := zO f.1
 have b := zO f.2
 refine Int.not_le.mp fun z => h ?_
 have a0 : f.1 * f.1 = 0 := by omega
 have b0 : f.2 * f.2 = 0 := by omega
 exact Prod.ext (by rcases Int.mul_eq_zero.mp a0 with q | q <;> exact q) (by rcases Int.mul_eq_zero.mp b0 with q | q <;> exact q)
theorem kO {f g : Q2} (h : 0 < dt f g) : f ≠ (0, 0) /\ g ≠ (0, 0) := by
 constructor
 ·rintro rfl; unfold dt at h; simp at h
 ·rintro rfl; unfold dt at h; simp at h
theorem lX {f p q : Q2} (h : f ≠ (0, 0)) (h1 : cr p f = cr q f) (h2 : dt f p = dt f q) : p = q := by
 have hf := fZ h
 have e1 : (p.1 - q.1) * dt f f = 0 := by unfold cr dt at *; grind
 have e2 : (p.2 - q.2) * dt f f = 0 := by unfold cr dt at *; grind
 refine Prod.ext ?_ ?_
 ·rcases Int.mul_eq_zero.mp e1 with z | z <;> omega
 ·rcases Int.mul_eq_zero.mp e2 with z | z <;> omega
structure Par (f g : Q2) : Prop where
 c : cr f g = 0
 d : 0 < dt f g
theorem Par.symm {f g : Q2} (h : Par f g) : Par g f := ⟨by have := h.c; unfold cr at *; grind, by have := h.d; unfold dt at *; grind⟩
theorem vB {f g : Q2} (h : cr f g = 0) (x : Q2) : dt f f * cr x g = dt f g * cr x f := by unfold cr dt at *; grind
theorem aAa {f g : Q2} (h : cr f g = 0) (x : Q2) : dt f f * dt g x = dt f g * dt f x := by unfold cr dt at *; grind
structure Fc (P : List Q2) (f p : Q2) : Prop where
 m : p ∈ P
 r : ∀ q ∈ P, cr q f <= cr p f
structure Fst (P : List Q2) (f p : Q2) : Prop where
 c : Fc P f p
 d : ∀ q, Fc P f q -> dt f p <= dt f q
structure Lst (P : List Q2) (f p : Q2) : Prop where
 c : Fc P f p
 d : ∀ q, Fc P f q -> dt f q <= dt f p
section
variable {P Q S : List Q2} {f g p q u v : Q2}
theorem Fc.par (h : Par f g) (F : Fc P f p) : Fc P g p := ⟨F.m, fun q hq => by
 have a := Int.mul_le_mul_of_nonneg_left (F.r q hq) (Int.le_of_lt h.d)
 rw [<- vB h.c, <- vB h.c] at a
 exact Int.le_of_mul_le_mul_left a (fZ (kO h.d).1)⟩
theorem aA1 (h : Par f g) {x y : Q2} (l : dt f x <= dt f y) : dt g x <= dt g y := by
 have a := Int.mul_le_mul_of_nonneg_left l (Int.le_of_lt h.d)
 rw [<- aAa h.c, <- aAa h.c] at a
 exact Int.le_of_mul_le_mul_left a (fZ (kO h.d).1)
theorem Fst.par (h : Par f g) (F : Fst P f p) : Fst P g p := ⟨F.c.par h, fun q hq => aA1 h (F.d q (hq.par h.symm))⟩
theorem Lst.par (h : Par f g) (F : Lst P f p) : Lst P g p := ⟨F.c.par h, fun q hq => aA1 h (F.d q (hq.par h.symm))⟩
theorem Fc.eq (a : Fc P f p) (b : Fc P f q) : cr p f = cr q f := by
 have := a.r q b.m
 have := b.r p a.m
 omega
theorem Fst.uq (h : f ≠ (0, 0)) (a : Fst P f p) (b : Fst P f q) : p = q := lX h (a.c.eq b.c) (by have := a.d q b.c; have := b.d p a.c; omega)
theorem Lst.uq (h : f ≠ (0, 0)) (a : Lst P f p) (b : Lst P f q) : p = q := lX h (a.c.eq b.c) (by have := a.d q b.c; have := b.d p a.c; omega)
theorem wH (pn0 : P ≠ []) (f : Q2) : ∃ m, Fc P f m := by
 obtain ⟨m, hm, h⟩ := n8 (fun q : Q2 => - cr q f) pn0
 exact ⟨m, hm, fun q hq => by have := h q hq; omega⟩
theorem aGh (pn0 : P ≠ []) (f : Q2) : ∃ p, Fst P f p := by
 obtain ⟨m, hm⟩ := wH pn0 f
 have hn : (P.filter fun q => cr q f = cr m f) ≠ [] := fun z => by
  have : m ∈ P.filter fun q => cr q f = cr m f := List.mem_filter.mpr ⟨hm.m, decide_eq_true rfl⟩
  rw [z] at this
  cases this
 obtain ⟨p, hp, h⟩ := n8 (fun q : Q2 => dt f q) hn
 obtain ⟨h1, h2⟩ := List.mem_filter.mp hp
 have h2 : cr p f = cr m f := of_decide_eq_true h2
 exact ⟨p, ⟨h1, fun q hq => by rw [h2]; exact hm.r q hq⟩, fun q hq => h q (List.mem_filter.mpr ⟨hq.m, decide_eq_true (hq.eq hm)⟩)⟩
theorem aFk (pn0 : P ≠ []) (f : Q2) : ∃ p, Lst P f p := by
 obtain ⟨m, hm⟩ := wH pn0 f
 have hn : (P.filter fun q => cr q f = cr m f) ≠ [] := fun z => by
  have : m ∈ P.filter fun q => cr q f = cr m f := List.mem_filter.mpr ⟨hm.m, decide_eq_true rfl⟩
  rw [z] at this
  cases this
 obtain ⟨p, hp, h⟩ := n8 (fun q : Q2 => - dt f q) hn
 obtain ⟨h1, h2⟩ := List.mem_filter.mp hp
 have h2 : cr p f = cr m f := of_decide_eq_true h2
 exact ⟨p, ⟨h1, fun q hq => by rw [h2]; exact hm.r q hq⟩, fun q hq => by have := h q (List.mem_filter.mpr ⟨hq.m, decide_eq_true (hq.eq hm)⟩); omega⟩
end
noncomputable def fs (P : List Q2) (f : Q2) : Q2 := Classical.epsilon (Fst P f)
noncomputable def ls (P : List Q2) (f : Q2) : Q2 := Classical.epsilon (Lst P f)
theorem fI {P : List Q2} (pn0 : P ≠ []) (f : Q2) : Fst P f (fs P f) := Classical.epsilon_spec (aGh pn0 f)
theorem jU {P : List Q2} (pn0 : P ≠ []) (f : Q2) : Lst P f (ls P f) := Classical.epsilon_spec (aFk pn0 f)
structure GE (P : List Q2) (u v : Q2) : Prop where
 n : u ≠ v
 a : Fst P (sb v u) u
 b : Lst P (sb v u) v
theorem gL {u v : Q2} (h : u ≠ v) : sb v u ≠ (0, 0) := fun z => h (by
 unfold sb at z
 injection z with z1 z2
 exact Prod.ext (by omega) (by omega))
noncomputable def mx (P : List Q2) (f : Q2) : Int := cr (fs P f) f
theorem pD {P : List Q2} {f p : Q2} (h : Fc P f p) : cr p f = mx P f := h.eq (fI (fun z => by have := h.m; rw [z] at this; cases this) f).c
theorem aFm {P : List Q2} {f p : Q2} (h : p ∈ P) : cr p f <= mx P f := (fI (fun z => by rw [z] at h; cases h) f).c.r p h
theorem aGi {P : List Q2} (pn0 : P ≠ []) (f : Q2) : ∃ p ∈ P, cr p f = mx P f := ⟨_, (fI pn0 f).c.m, rfl⟩
section
variable {P Q S : List Q2} {f g p q u v : Q2} (sm0 : ∀ s, s ∈ S ↔ ∃ p ∈ P, ∃ q ∈ Q, s = ad p q)
include sm0
theorem iS (a : Fc P f p) (b : Fc Q f q) : Fc S f (ad p q) := ⟨(sm0 _).mpr ⟨p, a.m, q, b.m, rfl⟩, fun s hs => by
 obtain ⟨p2, h1, q2, h2, rfl⟩ := (sm0 s).mp hs
 have := a.r p2 h1
 have := b.r q2 h2
 unfold cr ad at *
 grind⟩
theorem pV (hp : p ∈ P) (hq : q ∈ Q) (h : Fc S f (ad p q)) : Fc P f p /\ Fc Q f q := ⟨⟨hp, fun p2 h2 => by
 have := h.r (ad p2 q) ((sm0 _).mpr ⟨p2, h2, q, hq, rfl⟩)
 unfold cr ad at *
 grind⟩, hq, fun q2 h2 => by
 have := h.r (ad p q2) ((sm0 _).mpr ⟨p, hp, q2, h2, rfl⟩)
 unfold cr ad at *
 grind⟩
theorem sR (a : Fst P f p) (b : Fst Q f q) : Fst S f (ad p q) := ⟨iS sm0 a.c b.c, fun s hs => by
 obtain ⟨p2, h1, q2, h2, rfl⟩ := (sm0 s).mp hs.m
 obtain ⟨c1, c2⟩ := pV sm0 h1 h2 hs
 have := a.d p2 c1
 have := b.d q2 c2
 unfold dt ad at *
 grind⟩
theorem tM (a : Lst P f p) (b : Lst Q f q) : Lst S f (ad p q) := ⟨iS sm0 a.c b.c, fun s hs => by
 obtain ⟨p2, h1, q2, h2, rfl⟩ := (sm0 s).mp hs.m
 obtain ⟨c1, c2⟩ := pV sm0 h1 h2 hs
 have := a.d p2 c1
 have := b.d q2 c2
 unfold dt ad at *
 grind⟩
theorem aB9 (hp : p ∈ P) (hq : q ∈ Q) (h : Fst S f (ad p q)) : Fst P f p /\ Fst Q f q := by
 obtain ⟨c1, c2⟩ := pV sm0 hp hq h.c
 refine ⟨⟨c1, fun p2 h2 => ?_⟩, c2, fun q2 h2 => ?_⟩
 ·have := h.d _ (iS sm0 h2 c2)
  unfold dt ad at *
  grind
 ·have := h.d _ (iS sm0 c1 h2)
  unfold dt ad at *
  grind
theorem aBu (hp : p ∈ P) (hq : q ∈ Q) (h : Lst S f (ad p q)) : Lst P f p /\ Lst Q f q := by
 obtain ⟨c1, c2⟩ := pV sm0 hp hq h.c
 refine ⟨⟨c1, fun p2 h2 => ?_⟩, c2, fun q2 h2 => ?_⟩
 ·have := h.d _ (iS sm0 h2 c2)
  unfold dt ad at *
  grind
 ·have := h.d _ (iS sm0 c1 h2)
  unfold dt ad at *
  grind
end
noncomputable def pe (P : List Q2) (e : Q2 × Q2) : Q2 × Q2 := (fs P (sb e.2 e.1), ls P (sb e.2 e.1))
theorem rF {P : List Q2} {f : Q2} (pn0 : P ≠ []) : cr f (sb (ls P f) (fs P f)) = 0 /\ 0 <= dt f (sb (ls P f) (fs P f)) := by
 have a := fI pn0 f
 have b := jU pn0 f
 have e := a.c.eq b.c
 have l := a.d _ b.c
 generalize fs P f = x at *
 generalize ls P f = y at *
 unfold cr dt sb at *
 constructor
 ·grind
 ·grind
theorem fE {P : List Q2} {f : Q2} (pn0 : P ≠ []) (hf : f ≠ (0, 0)) (h : fs P f ≠ ls P f) : Par f (sb (ls P f) (fs P f)) := by
 obtain ⟨c, d⟩ := rF (f := f) pn0
 refine ⟨c, ?_⟩
 rcases Int.lt_or_eq_of_le d with z | z
 ·exact z
 ·refine absurd (lX hf ((fI pn0 f).c.eq (jU pn0 f).c) ?_) h
  generalize fs P f = x at *
  generalize ls P f = y at *
  unfold dt sb at *
  grind
theorem aEq {P : List Q2} {f : Q2} (pn0 : P ≠ []) (hf : f ≠ (0, 0)) (h : fs P f ≠ ls P f) : GE P (fs P f) (ls P f) := ⟨h, (fI pn0 f).par (fE pn0 hf h), (jU pn0 f).par (fE pn0 hf h)⟩
structure Es (P : List Q2) (E : List (Q2 × Q2)) : Prop where
 nd : E.Nodup
 mem : ∀ e, e ∈ E ↔ GE P e.1 e.2
 tl : ∀ h : Q2 -> Int, (E.map fun e => h e.1).sum = (E.map fun e => h e.2).sum
theorem wY {α : Type} {F : α -> Int} {p : α -> Bool} : ∀ {l : List α}, (∀ x ∈ l, p x = false -> F x = 0) -> (l.map F).sum = ((l.filter p).map F).sum
 | [], _ => rfl
 | x :: l, h => by
  have ih := wY (F := F) (p := p) (l := l) fun y hy => h y (.tail _ hy)
  rw [List.filter_cons]
  cases e : p x with
  | true => rw [if_pos rfl, List.map_cons, List.map_cons, List.sum_cons, List.sum_cons, ih]
  | false => rw [if_neg (by decide), List.map_cons, List.sum_cons, ih, h x (.head _) e, Int.zero_add]
section
variable {P Q S : List Q2} (sm0 : ∀ s, s ∈ S ↔ ∃ p ∈ P, ∃ q ∈ Q, s = ad p q) (pn0 : P ≠ []) (qn0 : Q ≠ [])
include sm0 pn0 qn0
theorem p8 {u v : Q2} (h : GE S u v) : u = ad (fs P (sb v u)) (fs Q (sb v u)) /\ v = ad (ls P (sb v u)) (ls Q (sb v u)) :=
 ⟨h.a.uq (gL h.n) (sR sm0 (fI pn0 _) (fI qn0 _)), h.b.uq (gL h.n) (tM sm0 (jU pn0 _) (jU qn0 _))⟩
theorem aHj {p p' : Q2} (h : GE P p p') : ∃ u v, GE S u v /\ fs P (sb v u) = p /\ ls P (sb v u) = p' := by
 have hf := gL h.n
 generalize ef : sb p' p = f at *
 have ha : Fst P f p := by rw [<- ef]; exact h.a
 have hb : Lst P f p' := by rw [<- ef]; exact h.b
 have a := sR sm0 ha (fI qn0 f)
 have b := tM sm0 hb (jU qn0 f)
 obtain ⟨c1, c2⟩ := rF (f := f) qn0
 have pf := fZ hf
 have pr : Par f (sb (ad p' (ls Q f)) (ad p (fs Q f))) := by
  generalize fs Q f = x at *
  generalize ls Q f = y at *
  subst ef
  constructor
  ·unfold cr sb ad at *; grind
  ·unfold dt sb ad at *; grind
 have n : ad p (fs Q f) ≠ ad p' (ls Q f) := fun z => by
  have := (kO pr.d).2
  rw [z] at this
  exact this (by unfold sb; simp)
 refine ⟨_, _, ⟨n, a.par pr, b.par pr⟩, ?_, ?_⟩
 ·exact (fI pn0 _).uq (kO pr.d).2 (ha.par pr)
 ·exact (jU pn0 _).uq (kO pr.d).2 (hb.par pr)
theorem oT {ES EP : List (Q2 × Q2)} (es : Es S ES) (ep : Es P EP) : ((ES.filter fun e => decide ((pe P e).1 ≠ (pe P e).2)).map (pe P)).Perm EP := by
 refine L2.iP ?_ ep.nd fun e' => ?_
 ·refine List.pairwise_map.mpr (List.Pairwise.imp_of_mem (fun {a b} ha hb hab e => hab ?_) (es.nd.filter _))
  obtain ⟨a1, a2⟩ := List.mem_filter.mp ha
  obtain ⟨b1, b2⟩ := List.mem_filter.mp hb
  have ga := (es.mem a).mp a1
  have gb := (es.mem b).mp b1
  have na : fs P (sb a.2 a.1) ≠ ls P (sb a.2 a.1) := of_decide_eq_true a2
  have nb : fs P (sb b.2 b.1) ≠ ls P (sb b.2 b.1) := of_decide_eq_true b2
  have pa := fE pn0 (gL ga.n) na
  have pb := fE pn0 (gL gb.n) nb
  unfold pe at e
  injection e with i1 i2
  rw [<- i1, <- i2] at pb
  have nz := (kO pa.d).2
  exact Prod.ext ((ga.a.par pa).uq nz (gb.a.par pb)) ((ga.b.par pa).uq nz (gb.b.par pb))
 ·rw [ep.mem, List.mem_map]
  constructor
  ·rintro ⟨e, he, rfl⟩
   obtain ⟨a1, a2⟩ := List.mem_filter.mp he
   exact aEq pn0 (gL ((es.mem e).mp a1).n) (of_decide_eq_true a2)
  ·intro h
   obtain ⟨u, v, g, i1, i2⟩ := aHj sm0 pn0 qn0 h
   refine ⟨(u, v), List.mem_filter.mpr ⟨(es.mem _).mpr g, decide_eq_true ?_⟩, ?_⟩
   ·show fs P (sb v u) ≠ ls P (sb v u)
    rw [i1, i2]
    exact h.n
   ·exact Prod.ext i1 i2
theorem tJ {ES EP : List (Q2 × Q2)} (es : Es S ES) (ep : Es P EP) (φ : Q2 × Q2 -> Int) (φ0 : ∀ p, φ (p, p) = 0) : (ES.map fun e => φ (pe P e)).sum = (EP.map φ).sum := by
 rw [wY (p := fun e => decide ((pe P e).1 ≠ (pe P e).2)) fun e _ h => by
  have z : (pe P e).1 = (pe P e).2 := Classical.not_not.mp (of_decide_eq_false h)
  have : pe P e = ((pe P e).1, (pe P e).1) := Prod.ext rfl z.symm
  rw [this]
  exact φ0 _]
 have e1 : ((ES.filter fun e => decide ((pe P e).1 ≠ (pe P e).2)).map fun e => φ (pe P e)) = ((ES.filter fun e => decide ((pe P e).1 ≠ (pe P e).2)).map (pe P)).map φ := by rw [List.map_map]; rfl
 rw [e1]
 exact mD ((oT sm0 pn0 qn0 es ep).map φ)
end
end N
namespace N
theorem mN (a b : Q2) : ad a b = ad b a := by unfold ad; rw [Int.add_comm, Int.add_comm a.2]
theorem mF (a : Q2) : sb a a = (0, 0) := by unfold sb; rw [Int.sub_self, Int.sub_self]
theorem aG9 (a : Q2) : cr a (0, 0) = 0 := by unfold cr; simp
theorem jY (e : Q2 × Q2) : crs e = cr e.1 e.2 := by unfold crs cr aA; grind
theorem aIy {α : Type} {F A B C D : α -> Int} : ∀ {l : List α}, (∀ e ∈ l, F e = A e + B e + (C e + D e)) -> (l.map F).sum = (l.map A).sum + (l.map B).sum + ((l.map C).sum + (l.map D).sum)
 | [], _ => rfl
 | x :: l, h => by
  have ih := aIy (l := l) fun y hy => h y (.tail _ hy)
  simp only [List.map_cons, List.sum_cons]
  rw [ih, h x (.head _)]
  omega
theorem aDx {α : Type} {F G : α -> Int} : ∀ {l : List α}, (∀ e ∈ l, F e = G e) -> (l.map F).sum = (l.map G).sum := fun {l} h => by rw [List.map_congr_left h]
theorem sum2 {α : Type} {A B C D : α -> Int} : ∀ {l : List α}, (∀ e ∈ l, A e + B e = C e + D e) -> (l.map A).sum + (l.map B).sum = (l.map C).sum + (l.map D).sum
 | [], _ => rfl
 | x :: l, h => by
  have ih := sum2 (l := l) fun y hy => h y (.tail _ hy)
  have := h x (.head _)
  simp only [List.map_cons, List.sum_cons]
  omega
noncomputable def dcm (P Q : List Q2) (s : Q2) : Q2 × Q2 := Classical.epsilon fun x => x.1 ∈ P /\ x.2 ∈ Q /\ s = ad x.1 x.2
theorem sP {P Q S : List Q2} {ES EP EQ : List (Q2 × Q2)} (sm0 : ∀ s, s ∈ S ↔ ∃ p ∈ P, ∃ q ∈ Q, s = ad p q) (pn0 : P ≠ []) (qn0 : Q ≠ []) (es : Es S ES) (ep : Es P EP) (eq : Es Q EQ) : (ES.map crs).sum = (EP.map crs).sum + (EQ.map crs).sum + 2 * (EQ.map fun e => mx P (sb e.2 e.1)).sum := by
 have sm0' : ∀ s, s ∈ S ↔ ∃ q ∈ Q, ∃ p ∈ P, s = ad q p := fun s => by
  rw [sm0 s]
  constructor
  ·rintro ⟨p, hp, q, hq, e⟩; exact ⟨q, hq, p, hp, by rw [e, mN]⟩
  ·rintro ⟨q, hq, p, hp, e⟩; exact ⟨p, hp, q, hq, by rw [e, mN]⟩
 have s1 := tJ sm0 pn0 qn0 es ep crs fun p => by rw [jY]; unfold cr; grind
 have s2 := tJ sm0' qn0 pn0 es eq crs fun p => by rw [jY]; unfold cr; grind
 have s3 := tJ sm0' qn0 pn0 es eq (fun e => mx P (sb e.2 e.1)) fun p => by
  show mx P (sb p p) = 0
  rw [mF]
  exact aG9 _
 have all : ∀ e ∈ ES, (crs e = crs (pe P e) + crs (pe Q e) + (mx P (sb (pe Q e).2 (pe Q e).1) + cr (pe Q e).1 (sb (pe P e).2 (pe P e).1))) /\ (fun s => cr (dcm P Q s).1 (dcm P Q s).2) e.2 + cr (pe Q e).1 (sb (pe P e).2 (pe P e).1) = (fun s => cr (dcm P Q s).1 (dcm P Q s).2) e.1 + mx P (sb (pe Q e).2 (pe Q e).1) := fun e he => by
  have g := (es.mem e).mp he
  have hf := gL g.n
  obtain ⟨e1, e2⟩ := p8 sm0 pn0 qn0 g
  have d1 : dcm P Q e.1 = (fs P (sb e.2 e.1), fs Q (sb e.2 e.1)) := by
   have sp : (dcm P Q e.1).1 ∈ P /\ (dcm P Q e.1).2 ∈ Q /\ e.1 = ad (dcm P Q e.1).1 (dcm P Q e.1).2 := by
    obtain ⟨p, hp, q, hq, z⟩ := (sm0 _).mp g.a.c.m
    exact Classical.epsilon_spec (p := fun x : Q2 × Q2 => x.1 ∈ P /\ x.2 ∈ Q /\ e.1 = ad x.1 x.2) ⟨(p, q), hp, hq, z⟩
   obtain ⟨h1, h2, h3⟩ := sp
   obtain ⟨a, b⟩ := aB9 sm0 h1 h2 (by rw [<- h3]; exact g.a)
   exact Prod.ext (a.uq hf (fI pn0 _)) (b.uq hf (fI qn0 _))
  have d2 : dcm P Q e.2 = (ls P (sb e.2 e.1), ls Q (sb e.2 e.1)) := by
   have sp : (dcm P Q e.2).1 ∈ P /\ (dcm P Q e.2).2 ∈ Q /\ e.2 = ad (dcm P Q e.2).1 (dcm P Q e.2).2 := by
    obtain ⟨p, hp, q, hq, z⟩ := (sm0 _).mp g.b.c.m
    exact Classical.epsilon_spec (p := fun x : Q2 × Q2 => x.1 ∈ P /\ x.2 ∈ Q /\ e.2 = ad x.1 x.2) ⟨(p, q), hp, hq, z⟩
   obtain ⟨h1, h2, h3⟩ := sp
   obtain ⟨a, b⟩ := aBu sm0 h1 h2 (by rw [<- h3]; exact g.b)
   exact Prod.ext (a.uq hf (jU pn0 _)) (b.uq hf (jU qn0 _))
  have m : cr (fs P (sb e.2 e.1)) (sb (ls Q (sb e.2 e.1)) (fs Q (sb e.2 e.1))) = mx P (sb (ls Q (sb e.2 e.1)) (fs Q (sb e.2 e.1))) := by
   by_cases z : fs Q (sb e.2 e.1) = ls Q (sb e.2 e.1)
   ·rw [z, mF]
    exact (aG9 _).trans (aG9 _).symm
   ·exact pD ((fI pn0 _).c.par (fE qn0 hf z))
  obtain ⟨c1, _⟩ := rF (f := sb e.2 e.1) pn0
  obtain ⟨c2, _⟩ := rF (f := sb e.2 e.1) qn0
  have pf := fZ hf
  dsimp only [pe]
  rw [d1, d2, <- m, jY, jY, jY]
  dsimp only
  have c3 : cr (sb (ls P (sb e.2 e.1)) (fs P (sb e.2 e.1))) (sb (ls Q (sb e.2 e.1)) (fs Q (sb e.2 e.1))) = 0 := by
   have := vB c2 (sb (ls P (sb e.2 e.1)) (fs P (sb e.2 e.1)))
   have z : cr (sb (ls P (sb e.2 e.1)) (fs P (sb e.2 e.1))) (sb e.2 e.1) = 0 := by
    generalize sb (ls P (sb e.2 e.1)) (fs P (sb e.2 e.1)) = w at *
    unfold cr at *
    grind
   rw [z, Int.mul_zero] at this
   rcases Int.mul_eq_zero.mp this with k | k
   ·omega
   ·exact k
  constructor
  ·have k : cr e.1 e.2 = cr (ad (fs P (sb e.2 e.1)) (fs Q (sb e.2 e.1))) (ad (ls P (sb e.2 e.1)) (ls Q (sb e.2 e.1))) := by rw [<- e1, <- e2]
   rw [k]
   generalize fs P (sb e.2 e.1) = p at *
   generalize ls P (sb e.2 e.1) = p' at *
   generalize fs Q (sb e.2 e.1) = q at *
   generalize ls Q (sb e.2 e.1) = q' at *
   unfold cr ad sb
   grind
  ·generalize fs P (sb e.2 e.1) = p at *
   generalize ls P (sb e.2 e.1) = p' at *
   generalize fs Q (sb e.2 e.1) = q at *
   generalize ls Q (sb e.2 e.1) = q' at *
   unfold cr sb at *
   grind
 have t := es.tl fun s => cr (dcm P Q s).1 (dcm P Q s).2
 have u := sum2 fun e he => (all e he).2
 have v := aIy fun e he => (all e he).1
 rw [v]
 rw [s1, s2, s3]
 dsimp only at u t
 rw [s3] at u
 omega
theorem aFy {P Q S : List Q2} {ES EP EQ : List (Q2 × Q2)} (sm0 : ∀ s, s ∈ S ↔ ∃ p ∈ P, ∃ q ∈ Q, s = ad p q) (pn0 : P ≠ []) (qn0 : Q ≠ []) (es : Es S ES) (ep : Es P EP) (eq : Es Q EQ) : ES.length <= EP.length + EQ.length := by
 have sm0' : ∀ s, s ∈ S ↔ ∃ q ∈ Q, ∃ p ∈ P, s = ad q p := fun s => by
  rw [sm0 s]
  constructor
  ·rintro ⟨p, hp, q, hq, e⟩; exact ⟨q, hq, p, hp, by rw [e, mN]⟩
  ·rintro ⟨q, hq, p, hp, e⟩; exact ⟨p, hp, q, hq, by rw [e, mN]⟩
 have a := (oT sm0 pn0 qn0 es ep).length_eq
 have b := (oT sm0' qn0 pn0 es eq).length_eq
 rw [List.length_map] at a b
 rw [<- a, <- b]
 have go : ∀ (l : List (Q2 × Q2)) (f g : Q2 × Q2 -> Bool), (∀ e ∈ l, f e = true \/ g e = true) -> l.length <= (l.filter f).length + (l.filter g).length := by
  intro l f g
  induction l with
  | nil => exact fun _ => Nat.zero_le _
  | cons x l ih =>
   intro h
   have := ih fun e he => h e (.tail _ he)
   rw [List.filter_cons, List.filter_cons, List.length_cons]
   rcases h x (.head _) with z | z
   ·rw [if_pos z, List.length_cons]
    split
    ·rw [List.length_cons]; omega
    ·omega
   ·rw [if_pos z, List.length_cons]
    split
    ·rw [List.length_cons]; omega
    ·omega
 refine go ES _ _ fun e he => ?_
 have g := (es.mem e).mp he
 obtain ⟨e1, e2⟩ := p8 sm0 pn0 qn0 g
 by_cases z : (pe P e).1 = (pe P e).2
 ·right
  refine decide_eq_true fun w => g.n ?_
  have z : fs P (sb e.2 e.1) = ls P (sb e.2 e.1) := z
  have w : fs Q (sb e.2 e.1) = ls Q (sb e.2 e.1) := w
  rw [e1, z, w, <- e2]
 ·exact .inl (decide_eq_true z)
theorem aGu {ps : List Q2} {R : List Q2} {x u v : Q2} (ok : RingOk R ps x) : Edg ps u v ↔ GE ps u v := by
 constructor
 ·rintro ⟨hu, hv, hn, hl⟩
  obtain ⟨z, hz, nz⟩ := iG ok hn
  have zp : 0 < aA u v z := by have := (hl z hz).1; omega
  have fu : Fc ps (sb v u) u := ⟨hu, fun q hq => by have := (hl q hq).1; unfold aA at this; unfold cr sb; grind⟩
  have fv : Fc ps (sb v u) v := ⟨hv, fun q hq => by have := (hl q hq).1; unfold aA at this; unfold cr sb; grind⟩
  have pf := fZ (gL hn)
  have bt : ∀ q, Fc ps (sb v u) q -> dt (sb v u) u <= dt (sb v u) q /\ dt (sb v u) q <= dt (sb v u) v := fun q hq => by
   have e := hq.eq fu
   have t0 : aA u v q = 0 := by unfold cr sb at e; unfold aA; grind
   obtain ⟨a, b⟩ := (hl q hq.m).2 t0 z hz
   have i1 : dt (sb v u) (sb q u) * aA u v z = dt (sb v u) (sb v u) * aA u q z := by unfold dt sb aA at *; grind
   have i2 : dt (sb v u) (sb v q) * aA u v z = dt (sb v u) (sb v u) * aA q v z := by unfold dt sb aA at *; grind
   have k1 := bS zp i1 (Int.mul_nonneg (Int.le_of_lt pf) b)
   have k2 := bS zp i2 (Int.mul_nonneg (Int.le_of_lt pf) a)
   unfold dt sb at *
   constructor <;> grind
  exact ⟨hn, ⟨fu, fun q hq => (bt q hq).1⟩, ⟨fv, fun q hq => (bt q hq).2⟩⟩
 ·rintro ⟨hn, a, b⟩
  have l : ∀ q ∈ ps, 0 <= aA u v q := fun q hq => by have := a.c.r q hq; unfold cr sb at this; unfold aA; grind
  have pf := fZ (gL hn)
  refine ⟨a.c.m, b.c.m, hn, fun q hq => ⟨l q hq, fun t0 w hw => ?_⟩⟩
  have fq : Fc ps (sb v u) q := ⟨hq, fun r hr => by
   have k := a.c.r r hr
   have : cr q (sb v u) = cr u (sb v u) := by unfold cr sb; unfold aA at t0; grind
   omega⟩
  have h1 := a.d q fq
  have h2 := b.d q fq
  have lw := l w hw
  have i1 : aA q v w * dt (sb v u) (sb v u) = dt (sb v u) (sb v q) * aA u v w := by unfold dt sb aA at *; grind
  have i2 : aA u q w * dt (sb v u) (sb v u) = dt (sb v u) (sb q u) * aA u v w := by unfold dt sb aA at *; grind
  have n1 : 0 <= dt (sb v u) (sb v q) := by unfold dt sb at *; grind
  have n2 : 0 <= dt (sb v u) (sb q u) := by unfold dt sb at *; grind
  exact ⟨bS pf i1 (Int.mul_nonneg n1 lw), bS pf i2 (Int.mul_nonneg n2 lw)⟩
theorem o7 {ps : List Q2} (h : Flt ps) {u v a b : Q2} (hu : u ∈ ps) (hv : v ∈ ps) (ha : a ∈ ps) (hb : b ∈ ps) : cr (sb v u) (sb b a) = 0 := by
 have h1 := h u hu v hv a ha
 have h2 := h u hu v hv b hb
 unfold aA at h1 h2
 unfold cr sb
 grind
theorem gP {ps : List Q2} (h : Flt ps) {u v q : Q2} (hu : u ∈ ps) (hv : v ∈ ps) (hq : q ∈ ps) : Fc ps (sb v u) q := ⟨hq, fun r hr => by
 have := o7 h hu hv hq hr
 unfold cr sb at *
 grind⟩
theorem nP {ps : List Q2} (h : Flt ps) {x y : Q2} (g : GE ps x y) : GE ps y x := by
 have mx := g.a.c.m
 have my := g.b.c.m
 refine ⟨g.n.symm, ⟨gP h my mx my, fun q hq => ?_⟩, ⟨gP h my mx mx, fun q hq => ?_⟩⟩
 ·have := g.b.d q (gP h mx my hq.m)
  unfold dt sb at *
  grind
 ·have := g.a.d q (gP h mx my hq.m)
  unfold dt sb at *
  grind
theorem aCu {ps : List Q2} (h : Flt ps) (h0 : ps ≠ []) : ∃ E, Es ps E /\ (E.map crs).sum = 0 /\ E.length <= 2 := by
 by_cases z : ∃ u ∈ ps, ∃ v ∈ ps, u ≠ v
 ·obtain ⟨u, hu, v, hv, hn⟩ := z
  have hf := gL hn
  have pf := fZ hf
  have xl : dt (sb v u) (fs ps (sb v u)) <= dt (sb v u) u := (fI h0 (sb v u)).d u (gP h hu hv hu)
  have yl : dt (sb v u) v <= dt (sb v u) (ls ps (sb v u)) := (jU h0 (sb v u)).d v (gP h hu hv hv)
  have lt : dt (sb v u) u < dt (sb v u) v := by unfold dt sb at *; grind
  have g : GE ps (fs ps (sb v u)) (ls ps (sb v u)) := aEq h0 hf fun e => by rw [<- e] at yl; omega
  have fo := fI h0 (sb v u)
  have lo := jU h0 (sb v u)
  generalize fs ps (sb v u) = x at *
  generalize ls ps (sb v u) = y at *
  refine ⟨[(x, y), (y, x)], ⟨?_, fun e => ?_, fun k => ?_⟩, ?_, Nat.le_refl _⟩
  ·refine List.nodup_cons.mpr ⟨fun m => ?_, List.nodup_cons.mpr ⟨fun m => (nomatch m), List.Pairwise.nil⟩⟩
   have := List.mem_singleton.mp m
   injection this with i1 i2
   exact g.n i1
  ·constructor
   ·intro m
    rcases List.mem_cons.mp m with m | m
    ·rw [m]; exact g
    ·rw [List.mem_singleton.mp m]; exact nP h g
   ·intro k
    have ne := gL k.n
    have c := o7 h hu hv k.a.c.m k.b.c.m
    have dn : dt (sb v u) (sb e.2 e.1) ≠ 0 := fun z => ne (lX hf (by unfold cr at *; grind) (by rw [z]; unfold dt; simp))
    have one : ∀ {a b : Q2}, GE ps a b -> cr (sb v u) (sb b a) = 0 -> 0 < dt (sb v u) (sb b a) -> a = x /\ b = y := fun {a b} k c d => by
     have pr : Par (sb v u) (sb b a) := ⟨c, d⟩
     exact ⟨k.a.uq (gL k.n) (fo.par pr), k.b.uq (gL k.n) (lo.par pr)⟩
    rcases Int.lt_or_gt_of_ne dn with d | d
    ·obtain ⟨a, b⟩ := one (nP h k) (o7 h hu hv k.b.c.m k.a.c.m) (by unfold dt sb at *; grind)
     exact .tail _ (List.mem_singleton.mpr (Prod.ext b a))
    ·obtain ⟨a, b⟩ := one k c d
     rw [show e = (x, y) from Prod.ext a b]
     exact .head _
  ·simp only [List.map_cons, List.map_nil, List.sum_cons, List.sum_nil]; omega
  ·simp only [List.map_cons, List.map_nil, List.sum_cons, List.sum_nil, jY]; unfold cr; grind
 ·refine ⟨[], ⟨List.Pairwise.nil, fun e => ⟨fun m => (nomatch m), fun k => ?_⟩, fun _ => rfl⟩, rfl, Nat.zero_le _⟩
  exact absurd ⟨_, k.a.c.m, _, k.b.c.m, k.n⟩ z
theorem nJ {rs ps : List Q2} (hs : rs.Pairwise ltQ) (hm : ∀ p, p ∈ rs ↔ p ∈ ps) (h0 : rs ≠ []) (f : Flt ps) : (bM rs).length <= 2 /\ (bM rs).length <= rs.length := by
 obtain ⟨x, hx⟩ : ∃ x, rs.head? = some x := by
  cases rs with
  | nil => exact absurd rfl h0
  | cons a r => exact ⟨a, rfl⟩
 obtain ⟨y, hy⟩ : ∃ y, rs.getLast? = some y := by
  cases e : rs.getLast? with
  | none => exact absurd (List.getLast?_eq_none_iff.mp e) h0
  | some a => exact ⟨a, rfl⟩
 have hr := fY hs hx hy
 have xm := List.mem_of_head? hx
 have ym := List.mem_of_getLast? hy
 rw [if_pos fun q hq => f x ((hm x).mp xm) y ((hm y).mp ym) q ((hm q).mp hq)] at hr
 rw [hr]
 have l1 := List.length_pos_iff.mpr h0
 split
 ·exact ⟨by simp, l1⟩
 ·rename_i z
  refine ⟨by simp, ?_⟩
  match rs, xm, ym, l1 with
  | [a], xm, ym, _ => exact absurd ((List.mem_singleton.mp xm).trans (List.mem_singleton.mp ym).symm) z
  | a :: b :: r, _, _, _ => simp
theorem aBw {rs ps : List Q2} (hs : rs.Pairwise ltQ) (hm : ∀ p, p ∈ rs ↔ p ∈ ps) (h0 : rs ≠ []) : (bM rs).length <= rs.length := by
 rcases lS hs hm h0 with ⟨f, a⟩ | ⟨_, x, ok⟩
 ·exact (nJ hs hm h0 f).2
 ·exact kP ok.nd fun p hp => (hm p).mpr (ok.sub p hp)
theorem aH4 {rs ps : List Q2} (hs : rs.Pairwise ltQ) (hm : ∀ p, p ∈ rs ↔ p ∈ ps) (h0 : rs ≠ []) : ∃ E, Es ps E /\ (E.map crs).sum = fD (bM rs) /\ (bM rs).length <= max 2 E.length /\ E.length <= max 2 (bM rs).length := by
 have p0 : ps ≠ [] := fun z => by
  cases rs with
  | nil => exact h0 rfl
  | cons a r => have := (hm a).mp (.head _); rw [z] at this; cases this
 rcases lS hs hm h0 with ⟨f, a⟩ | ⟨_, x, ok⟩
 ·obtain ⟨E, e1, e2, e3⟩ := aCu f p0
  have := (nJ hs hm h0 f).1
  exact ⟨E, e1, e2.trans a.symm, by omega, by omega⟩
 ·have le : (edg (bM rs)).length = (bM rs).length := by unfold edg; rw [List.length_map, List.length_range]
  exact ⟨edg (bM rs), ⟨w8 ok, fun e => (mH ok).trans (aGu ok), fun h => aIv h _⟩, rfl, by omega, by omega⟩
theorem aIu {b a : Q2} (hb : LP b.1 b.2) (ha : LP a.1 a.2 \/ a = (0, 0)) (c : cr b a = 0) : 0 <= dt b a := by
 have a1 : 0 <= a.1 := by
  rcases ha with (z | z) | z
  ·omega
  ·omega
  ·rw [z]; exact Int.le_refl _
 unfold cr at c
 rcases hb with b1 | ⟨b1, b2⟩
 ·have sq : 0 <= b.1 * b.1 + b.2 * b.2 := Int.add_nonneg (zO _) (zO _)
  refine bS (b := b.1) (c := a.1 * (b.1 * b.1 + b.2 * b.2)) b1 ?_ (Int.mul_nonneg a1 sq)
  unfold dt
  grind
 ·have z1 : a.1 = 0 := by
   have : b.2 * a.1 = 0 := by rw [b1] at c; grind
   rcases Int.mul_eq_zero.mp this with z | z <;> omega
  have a2 : 0 <= a.2 := by
   rcases ha with (z | z) | z
   ·omega
   ·omega
   ·rw [z]; exact Int.le_refl _
  have := Int.mul_nonneg (Int.le_of_lt b2) a2
  unfold dt
  rw [z1, b1]
  omega
theorem lQ {rs ps : List Q2} (hs : rs.Pairwise ltQ) (hm : ∀ p, p ∈ rs ↔ p ∈ ps) (h0 : rs ≠ []) : (∀ r ∈ bM rs, r ∈ ps) /\ ∀ f, ∃ r ∈ bM rs, Fc ps f r := by
 obtain ⟨x, hx⟩ : ∃ x, rs.head? = some x := by
  cases rs with
  | nil => exact absurd rfl h0
  | cons a r => exact ⟨a, rfl⟩
 obtain ⟨y, hy⟩ : ∃ y, rs.getLast? = some y := by
  cases e : rs.getLast? with
  | none => exact absurd (List.getLast?_eq_none_iff.mp e) h0
  | some a => exact ⟨a, rfl⟩
 have hr := fY hs hx hy
 have xm := List.mem_of_head? hx
 have ym := List.mem_of_getLast? hy
 have fx : ∀ q ∈ rs, q = x \/ ltQ x q := fun q hq => by
  cases rs with
  | nil => cases hq
  | cons a r =>
   have e : a = x := Option.some.inj hx
   rcases List.mem_cons.mp hq with k | k
   ·exact .inl (k.trans e)
   ·exact .inr (e ▸ List.rel_of_pairwise_cons hs k)
 have fy : ∀ q ∈ rs, q = y \/ ltQ q y := fun q hq => by
  obtain ⟨l, e⟩ := List.getLast?_eq_some_iff.mp hy
  rw [e] at hq hs
  rcases List.mem_append.mp hq with k | k
  ·exact .inr ((List.pairwise_append.mp hs).2.2 q k y (.head _))
  ·exact .inl (List.mem_singleton.mp k)
 by_cases z : ∀ q ∈ rs, aA x y q = 0
 ·rw [if_pos z] at hr
  by_cases w : x = y
  ·rw [if_pos w] at hr
   rw [hr]
   refine ⟨fun r hr => by rw [List.mem_singleton.mp hr]; exact (hm x).mp xm, fun f => ⟨x, .head _, (hm x).mp xm, fun q hq => ?_⟩⟩
   rcases fx q ((hm q).mpr hq) with k | k
   ·rw [k]; exact Int.le_refl _
   ·rcases fy q ((hm q).mpr hq) with k2 | k2
    ·rw [k2, <- w]; exact Int.le_refl _
    ·rw [w] at k; unfold ltQ at k k2; omega
  ·rw [if_neg w] at hr
   rw [hr]
   have lxy : LP (sb y x).1 (sb y x).2 := by
    rcases fy x xm with k | k
    ·exact absurd k w
    ·exact kB k
   have pf := fZ (gL w)
   have bt : ∀ q ∈ rs, ∀ f, (cr (sb y x) f <= 0 -> cr q f <= cr x f) /\ (0 <= cr (sb y x) f -> cr q f <= cr y f) := fun q hq f => by
    have t := z q hq
    have c1 : cr (sb y x) (sb q x) = 0 := by unfold aA at t; unfold cr sb; grind
    have c2 : cr (sb y x) (sb y q) = 0 := by unfold aA at t; unfold cr sb; grind
    have d1 := aIu lxy (a := sb q x) (by
     rcases fx q hq with k | k
     ·rw [k]; exact .inr (mF x)
     ·exact .inl (kB k)) c1
    have d2 := aIu lxy (a := sb y q) (by
     rcases fy q hq with k | k
     ·rw [k]; exact .inr (mF y)
     ·exact .inl (kB k)) c2
    have i1 : cr (sb q x) f * dt (sb y x) (sb y x) = dt (sb y x) (sb q x) * cr (sb y x) f := by unfold cr dt sb at *; grind
    have i2 : cr (sb y q) f * dt (sb y x) (sb y x) = dt (sb y x) (sb y q) * cr (sb y x) f := by unfold cr dt sb at *; grind
    constructor
    ·intro l
     have : 0 <= - cr (sb q x) f := bS pf (c := dt (sb y x) (sb q x) * (- cr (sb y x) f)) (by grind) (Int.mul_nonneg d1 (by omega))
     unfold cr sb at *
     grind
    ·intro l
     have : 0 <= cr (sb y q) f := bS pf i2 (Int.mul_nonneg d2 l)
     unfold cr sb at *
     grind
   refine ⟨fun r hr => ?_, fun f => ?_⟩
   ·rcases List.mem_cons.mp hr with k | k
    ·rw [k]; exact (hm x).mp xm
    ·rw [List.mem_singleton.mp k]; exact (hm y).mp ym
   ·by_cases l : cr (sb y x) f <= 0
    ·exact ⟨x, .head _, (hm x).mp xm, fun q hq => (bt q ((hm q).mpr hq) f).1 l⟩
    ·exact ⟨y, .tail _ (.head _), (hm y).mp ym, fun q hq => (bt q ((hm q).mpr hq) f).2 (by omega)⟩
 ·rw [if_neg z] at hr
  refine ⟨fun r h => (hm r).mp (hr.sub r h), fun f => ?_⟩
  obtain ⟨r, h1, h2⟩ := qZ hr (- f.2) f.1
  refine ⟨r, h1, (hm r).mp (hr.sub r h1), fun q hq => ?_⟩
  have := h2 q ((hm q).mpr hq)
  unfold cr
  grind
theorem aBc {rs ps : List Q2} (hs : rs.Pairwise ltQ) (hm : ∀ p, p ∈ rs ↔ p ∈ ps) (h0 : rs ≠ []) (f : Q2) : mx (bM rs) f = mx ps f := by
 obtain ⟨a, b⟩ := lQ hs hm h0
 obtain ⟨r, h1, h2⟩ := b f
 rw [<- pD h2, <- pD (p := r) (P := bM rs) ⟨h1, fun q hq => h2.r q (a q hq)⟩]
theorem aFz {P Q S : List Q2} (sm0 : ∀ s, s ∈ S ↔ ∃ p ∈ P, ∃ q ∈ Q, s = ad p q) (pn0 : P ≠ []) (qn0 : Q ≠ []) (f : Q2) : mx S f = mx P f + mx Q f := by
 have a := fI pn0 f
 have b := fI qn0 f
 rw [<- pD (iS sm0 a.c b.c), <- pD a.c, <- pD b.c]
 unfold cr ad
 grind
theorem rJ {rs ps rs2 : List Q2} (hs : rs.Pairwise ltQ) (hm : ∀ p, p ∈ rs ↔ p ∈ ps) (h0 : rs ≠ []) (hs2 : rs2.Pairwise ltQ) (hm2 : ∀ p, p ∈ rs2 ↔ p ∈ bM rs) (h02 : rs2 ≠ []) : fD (bM rs2) = fD (bM rs) := by
 obtain ⟨sub, _⟩ := lQ hs hm h0
 have k := lS hs2 hm2 h02
 rcases lS hs hm h0 with ⟨f, a⟩ | ⟨_, x, ok⟩
 ·rw [a]
  exact k.zero fun a ha b hb c hc => f a (sub a ha) b (sub b hb) c (sub c hc)
 ·have ok' : RingOk (bM rs) (bM rs) x := ⟨ok.len, ok.h0, ok.nd, fun p hp => hp, ok.conv, fun k hk q hq => ok.left k hk q (ok.sub q hq)⟩
  rcases k with ⟨f, _⟩ | ⟨_, x2, ok2⟩
  ·have h3 := ok.len
   have := ok.conv 0 (by omega)
   have := f _ (hU (d := 2) (k := 0) (by omega) (by omega)) _ (hU (d := 1) (k := 0) (by omega) (by omega)) _ (get_mem (k := 0) (by omega))
   omega
  ·have := yF (D := 1) (o := (0, 0)) (o' := (0, 0)) (fun e => e) (fun a b e => e) ok' ok2 (fun e' => ⟨fun h => ⟨e', rfl, h⟩, fun ⟨e, h1, h2⟩ => by rw [h1]; exact h2⟩) (fun e => by omega)
   omega
end N
namespace My
open PySem PySem.Spec PyProof.Rows L2 M N
local macro_rules | `(tactic| walk_at "z") => `(tactic| repeat (first | assumption | apply L2.Sz.mul | apply N.Sz.addM | apply N.Sz.subM | apply L2.Sz.neg | apply N.sz_fdiv | (apply N.sz_fmod; (first | decide | omega)) | exact N.sz_lit4 (by decide) | exact N.sz_lit (by decide) | exact N.sz_lit70 (by decide) | exact N.sz_big (by decide)))
local macro_rules | `(tactic| walk_at "d") => `(tactic| first | assumption | (first | apply N.cm2 | apply N.cd2) <;> (first | decide | omega | (walk_at "z")) | decide | omega)
local macro_rules | `(tactic| walk_at "1a") => `(tactic| simp (disch := assumption) only [cG, dX, fP, k7, aE, mC, aH, mUn, aD, aY, aX, fO, cZ, nK, yS, Res.bind, Ev.c, aDt, oK, aK, eN, iB, iO, cY, eY, sF, mOr, aA4, rM, aG0, rR, pY, gW, eE, dU, j9, dY, dat, fS, eqE, gZ, jR, qG, pS, qV, qD, pQ, kA, kH, tH, aAq, eV, kU, aAi, List.getElem?_cons_zero, List.getElem?_cons_succ, List.set_cons_zero, List.set_cons_succ, List.length_cons, List.length_nil, List.length_map, List.length_append, if_true, if_false, ite_true, ite_false, decide_true, decide_false, Bool.false_eq_true, Nat.zero_add, Nat.reduceAdd, Nat.reduceEqDiff, Nat.reduceLeDiff, reduceIte, List.map_append, List.map_cons, List.map_nil])
local macro_rules | `(tactic| ktr_call 11 ⟨$xs,*⟩) => `(tactic| simp (disch := assumption) only [cG, dX, fP, k7, aE, mC, aH, mUn, aD, aY, aX, fO, cZ, nK, yS, Res.bind, Ev.c, aDt, oK, aK, eN, iB, iO, cY, eY, sF, mOr, aA4, rM, aG0, rR, pY, gW, eE, dU, j9, dY, dat, fS, eqE, gZ, jR, qG, pS, qV, qD, pQ, kA, kH, tH, aAq, eV, kU, aAi, List.getElem?_cons_zero, List.getElem?_cons_succ, List.set_cons_zero, List.set_cons_succ, List.length_cons, List.length_nil, List.length_map, List.length_append, if_true, if_false, ite_true, ite_false, decide_true, decide_false, Bool.false_eq_true, Nat.zero_add, Nat.reduceAdd, Nat.reduceEqDiff, Nat.reduceLeDiff, reduceIte, List.map_append, List.map_cons, List.map_nil, $[$xs:term],*])
local macro_rules | `(tactic| walk_at "2") => `(tactic| simp only [cG, dX, fP, k7, aE, mC, aH, mUn, aD, aY, aX, fO, cZ, nK, yS, Res.bind, Ev.c, aDt, oK, aK, eN, iB, iO, cY, eY, sF, mOr, aA4, rM, aG0, rR, pY, gW, eE, dU, j9, dY, dat, fS, eqE, gZ, jR, qG, pS, qV, qD, pQ, kA, kH, tH, List.getElem?_cons_zero, List.getElem?_cons_succ, List.set_cons_zero, List.set_cons_succ, List.length_cons, List.length_nil, List.length_map, List.length_append, if_true, if_false, ite_true, ite_false, decide_true, decide_false, Bool.false_eq_true, Nat.zero_add, Nat.reduceAdd, Nat.reduceEqDiff, Nat.reduceLeDiff, reduceIte, List.map_append, List.map_cons, List.map_nil])
local macro_rules | `(tactic| ktr_call 3 ⟨$xs,*⟩) => `(tactic| simp only [List.getElem?_cons_zero, List.getElem?_cons_succ, List.set_cons_zero, List.set_cons_succ, List.length_cons, List.length_nil, List.length_map, List.length_append, if_true, if_false, ite_true, ite_false, decide_true, decide_false, Bool.false_eq_true, Nat.zero_add, Nat.reduceAdd, Nat.reduceEqDiff, Nat.reduceLeDiff, reduceIte, List.map_append, List.map_cons, List.map_nil, $[$xs:term],*])
local macro_rules | `(tactic| ktr_call 13 ⟨$xs,*⟩) => `(tactic| simp (disch := assumption) only [List.getElem?_cons_zero, List.getElem?_cons_succ, List.set_cons_zero, List.set_cons_succ, List.length_cons, List.length_nil, List.length_map, List.length_append, if_true, if_false, ite_true, ite_false, decide_true, decide_false, Bool.false_eq_true, Nat.zero_add, Nat.reduceAdd, Nat.reduceEqDiff, Nat.reduceLeDiff, reduceIte, List.map_append, List.map_cons, List.map_nil, $[$xs:term],*])
def top (i : Nat) : Stmt := PySem.Challenge.pw_creasecurve_k37_mixed_areas_add.main.body.getD i (.Pass ⟨0, 0, 0, 0⟩)
abbrev qX : Stmt := top 1
abbrev lF : Stmt := top 2
abbrev pP : Stmt := top 3
abbrev pU : Stmt := top 4
abbrev l9 : Stmt := top 6
abbrev cQ : Stmt := top 8
abbrev eJ : Stmt := top 9
abbrev dP : Stmt := top 10
abbrev eF : Stmt := top 11
abbrev cR : Stmt := top 12
abbrev cO : Stmt := top 13
abbrev cS : Stmt := top 14
abbrev b6 : Stmt := top 15
abbrev cP : Stmt := top 16
abbrev oA : Stmt := top 17
theorem qF : bootBuiltins "abs" = some (.builtin "abs") := by decide +kernel
theorem aDf : bootBuiltins "bool" = some (.type "bool") := by decide +kernel
theorem aFp : bootBuiltins "int" = some (.type "int") := by decide +kernel
theorem eR : bootBuiltins "list" = some (.type "list") := by decide +kernel
theorem aDz : bootBuiltins "max" = some (.builtin "max") := by decide +kernel
theorem aEa : bootBuiltins "sum" = some (.builtin "sum") := by decide +kernel
structure Blt (mg : Str -> Option Value) : Prop where
 abs_ : mg "abs" = none
 bool_ : mg "bool" = none
 int_ : mg "int" = none
 isinstance_ : mg "isinstance" = none
 len_ : mg "len" = none
 list_ : mg "list" = none
 max_ : mg "max" = none
 range_ : mg "range" = none
 reversed_ : mg "reversed" = none
 set_ : mg "set" = none
 sorted_ : mg "sorted" = none
 sum_ : mg "sum" = none
structure Cls where
structure oN (mg : Str -> Option Value) (c : Cls) : Prop where
structure oM (mg : Str -> Option Value) (base : Heap) (c : Cls) : Prop where
def eT3 (a : Q2 × Q2 × Q2) : List L := [.p (slD a.1), .p (slD a.2.1), .p (slD a.2.2)]
theorem aCi (a b : Q2 × Q2 × Q2) (h : eT3 a = eT3 b) : a = b := by
 unfold eT3 at h
 injection h with h1 h2
 injection h2 with h2 h3
 injection h3 with h3 _
 injection h1 with h1
 injection h2 with h2
 injection h3 with h3
 exact Prod.ext (gQ _ _ h1) (Prod.ext (gQ _ _ h2) (gQ _ _ h3))
def GQ (q : Q2) : Prop := Sz 5000 q.1 /\ Sz 5000 q.2
noncomputable def fB (K : PySem.W.Frag) (c : Cls) : List L -> Res L := mOf eT3 (fun a => GQ a.1 /\ GQ a.2.1 /\ GQ a.2.2) fun a => .ok (.p (.int (aA a.1 a.2.1 a.2.2)))
noncomputable def uK (K : PySem.W.Frag) (c : Cls) : MS := (cG (dX 3 (aH sG (aH fV (aH ixE (aE 1) (mC (.int 0))) (aH ixE (aE 0) (mC (.int 0)))) (aH fV (aH ixE (aE 2) (mC (.int 1))) (aH ixE (aE 0) (mC (.int 1)))))) (cG (dX 4 (aH sG (aH fV (aH ixE (aE 1) (mC (.int 1))) (aH ixE (aE 0) (mC (.int 1)))) (aH fV (aH ixE (aE 2) (mC (.int 0))) (aH ixE (aE 0) (mC (.int 0)))))) (fP (aH fV (aE 3) (aE 4)))))
theorem aBo (K : PySem.W.Frag) (c : Cls) : ∀ ls, fB K c ls = .bad \/ fN 5 (uK K c) ls = fB K c ls := jB fun a h => by
 obtain ⟨a, b, d⟩ := a
 obtain ⟨⟨a1, a2⟩, ⟨b1, b2⟩, d1, d2⟩ := h
 dsimp only at a1 a2 b1 b2 d1 d2 ⊢
 have z : ∀ {x y : Int}, Sz 5000 x -> Sz 5000 y -> Sz 60000 (x - y) := fun h1 h2 => (N.Sz.subM h1 h2).mono (by decide)
 have q1 : CMulW (b.1 - a.1) (d.2 - a.2) := ⟨z b1 a1, z d2 a2⟩
 have q2 : CMulW (b.2 - a.2) (d.1 - a.1) := ⟨z b2 a2, z d1 a1⟩
 have x0 : ∀ y : Int × Int, ixE (.p (slD y)) (.p (.int 0)) = .ok (.p (.int y.1)) := fun y => kA _ _
 have x1 : ∀ y : Int × Int, ixE (.p (slD y)) (.p (.int 1)) = .ok (.p (.int y.2)) := fun y => kH _ _ _
 refine dM ?_
 rw [show bX 5 (eT3 (a, b, d)) = [some (.p (slD a)), some (.p (slD b)), some (.p (slD d)), none, none] from rfl]
 unfold uK
 refine (aO (dQ (d := .int ((b.1 - a.1) * (d.2 - a.2))) ?_)).trans ((aO (dQ (d := .int ((b.2 - a.2) * (d.1 - a.1))) ?_)).trans (n5 ?_))
 ·ktr_call 11 ⟨x0, x1⟩
 ·ktr_call 11 ⟨x0, x1⟩
 ·walk_at "2"
  rfl
theorem mY (K : PySem.W.Frag) (c : Cls) {a b d : Q2} (ha : GQ a) (hb : GQ b) (hd : GQ d) : fB K c [.p (slD a), .p (slD b), .p (slD d)] = .ok (.p (.int (aA a b d))) := jC (a := (a, b, d)) aCi ⟨ha, hb, hd⟩
def eQs (ps : List Q2) : List L := [.p (.list (ps.map slD))]
theorem lZ (a b : List Q2) (h : eQs a = eQs b) : a = b := by
 unfold eQs at h
 injection h with h _
 injection h with h
 injection h with h
 exact List.map_inj_right (fun _ _ e => gQ _ _ e) |>.mp h
noncomputable def dS (K : PySem.W.Frag) (c : Cls) : List L -> Res L := mOf eQs (fun ps => ps.length <= 1000 /\ ∀ p ∈ ps, GQ p) fun ps => .ok (.o (.list ((aS ps).reverse.map slD)))
noncomputable def cH (K : PySem.W.Frag) (c : Cls) : En -> Res Bool := (sF (cY (aH gtE (aK fS (aD (aE 1) aY)) (mC (.int 1)))) (cY (aH leE (aX 3 (fB K c) (aD (aH ixE (aE 1) (mUn j9 (mC (.int 2)))) (aD (aH ixE (aE 1) (mUn j9 (mC (.int 1)))) (aD (aE 2) aY)))) (mC (.int 0)))))
noncomputable def d9 (K : PySem.W.Frag) (c : Cls) : MS := (aHw 1)
noncomputable def fK (K : PySem.W.Frag) (c : Cls) : MS := (cG (kK (cH K c) (d9 K c)) (dE 1 (aE 2)))
noncomputable def oQ (K : PySem.W.Frag) (c : Cls) : MS := (cG (dX 1 (aK iB aY)) (cG (p7 (sM (aE 0)) (bE 2) (fK K c)) (fP (aE 1))))
theorem aH2 (xs : List D) (a b : D) : atI (xs ++ [a, b]) (-2) = some a := by
 have hl : (xs ++ [a, b]).length = xs.length + 2 := by simp
 have e : ixN (xs ++ [a, b]).length (-2) = some xs.length := by
  unfold ixN
  rw [hl, if_neg (by decide), if_pos (by omega)]
  congr 1
  omega
 unfold atI
 rw [e]
 simp
theorem aIb (xs : List D) (a b : D) : atI (xs ++ [a, b]) (-1) = some b := by
 have := pT (xs ++ [a]) b
 rw [List.append_assoc] at this
 exact this
theorem x4 (p : Q2) (s : List Q2) : ∀ k ∈ dC p s, k ∈ s := fun k hk => (cK p s).sublist.subset hk
theorem yW (K : PySem.W.Frag) (c : Cls) (Z : Option L) {p : Q2} (gp : GQ p) : ∀ (n : Nat) (s : List Q2), s.length <= n -> (∀ k ∈ s, GQ k) -> mWh (cH K c) (d9 K c) (n + 1) [Z, some (.o (.list (s.reverse.map slD))), some (.p (slD p))] = some (.nx [Z, some (.o (.list ((dC p s).reverse.map slD))), some (.p (slD p))]) := by
 have hlen : ∀ s : List Q2, fS [.b (.list (s.reverse.map slD))] = .ok (.p (.int (s.length : Nat))) := fun s => by simp [fS, eP]
 have neg2 : j9 (.p (.int 2)) = .ok (.p (.int (-2))) := rfl
 have neg1 : j9 (.p (.int 1)) = .ok (.p (.int (-1))) := rfl
 have t1 : ∀ s : List Q2, cY (aH gtE (aK fS (aD (aE 1) aY)) (mC (.int 1))) [Z, some (.o (.list (s.reverse.map slD))), some (.p (slD p))] = .ok (decide ((1 : Int) < (s.length : Nat))) := fun s => by
  ktr_call 3 ⟨cY, aH, aK, aD, aY, aE, mC, Res.bind, Ev.c, hlen, dU, eY⟩
 have short : ∀ (n : Nat) (s : List Q2), s.length <= 1 -> mWh (cH K c) (d9 K c) (n + 1) [Z, some (.o (.list (s.reverse.map slD))), some (.p (slD p))] = some (.nx [Z, some (.o (.list (s.reverse.map slD))), some (.p (slD p))]) := fun n s hs => by
  have t : cH K c [Z, some (.o (.list (s.reverse.map slD))), some (.p (slD p))] = .ok false := by
   unfold cH sF
   rw [t1 s, decide_eq_false (by omega)]
   rfl
  unfold mWh
  rw [t]
 intro n
 induction n with
 | zero =>
  intro s hs _
  have e : s = [] := List.length_eq_zero_iff.mp (by omega)
  subst e
  rw [show dC p [] = [] from by unfold dC; rfl]
  exact short 0 [] (by decide)
 | succ n ih =>
  intro s hs hg
  match s, hs, hg with
  | [], _, _ =>
   rw [show dC p [] = [] from by unfold dC; rfl]
   exact short _ [] (by decide)
  | [a], _, _ =>
   rw [show dC p [a] = [a] from by unfold dC; rfl]
   exact short _ [a] (Nat.le_refl _)
  | k1 :: k2 :: r, hs, hg =>
   have er : (k1 :: k2 :: r).reverse.map slD = (r.reverse.map slD) ++ [slD k2, slD k1] := by simp
   have i2 : ixE (.b (.list ((r.reverse.map slD) ++ [slD k2, slD k1]))) (.p (.int (-2))) = .ok (.p (slD k2)) := by simp only [ixE, eP, aH2]
   have i1 : ixE (.b (.list ((r.reverse.map slD) ++ [slD k2, slD k1]))) (.p (.int (-1))) = .ok (.p (slD k1)) := by simp only [ixE, eP, aIb]
   have tg := mY K c (hg k2 (.tail _ (.head _))) (hg k1 (.head _)) gp
   have t2 : cY (aH leE (aX 3 (fB K c) (aD (aH ixE (aE 1) (mUn j9 (mC (.int 2)))) (aD (aH ixE (aE 1) (mUn j9 (mC (.int 1)))) (aD (aE 2) aY)))) (mC (.int 0))) [Z, some (.o (.list ((k1 :: k2 :: r).reverse.map slD))), some (.p (slD p))] = .ok (decide (aA k2 k1 p <= 0)) := by
    rw [er]
    ktr_call 3 ⟨cY, aH, aX, aD, aY, aE, mUn, mC, Res.bind, Ev.c, neg2, neg1, i2, i1, fO, cZ, nK, tg, oK, dU, eY⟩
   have t : cH K c [Z, some (.o (.list ((k1 :: k2 :: r).reverse.map slD))), some (.p (slD p))] = .ok (decide (aA k2 k1 p <= 0)) := by
    unfold cH sF
    rw [t1, decide_eq_true (by simp only [List.length_cons]; omega), k9]
    exact t2
   by_cases h : aA k2 k1 p <= 0
   ·rw [decide_eq_true h] at t
    have hp : d9 K c [Z, some (.o (.list ((k1 :: k2 :: r).reverse.map slD))), some (.p (slD p))] = some (.nx [Z, some (.o (.list ((k2 :: r).reverse.map slD))), some (.p (slD p))]) := by
     have ne : (k1 :: k2 :: r).reverse.map slD ≠ [] := by simp
     have dl : ((k1 :: k2 :: r).reverse.map slD).dropLast = (k2 :: r).reverse.map slD := by
      rw [List.reverse_cons, List.map_append]
      exact List.dropLast_concat
     unfold d9 aHw yI
     simp only [List.getElem?_cons_succ, List.getElem?_cons_zero]
     rw [if_neg ne, dl]
     rfl
    have e : dC p (k1 :: k2 :: r) = dC p (k2 :: r) := by
     show (if aA k2 k1 p <= 0 then dC p (k2 :: r) else k1 :: k2 :: r) = _
     rw [if_pos h]
    rw [e]
    unfold mWh
    rw [t]
    dsimp only
    rw [hp]
    exact ih (k2 :: r) (by simp only [List.length_cons] at hs ⊢; omega) fun k hk => hg k (.tail _ hk)
   ·rw [decide_eq_false h] at t
    have e : dC p (k1 :: k2 :: r) = k1 :: k2 :: r := by
     show (if aA k2 k1 p <= 0 then dC p (k2 :: r) else k1 :: k2 :: r) = _
     rw [if_neg h]
    rw [e]
    unfold mWh
    rw [t]
theorem kS (K : PySem.W.Frag) (c : Cls) (Z : Option L) : ∀ (ps s : List Q2) (r : Option L), s.length + ps.length <= 2000 -> (∀ k ∈ s, GQ k) -> (∀ p ∈ ps, GQ p) -> ∃ r', dI (bE 2) (fK K c) (ps.map slD) [Z, some (.o (.list (s.reverse.map slD))), r] = some (.nx [Z, some (.o (.list ((ps.foldl pushS s).reverse.map slD))), r'])
 | [], s, r, _, _, _ => ⟨r, rfl⟩
 | p :: ps, s, r, hl, hs, hp => by
  rw [List.length_cons] at hl
  have gp := hp p (.head _)
  have w := yW K c Z gp (List.length s) s (Nat.le_refl _) hs
  have w := t6 w
  have ll : (dC p s).length <= s.length := (cK p s).sublist.length_le
  have hb : fK K c [Z, some (.o (.list (s.reverse.map slD))), some (.p (slD p))] = some (.nx [Z, some (.o (.list ((pushS s p).reverse.map slD))), some (.p (slD p))]) := by
   unfold fK
   refine (aO w).trans ?_
   unfold dE
   simp only [List.set_cons_succ, List.set_cons_zero, List.getElem?_cons_succ, List.getElem?_cons_zero, aE, Ev.c]
   rw [if_pos (by rw [List.length_map, List.length_reverse]; omega)]
   show some (Out.nx [Z, some (.o (.list ((dC p s).reverse.map slD ++ [slD p]))), some (.p (slD p))]) = _
   unfold pushS
   rw [List.reverse_cons, List.map_append]
   rfl
  obtain ⟨r', ih⟩ := kS K c Z ps (pushS s p) (some (.p (slD p))) (by show (dC p s).length + 1 + ps.length <= 2000; omega) (fun k hk => by
   rcases List.mem_cons.mp hk with z | z
   ·rw [z]; exact gp
   ·exact hs k (x4 p s k z)) fun q hq => hp q (.tail _ hq)
  refine ⟨r', ?_⟩
  rw [List.map_cons]
  unfold dI
  simp only [bE, List.set_cons_succ, List.set_cons_zero]
  rw [hb]
  exact ih
theorem y9 (K : PySem.W.Frag) (c : Cls) : ∀ ls, dS K c ls = .bad \/ fN 3 (oQ K c) ls = dS K c ls := jB fun ps h => by
 obtain ⟨hl, hg⟩ := h
 obtain ⟨r', hlp⟩ := kS K c (some (.p (.list (ps.map slD)))) ps [] none (by rw [List.length_nil]; omega) (fun _ h => nomatch h) hg
 refine dM ?_
 rw [show bX 3 (eQs ps) = [some (.p (.list (ps.map slD))), none, none] from rfl]
 unfold oQ
 refine (aO (fM (d := .list []) rfl)).trans ((aO ((jP (ds := ps.map slD) rfl).trans hlp)).trans ?_)
 rfl
theorem kY (K : PySem.W.Frag) (c : Cls) {ps : List Q2} (hl : ps.length <= 1000) (hg : ∀ p ∈ ps, GQ p) : dS K c [.p (.list (ps.map slD))] = .ok (.o (.list ((aS ps).reverse.map slD))) := jC (a := ps) lZ ⟨hl, hg⟩
def toL (p : Q2) : List Int := [p.1, p.2]
def unL (k : List Int) : Q2 := (k.getD 0 0, k.getD 1 0)
theorem yZ (p : Q2) : unL (toL p) = p := rfl
theorem aJe (ps : List Q2) : (ps.map toL).map oR = ps.map slD := by rw [List.map_map]; rfl
theorem aFh (p q : Q2) : HT.lexLt (toL p) (toL q) = true ↔ ltQ p q := by
 unfold toL ltQ
 rw [HT.dA, HT.dA, HT.lU]
 by_cases h : p.1 = q.1
 ·rw [if_pos h]
  by_cases h2 : p.2 = q.2
  ·rw [if_pos h2]
   constructor
   ·intro z; cases z
   ·rintro (z | z) <;> omega
  ·rw [if_neg h2, decide_eq_true_iff]
   constructor
   ·exact fun z => .inr ⟨h, z⟩
   ·rintro (z | z)
    ·omega
    ·exact z.2
 ·rw [if_neg h, decide_eq_true_iff]
  constructor
  ·exact .inl
  ·rintro (z | z)
   ·exact z
   ·exact absurd z.1 h
theorem aBv {p q : Q2} (h1 : ¬ ltQ q p) (h2 : p ≠ q) : ltQ p q := by
 unfold ltQ at h1 ⊢
 by_cases z : p.1 = q.1
 ·have : p.2 ≠ q.2 := fun e => h2 (Prod.ext z e)
  omega
 ·omega
def cX (ps : List Q2) : List Q2 := (jE (ddK (ps.map toL))).map unL
theorem mK {ps : List Q2} {k : List Int} (h : k ∈ jE (ddK (ps.map toL))) : ∃ p ∈ ps, k = toL p := by
 have := ddK_mem.mp ((cC _).subset h)
 obtain ⟨p, hp, e⟩ := List.mem_map.mp this
 exact ⟨p, hp, e.symm⟩
theorem aGl (ps : List Q2) : (jE (ddK (ps.map toL))).map oR = (cX ps).map slD := by
 unfold cX
 rw [List.map_map]
 refine List.map_congr_left fun k hk => ?_
 obtain ⟨p, _, rfl⟩ := mK hk
 rfl
theorem rows_mem {ps : List Q2} {p : Q2} : p ∈ cX ps ↔ p ∈ ps := by
 unfold cX
 rw [List.mem_map]
 constructor
 ·rintro ⟨k, hk, e⟩
  obtain ⟨q, hq, rfl⟩ := mK hk
  rw [<- e, yZ]
  exact hq
 ·intro h
  exact ⟨toL p, (cC _).symm.subset (ddK_mem.mpr (List.mem_map.mpr ⟨p, h, rfl⟩)), yZ p⟩
theorem fR (ps : List Q2) : (cX ps).Pairwise ltQ := by
 unfold cX
 rw [List.pairwise_map]
 have nd : (jE (ddK (ps.map toL))).Pairwise (· ≠ ·) := (cC _).nodup_iff.mpr (q0 _)
 refine List.Pairwise.imp_of_mem (fun {a b} ha hb h => ?_) (List.pairwise_and_iff.mpr ⟨cV _, nd⟩)
 obtain ⟨p, _, rfl⟩ := mK ha
 obtain ⟨q, _, rfl⟩ := mK hb
 rw [yZ, yZ]
 refine aBv (fun z => ?_) fun e => h.2 (by rw [e])
 have h1 : HT.lexLt (toL q) (toL p) = false := h.1
 rw [(aFh q p).mpr z] at h1
 cases h1
theorem aAp : ∀ ks : List (List Int), (ddK ks).length <= ks.length
 | [] => Nat.le_refl _
 | k :: r => by
  unfold ddK
  have := aAp r
  split
  ·rw [List.length_cons]; omega
  ·rw [List.length_cons, List.length_cons]; omega
theorem iJ (ps : List Q2) : (cX ps).length <= ps.length := by
 unfold cX
 have := aAp (ps.map toL)
 rw [List.length_map] at this
 rw [List.length_map, (cC _).length_eq]
 exact this
theorem fU {ps : List Q2} (h : ps ≠ []) : cX ps ≠ [] := fun z => by
 cases ps with
 | nil => exact h rfl
 | cons p r =>
  have : p ∈ cX (p :: r) := rows_mem.mpr (.head _)
  rw [z] at this
  cases this
theorem ks_ne (ps : List Q2) : ((ps.map toL).all fun k => !k.isEmpty) = true := by
 rw [List.all_eq_true]
 intro k hk
 obtain ⟨p, _, rfl⟩ := List.mem_map.mp hk
 rfl
theorem uM {ps : List Q2} (h : ps.length < 64) : dJ (.p (.list (ps.map slD))) = .ok (.f (.list ((cX ps).map slD))) := by
 unfold dJ
 simp only [dY]
 rw [<- aJe, oB]
 dsimp only
 rw [if_pos ⟨ks_ne ps, by rw [List.length_map]; exact h⟩, aGl]
noncomputable def d0 (K : PySem.W.Frag) (c : Cls) : List L -> Res L := mOf eQs (fun ps => ps.length < 64 /\ ps ≠ [] /\ ∀ p ∈ ps, GQ p) fun ps => .ok (.o (.list ((bM (cX ps)).map slD)))
noncomputable def wR (K : PySem.W.Frag) (c : Cls) : MS := (cG (dX 1 (mUn dJ (aE 0))) (cG (k7 (cY (aH (eqE false) (aK fS (aD (aE 1) aY)) (mC (.int 1)))) (fP (aE 1)) gW) (cG (dX 2 (aX 1 (dS K c) (aD (aE 1) aY))) (cG (dX 3 (aX 1 (dS K c) (aD (mUn aDo (aE 1)) aY))) (fP (aH eE (mSl (aE 2) aGz (mPt (mUn j9 (mC (.int 1))))) (mSl (aE 3) aGz (mPt (mUn j9 (mC (.int 1)))))))))))
theorem aFb (xs : List D) : M.cutD xs none (some (-1)) = xs.dropLast := by
 unfold M.cutD
 have e : HT.sIx xs.length xs.length (some (-1)) = xs.length - 1 := by
  show (if (-1 : Int) < 0 then ((-1 : Int) + (xs.length : Int)).toNat else min (-1 : Int).toNat xs.length) = xs.length - 1
  rw [if_pos (by decide)]
  omega
 rw [e, HT.zI, List.drop_zero, Nat.sub_zero, List.dropLast_eq_take]
theorem aF6 (xs : List Q2) : s8 (.o (.list (xs.map slD))) = true := by unfold s8; exact vT slD aIk _
theorem eS : ∀ (ps s : List Q2), (ps.foldl pushS s).length <= s.length + ps.length
 | [], s => Nat.le_refl _
 | p :: ps, s => by
  rw [List.foldl_cons, List.length_cons]
  have := eS ps (pushS s p)
  have h : (pushS s p).length <= s.length + 1 := by
   unfold pushS
   rw [List.length_cons]
   have := (cK p s).sublist.length_le
   omega
  omega
theorem aDm (K : PySem.W.Frag) (c : Cls) : ∀ ls, d0 K c ls = .bad \/ fN 4 (wR K c) ls = d0 K c ls := jB fun ps h => by
 obtain ⟨hl, h0, hg⟩ := h
 have hs := uM hl
 have rl := iJ ps
 have rg : ∀ p ∈ cX ps, GQ p := fun p hp => hg p (rows_mem.mp hp)
 generalize cX ps = rs at hs rl rg ⊢
 have hln : fS [.b (.list (rs.map slD))] = .ok (.p (.int (rs.length : Nat))) := by simp [fS, eP]
 refine dM ?_
 rw [show bX 4 (eQs ps) = [some (.p (.list (ps.map slD))), none, none, none] from rfl]
 unfold wR
 have e1 : (mUn dJ (aE 0)) [some (.p (.list (ps.map slD))), none, none, none] = .ok (.f (.list (rs.map slD))) := by
  ktr_call 3 ⟨mUn, aE, Res.bind, Ev.c, hs⟩
 refine (aO (fM e1)).trans ?_
 simp only [List.set_cons_succ, List.set_cons_zero]
 have t1 : cY (aH (eqE false) (aK fS (aD (aE 1) aY)) (mC (.int 1))) [some (.p (.list (ps.map slD))), some (.o (.list (rs.map slD))), none, none] = .ok (decide (rs.length = 1)) := by
  have : ((rs.length : Int) == 1) = decide (rs.length = 1) := by
   rw [Bool.eq_iff_iff, beq_iff_eq, decide_eq_true_iff]; omega
  ktr_call 3 ⟨cY, aH, aK, aD, aY, aE, mC, Res.bind, Ev.c, hln, eqE, dat, gZ, jR, eY, and_self, this⟩
 by_cases z : rs.length = 1
 ·rw [decide_eq_true z] at t1
  have e : bM rs = rs := by unfold bM; rw [if_pos z]
  rw [e]
  refine wK ((yN t1).trans ?_)
  rfl
 ·rw [decide_eq_false z] at t1
  have e : bM rs = (aS rs).reverse.dropLast ++ (aS rs.reverse).reverse.dropLast := if_neg z
  rw [e]
  refine (aO (sJ t1)).trans ?_
  have c1 := kY K c (ps := rs) (by omega) rg
  have c2 := kY K c (ps := rs.reverse) (by rw [List.length_reverse]; omega) (fun p hp => rg p (List.mem_reverse.mp hp))
  have l1 := eS rs []
  have l2 := eS rs.reverse []
  rw [List.length_reverse] at l2
  have l1 : (aS rs).length <= _ := l1
  have l2 : (aS rs.reverse).length <= _ := l2
  rw [List.length_nil] at l1 l2
  have s2 : (aX 1 (dS K c) (aD (aE 1) aY)) [some (.p (.list (ps.map slD))), some (.o (.list (rs.map slD))), none, none] = .ok (.f (.list ((aS rs).reverse.map slD))) := by
   ktr_call 3 ⟨aX, aD, aY, aE, Res.bind, Ev.c, fO, cZ, nK, yS, c1, aF6, oK⟩
  refine (aO (fM s2)).trans ?_
  simp only [List.set_cons_succ, List.set_cons_zero]
  have rv : aDo (.b (.list (rs.map slD))) = .ok (.f (.list (rs.reverse.map slD))) := by
   unfold aDo
   simp only [dY]
   rw [List.map_reverse]
  have s3 : (aX 1 (dS K c) (aD (mUn aDo (aE 1)) aY)) [some (.p (.list (ps.map slD))), some (.o (.list (rs.map slD))), some (.o (.list ((aS rs).reverse.map slD))), none] = .ok (.f (.list ((aS rs.reverse).reverse.map slD))) := by
   ktr_call 3 ⟨aX, aD, aY, mUn, aE, Res.bind, Ev.c, rv, fO, cZ, nK, c2, oK⟩
  refine (aO (fM s3)).trans ?_
  simp only [List.set_cons_succ, List.set_cons_zero]
  refine aHo ?_
  have ng : j9 (.p (.int 1)) = .ok (.p (.int (-1))) := rfl
  have e : (((aS rs).reverse.dropLast ++ (aS rs.reverse).reverse.dropLast).map slD) = ((aS rs).reverse.map slD).dropLast ++ ((aS rs.reverse).reverse.map slD).dropLast := by rw [List.map_append, List.map_dropLast, List.map_dropLast]
  have ad : eE (.p (.list ((aS rs).reverse.map slD).dropLast)) (.p (.list ((aS rs.reverse).reverse.map slD).dropLast)) = .ok (.f (.list (((aS rs).reverse.map slD).dropLast ++ ((aS rs.reverse).reverse.map slD).dropLast))) := by
   simp only [eE, dY]
   refine if_pos ?_
   simp only [List.length_dropLast, List.length_map, List.length_reverse]
   omega
  rw [e]
  ktr_call 3 ⟨aH, mSl, aGz, mPt, mUn, aE, mC, Res.bind, Ev.c, ng, dY, aFb, ad⟩
theorem jT (K : PySem.W.Frag) (c : Cls) {ps : List Q2} (hl : ps.length < 64) (h0 : ps ≠ []) (hg : ∀ p ∈ ps, GQ p) : d0 K c [.p (.list (ps.map slD))] = .ok (.o (.list ((bM (cX ps)).map slD))) := jC (a := ps) lZ ⟨hl, h0, hg⟩
structure lG (K : PySem.W.Frag) (c : Cls) : Prop where
 ii : PySem.W.kitOne K (.type "int") (.type "int") = some true
 ib : PySem.W.kitOne K (.type "int") (.type "bool") = some false
 tt : PySem.W.kitOne K (.type "tuple") (.type "tuple") = some true
 ll : PySem.W.kitOne K (.type "list") (.type "list") = some true
noncomputable def dZ (K : PySem.W.Frag) (c : Cls) : MS := (cG (k7 (cY (aH ltE (aE 1) (aK fS (aD (aE 0) aY)))) (fP (aH ixE (aE 0) (aE 1))) gW) (fP (mC (.int 0))))
noncomputable def aU (K : PySem.W.Frag) (c : Cls) (ls : List L) : Res L := fN 2 (dZ K c) ls
theorem jZ (K : PySem.W.Frag) (c : Cls) : ∀ ls, aU K c ls = .bad \/ fN 2 (dZ K c) ls = aU K c ls := fun _ => .inr rfl
theorem aGo {ns : List Int} {k : Nat} (h : k < ns.length) : atI (ns.map PyData.int) (k : Int) = some (.int (ns.getD k 0)) := by
 have : ns.getD k 0 = ns[k] := by simp [List.getD, h]
 rw [this]
 exact jQ (by rw [List.getElem?_map, List.getElem?_eq_getElem h]; rfl)
theorem uW (K : PySem.W.Frag) (c : Cls) (ns : List Int) (k : Nat) : aU K c [.p (.list (ns.map .int)), .p (.int (k : Int))] = .ok (.p (.int (ns.getD k 0))) := by
 have hlen : fS [.p (.list (ns.map .int))] = .ok (.p (.int (ns.length : Nat))) := by simp [fS, eP]
 unfold aU
 refine dM ?_
 rw [show bX 2 [.p (.list (ns.map .int)), .p (.int (k : Int))] = [some (.p (.list (ns.map .int))), some (.p (.int (k : Int)))] from rfl]
 have ht : cY (aH ltE (aE 1) (aK fS (aD (aE 0) aY))) [some (.p (.list (ns.map .int))), some (.p (.int (k : Int)))] = .ok (decide (k < ns.length)) := by
  simp [cY, aH, aE, aK, aD, aY, Res.bind, Ev.c, hlen, dU, eY]
 by_cases hk : k < ns.length
 ·rw [decide_eq_true hk] at ht
  refine (wK ((yN ht).trans ?_))
  simp [fP, aH, aE, Res.bind, Ev.c, ixE, eP, aGo hk, aDt]
 ·rw [decide_eq_false hk] at ht
  refine (aO (sJ ht)).trans ?_
  have : ns.getD k 0 = 0 := by simp [List.getD, Nat.le_of_not_lt hk]
  rw [this]
  rfl
noncomputable def bO (K : PySem.W.Frag) (c : Cls) : List L -> Res L := mOf (fun i : Int => [.p (.int i)]) (fun _ => True) fun _ => .ok (.p (.bool true))
noncomputable def e9 (K : PySem.W.Frag) (c : Cls) : MS := (fP (rM (mUn (aFt K (.type "int")) (aE 0)) (rR (mUn (aFt K (.type "bool")) (aE 0)))))
theorem lJ (K : PySem.W.Frag) (c : Cls) (hk : lG K c) : ∀ ls, bO K c ls = .bad \/ fN 1 (e9 K c) ls = bO K c ls := jB fun i _ => by
 unfold fN
 rw [show bX 1 [.p (.int i)] = [some (.p (.int i))] from rfl]
 simp [e9, cG, dX, fP, k7, aE, mC, aH, mUn, aD, aY, aX, fO, cZ, nK, yS, Res.bind, Ev.c, aDt, oK, aK, eN, iB, iO, cY, eY, sF, mOr, aA4, rM, aG0, rR, pY, gW, eE, dU, j9, dY, dat, fS, eqE, gZ, jR, qG, pS, qV, qD, pQ, kA, kH, tH, aFt, tyD, hk.ii, hk.ib]
theorem qK (K : PySem.W.Frag) (c : Cls) (i : Int) : bO K c [.p (.int i)] = .ok (.p (.bool true)) := jC (a := i) (fun a b h => by injection h with h _; injection h with h; injection h) trivial
theorem iF (n : Nat) (h : n <= 100000) : jD [.p (.int (n : Int))] = .ok (sO 0 n) := by
 unfold jD
 exact if_pos ⟨by omega, by omega⟩
theorem aG3 {r : List Ev -> Res (List D)} {f : En -> Res Ev} {en : En} {a : D} {o : Res (List D)} (h1 : f en = .ok (.p a)) (h : r [.p a] = o) : xF r (aD f aY) en = o := by
 simp only [xF, aD, aY, h1, Res.bind, Ev.c, h]
theorem l4 {tg : D -> En -> Option En} {f : MS} {d : D} {ds : List D} {en e e' : En} (h1 : tg d en = some e) (h2 : f e = some (.nx e')) : dI tg f (d :: ds) en = dI tg f ds e' := by
 rw [dI, h1]
 dsimp only
 rw [h2]
def cols (n : Nat) : List Int := (List.range n).map fun k : Nat => (k : Int)
theorem lD (n : Nat) : sO 0 n = (cols n).map .int := by
 unfold sO cols
 rw [List.map_map]
 refine List.map_congr_left fun k _ => ?_
 show PyData.int (0 + (k : Int)) = .int (k : Int)
 rw [Int.zero_add]
theorem zL (n : Nat) : (cols n).length = n := by unfold cols; rw [List.length_map, List.length_range]
noncomputable def eH (K : PySem.W.Frag) (c : Cls) : MS := (cG (dX 2 (aH eE (aH eE (aH eE (aH j8 (aE 0) (aH sN (mC (.int 10)) (mC (.int 40)))) (mC (.int 1))) (aH iA (mC (.int 13)) (aE 1))) (aH iA (aH iA (mC (.int 7)) (aE 1)) (aE 1)))) (cG (dX 3 (aH j8 (aH iA (aH j8 (aH iA (aE 2) (mC (.int 48271))) (mC (.int 2147483647))) (mC (.int 69621))) (mC (.int 1000000007)))) (fP (aH eE (aE 3) (aH iA (mC (.int 1000000007)) (aH j8 (aH iA (aH iA (aE 2) (aE 3)) (mC (.int 2862933555777941757))) (aH eE (aH sN (mC (.int 10)) (mC (.int 30))) (mC (.int 57)))))))))
noncomputable def bF (K : PySem.W.Frag) (c : Cls) (ls : List L) : Res L := fN 4 (eH K c) ls
theorem mP (K : PySem.W.Frag) (c : Cls) : ∀ ls, bF K c ls = .bad \/ fN 4 (eH K c) ls = bF K c ls := fun _ => .inr rfl
theorem vG (K : PySem.W.Frag) (c : Cls) (cell : Int) {k : Int} (k0 : 0 <= k) (k1 : k <= 100) : ∃ v : Int, bF K c [.p (.int cell), .p (.int k)] = .ok (.p (.int v)) := by
 have p40 : aAm 10 40 := ⟨by decide, by decide, by decide⟩
 have p30 : aAm 10 30 := ⟨by decide, by decide, by decide⟩
 have n40 : (10 : Int) ^ Int.toNat 40 ≠ 0 := by decide
 have n30 : (10 : Int) ^ Int.toNat 30 + 57 ≠ 0 := by decide
 have n1 : (2147483647 : Int) ≠ 0 := by decide
 have n2 : (1000000007 : Int) ≠ 0 := by decide
 have q1 : iD 13 k := .inr (.inl ⟨by decide, by decide⟩)
 have q2 : iD 7 k := .inr (.inl ⟨by decide, by decide⟩)
 have q3 : iD (7 * k) k := .inr (.inr ⟨by omega, by omega⟩)
 generalize hC : cell.fmod (10 ^ Int.toNat 40) + 1 + 13 * k + 7 * k * k = C
 have q4 : iD C 48271 := .inr (.inr ⟨by decide, by decide⟩)
 have q5 : iD ((C * 48271).fmod 2147483647) 69621 := .inr (.inr ⟨by decide, by decide⟩)
 have hw := eI (a := (C * 48271).fmod 2147483647 * 69621) (b := 1000000007) (by decide)
 have s2 : (aH j8 (aH iA (aH j8 (aH iA (aE 2) (mC (.int 48271))) (mC (.int 2147483647))) (mC (.int 69621))) (mC (.int 1000000007))) [some (.p (.int cell)), some (.p (.int k)), some (.p (.int C)), none] = .ok (.p (.int (((C * 48271).fmod 2147483647 * 69621).fmod 1000000007))) := by
  ktr_call 11 ⟨pJ⟩
 generalize ((C * 48271).fmod 2147483647 * 69621).fmod 1000000007 = V at hw s2
 have q6 : iD C V := .inr (.inr ⟨by omega, by omega⟩)
 have q7 : iD (C * V) 2862933555777941757 := .inr (.inr ⟨by decide, by decide⟩)
 have q8 : iD 1000000007 ((C * V * 2862933555777941757).fmod (10 ^ Int.toNat 30 + 57)) := .inr (.inl ⟨by decide, by decide⟩)
 refine ⟨V + 1000000007 * ((C * V * 2862933555777941757).fmod (10 ^ Int.toNat 30 + 57)), ?_⟩
 unfold bF
 refine dM ?_
 rw [show bX 4 [.p (.int cell), .p (.int k)] = [some (.p (.int cell)), some (.p (.int k)), none, none] from rfl]
 unfold eH
 refine (aO (dQ (d := .int C) ?_)).trans ((aO (dQ s2)).trans (n5 ?_))
 ·rw [<- hC]
  ktr_call 11 ⟨pJ⟩
 ·ktr_call 11 ⟨pJ⟩
theorem tF {i : Nat} {fe : En -> Res Ev} {en : En} {ds : List D} {d : D} (h1 : en[i]? = some (some (.o (.list ds)))) (h2 : fe en = .ok (.p d)) (h3 : ds.length <= 100000) : dE i fe en = some (.nx (en.set i (some (.o (.list (ds ++ [d])))))) := by
 unfold dE
 rw [h1]
 dsimp only
 rw [h2]
 exact if_pos h3
noncomputable def bQ (K : PySem.W.Frag) (c : Cls) : MS := (cG (dX 5 (aX 2 (bF K c) (aD (aX 2 (aU K c) (aD (aE 0) (aD (aE 4) aY))) (aD (aE 4) aY)))) (k7 (cY (aH (eqE false) (aH j8 (aE 1) (mC (.int 4))) (mC (.int 1)))) (cG (dX 6 (aH fV (aH j8 (aE 5) (aH eE (aH sG (mC (.int 2)) (aH sN (mC (.int 10)) (mC (.int 20)))) (mC (.int 1)))) (aH sN (mC (.int 10)) (mC (.int 20))))) (dE 3 (aK eN (aD (aE 6) (aD (aH fV (aH j8 (aH j6 (aE 5) (aH sN (mC (.int 10)) (mC (.int 19)))) (aH eE (aH sG (mC (.int 2)) (aH sN (mC (.int 10)) (mC (.int 20)))) (mC (.int 1)))) (aH sN (mC (.int 10)) (mC (.int 20)))) aY))))) (k7 (cY (aH (eqE false) (aH j8 (aE 1) (mC (.int 4))) (mC (.int 2)))) (dE 3 (aK eN (aD (aH fV (aH sG (mC (.int 2)) (aH j8 (aE 5) (mC (.int 9)))) (mC (.int 5))) (aD (aH fV (mC (.int 7)) (aH sG (mC (.int 3)) (aH j8 (aE 5) (mC (.int 9))))) aY)))) (dE 3 (aK eN (aD (aH fV (aH j8 (aE 5) (mC (.int 7))) (mC (.int 3))) (aD (aH fV (aH j8 (aH j6 (aE 5) (mC (.int 7))) (mC (.int 7))) (mC (.int 3))) aY)))))))
noncomputable def b7 (K : PySem.W.Frag) (c : Cls) : MS := (cG (dX 3 (aK iB aY)) (cG (p7 (xF jD (aD (aE 2) aY)) (bE 4) (bQ K c)) (fP (aE 3))))
noncomputable def aT (K : PySem.W.Frag) (c : Cls) (ls : List L) : Res L := fN 7 (b7 K c) ls
theorem gU (K : PySem.W.Frag) (c : Cls) : ∀ ls, aT K c ls = .bad \/ fN 7 (b7 K c) ls = aT K c ls := fun _ => .inr rfl
def G9 (q : Q2) : Prop := Sz 90 q.1 /\ Sz 90 q.2
theorem G9.gq {q : Q2} (h : G9 q) : GQ q := ⟨h.1.mono (by decide), h.2.mono (by decide)⟩
theorem aDh {x y : Int} (hx : Sz 90 x) (hy : Sz 90 y) : G9 (x, y) := ⟨hx, hy⟩
theorem aCk (K : PySem.W.Frag) (c : Cls) (cs : List Int) (kind cnt : Int) (ps : List Q2) (hp : ps.length <= 1000) {k : Nat} (hk : k < 100) (r5 r6 : Option L) : ∃ (p : Q2) (q5 q6 : Option L), G9 p /\ bQ K c [some (.p (.list (cs.map .int))), some (.p (.int kind)), some (.p (.int cnt)), some (.o (.list (ps.map slD))), some (.p (.int (k : Int))), r5, r6] = some (.nx [some (.p (.list (cs.map .int))), some (.p (.int kind)), some (.p (.int cnt)), some (.o (.list ((ps ++ [p]).map slD))), some (.p (.int (k : Int))), q5, q6]) := by
 have hc := uW K c cs k
 obtain ⟨v, hv⟩ := vG K c (cs.getD k 0) (k := (k : Int)) (by omega) (by omega)
 have hl : (ps.map slD).length <= 100000 := by rw [List.length_map]; omega
 have em : ∀ p : Q2, (ps ++ [p]).map slD = ps.map slD ++ [slD p] := fun p => by rw [List.map_append]; rfl
 have e0 : (aX 2 (bF K c) (aD (aX 2 (aU K c) (aD (aE 0) (aD (aE 4) aY))) (aD (aE 4) aY))) [some (.p (.list (cs.map .int))), some (.p (.int kind)), some (.p (.int cnt)), some (.o (.list (ps.map slD))), some (.p (.int (k : Int))), r5, r6] = .ok (.p (.int v)) := by
  ktr_call 3 ⟨aX, aD, aY, aE, Res.bind, Ev.c, fO, cZ, nK, hc, hv, oK⟩
 have p20 : aAm 10 20 := ⟨by decide, by decide, by decide⟩
 have p19 : aAm 10 19 := ⟨by decide, by decide, by decide⟩
 have w20 : (10 : Int) ^ Int.toNat 20 = 100000000000000000000 := by decide
 have w19 : (10 : Int) ^ Int.toNat 19 = 10000000000000000000 := by decide
 have sl : ∀ {x : Int}, Sz 90 x -> Sz 60000 x := fun h => h.mono (by decide)
 have tt : ∀ (z : Option L) (n : Int), cY (aH (eqE false) (aH j8 (aE 1) (mC (.int 4))) (mC (.int n))) [some (.p (.list (cs.map .int))), some (.p (.int kind)), some (.p (.int cnt)), some (.o (.list (ps.map slD))), some (.p (.int (k : Int))), some (.p (.int v)), z] = .ok (kind.fmod 4 == n) := fun z n => by
  have n4 : (4 : Int) ≠ 0 := by decide
  ktr_call 13 ⟨cY, aH, aE, mC, Res.bind, Ev.c, kU, eqE, dat, gZ, jR, eY⟩
  rfl
 have t1 := tt r6 1
 have t2 := tt r6 2
 generalize (kind.fmod 4 == 1) = b1 at t1
 generalize (kind.fmod 4 == 2) = b2 at t2
 unfold bQ
 cases b1 with
 | true =>
  have m1 := eI (a := v) (b := 2 * 100000000000000000000 + 1) (by decide)
  have m2 := eI (a := v.fdiv 10000000000000000000) (b := 2 * 100000000000000000000 + 1) (by decide)
  refine ⟨(v.fmod (2 * 100000000000000000000 + 1) - 100000000000000000000, (v.fdiv 10000000000000000000).fmod (2 * 100000000000000000000 + 1) - 100000000000000000000), some (.p (.int v)), some (.p (.int (v.fmod (2 * 100000000000000000000 + 1) - 100000000000000000000))), aDh (by unfold Sz; omega) (by unfold Sz; omega), ?_⟩
  have c1 : CMulW 2 100000000000000000000 := ⟨sl (by unfold Sz; decide), sl (by unfold Sz; decide)⟩
  have c2 : nY v 10000000000000000000 := ⟨by decide, (show Sz 90 (10000000000000000000 : Int) by unfold Sz; decide).mono (by decide)⟩
  have n1 : (2 * 100000000000000000000 + 1 : Int) ≠ 0 := by decide
  have e1 : (aH fV (aH j8 (aE 5) (aH eE (aH sG (mC (.int 2)) (aH sN (mC (.int 10)) (mC (.int 20)))) (mC (.int 1)))) (aH sN (mC (.int 10)) (mC (.int 20)))) [some (.p (.list (cs.map .int))), some (.p (.int kind)), some (.p (.int cnt)), some (.o (.list (ps.map slD))), some (.p (.int (k : Int))), some (.p (.int v)), r6] = .ok (.p (.int (v.fmod (2 * 100000000000000000000 + 1) - 100000000000000000000))) := by
   ktr_call 11 ⟨w20⟩
  refine (aO (dQ e0)).trans ((yN t1).trans ((aO (dQ e1)).trans ?_))
  rw [em]
  refine tF rfl ?_ hl
  ktr_call 11 ⟨w20, w19⟩
  rfl
 | false =>
  cases b2 with
  | true =>
   have m1 := eI (a := v) (b := 9) (by decide)
   refine ⟨(2 * v.fmod 9 - 5, 7 - 3 * v.fmod 9), some (.p (.int v)), r6, aDh (by unfold Sz; omega) (by unfold Sz; omega), (aO (dQ e0)).trans ((sJ t1).trans ((yN t2).trans ?_))⟩
   have z9 : Sz 60000 (v.fmod 9) := sl (by unfold Sz; omega)
   have c1 : CMulW 2 (v.fmod 9) := ⟨sl (by unfold Sz; decide), z9⟩
   have c2 : CMulW 3 (v.fmod 9) := ⟨sl (by unfold Sz; decide), z9⟩
   have n1 : (9 : Int) ≠ 0 := by decide
   rw [em]
   refine tF rfl ?_ hl
   walk_at "1a"
   rfl
  | false =>
   have m1 := eI (a := v) (b := 7) (by decide)
   have m2 := eI (a := v.fdiv 7) (b := 7) (by decide)
   refine ⟨(v.fmod 7 - 3, (v.fdiv 7).fmod 7 - 3), some (.p (.int v)), r6, aDh (by unfold Sz; omega) (by unfold Sz; omega), (aO (dQ e0)).trans ((sJ t1).trans ((sJ t2).trans ?_))⟩
   have n1 : (7 : Int) ≠ 0 := by decide
   have c2 : nY v 7 := ⟨n1, (show Sz 90 (7 : Int) by unfold Sz; decide).mono (by decide)⟩
   rw [em]
   refine tF rfl ?_ hl
   walk_at "1a"
   rfl
theorem jX (K : PySem.W.Frag) (c : Cls) (cs : List Int) (kind : Int) {n : Nat} (hn : n <= 60) : ∃ ps : List Q2, ps.length = n /\ (∀ p ∈ ps, G9 p) /\ aT K c [.p (.list (cs.map .int)), .p (.int kind), .p (.int (n : Int))] = .ok (.o (.list (ps.map slD))) := by
 have step : ∀ (ks : List Nat) (ps : List Q2) (r4 r5 r6 : Option L), (∀ k ∈ ks, k < 100) -> ps.length + ks.length <= 1000 -> (∀ p ∈ ps, G9 p) -> ∃ (qs : List Q2) (q4 q5 q6 : Option L), qs.length = ps.length + ks.length /\ (∀ p ∈ qs, G9 p) /\ dI (bE 4) (bQ K c) (ks.map fun k : Nat => PyData.int (k : Int)) [some (.p (.list (cs.map .int))), some (.p (.int kind)), some (.p (.int (n : Int))), some (.o (.list (ps.map slD))), r4, r5, r6] = some (.nx [some (.p (.list (cs.map .int))), some (.p (.int kind)), some (.p (.int (n : Int))), some (.o (.list (qs.map slD))), q4, q5, q6]) := by
  intro ks
  induction ks with
  | nil => exact fun ps r4 r5 r6 _ _ hg => ⟨ps, r4, r5, r6, rfl, hg, rfl⟩
  | cons k ks ih =>
   intro ps r4 r5 r6 hk hl hg
   rw [List.length_cons] at hl
   obtain ⟨p, q5, q6, gp, hb⟩ := aCk K c cs kind (n : Int) ps (by omega) (hk k (.head _)) r5 r6
   obtain ⟨qs, s4, s5, s6, h1, h2, h3⟩ := ih (ps ++ [p]) (some (.p (.int (k : Int)))) q5 q6 (fun j hj => hk j (.tail _ hj)) (by rw [List.length_append]; simp; omega) (fun q hq => by
    rcases List.mem_append.mp hq with z | z
    ·exact hg q z
    ·rw [List.mem_singleton.mp z]; exact gp)
   refine ⟨qs, s4, s5, s6, by rw [h1, List.length_append, List.length_cons]; simp; omega, h2, ?_⟩
   rw [List.map_cons, l4 rfl hb]
   exact h3
 obtain ⟨qs, q4, q5, q6, h1, h2, h3⟩ := step (List.range n) [] none none none (fun k hk => by have := List.mem_range.mp hk; omega) (by simp; omega) (fun _ h => nomatch h)
 refine ⟨qs, by rw [h1]; simp, h2, ?_⟩
 unfold aT
 refine dM ?_
 rw [show bX 7 [.p (.list (cs.map .int)), .p (.int kind), .p (.int (n : Int))] = [some (.p (.list (cs.map .int))), some (.p (.int kind)), some (.p (.int (n : Int))), none, none, none, none] from rfl]
 unfold b7
 refine (aO (fM (d := .list []) rfl)).trans ?_
 have hit : xF jD (aD (aE 2) aY) [some (.p (.list (cs.map .int))), some (.p (.int kind)), some (.p (.int (n : Int))), some (.o (.list [])), none, none, none] = .ok ((List.range n).map fun k : Nat => PyData.int (k : Int)) := by
  have e : ((List.range n).map fun k : Nat => PyData.int (k : Int)) = sO 0 n := by rw [lD]; unfold cols; rw [List.map_map]; rfl
  rw [e]
  exact aG3 (a := .int (n : Int)) rfl (iF n (by omega))
 refine (aO ((jP hit).trans h3)).trans ?_
 rfl
noncomputable def eG (K : PySem.W.Frag) (c : Cls) : MS := (cG (dX 3 (aH sG (aH fV (aH ixE (aE 1) (mC (.int 0))) (aH ixE (aE 0) (mC (.int 0)))) (aH fV (aH ixE (aE 2) (mC (.int 1))) (aH ixE (aE 0) (mC (.int 1)))))) (fP (aH fV (aE 3) (aH sG (aH fV (aH ixE (aE 1) (mC (.int 1))) (aH ixE (aE 0) (mC (.int 1)))) (aH fV (aH ixE (aE 2) (mC (.int 0))) (aH ixE (aE 0) (mC (.int 0))))))))
noncomputable def bJ (K : PySem.W.Frag) (c : Cls) (ls : List L) : Res L := fN 4 (eG K c) ls
theorem nL (K : PySem.W.Frag) (c : Cls) : ∀ ls, bJ K c ls = .bad \/ fN 4 (eG K c) ls = bJ K c ls := fun _ => .inr rfl
theorem qP (K : PySem.W.Frag) (c : Cls) {a b d : Q2} (ha : GQ a) (hb : GQ b) (hd : GQ d) : bJ K c [.p (slD a), .p (slD b), .p (slD d)] = .ok (.p (.int (aA a b d))) := by
 obtain ⟨a1, a2⟩ := ha
 obtain ⟨b1, b2⟩ := hb
 obtain ⟨d1, d2⟩ := hd
 have z : ∀ {x y : Int}, Sz 5000 x -> Sz 5000 y -> Sz 60000 (x - y) := fun h1 h2 => (N.Sz.subM h1 h2).mono (by decide)
 have q1 : CMulW (b.1 - a.1) (d.2 - a.2) := ⟨z b1 a1, z d2 a2⟩
 have q2 : CMulW (b.2 - a.2) (d.1 - a.1) := ⟨z b2 a2, z d1 a1⟩
 have x0 : ∀ y : Int × Int, ixE (.p (slD y)) (.p (.int 0)) = .ok (.p (.int y.1)) := fun y => kA _ _
 have x1 : ∀ y : Int × Int, ixE (.p (slD y)) (.p (.int 1)) = .ok (.p (.int y.2)) := fun y => kH _ _ _
 unfold bJ
 refine dM ?_
 rw [show bX 4 [.p (slD a), .p (slD b), .p (slD d)] = [some (.p (slD a)), some (.p (slD b)), some (.p (slD d)), none] from rfl]
 unfold eG
 refine (aO (dQ (d := .int ((b.1 - a.1) * (d.2 - a.2))) ?_)).trans (n5 ?_)
 ·ktr_call 11 ⟨x0, x1⟩
 ·ktr_call 11 ⟨x0, x1⟩
  rfl
theorem zP (p : Q2) : SeqAt.shaped (slD p) = true := by simp [slD, SeqAt.shaped, PyData.canLay0, PyData.canLayAll0, PyData.depth, PyData.depthAll]
theorem aCw {R : List Q2} {k d : Nat} (hk : k < R.length) (hd : d <= R.length) : ixE (.p (.list (R.map slD))) (.p (.int ((k : Int) - (d : Int)))) = .ok (.p (slD (pr R k d))) := by
 have go : ∀ j, j < R.length -> (R.map slD)[j]? = some (slD (R.getD j (0, 0))) := fun j hj => by
  rw [List.getElem?_map, List.getElem?_eq_getElem hj, List.getD_eq_getElem?_getD, List.getElem?_eq_getElem hj]
  rfl
 have e : atI (R.map slD) ((k : Int) - (d : Int)) = some (slD (pr R k d)) := by
  unfold pr
  by_cases z : k < d
  ·have e1 : ixN (R.map slD).length ((k : Int) - (d : Int)) = some (R.length + k - d) := by
    unfold ixN
    rw [List.length_map, if_neg (by omega), if_pos (by omega)]
    congr 1
    omega
   unfold atI
   rw [e1, if_pos z]
   exact go _ (by omega)
  ·have e1 : ixN (R.map slD).length ((k : Int) - (d : Int)) = some (k - d) := by
    unfold ixN
    rw [List.length_map, if_pos (by omega), if_pos (by omega)]
    congr 1
    omega
   unfold atI
   rw [e1, if_neg z]
   exact go _ (by omega)
 simp only [ixE, eP, e]
theorem aG7 {R : List Q2} {k : Nat} (hk : k < R.length) : ixE (.p (.list (R.map slD))) (.p (.int (k : Int))) = .ok (.p (slD (R.getD k (0, 0)))) := by
 have := aCw (d := 0) hk (Nat.zero_le _)
 unfold pr at this
 rw [if_neg (by omega)] at this
 simpa using this
theorem pW {m : List L -> Res L} {f g h : En -> Res Ev} {en : En} {a b d r : D} (h1 : f en = .ok (.p a)) (h2 : g en = .ok (.p b)) (h3 : h en = .ok (.p d)) (hm : m [.p a, .p b, .p d] = .ok (.p r)) : aX 3 m (aD f (aD g (aD h aY))) en = .ok (.p r) := by
 ktr_call 3 ⟨aX, aD, aY, h1, h2, h3, Res.bind, Ev.c, fO, cZ, nK, hm, oK⟩
theorem aGs {m : List L -> Res L} {f : En -> Res Ev} {en : En} {a r : D} (h1 : f en = .ok (.p a)) (hm : m [.p a] = .ok (.o r)) : aX 1 m (aD f aY) en = .ok (.f r) := by
 ktr_call 3 ⟨aX, aD, aY, h1, Res.bind, Ev.c, fO, cZ, nK, hm, oK⟩
theorem aE0 {r : List Ev -> Res Ev} {f : En -> Res Ev} {en : En} {a : D} {o : Res Ev} (h1 : f en = .ok (.f a)) (h : r [.p a] = o) : aK r (aD f aY) en = o := by
 simp only [aK, aD, aY, h1, Res.bind, Ev.c, h]
theorem qU {rs : List Q2} {p : Q2} (h : p ∈ bM rs) : p ∈ rs := by
 have sub : ∀ (qs : List Q2), p ∈ (aS qs).reverse.dropLast -> p ∈ qs := fun qs hp => by
  have s := i6 qs [] [] (List.Sublist.refl _)
  rw [List.append_nil] at s
  exact List.mem_reverse.mp (s.subset (List.mem_reverse.mp ((List.dropLast_sublist _).subset hp)))
 unfold bM at h
 split at h
 ·exact h
 ·rcases List.mem_append.mp h with z | z
  ·exact sub _ z
  ·exact List.mem_reverse.mp (sub _ z)
theorem yV (rs : List Q2) : (bM rs).length <= 2 * rs.length := by
 unfold bM
 split
 ·omega
 ·have l1 : (aS rs).length <= _ := eS rs []
  have l2 : (aS rs.reverse).length <= _ := eS rs.reverse []
  rw [List.length_reverse] at l2
  rw [List.length_nil] at l1 l2
  simp only [List.length_append, List.length_dropLast, List.length_reverse]
  omega
def gE (ps : List Q2) : Int := fD (bM (cX ps))
theorem xC (n : Nat) : sO 0 n = (List.range n).map fun k : Nat => PyData.int (k : Int) := by rw [lD]; unfold cols; rw [List.map_map]; rfl
noncomputable def gJ (K : PySem.W.Frag) (c : Cls) : List L -> Res L := mOf eQs (fun ps => ps.length < 64 /\ ps ≠ [] /\ ∀ p ∈ ps, GQ p) fun ps => .ok (.p (.int (gE ps)))
noncomputable def jN (K : PySem.W.Frag) (c : Cls) : En -> Res Ev := (aX 3 (fB K c) (aD (aK eN (aD (mC (.int 0)) (aD (mC (.int 0)) aY))) (aD (aH ixE (aE 1) (aH fV (aE 0) (mC (.int 1)))) (aD (aH ixE (aE 1) (aE 0)) aY))))
noncomputable def qY (K : PySem.W.Frag) (c : Cls) : MS := (cG (dX 1 (aX 1 (d0 K c) (aD (aE 0) aY))) (fun en => (fP (aK aBd (aD (lN 1 [1] (xF jD (aD (aK fS (aD (aE 1) aY)) aY)) (bE 0) sI (jN K c)) aY))) (frz 1 en)))
theorem aD9 {f : Nat -> Int} {n : Nat} : aBd [.p (.list ((List.range n).map fun k => PyData.int (f k)))] = .ok (.p (.int ((List.range n).map f).sum)) := by
 have e : ((List.range n).map fun k => PyData.int (f k)) = ((List.range n).map f).map .int := by rw [List.map_map]; rfl
 rw [e]
 simp only [aBd, dY, kZ]
theorem yQ (R : List Q2) : ((List.range R.length).map fun k => aA (0, 0) (pr R k 1) (R.getD k (0, 0))).sum = fD R := by
 unfold fD edg
 rw [List.map_map]
 rfl
theorem aBk (K : PySem.W.Frag) (c : Cls) : ∀ ls, gJ K c ls = .bad \/ fN 2 (qY K c) ls = gJ K c ls := jB fun ps h => by
 obtain ⟨hl, h0, hg⟩ := h
 have hh := jT K c hl h0 hg
 have rg : ∀ p ∈ bM (cX ps), GQ p := fun p hp => hg p (rows_mem.mp (qU hp))
 have rl : (bM (cX ps)).length <= 1000 := by
  have := yV (cX ps)
  have := iJ ps
  omega
 show fN 2 (qY K c) (eQs ps) = .ok (.p (.int (fD (bM (cX ps)))))
 generalize bM (cX ps) = R at hh rg rl
 refine dM ?_
 rw [show bX 2 (eQs ps) = [some (.p (.list (ps.map slD))), none] from rfl]
 unfold qY
 have e1 : (aX 1 (d0 K c) (aD (aE 0) aY)) [some (.p (.list (ps.map slD))), none] = .ok (.f (.list (R.map slD))) := aGs rfl hh
 refine (aO (fM e1)).trans ?_
 simp only [List.set_cons_succ, List.set_cons_zero, frz, List.getElem?_cons_succ, List.getElem?_cons_zero]
 have ln : fS [.p (.list (R.map slD))] = .ok (.p (.int (R.length : Nat))) := by simp [fS, eP]
 have hit : xF jD (aD (aK fS (aD (aE 1) aY)) aY) [some (.p (.list (ps.map slD))), some (.p (.list (R.map slD)))] = .ok ((List.range R.length).map fun k : Nat => PyData.int (k : Int)) := by
  rw [<- xC]
  exact aG3 (a := .int (R.length : Nat)) (by ktr_call 3 ⟨aK, aD, aY, aE, Res.bind, Ev.c, ln⟩) (iF _ (by omega))
 have hm : xE (cD 1 [1] (bE 0) sI (jN K c) [some (.p (.list (ps.map slD))), some (.p (.list (R.map slD)))]) ((List.range R.length).map fun k : Nat => PyData.int (k : Int)) = some ((List.range R.length).map fun k => PyData.int (aA (0, 0) (pr R k 1) (R.getD k (0, 0)))) := by
  refine iI _ fun k hk => ?_
  have hk := List.mem_range.mp hk
  have i1 : ixE (.p (.list (R.map slD))) (.p (.int ((k : Int) - 1))) = .ok (.p (slD (pr R k 1))) := aCw (d := 1) hk (by omega)
  have i0 := aG7 hk
  have g0 : GQ (0, 0) := ⟨(show Sz 90 (0 : Int) by unfold Sz; decide).mono (by decide), (show Sz 90 (0 : Int) by unfold Sz; decide).mono (by decide)⟩
  have t : fB K c [.p (.tuple [.int 0, .int 0]), .p (slD (pr R k 1)), .p (slD (R.getD k (0, 0)))] = .ok (.p (.int (aA (0, 0) (pr R k 1) (R.getD k (0, 0))))) := mY K c (a := (0, 0)) g0 (rg _ (hU hk (by omega))) (rg _ (get_mem hk))
  have he : jN K c [some (.p (.int (k : Int))), some (.p (.list (R.map slD)))] = .ok (.p (.int (aA (0, 0) (pr R k 1) (R.getD k (0, 0))))) := by
   exact pW rfl (by ktr_call 3 ⟨aH, aE, mC, Res.bind, Ev.c, dU, i1⟩) (by ktr_call 3 ⟨aH, aE, Res.bind, Ev.c, i0⟩) t
  unfold cD
  ktr_call 3 ⟨bE, aCq, aFu, sI, List.replicate, List.cons_append, List.nil_append, he, Ev.c⟩
 have hc := uZ (n := 1) (js := [1]) hit (by rw [List.length_map, List.length_range]; omega) hm
 refine n5 ?_
 exact aE0 hc (by rw [aD9, yQ])
theorem iZ (K : PySem.W.Frag) (c : Cls) {ps : List Q2} (hl : ps.length < 64) (h0 : ps ≠ []) (hg : ∀ p ∈ ps, GQ p) : gJ K c [.p (.list (ps.map slD))] = .ok (.p (.int (gE ps))) := jC (a := ps) lZ ⟨hl, h0, hg⟩
theorem bZ {f : En -> Res Ev} {g : En -> Res (List Ev)} {en : En} {x : Ev} {xs : List Ev} (h1 : f en = .ok x) (h2 : g en = .ok xs) : aD f g en = .ok (x.c :: xs) := by
 simp only [aD, h1, h2, Res.bind]
theorem l7 {n : Nat} {m : List L -> Res L} {fr : En -> Res (List Ev)} {en : En} {rs : List Ev} {ls : List L} {r : L} (h : fr en = .ok rs) (ha : cZ nK rs = some ls) (hn : ls.length = n) (hm : m ls = .ok r) : aX n m fr en = .ok (oK r) := by
 simp only [aX, h, Res.bind, fO, ha, hn, hm, if_true]
theorem hZ {m : List L -> Res L} {f : En -> Res Ev} {en : En} {a : D} {r : L} (h1 : f en = .ok (.p a)) (hm : m [.p a] = .ok r) : aX 1 m (aD f aY) en = .ok (oK r) := by
 ktr_call 3 ⟨aX, aD, aY, h1, Res.bind, Ev.c, fO, cZ, nK, hm⟩
theorem aAk {m : List L -> Res L} {f g : En -> Res Ev} {en : En} {a b r : D} (h1 : f en = .ok (.p a)) (h2 : g en = .ok (.p b)) (hm : m [.p a, .p b] = .ok (.p r)) : aX 2 m (aD f (aD g aY)) en = .ok (.p r) := by
 ktr_call 3 ⟨aX, aD, aY, h1, h2, Res.bind, Ev.c, fO, cZ, nK, hm, oK⟩
theorem cJ {r : List Ev -> Res Ev} {f : En -> Res Ev} {en : En} {a : D} {o : Res Ev} (h1 : f en = .ok (.p a)) (h : r [.p a] = o) : aK r (aD f aY) en = o := by
 simp only [aK, aD, aY, h1, Res.bind, Ev.c, h]
theorem a8 {op : Ev -> Ev -> Res Ev} {f g : En -> Res Ev} {en : En} {x y : Ev} {o : Res Ev} (h1 : f en = .ok x) (h2 : g en = .ok y) (h : op x.c y.c = o) : aH op f g en = o := by
 simp only [aH, h1, h2, Res.bind, h]
theorem nX {f : En -> Res Ev} {en : En} {b : Bool} (h : f en = .ok (.p (.bool b))) : cY f en = .ok b := by
 simp only [cY, h, Res.bind, eY]
theorem aIe {f : En -> Res Bool} {en : En} {b : Bool} (h : f en = .ok b) : aA4 f en = .ok (!b) := by
 simp only [aA4, h, Res.bind]
theorem aJf {f g : En -> Res Bool} {en : En} (h1 : f en = .ok false) (h2 : g en = .ok false) : mOr f g en = .ok false := by
 simp only [mOr, h1, h2, Res.bind]
 rfl
theorem eq_int (ng : Bool) {i j : Int} (h : i = j) : eqE ng (.p (.int i)) (.p (.int j)) = .ok (.p (.bool (!ng))) := by rw [h]; exact xR rfl rfl (gZ _) ng
theorem aE6 {i : Nat} {fe : En -> Res Ev} {en : En} {ds es : List D} (h1 : en[i]? = some (some (.o (.list ds)))) (h2 : fe en = .ok (.f (.list es))) (h3 : ds.length + es.length <= 100000) : jK i fe en = some (.nx (en.set i (some (.o (.list (ds ++ es)))))) := by
 unfold jK
 rw [h1]
 dsimp only
 rw [h2]
 dsimp only
 rw [if_pos h3]
theorem iY {i : Nat} {f : MS} {en e1 : En} {o : Option Out} (h : frz i en = e1) (k : f e1 = o) : f (frz i en) = o := by rw [h]; exact k
theorem aCe (vs : List Int) (a b : Nat) : ∃ cs : List Int, M.cutD (vs.map .int) (some (a : Int)) (some (b : Int)) = cs.map .int /\ (∀ x ∈ cs, x ∈ vs) /\ cs.length <= b - a := by
 refine ⟨(vs.drop (HT.sIx vs.length 0 (some (a : Int)))).take (HT.sIx vs.length vs.length (some (b : Int)) - HT.sIx vs.length 0 (some (a : Int))), ?_, fun x hx => List.mem_of_mem_drop (List.mem_of_mem_take hx), ?_⟩
 ·unfold M.cutD
  rw [List.length_map, List.map_take, List.map_drop]
 ·rw [List.length_take, List.length_drop, HT.tO, HT.tO]
  omega
noncomputable def cM (K : PySem.W.Frag) (c : Cls) : MS := (cG (dX 3 (aX 3 (bJ K c) (aD (aE 0) (aD (aE 1) (aD (aE 2) aY))))) (cG (k7 (cY (aH (eqE true) (aE 3) (mC (.int 0)))) (fP (aH ltE (aE 3) (mC (.int 0)))) gW) (cG (dX 4 (aH eE (aK vF (aD (aH fV (aH ixE (aE 2) (mC (.int 0))) (aH ixE (aE 0) (mC (.int 0)))) aY)) (aK vF (aD (aH fV (aH ixE (aE 2) (mC (.int 1))) (aH ixE (aE 0) (mC (.int 1)))) aY)))) (fP (aH gtE (aE 4) (aH eE (aK vF (aD (aH fV (aH ixE (aE 1) (mC (.int 0))) (aH ixE (aE 0) (mC (.int 0)))) aY)) (aK vF (aD (aH fV (aH ixE (aE 1) (mC (.int 1))) (aH ixE (aE 0) (mC (.int 1)))) aY))))))))
noncomputable def aW (K : PySem.W.Frag) (c : Cls) (ls : List L) : Res L := fN 5 (cM K c) ls
theorem j7 (K : PySem.W.Frag) (c : Cls) : ∀ ls, aW K c ls = .bad \/ fN 5 (cM K c) ls = aW K c ls := fun _ => .inr rfl
theorem aCj (K : PySem.W.Frag) (c : Cls) {r f p : Q2} (hr : GQ r) (hf : GQ f) (hp : GQ p) : aW K c [.p (slD r), .p (slD f), .p (slD p)] = .ok (.p (.bool (g9 r f p))) := by
 have t := qP K c hr hf hp
 have x0 : ∀ y : Q2, ixE (.p (slD y)) (.p (.int 0)) = .ok (.p (.int y.1)) := fun y => kA _ _
 have x1 : ∀ y : Q2, ixE (.p (slD y)) (.p (.int 1)) = .ok (.p (.int y.2)) := fun y => kH _ _ _
 have abE : ∀ i : Int, vF [.p (.int i)] = .ok (.p (.int (ab i))) := fun i => rfl
 unfold aW
 refine dM ?_
 rw [show bX 5 [.p (slD r), .p (slD f), .p (slD p)] = [some (.p (slD r)), some (.p (slD f)), some (.p (slD p)), none, none] from rfl]
 unfold cM
 refine (aO (dQ (pW rfl rfl rfl t))).trans ?_
 simp only [List.set_cons_succ, List.set_cons_zero]
 have tt : cY (aH (eqE true) (aE 3) (mC (.int 0))) [some (.p (slD r)), some (.p (slD f)), some (.p (slD p)), some (.p (.int (aA r f p))), none] = .ok (!(aA r f p == 0)) := nX (a8 rfl rfl (by
  show eqE true (.p (.int (aA r f p))) (.p (.int 0)) = _
  simp only [eqE, dat, gZ, jR]
  rfl))
 unfold g9
 by_cases z : aA r f p = 0
 ·rw [if_neg (fun w => w z)]
  rw [z] at tt ⊢
  refine (aO (sJ tt)).trans ?_
  have dd : ∀ (q : Q2) {i : Nat} {en : En}, en[0]? = some (some (.p (slD r))) -> en[i]? = some (some (.p (slD q))) -> aH eE (aK vF (aD (aH fV (aH ixE (aE i) (mC (.int 0))) (aH ixE (aE 0) (mC (.int 0)))) aY)) (aK vF (aD (aH fV (aH ixE (aE i) (mC (.int 1))) (aH ixE (aE 0) (mC (.int 1)))) aY)) en = .ok (.p (.int (dst r q))) := fun q {i en} h0 hi => by
   have v0 : aE 0 en = .ok (.p (slD r)) := by unfold aE; rw [h0]
   have vi : aE i en = .ok (.p (slD q)) := by unfold aE; rw [hi]
   exact a8 (cJ (a8 (a8 vi rfl (x0 q)) (a8 v0 rfl (x0 r)) rfl) (abE _)) (cJ (a8 (a8 vi rfl (x1 q)) (a8 v0 rfl (x1 r)) rfl) (abE _)) rfl
  refine (aO (dQ (dd p (i := 2) rfl rfl))).trans (n5 ?_)
  exact a8 rfl (dd f (i := 1) rfl rfl) rfl
 ·rw [if_pos z]
  have e : (!(aA r f p == 0)) = true := by rw [beq_false_of_ne z]; rfl
  rw [e] at tt
  refine wK ((yN tt).trans (n5 ?_))
  exact a8 rfl rfl rfl
def k8 : Option Q2 -> D
 | none => .none
 | some f => slD f
noncomputable def bD (K : PySem.W.Frag) (c : Cls) : List L -> Res L := mOf eQs (fun ps => ps.length < 64 /\ ps ≠ [] /\ ∀ p ∈ ps, GQ p) fun ps => .ok (.o (.list ((bM (cX ps)).map slD)))
noncomputable def bV (K : PySem.W.Frag) (c : Cls) : MS := (k7 (sF (cY (aH (eqE true) (aE 5) (aH ixE (aE 2) (mUn j9 (mC (.int 1)))))) (mOr (cY (mUn (pC false) (aE 4))) (cY (aX 3 (aW K c) (aD (aH ixE (aE 2) (mUn j9 (mC (.int 1)))) (aD (aE 4) (aD (aE 5) aY))))))) (dX 4 (aE 5)) gW)
noncomputable def aV (K : PySem.W.Frag) (c : Cls) : MS := (cG (dX 4 (mC (.none))) (cG (p7 (sM (aE 1)) (bE 5) (bV K c)) (cG (k7 (mOr (cY (mUn (pC false) (aE 4))) (cY (aH (eqE false) (aE 4) (aH ixE (aE 2) (mC (.int 0)))))) aAj gW) (dE 2 (aE 4)))))
noncomputable def dW (K : PySem.W.Frag) (c : Cls) : MS := (cG (dX 1 (mUn dJ (aE 0))) (cG (dX 2 (aK iB (aD (aH ixE (aE 1) (mC (.int 0))) aY))) (fun en => (cG (p7 (xF jD (aD (aK fS (aD (aE 1) aY)) aY)) (bE 3) (aV K c)) (fP (aE 2))) (frz 1 en))))
theorem aEr {f g : En -> Res Bool} {en : En} {a b : Bool} (h1 : f en = .ok a) (h2 : a = true -> g en = .ok b) (h3 : a = false -> b = false) : sF f g en = .ok b := by
 cases a with
 | true => simp only [sF, h1, Res.bind, h2 rfl, if_true]
 | false => rw [h3 rfl]; simp only [sF, h1, Res.bind]; rfl
theorem aBt (K : PySem.W.Frag) (c : Cls) (A B S : Option L) (acc : List Q2) {r : Q2} (gr : GQ r) {p : Q2} (gp : GQ p) (far : Option Q2) (gf : ∀ f, far = some f -> GQ f) : bV K c [A, B, some (.o (.list ((acc ++ [r]).map slD))), S, some (.p (k8 far)), some (.p (slD p))] = some (.nx [A, B, some (.o (.list ((acc ++ [r]).map slD))), S, some (.p (k8 (fT r far p))), some (.p (slD p))]) := by
 have il : ixE (.b (.list ((acc ++ [r]).map slD))) (.p (.int (-1))) = .ok (.p (slD r)) := by
  have : atI ((acc ++ [r]).map slD) (-1) = some (slD r) := by
   rw [List.map_append]
   exact pT _ _
  simp only [ixE, eP, this]
 have ng : ∀ en : En, mUn j9 (mC (.int 1)) en = .ok (.p (.int (-1))) := fun en => rfl
 have ev : eqE true (.p (slD p)) (.p (slD r)) = .ok (.p (.bool (!decide (p = r)))) := by
  unfold eqE
  simp only [dat]
  rw [if_pos ⟨zP p, zP r⟩, if_pos trivial, show PyData.eqv (slD p) (slD r) = decide (p = r) from aAl p r]
 unfold bV
 have t1 : cY (aH (eqE true) (aE 5) (aH ixE (aE 2) (mUn j9 (mC (.int 1))))) [A, B, some (.o (.list ((acc ++ [r]).map slD))), S, some (.p (k8 far)), some (.p (slD p))] = .ok (!decide (p = r)) := nX (a8 rfl (a8 rfl rfl il) ev)
 cases far with
 | none =>
  have t2 : (mOr (cY (mUn (pC false) (aE 4))) (cY (aX 3 (aW K c) (aD (aH ixE (aE 2) (mUn j9 (mC (.int 1)))) (aD (aE 4) (aD (aE 5) aY)))))) [A, B, some (.o (.list ((acc ++ [r]).map slD))), S, some (.p (k8 none)), some (.p (slD p))] = .ok true := by
   unfold mOr
   rw [show cY (mUn (pC false) (aE 4)) [A, B, some (.o (.list ((acc ++ [r]).map slD))), S, some (.p (k8 none)), some (.p (slD p))] = .ok true from rfl]
   rfl
  have tt := aEr (b := !decide (p = r)) t1 (fun e => by rw [e]; exact t2) id
  by_cases z : p = r
  ·rw [decide_eq_true z] at tt
   have e : fT r none p = none := if_neg (fun w => w z)
   rw [e]
   exact sJ tt
  ·rw [decide_eq_false z] at tt
   have e : fT r none p = some p := if_pos z
   rw [e]
   exact (yN tt).trans (dQ rfl)
 | some f =>
  have lf := aCj K c gr (gf f rfl) gp
  have t2 : (mOr (cY (mUn (pC false) (aE 4))) (cY (aX 3 (aW K c) (aD (aH ixE (aE 2) (mUn j9 (mC (.int 1)))) (aD (aE 4) (aD (aE 5) aY)))))) [A, B, some (.o (.list ((acc ++ [r]).map slD))), S, some (.p (k8 (some f))), some (.p (slD p))] = .ok (g9 r f p) := by
   have a1 : cY (mUn (pC false) (aE 4)) [A, B, some (.o (.list ((acc ++ [r]).map slD))), S, some (.p (k8 (some f))), some (.p (slD p))] = .ok false := rfl
   have a2 : cY (aX 3 (aW K c) (aD (aH ixE (aE 2) (mUn j9 (mC (.int 1)))) (aD (aE 4) (aD (aE 5) aY)))) [A, B, some (.o (.list ((acc ++ [r]).map slD))), S, some (.p (k8 (some f))), some (.p (slD p))] = .ok (g9 r f p) := nX (pW (a8 rfl rfl il) rfl rfl lf)
   unfold mOr
   rw [a1, k9]
   exact a2
  have tt := aEr (b := !decide (p = r) && g9 r f p) t1 (fun e => by rw [e]; exact t2) (fun e => by rw [e]; rfl)
  by_cases z : p ≠ r /\ g9 r f p = true
  ·rw [decide_eq_false z.1, z.2] at tt
   have e : fT r (some f) p = some p := if_pos z
   rw [e]
   exact (yN tt).trans (dQ rfl)
  ·have e : fT r (some f) p = some f := if_neg z
   have b0 : (!decide (p = r) && g9 r f p) = false := by
    by_cases w : p = r
    ·rw [decide_eq_true w]; rfl
    ·rw [decide_eq_false w]
     cases y : g9 r f p with
     | false => rfl
     | true => exact absurd ⟨w, y⟩ z
   rw [b0] at tt
   rw [e]
   exact sJ tt
theorem aF5 (K : PySem.W.Frag) (c : Cls) (A B S : Option L) (acc : List Q2) {r : Q2} (gr : GQ r) : ∀ (qs : List Q2) (far : Option Q2) (q5 : Option L), (∀ p ∈ qs, GQ p) -> (∀ f, far = some f -> GQ f) -> ∃ r5, dI (bE 5) (bV K c) (qs.map slD) [A, B, some (.o (.list ((acc ++ [r]).map slD))), S, some (.p (k8 far)), q5] = some (.nx [A, B, some (.o (.list ((acc ++ [r]).map slD))), S, some (.p (k8 (qs.foldl (fT r) far))), r5])
 | [], far, q5, _, _ => ⟨q5, rfl⟩
 | p :: qs, far, q5, h, gf => by
  have gp := h p (.head _)
  obtain ⟨r5, ih⟩ := aF5 K c A B S acc gr qs (fT r far p) (some (.p (slD p))) (fun q hq => h q (.tail _ hq)) fun f ef => by
   cases far with
   | none =>
    have ef : (if p ≠ r then some p else none) = some f := ef
    by_cases z : p ≠ r
    ·rw [if_pos z] at ef
     rw [<- Option.some.inj ef]; exact gp
    ·rw [if_neg z] at ef; cases ef
   | some g =>
    have ef : (if p ≠ r /\ g9 r g p = true then some p else some g) = some f := ef
    by_cases z : p ≠ r /\ g9 r g p = true
    ·rw [if_pos z] at ef
     rw [<- Option.some.inj ef]; exact gp
    ·rw [if_neg z] at ef
     rw [<- Option.some.inj ef]; exact gf g rfl
  refine ⟨r5, ?_⟩
  rw [List.map_cons, l4 rfl (aBt K c A B S acc gr gp far gf)]
  exact ih
theorem aCa {ps : List Q2} {r v : Q2} (h : iC ps r = some v) : v ∈ ps := by
 have go : ∀ (qs : List Q2) (far : Option Q2), (∀ p ∈ qs, p ∈ ps) -> (∀ f, far = some f -> f ∈ ps) -> ∀ v, qs.foldl (fT r) far = some v -> v ∈ ps := by
  intro qs
  induction qs with
  | nil => exact fun far _ hf v e => hf v e
  | cons q qs ih =>
   intro far hs hf
   rw [List.foldl_cons]
   refine ih _ (fun p hp => hs p (.tail _ hp)) fun f ef => ?_
   cases far with
   | none =>
    have ef : (if q ≠ r then some q else none) = some f := ef
    by_cases z : q ≠ r
    ·rw [if_pos z] at ef
     rw [<- Option.some.inj ef]; exact hs q (.head _)
    ·rw [if_neg z] at ef; cases ef
   | some g =>
    have ef : (if q ≠ r /\ g9 r g q = true then some q else some g) = some f := ef
    by_cases z : q ≠ r /\ g9 r g q = true
    ·rw [if_pos z] at ef
     rw [<- Option.some.inj ef]; exact hs q (.head _)
    ·rw [if_neg z] at ef
     rw [<- Option.some.inj ef]; exact hf g rfl
 exact go ps none (fun _ h => h) (fun _ z => nomatch z) v h
theorem aFf {tg : D -> En -> Option En} {f : MS} {d : D} {ds : List D} {en e e' : En} (h1 : tg d en = some e) (h2 : f e = some (.bk e')) : dI tg f (d :: ds) en = some (.nx e') := by
 rw [dI, h1]
 dsimp only
 rw [h2]
theorem aEs (d : D) (ds : List D) : ixE (.b (.list (d :: ds))) (.p (.int 0)) = .ok (.p d) := by
 have : atI (d :: ds) 0 = some d := jQ (j := 0) rfl
 simp only [ixE, eP, this]
theorem aHt (K : PySem.W.Frag) (c : Cls) (A : Option L) {rs : List Q2} {x : Q2} (hg : ∀ p ∈ rs, GQ p) (hl : rs.length < 64) : ∀ (n : Nat) (ks : List D) (acc : List Q2) (r : Q2) (q3 q4 q5 : Option L), ks.length = n -> acc.length + n <= 1000 -> GQ r -> (acc ++ [r]).head? = some x -> ∃ r3 r4 r5, dI (bE 3) (aV K c) ks [A, some (.p (.list (rs.map slD))), some (.o (.list ((acc ++ [r]).map slD))), q3, q4, q5] = some (.nx [A, some (.p (.list (rs.map slD))), some (.o (.list ((kC rs x n (acc ++ [r]) r).map slD))), r3, r4, r5]) := by
 intro n
 induction n with
 | zero =>
  intro ks acc r q3 q4 q5 hk _ _ _
  have : ks = [] := List.length_eq_zero_iff.mp hk
  subst this
  exact ⟨q3, q4, q5, rfl⟩
 | succ n ih =>
  intro ks acc r q3 q4 q5 hk ha gr hx
  cases ks with
  | nil => cases hk
  | cons k ks =>
   have hk : ks.length = n := Nat.succ.inj hk
   obtain ⟨r5, hp⟩ := aF5 K c A (some (.p (.list (rs.map slD)))) (some (.p k)) acc gr rs none q5 hg (fun _ z => nomatch z)
   have hp : dI _ _ _ _ = some (.nx [A, some (.p (.list (rs.map slD))), some (.o (.list ((acc ++ [r]).map slD))), some (.p k), some (.p (k8 (iC rs r))), r5]) := hp
   have i0 : ixE (.b (.list ((acc ++ [r]).map slD))) (.p (.int 0)) = .ok (.p (slD x)) := by
    cases e : acc ++ [r] with
    | nil => rw [e] at hx; cases hx
    | cons a l =>
     rw [e] at hx
     rw [<- Option.some.inj hx]
     exact aEs _ _
   have wq : kC rs x (n + 1) (acc ++ [r]) r = match iC rs r with | none => acc ++ [r] | some v => if v = x then acc ++ [r] else kC rs x n (acc ++ [r] ++ [v]) v := rfl
   rw [wq]
   cases e : iC rs r with
   | none =>
    rw [e] at hp
    have tt : (mOr (cY (mUn (pC false) (aE 4))) (cY (aH (eqE false) (aE 4) (aH ixE (aE 2) (mC (.int 0)))))) [A, some (.p (.list (rs.map slD))), some (.o (.list ((acc ++ [r]).map slD))), some (.p k), some (.p (k8 none)), r5] = .ok true := by
     unfold mOr
     rw [show cY (mUn (pC false) (aE 4)) [A, some (.p (.list (rs.map slD))), some (.o (.list ((acc ++ [r]).map slD))), some (.p k), some (.p (k8 none)), r5] = .ok true from rfl]
     rfl
    have hb : aV K c [A, some (.p (.list (rs.map slD))), some (.o (.list ((acc ++ [r]).map slD))), some (.p k), q4, q5] = some (.bk [A, some (.p (.list (rs.map slD))), some (.o (.list ((acc ++ [r]).map slD))), some (.p k), some (.p (k8 none)), r5]) := by
     unfold aV
     refine (aO (dQ (d := .none) rfl)).trans ((aO ((jP (ds := rs.map slD) rfl).trans hp)).trans ?_)
     unfold cG
     rw [yN tt]
     rfl
    exact ⟨_, _, _, aFf rfl hb⟩
   | some v =>
    rw [e] at hp
    have gv := hg v (aCa e)
    have ev : eqE false (.p (slD v)) (.p (slD x)) = .ok (.p (.bool (decide (v = x)))) := by
     unfold eqE
     simp only [dat]
     rw [if_pos ⟨zP v, zP x⟩, show PyData.eqv (slD v) (slD x) = decide (v = x) from aAl v x]
     rfl
    have a1 : cY (mUn (pC false) (aE 4)) [A, some (.p (.list (rs.map slD))), some (.o (.list ((acc ++ [r]).map slD))), some (.p k), some (.p (k8 (some v))), r5] = .ok false := rfl
    have a2 : cY (aH (eqE false) (aE 4) (aH ixE (aE 2) (mC (.int 0)))) [A, some (.p (.list (rs.map slD))), some (.o (.list ((acc ++ [r]).map slD))), some (.p k), some (.p (k8 (some v))), r5] = .ok (decide (v = x)) := nX (a8 rfl (a8 rfl rfl i0) ev)
    have tt : (mOr (cY (mUn (pC false) (aE 4))) (cY (aH (eqE false) (aE 4) (aH ixE (aE 2) (mC (.int 0)))))) [A, some (.p (.list (rs.map slD))), some (.o (.list ((acc ++ [r]).map slD))), some (.p k), some (.p (k8 (some v))), r5] = .ok (decide (v = x)) := by
     unfold mOr
     rw [a1, k9]
     exact a2
    by_cases z : v = x
    ·rw [decide_eq_true z] at tt
     have hb : aV K c [A, some (.p (.list (rs.map slD))), some (.o (.list ((acc ++ [r]).map slD))), some (.p k), q4, q5] = some (.bk [A, some (.p (.list (rs.map slD))), some (.o (.list ((acc ++ [r]).map slD))), some (.p k), some (.p (k8 (some v))), r5]) := by
      unfold aV
      refine (aO (dQ (d := .none) rfl)).trans ((aO ((jP (ds := rs.map slD) rfl).trans hp)).trans ?_)
      unfold cG
      rw [yN tt]
      rfl
     dsimp only
     rw [if_pos z]
     exact ⟨_, _, _, aFf rfl hb⟩
    ·rw [decide_eq_false z] at tt
     have hb : aV K c [A, some (.p (.list (rs.map slD))), some (.o (.list ((acc ++ [r]).map slD))), some (.p k), q4, q5] = some (.nx [A, some (.p (.list (rs.map slD))), some (.o (.list ((acc ++ [r] ++ [v]).map slD))), some (.p k), some (.p (k8 (some v))), r5]) := by
      unfold aV
      refine (aO (dQ (d := .none) rfl)).trans ((aO ((jP (ds := rs.map slD) rfl).trans hp)).trans ((aO (sJ tt)).trans ?_))
      have em : (acc ++ [r] ++ [v]).map slD = (acc ++ [r]).map slD ++ [slD v] := by rw [List.map_append]; rfl
      rw [em]
      exact tF rfl rfl (by rw [List.length_map, List.length_append]; simp; omega)
     dsimp only
     rw [if_neg z]
     obtain ⟨s3, s4, s5, h⟩ := ih ks (acc ++ [r]) v (some (.p k)) (some (.p (k8 (some v)))) r5 hk (by rw [List.length_append]; simp; omega) gv (by
      cases w : acc ++ [r] with
      | nil => rw [w] at hx; cases hx
      | cons a l => rw [w] at hx; exact hx)
     refine ⟨s3, s4, s5, ?_⟩
     rw [l4 rfl hb]
     exact h
theorem iW (K : PySem.W.Frag) (c : Cls) : ∀ ls, bD K c ls = .bad \/ fN 6 (dW K c) ls = bD K c ls := jB fun ps h => by
 obtain ⟨hl, h0, hg⟩ := h
 have hs := uM hl
 have rl := iJ ps
 have rg : ∀ p ∈ cX ps, GQ p := fun p hp => hg p (rows_mem.mp hp)
 have rn := fU h0
 have lt := fR ps
 generalize cX ps = rs at hs rl rg rn lt ⊢
 obtain ⟨x, hx⟩ : ∃ x, rs.head? = some x := by
  cases rs with
  | nil => exact absurd rfl rn
  | cons a r => exact ⟨a, rfl⟩
 have wk := wU lt hx
 have i0 : ixE (.b (.list (rs.map slD))) (.p (.int 0)) = .ok (.p (slD x)) := by
  cases rs with
  | nil => exact absurd rfl rn
  | cons a r => rw [<- Option.some.inj hx]; exact aEs _ _
 have ln : fS [.p (.list (rs.map slD))] = .ok (.p (.int (rs.length : Nat))) := by simp [fS, eP]
 refine dM ?_
 rw [show bX 6 (eQs ps) = [some (.p (.list (ps.map slD))), none, none, none, none, none] from rfl]
 unfold dW
 have e1 : (mUn dJ (aE 0)) [some (.p (.list (ps.map slD))), none, none, none, none, none] = .ok (.f (.list (rs.map slD))) := by
  ktr_call 3 ⟨mUn, aE, Res.bind, Ev.c, hs⟩
 refine (aO (fM e1)).trans ?_
 simp only [List.set_cons_succ, List.set_cons_zero]
 have e2 : (aK iB (aD (aH ixE (aE 1) (mC (.int 0))) aY)) [some (.p (.list (ps.map slD))), some (.o (.list (rs.map slD))), none, none, none, none] = .ok (.f (.list [slD x])) := cJ (a8 rfl rfl i0) rfl
 refine (aO (fM e2)).trans ?_
 simp only [List.set_cons_succ, List.set_cons_zero, frz, List.getElem?_cons_succ, List.getElem?_cons_zero]
 have hit : xF jD (aD (aK fS (aD (aE 1) aY)) aY) [some (.p (.list (ps.map slD))), some (.p (.list (rs.map slD))), some (.o (.list [slD x])), none, none, none] = .ok (sO 0 rs.length) := aG3 (a := .int (rs.length : Nat)) (cJ rfl ln) (iF _ (by omega))
 obtain ⟨r3, r4, r5, h⟩ := aHt K c (some (.p (.list (ps.map slD)))) (x := x) rg (by omega) rs.length (sO 0 rs.length) [] x none none none (by rw [lD, List.length_map, zL]) (by simp; omega) (rg x (List.mem_of_head? hx)) rfl
 have h : dI (bE 3) (aV K c) (sO 0 rs.length) [some (.p (.list (ps.map slD))), some (.p (.list (rs.map slD))), some (.o (.list [slD x])), none, none, none] = some (.nx [some (.p (.list (ps.map slD))), some (.p (.list (rs.map slD))), some (.o (.list ((sD rs x).map slD))), r3, r4, r5]) := h
 rw [wk] at h
 refine (aO ((jP hit).trans h)).trans ?_
 rfl
theorem xN (K : PySem.W.Frag) (c : Cls) {ps : List Q2} (hl : ps.length < 64) (h0 : ps ≠ []) (hg : ∀ p ∈ ps, GQ p) : bD K c [.p (.list (ps.map slD))] = .ok (.o (.list ((bM (cX ps)).map slD))) := jC (a := ps) lZ ⟨hl, h0, hg⟩
theorem aIx {f g : En -> Res Ev} {en : En} {a b : D} (h1 : f en = .ok (.p a)) (h2 : g en = .ok (.p b)) : aK eN (aD f (aD g aY)) en = .ok (.p (.tuple [a, b])) := by
 ktr_call 3 ⟨aK, aD, aY, h1, h2, eN, iO, Res.bind, Ev.c⟩
theorem aGw (y : Q2) : ixE (.p (slD y)) (.p (.int 0)) = .ok (.p (.int y.1)) := kA _ _
theorem aG4 (y : Q2) : ixE (.p (slD y)) (.p (.int 1)) = .ok (.p (.int y.2)) := kH _ _ _
def hlP (ps : List Q2) : List Q2 := bM (cX ps)
def smQ (P Q : List Q2) : List Q2 := P.flatMap fun p => Q.map (ad p)
theorem oF {P Q : List Q2} (s : Q2) : s ∈ smQ P Q ↔ ∃ p ∈ P, ∃ q ∈ Q, s = ad p q := by
 unfold smQ
 rw [List.mem_flatMap]
 constructor
 ·rintro ⟨p, hp, h⟩
  obtain ⟨q, hq, e⟩ := List.mem_map.mp h
  exact ⟨p, hp, q, hq, e.symm⟩
 ·rintro ⟨p, hp, q, hq, e⟩
  exact ⟨p, hp, List.mem_map.mpr ⟨q, hq, e.symm⟩⟩
theorem uE (P Q : List Q2) : (smQ P Q).length = P.length * Q.length := by
 induction P with
 | nil => unfold smQ; rw [List.flatMap_nil, List.length_nil, Nat.zero_mul]
 | cons p r ih =>
  show (Q.map (ad p) ++ smQ r Q).length = _
  rw [List.length_append, ih, List.length_map, List.length_cons, Nat.succ_mul, Nat.add_comm]
theorem v9 {P Q : List Q2} (pn0 : P ≠ []) (qn0 : Q ≠ []) : smQ P Q ≠ [] := fun z => by
 have := uE P Q
 rw [z] at this
 have := Nat.mul_pos (List.length_pos_iff.mpr pn0) (List.length_pos_iff.mpr qn0)
 simp only [List.length_nil] at *
 omega
theorem gF {ps : List Q2} (h : ps ≠ []) : hlP ps ≠ [] := fun z => by
 obtain ⟨_, b⟩ := lQ (fR ps) (fun _ => rows_mem) (fU h)
 obtain ⟨r, hr, _⟩ := b (0, 0)
 have hr : r ∈ hlP ps := hr
 rw [z] at hr
 cases hr
theorem oY {ps : List Q2} {p : Q2} (h : p ∈ hlP ps) : p ∈ ps := rows_mem.mp (qU h)
theorem gO {ps : List Q2} (h : ps ≠ []) : (hlP ps).length <= ps.length := Nat.le_trans (aBw (fR ps) (fun _ => rows_mem) (fU h)) (iJ ps)
def MV (A C : List Q2) : Int := (gE (smQ (hlP A) (hlP C)) - gE (hlP A) - gE (hlP C)).fdiv 2
theorem xD {ps : List Q2} (h : ps ≠ []) : ∃ E, Es ps E /\ (E.map crs).sum = gE ps /\ (hlP ps).length <= max 2 E.length /\ E.length <= max 2 (hlP ps).length := aH4 (fR ps) (fun _ => rows_mem) (fU h)
theorem mxh {ps : List Q2} (h : ps ≠ []) (f : Q2) : mx (hlP ps) f = mx ps f := aBc (fR ps) (fun _ => rows_mem) (fU h) f
theorem oS {A C : List Q2} (hA : A ≠ []) (hC : C ≠ []) {E : List (Q2 × Q2)} (es : Es (hlP C) E) : MV A C = (E.map fun e => mx A (sb e.2 e.1)).sum := by
 have a0 := gF hA
 have c0 := gF hC
 obtain ⟨ES, s1, s2, _⟩ := xD (v9 a0 c0)
 obtain ⟨EA, a1, a2, _⟩ := xD a0
 obtain ⟨EC, c1, c2, _⟩ := xD c0
 have pm := L2.iP c1.nd es.nd fun e => (c1.mem e).trans (es.mem e).symm
 have m := sP oF a0 c0 s1 a1 c1
 rw [s2, a2, c2, mD (pm.map _)] at m
 have e : (E.map fun e => mx (hlP A) (sb e.2 e.1)) = E.map fun e => mx A (sb e.2 e.1) := List.map_congr_left fun e _ => mxh hA _
 rw [e] at m
 unfold MV
 rw [Int.fdiv_eq_ediv_of_nonneg _ (by decide)]
 omega
def G4 (q : Q2) : Prop := Sz 4000 q.1 /\ Sz 4000 q.2
theorem G4.gq {q : Q2} (h : G4 q) : GQ q := ⟨h.1.mono (by decide), h.2.mono (by decide)⟩
theorem G9.g4 {q : Q2} (h : G9 q) : G4 q := ⟨h.1.mono (by decide), h.2.mono (by decide)⟩
theorem aHa {P Q : List Q2} (pn0 : ∀ p ∈ P, G4 p) (qn0 : ∀ p ∈ Q, G4 p) : ∀ s ∈ smQ P Q, GQ s := fun s hs => by
 obtain ⟨p, hp, q, hq, rfl⟩ := (oF s).mp hs
 exact ⟨(N.Sz.addM (pn0 p hp).1 (qn0 q hq).1).mono (by decide), (N.Sz.addM (pn0 p hp).2 (qn0 q hq).2).mono (by decide)⟩
def eQ2 (a : List Q2 × List Q2) : List L := [.p (.list (a.1.map slD)), .p (.list (a.2.map slD))]
theorem aDj (a b : List Q2 × List Q2) (h : eQ2 a = eQ2 b) : a = b := by
 unfold eQ2 at h
 injection h with h1 h2
 injection h2 with h2 _
 injection h1 with h1
 injection h1 with h1
 injection h2 with h2
 injection h2 with h2
 exact Prod.ext ((List.map_inj_right fun _ _ e => gQ _ _ e).mp h1) ((List.map_inj_right fun _ _ e => gQ _ _ e).mp h2)
structure MxP (a : List Q2 × List Q2) : Prop where
 l1 : a.1.length < 64
 n1 : a.1 ≠ []
 g1 : ∀ p ∈ a.1, G4 p
 l2 : a.2.length < 64
 n2 : a.2 ≠ []
 g2 : ∀ p ∈ a.2, G4 p
 s : (hlP a.1).length * (hlP a.2).length < 64
noncomputable def dG (K : PySem.W.Frag) (c : Cls) : List L -> Res L := mOf eQ2 MxP fun a => .ok (.p (.int (MV a.1 a.2)))
noncomputable def fL (K : PySem.W.Frag) (c : Cls) : En -> Res Ev := (aK eN (aD (aH eE (aH ixE (aE 1) (mC (.int 0))) (aH ixE (aE 0) (mC (.int 0)))) (aD (aH eE (aH ixE (aE 1) (mC (.int 1))) (aH ixE (aE 0) (mC (.int 1)))) aY)))
noncomputable def kM (K : PySem.W.Frag) (c : Cls) : MS := (jK 4 (lN 1 [5] (sM (aE 3)) (bE 0) sI (fL K c)))
noncomputable def o6 (K : PySem.W.Frag) (c : Cls) : MS := (cG (dX 2 (aX 1 (d0 K c) (aD (aE 0) aY))) (cG (dX 3 (aX 1 (d0 K c) (aD (aE 1) aY))) (fun en => (cG (dX 4 (aK iB aY)) (fun en => (cG (p7 (sM (aE 2)) (bE 5) (kM K c)) (fun en => (fP (aH j6 (aH fV (aH fV (aX 1 (gJ K c) (aD (aE 4) aY)) (aX 1 (gJ K c) (aD (aE 2) aY))) (aX 1 (gJ K c) (aD (aE 3) aY))) (mC (.int 2)))) (frz 4 en))) (frz 3 en))) (frz 2 en))))
theorem aA2 (K : PySem.W.Frag) (c : Cls) (A B C : Option L) {qs : List Q2} (hq : qs.length <= 100) : ∀ (ps acc : List Q2) (r : Option L), acc.length + 100 * ps.length <= 60000 -> ∃ r', dI (bE 5) (kM K c) (ps.map slD) [A, B, C, some (.p (.list (qs.map slD))), some (.o (.list (acc.map slD))), r] = some (.nx [A, B, C, some (.p (.list (qs.map slD))), some (.o (.list ((acc ++ smQ ps qs).map slD))), r'])
 | [], acc, r, _ => ⟨r, by unfold smQ; rw [List.flatMap_nil, List.append_nil]; rfl⟩
 | p :: ps, acc, r, hl => by
  rw [List.length_cons] at hl
  have hm : xE (cD 1 [5] (bE 0) sI (fL K c) [A, B, C, some (.p (.list (qs.map slD))), some (.o (.list (acc.map slD))), some (.p (slD p))]) (qs.map slD) = some (qs.map fun q => slD (ad p q)) := by
   refine iI _ fun q _ => ?_
   have he : fL K c [some (.p (slD q)), some (.p (slD p))] = .ok (.p (slD (ad p q))) := aIx (a8 (a8 rfl rfl (aGw p)) (a8 rfl rfl (aGw q)) (eQ _ _)) (a8 (a8 rfl rfl (aG4 p)) (a8 rfl rfl (aG4 q)) (eQ _ _))
   unfold cD
   ktr_call 3 ⟨bE, sI, aCq, aFu, List.replicate, List.cons_append, List.nil_append, he, Ev.c⟩
   try rfl
  have hc := uZ (n := 1) (js := [5]) (fi := sM (aE 3)) (tg := bE 0) (ft := sI) (fe := fL K c) (en := [A, B, C, some (.p (.list (qs.map slD))), some (.o (.list (acc.map slD))), some (.p (slD p))]) (ds := qs.map slD) rfl (by rw [List.length_map]; omega) hm
  obtain ⟨r', ih⟩ := aA2 K c A B C hq ps (acc ++ qs.map (ad p)) (some (.p (slD p))) (by rw [List.length_append, List.length_map]; omega)
  refine ⟨r', (l4 rfl (aE6 rfl hc (by rw [List.length_map, List.length_map]; omega))).trans ?_⟩
  have em : (acc ++ qs.map (ad p)).map slD = acc.map slD ++ qs.map fun q => slD (ad p q) := by rw [List.map_append, List.map_map]; rfl
  rw [em] at ih
  rw [List.append_assoc] at ih
  exact ih
theorem yM (K : PySem.W.Frag) (c : Cls) : ∀ ls, dG K c ls = .bad \/ fN 6 (o6 K c) ls = dG K c ls := jB fun a h => by
 obtain ⟨ps, qs⟩ := a
 obtain ⟨l1, n1, g1, l2, n2, g2, hs⟩ := h
 dsimp only at l1 n1 g1 l2 n2 g2 hs ⊢
 have h1 : d0 K c [.p (.list (ps.map slD))] = .ok (.o (.list ((hlP ps).map slD))) := jT K c l1 n1 fun p hp => (g1 p hp).gq
 have h2 : d0 K c [.p (.list (qs.map slD))] = .ok (.o (.list ((hlP qs).map slD))) := jT K c l2 n2 fun p hp => (g2 p hp).gq
 have i1 := gF n1
 have i2 := gF n2
 have b1 := gO n1
 have b2 := gO n2
 have k1 : ∀ p ∈ hlP ps, G4 p := fun p hp => g1 p (oY hp)
 have k2 : ∀ p ∈ hlP qs, G4 p := fun p hp => g2 p (oY hp)
 unfold MV
 generalize hlP ps = P at *
 generalize hlP qs = Q at *
 have a0 := iZ K c (ps := smQ P Q) (by rw [uE]; exact hs) (v9 i1 i2) (aHa k1 k2)
 have a1 := iZ K c (ps := P) (by omega) i1 fun p hp => (k1 p hp).gq
 have a2 := iZ K c (ps := Q) (by omega) i2 fun p hp => (k2 p hp).gq
 obtain ⟨r5, hlp⟩ := aA2 K c (some (.p (.list (ps.map slD)))) (some (.p (.list (qs.map slD)))) (some (.p (.list (P.map slD)))) (qs := Q) (by omega) P [] none (by rw [List.length_nil]; omega)
 rw [List.nil_append] at hlp
 have d2 : nY (gE (smQ P Q) - gE P - gE Q) 2 := ⟨by decide, (show Sz 90 (2 : Int) by unfold Sz; decide).mono (by decide)⟩
 refine dM ?_
 rw [show bX 6 (eQ2 (ps, qs)) = [some (.p (.list (ps.map slD))), some (.p (.list (qs.map slD))), none, none, none, none] from rfl]
 unfold o6
 refine (aO (fM (hZ rfl h1))).trans ((aO (fM (hZ rfl h2))).trans ?_)
 refine iY (i := 2) (e1 := [some (.p (.list (ps.map slD))), some (.p (.list (qs.map slD))), some (.p (.list (P.map slD))), some (.o (.list (Q.map slD))), none, none]) rfl ((aO (fM (d := .list []) rfl)).trans ?_)
 refine iY (i := 3) (e1 := [some (.p (.list (ps.map slD))), some (.p (.list (qs.map slD))), some (.p (.list (P.map slD))), some (.p (.list (Q.map slD))), some (.o (.list [])), none]) rfl ((aO ((jP (ds := P.map slD) rfl).trans hlp)).trans ?_)
 refine iY (i := 4) (e1 := [some (.p (.list (ps.map slD))), some (.p (.list (qs.map slD))), some (.p (.list (P.map slD))), some (.p (.list (Q.map slD))), some (.p (.list ((smQ P Q).map slD))), r5]) rfl ?_
 exact n5 (a8 (a8 (a8 (hZ rfl a0) (hZ rfl a1) (vJ _ _)) (hZ rfl a2) (vJ _ _)) rfl (eV d2))
theorem d3 (K : PySem.W.Frag) (c : Cls) {ps qs : List Q2} (h : MxP (ps, qs)) : dG K c [.p (.list (ps.map slD)), .p (.list (qs.map slD))] = .ok (.p (.int (MV ps qs))) := jC (a := (ps, qs)) aDj h
noncomputable def d4 (K : PySem.W.Frag) (c : Cls) : MS := (dE 2 (aK eN (aD (aH eE (aH ixE (aE 3) (mC (.int 0))) (aH ixE (aE 4) (mC (.int 0)))) (aD (aH eE (aH ixE (aE 3) (mC (.int 1))) (aH ixE (aE 4) (mC (.int 1)))) aY))))
noncomputable def d6 (K : PySem.W.Frag) (c : Cls) : MS := (p7 (sM (aE 1)) (bE 4) (d4 K c))
noncomputable def cN (K : PySem.W.Frag) (c : Cls) : MS := (cG (dX 2 (aK iB aY)) (cG (p7 (sM (aE 0)) (bE 3) (d6 K c)) (fP (aE 2))))
noncomputable def bA (K : PySem.W.Frag) (c : Cls) (ls : List L) : Res L := fN 5 (cN K c) ls
theorem jL (K : PySem.W.Frag) (c : Cls) : ∀ ls, bA K c ls = .bad \/ fN 5 (cN K c) ls = bA K c ls := fun _ => .inr rfl
theorem aD4 (K : PySem.W.Frag) (c : Cls) (A B : Option L) (p : Q2) : ∀ (qs acc : List Q2) (r : Option L), acc.length + qs.length <= 60000 -> ∃ r', dI (bE 4) (d4 K c) (qs.map slD) [A, B, some (.o (.list (acc.map slD))), some (.p (slD p)), r] = some (.nx [A, B, some (.o (.list ((acc ++ qs.map (ad p)).map slD))), some (.p (slD p)), r'])
 | [], acc, r, _ => ⟨r, by rw [show (acc ++ List.map (N.ad p) []) = acc from List.append_nil _]; rfl⟩
 | q :: qs, acc, r, hl => by
  rw [List.length_cons] at hl
  obtain ⟨r', ih⟩ := aD4 K c A B p qs (acc ++ [ad p q]) (some (.p (slD q))) (by rw [List.length_append, List.length_singleton]; omega)
  have he : (aK eN (aD (aH eE (aH ixE (aE 3) (mC (.int 0))) (aH ixE (aE 4) (mC (.int 0)))) (aD (aH eE (aH ixE (aE 3) (mC (.int 1))) (aH ixE (aE 4) (mC (.int 1)))) aY))) [A, B, some (.o (.list (acc.map slD))), some (.p (slD p)), some (.p (slD q))] = .ok (.p (slD (ad p q))) := aIx (a8 (a8 rfl rfl (aGw p)) (a8 rfl rfl (aGw q)) (eQ _ _)) (a8 (a8 rfl rfl (aG4 p)) (a8 rfl rfl (aG4 q)) (eQ _ _))
  refine ⟨r', (l4 rfl (tF rfl he (by rw [List.length_map]; omega))).trans ?_⟩
  have em : (acc ++ [ad p q]).map slD = acc.map slD ++ [slD (ad p q)] := by rw [List.map_append]; rfl
  rw [em, List.append_assoc] at ih
  exact ih
theorem aAh (K : PySem.W.Frag) (c : Cls) (A : Option L) {qs : List Q2} (hq : qs.length <= 100) : ∀ (ps acc : List Q2) (r3 r4 : Option L), acc.length + 100 * ps.length <= 60000 -> ∃ q3 q4, dI (bE 3) (d6 K c) (ps.map slD) [A, some (.p (.list (qs.map slD))), some (.o (.list (acc.map slD))), r3, r4] = some (.nx [A, some (.p (.list (qs.map slD))), some (.o (.list ((acc ++ smQ ps qs).map slD))), q3, q4])
 | [], acc, r3, r4, _ => ⟨r3, r4, by unfold smQ; rw [List.flatMap_nil, List.append_nil]; rfl⟩
 | p :: ps, acc, r3, r4, hl => by
  rw [List.length_cons] at hl
  obtain ⟨q4, hb⟩ := aD4 K c A (some (.p (.list (qs.map slD)))) p qs acc r4 (by omega)
  obtain ⟨s3, s4, ih⟩ := aAh K c A hq ps (acc ++ qs.map (ad p)) (some (.p (slD p))) q4 (by rw [List.length_append, List.length_map]; omega)
  refine ⟨s3, s4, (l4 rfl ((jP (ds := qs.map slD) rfl).trans hb)).trans ?_⟩
  rw [List.append_assoc] at ih
  exact ih
theorem aBn (K : PySem.W.Frag) (c : Cls) {ps qs : List Q2} (hp : ps.length <= 100) (hq : qs.length <= 100) : bA K c [.p (.list (ps.map slD)), .p (.list (qs.map slD))] = .ok (.o (.list ((smQ ps qs).map slD))) := by
 obtain ⟨q3, q4, h⟩ := aAh K c (some (.p (.list (ps.map slD)))) hq ps [] none none (by rw [List.length_nil]; omega)
 rw [List.nil_append] at h
 unfold bA
 refine dM ?_
 rw [show bX 5 [.p (.list (ps.map slD)), .p (.list (qs.map slD))] = [some (.p (.list (ps.map slD))), some (.p (.list (qs.map slD))), none, none, none] from rfl]
 unfold cN
 exact (aO (fM (d := .list []) rfl)).trans ((aO ((jP (ds := ps.map slD) rfl).trans h)).trans rfl)
noncomputable def d8 (K : PySem.W.Frag) (c : Cls) : MS := (dX 2 (aH eE (aE 2) (aX 3 (bJ K c) (aD (aH ixE (aE 1) (mC (.int 0))) (aD (aH ixE (aE 1) (aH fV (aE 3) (mC (.int 1)))) (aD (aH ixE (aE 1) (aE 3)) aY))))))
noncomputable def cU (K : PySem.W.Frag) (c : Cls) : MS := (cG (dX 1 (aX 1 (bD K c) (aD (aE 0) aY))) (fun en => (cG (dX 2 (mC (.int 0))) (cG (p7 (xF jD (aD (aK fS (aD (aE 1) aY)) aY)) (bE 3) (d8 K c)) (fP (aE 2)))) (frz 1 en)))
noncomputable def bB (K : PySem.W.Frag) (c : Cls) (ls : List L) : Res L := fN 4 (cU K c) ls
theorem i8 (K : PySem.W.Frag) (c : Cls) : ∀ ls, bB K c ls = .bad \/ fN 4 (cU K c) ls = bB K c ls := fun _ => .inr rfl
theorem aEp (K : PySem.W.Frag) (c : Cls) (A : Option L) {R : List Q2} (rl : R.length <= 1000) (rg : ∀ p ∈ R, GQ p) : ∀ (ks : List Nat) (t : Int) (r : Option L), (∀ k ∈ ks, k < R.length) -> ∃ r', dI (bE 3) (d8 K c) (ks.map fun k : Nat => PyData.int (k : Int)) [A, some (.p (.list (R.map slD))), some (.p (.int t)), r] = some (.nx [A, some (.p (.list (R.map slD))), some (.p (.int (t + (ks.map fun k => aA (R.getD 0 (0, 0)) (pr R k 1) (R.getD k (0, 0))).sum))), r'])
 | [], t, r, _ => ⟨r, by rw [List.map_nil, List.map_nil, List.sum_nil, Int.add_zero]; rfl⟩
 | k :: ks, t, r, h => by
  have hk := h k (.head _)
  have i1 : ixE (.p (.list (R.map slD))) (.p (.int ((k : Int) - 1))) = .ok (.p (slD (pr R k 1))) := aCw (d := 1) hk (by omega)
  have i0 := aG7 hk
  have iz : ixE (.p (.list (R.map slD))) (.p (.int 0)) = .ok (.p (slD (R.getD 0 (0, 0)))) := aG7 (k := 0) (by omega)
  have tn := qP K c (rg _ (get_mem (k := 0) (by omega))) (rg _ (hU (d := 1) hk (by omega))) (rg _ (get_mem hk))
  obtain ⟨r', ih⟩ := aEp K c A rl rg ks (t + aA (R.getD 0 (0, 0)) (pr R k 1) (R.getD k (0, 0))) (some (.p (.int (k : Int)))) fun j hj => h j (.tail _ hj)
  refine ⟨r', (l4 rfl (dQ (a8 rfl (pW (a8 rfl rfl iz) (a8 rfl (a8 rfl rfl (vJ _ _)) i1) (a8 rfl rfl i0) tn) (eQ _ _)))).trans ?_⟩
  rw [List.map_cons, List.sum_cons, <- Int.add_assoc]
  exact ih
theorem aD5 (K : PySem.W.Frag) (c : Cls) {ps : List Q2} (hl : ps.length < 64) (h0 : ps ≠ []) (hg : ∀ p ∈ ps, GQ p) : bB K c [.p (.list (ps.map slD))] = .ok (.p (.int (gE ps))) := by
 have hh : bD K c [.p (.list (ps.map slD))] = .ok (.o (.list ((hlP ps).map slD))) := xN K c hl h0 hg
 have rg : ∀ p ∈ hlP ps, GQ p := fun p hp => hg p (oY hp)
 have rl := gO h0
 have ar : gE ps = fD (hlP ps) := rfl
 rw [ar]
 generalize hlP ps = R at *
 have ln : fS [.p (.list (R.map slD))] = .ok (.p (.int (R.length : Nat))) := by simp [fS, eP]
 obtain ⟨r3, h⟩ := aEp K c (some (.p (.list (ps.map slD)))) (R := R) (by omega) rg (List.range R.length) 0 none fun k hk => List.mem_range.mp hk
 have e := oO (R.getD 0 (0, 0)) R
 unfold edg at e
 rw [List.map_map] at e
 have e : ((List.range R.length).map fun k => aA (R.getD 0 (0, 0)) (pr R k 1) (R.getD k (0, 0))).sum = fD R := e
 rw [e, Int.zero_add, <- xC] at h
 unfold bB
 refine dM ?_
 rw [show bX 4 [.p (.list (ps.map slD))] = [some (.p (.list (ps.map slD))), none, none, none] from rfl]
 unfold cU
 refine (aO (fM (hZ rfl hh))).trans ?_
 refine iY (i := 1) (e1 := [some (.p (.list (ps.map slD))), some (.p (.list (R.map slD))), none, none]) rfl ((aO (dQ (d := .int 0) rfl)).trans ?_)
 exact (aO ((jP (aG3 (a := .int (R.length : Nat)) (cJ rfl ln) (iF _ (by omega)))).trans h)).trans rfl
theorem aB3 {α : Type} : ∀ l : List α, (l.map fun _ => (0 : Int)).sum = 0
 | [] => rfl
 | x :: l => by rw [List.map_cons, List.sum_cons, aB3 l]; rfl
theorem t9 {α : Type} {F G : α -> Int} : ∀ {l : List α}, (∀ e ∈ l, F e <= G e) -> (l.map F).sum <= (l.map G).sum
 | [], _ => Int.le_refl _
 | x :: l, h => by
  have := t9 (l := l) fun y hy => h y (.tail _ hy)
  have := h x (.head _)
  simp only [List.map_cons, List.sum_cons]
  omega
theorem aGv {A C : List Q2} (hA : A ≠ []) (hC : C ≠ []) : 0 <= MV A C := by
 obtain ⟨E, e1, _⟩ := xD (gF hC)
 rw [oS hA hC e1]
 obtain ⟨a, ha⟩ : ∃ a, a ∈ A := by
  cases A with
  | nil => exact absurd rfl hA
  | cons a r => exact ⟨a, .head _⟩
 have t := e1.tl fun s => cr a s
 have l := t9 (F := fun e : Q2 × Q2 => cr a (sb e.2 e.1)) (G := fun e => mx A (sb e.2 e.1)) (l := E) fun e _ => aFm ha
 have s := sum2 (A := fun e : Q2 × Q2 => cr a (sb e.2 e.1)) (B := fun e => cr a e.1) (C := fun e => cr a e.2) (D := fun _ => 0) (l := E) fun e _ => by unfold cr sb; grind
 have z := aB3 E
 rw [z] at s
 omega
theorem aC4 {A : List Q2} (hA : A ≠ []) : MV A A = gE A := by
 obtain ⟨E, e1, e2, _⟩ := xD (gF hA)
 rw [oS hA hA e1]
 have ag : gE (hlP A) = gE A := rJ (fR A) (fun _ => rows_mem) (fU hA) (fR (hlP A)) (fun _ => rows_mem) (fU (gF hA))
 rw [<- ag, <- e2]
 refine aDx fun e he => ?_
 have g := (e1.mem e).mp he
 rw [<- mxh hA, <- pD g.a.c, jY]
 unfold cr sb
 grind
theorem aE2 {A B C : List Q2} (hA : A ≠ []) (hB : B ≠ []) (hC : C ≠ []) : MV (smQ A B) C = MV A C + MV B C := by
 obtain ⟨E, e1, _⟩ := xD (gF hC)
 rw [oS (v9 hA hB) hC e1, oS hA hC e1, oS hB hC e1]
 have := sum2 (A := fun e : Q2 × Q2 => mx (smQ A B) (sb e.2 e.1)) (B := fun _ => 0) (C := fun e => mx A (sb e.2 e.1)) (D := fun e => mx B (sb e.2 e.1)) (l := E) fun e _ => by rw [aFz oF hA hB]; omega
 have z := aB3 E
 rw [z] at this
 omega
theorem aE8 {A B C : List Q2} (hA : A ≠ []) (hB : B ≠ []) (hC : C ≠ []) (h : ∀ p ∈ A, p ∈ B) : MV A C <= MV B C := by
 obtain ⟨E, e1, _⟩ := xD (gF hC)
 rw [oS hA hC e1, oS hB hC e1]
 refine t9 fun e _ => ?_
 obtain ⟨p, hp, z⟩ := aGi hA (sb e.2 e.1)
 rw [<- z]
 exact aFm (h p hp)
theorem aHx {A B : List Q2} (hA : A ≠ []) (hB : B ≠ []) (a4 : A.length <= 4) (b4 : B.length <= 4) : (hlP (smQ A B)).length <= 8 := by
 obtain ⟨ES, s1, _, s3, _⟩ := xD (v9 hA hB)
 obtain ⟨EA, a1, _, _, a3⟩ := xD hA
 obtain ⟨EB, b1, _, _, b3⟩ := xD hB
 have := aFy oF hA hB s1 a1 b1
 have := gO hA
 have := gO hB
 omega
theorem mxp {A C : List Q2} (hA : A ≠ []) (hC : C ≠ []) (la : A.length < 64) (c4 : C.length <= 4) (h8 : (hlP A).length <= 8) (ga : ∀ p ∈ A, G4 p) (gc : ∀ p ∈ C, G4 p) : MxP (A, C) := ⟨la, hA, ga, by show C.length < 64; omega, hC, gc, by
 have := gO hC
 have := Nat.mul_le_mul h8 (Nat.le_trans this c4)
 show (hlP A).length * (hlP C).length < 64
 omega⟩
theorem wV (cs : List Int) (k : Int) {fe : En -> Res Ev} {fi : En -> Res (List D)} {en : En} (hf : ∀ x : Int, fe [some (.p (.int x))] = .ok (.p (.int (x + k)))) (h : fi en = .ok (cs.map .int)) (hl : cs.length <= 1000) : lN 1 [] fi (bE 0) sI fe en = .ok (.f (.list ((cs.map fun x => x + k).map .int))) := by
 rw [List.map_map]
 refine uZ h (by rw [List.length_map]; omega) (iI _ fun x _ => ?_)
 unfold cD
 ktr_call 3 ⟨bE, sI, aCq, List.replicate, List.append_nil, hf x, Ev.c⟩
 try rfl
theorem aDw {f : En -> Res Ev} {en : En} {x : Ev} {ds : List D} (h : f en = .ok x) (h2 : aFg x.c = .ok ds) : sM f en = .ok ds := by
 unfold sM
 rw [h]
 exact h2
theorem aG5 {ns : List Int} {a b : Int} {cs : List Int} {en : En} (h0 : aE 0 en = .ok (.p (.list (ns.map .int)))) (h : M.cutD (ns.map .int) (some a) (some b) = cs.map .int) : mSl (aE 0) (mPt (mC (.int a))) (mPt (mC (.int b))) en = .ok (.f (.list (cs.map .int))) := by
 ktr_call 3 ⟨mSl, mPt, h0, mC, Res.bind, Ev.c, dY, h⟩
noncomputable def l8 (K : PySem.W.Frag) (c : Cls) : MS := (k7 (mOr (aA4 (cY (aX 1 (bO K c) (aD (aE 7) aY)))) (cY (aH ltE (aE 7) (mC (.int 0))))) (fP (mC (.bool false))) gW)
noncomputable def zK (K : PySem.W.Frag) (c : Cls) : En -> Res Ev := (aH eE (aE 0) (mC (.int 9)))
noncomputable def xP (K : PySem.W.Frag) (c : Cls) : En -> Res Ev := (aH eE (aE 0) (mC (.int 5)))
noncomputable def yX (K : PySem.W.Frag) (c : Cls) : MS := (cG (dX 1 (aX 2 (bF K c) (aD (aX 2 (aU K c) (aD (aE 0) (aD (mC (.int 0)) aY))) (aD (mC (.int 1)) aY)))) (cG (dX 2 (aX 3 (aT K c) (aD (mSl (aE 0) (mPt (mC (.int 1))) (mPt (mC (.int 5)))) (aD (aE 1) (aD (aH eE (mC (.int 1)) (aH j8 (aH j6 (aE 1) (mC (.int 64))) (mC (.int 4)))) aY))))) (fun en => (cG (dX 3 (aX 3 (aT K c) (aD (lN 1 [] (sM (mSl (aE 0) (mPt (mC (.int 5))) (mPt (mC (.int 9))))) (bE 0) sI (xP K c)) (aD (aH j6 (aE 1) (mC (.int 4))) (aD (aH eE (mC (.int 1)) (aH j8 (aH j6 (aE 1) (mC (.int 256))) (mC (.int 4)))) aY))))) (fun en => (cG (dX 4 (aX 3 (aT K c) (aD (lN 1 [] (sM (mSl (aE 0) (mPt (mC (.int 9))) (mPt (mC (.int 13))))) (bE 0) sI (zK K c)) (aD (aH j6 (aE 1) (mC (.int 16))) (aD (aH eE (mC (.int 1)) (aH j8 (aH j6 (aE 1) (mC (.int 1024))) (mC (.int 4)))) aY))))) (fun en => (cG (dX 5 (aX 2 (dG K c) (aD (aK listE (aD (aE 2) aY)) (aD (aK listE (aD (aE 4) aY)) aY)))) (cG (dX 6 (aX 2 (dG K c) (aD (aK listE (aD (aE 3) aY)) (aD (aK listE (aD (aE 4) aY)) aY)))) (cG (p7 (aGy (aK eN (aD (aE 5) (aD (aE 6) aY)))) (bE 7) (l8 K c)) (cG (k7 (cY (aH (eqE true) (aX 2 (dG K c) (aD (aK listE (aD (aE 2) aY)) (aD (aK listE (aD (aE 2) aY)) aY))) (aX 1 (bB K c) (aD (aE 2) aY)))) (fP (mC (.bool false))) gW) (cG (k7 (cY (aH (eqE true) (aX 2 (dG K c) (aD (aX 2 (bA K c) (aD (aE 2) (aD (aE 3) aY))) (aD (aK listE (aD (aE 4) aY)) aY))) (aH eE (aE 5) (aE 6)))) (fP (mC (.bool false))) gW) (fP (aH geE (aX 2 (dG K c) (aD (aH eE (aE 2) (aE 3)) (aD (aK listE (aD (aE 4) aY)) aY))) (aK (aGn fun i j => if j > i then j else i) (aD (aE 5) (aD (aE 6) aY)))))))))) (frz 4 en))) (frz 3 en))) (frz 2 en))))
noncomputable def r8 (K : PySem.W.Frag) (c : Cls) (ls : List L) : Res L := fN 8 (yX K c) ls
theorem aGd (K : PySem.W.Frag) (c : Cls) : ∀ ls, r8 K c ls = .bad \/ fN 8 (yX K c) ls = r8 K c ls := fun _ => .inr rfl
theorem aF3 (K : PySem.W.Frag) (c : Cls) (hk : lG K c) (ns : List Int) (hn : ns.length <= 63) : r8 K c [.p (.list (ns.map .int))] = .ok (.p (.bool true)) := by
 have c0 : aU K c [.p (.list (ns.map .int)), .p (.int 0)] = .ok (.p (.int (ns.getD 0 0))) := uW K c ns 0
 obtain ⟨fi, hfi⟩ := vG K c (ns.getD 0 0) (k := 1) (by decide) (by decide)
 generalize ns.getD 0 0 = w0 at c0 hfi
 obtain ⟨a1, ha1, _, la1⟩ := aCe ns 1 5
 obtain ⟨b1, hb1, _, lb1⟩ := aCe ns 5 9
 obtain ⟨d1, hd1, _, ld1⟩ := aCe ns 9 13
 have cnt : ∀ j : Int, j ≠ 0 -> ∃ n : Nat, 1 <= n /\ n <= 4 /\ (n : Int) = 1 + (fi.fdiv j).fmod 4 := fun j _ => by
  have := eI (a := fi.fdiv j) (b := 4) (by decide)
  exact ⟨(1 + (fi.fdiv j).fmod 4).toNat, by omega, by omega, by omega⟩
 obtain ⟨n1, p1, q1, h1⟩ := cnt 64 (by decide)
 obtain ⟨n2, p2, q2, h2⟩ := cnt 256 (by decide)
 obtain ⟨n3, p3, q3, h3⟩ := cnt 1024 (by decide)
 obtain ⟨A, lA, gA, hA⟩ := jX K c a1 fi (n := n1) (by omega)
 obtain ⟨B, lB, gB, hB⟩ := jX K c (b1.map fun x => x + 5) (fi.fdiv 4) (n := n2) (by omega)
 obtain ⟨C, lC, gC, hC⟩ := jX K c (d1.map fun x => x + 9) (fi.fdiv 16) (n := n3) (by omega)
 rw [h1] at hA
 rw [h2] at hB
 rw [h3] at hC
 have ne : ∀ {X : List Q2} {n : Nat}, X.length = n -> 1 <= n -> X ≠ [] := fun h1 h2 z => by rw [z] at h1; simp at h1; omega
 have nA := ne lA p1
 have nB := ne lB p2
 have nC := ne lC p3
 have g4 : ∀ {X : List Q2}, (∀ p ∈ X, G9 p) -> ∀ p ∈ X, G4 p := fun h p hp => (h p hp).g4
 have hlA := gO nA
 have hlB := gO nB
 have mA := d3 K c (mxp nA nC (by omega) (by omega) (by omega) (g4 gA) (g4 gC))
 have mB := d3 K c (mxp nB nC (by omega) (by omega) (by omega) (g4 gB) (g4 gC))
 have mAA := d3 K c (mxp nA nA (by omega) (by omega) (by omega) (g4 gA) (g4 gA))
 have sl : (smQ A B).length < 64 := by
  rw [uE]
  have := Nat.mul_le_mul (show A.length <= 4 by omega) (show B.length <= 4 by omega)
  omega
 have sg : ∀ s ∈ smQ A B, G4 s := fun s hs => by
  obtain ⟨p, hp, q, hq, rfl⟩ := (oF s).mp hs
  exact ⟨(N.Sz.addM (gA p hp).1 (gB q hq).1).mono (by decide), (N.Sz.addM (gA p hp).2 (gB q hq).2).mono (by decide)⟩
 have mS := d3 K c (mxp (v9 nA nB) nC sl (by omega) (aHx nA nB (by omega) (by omega)) sg (g4 gC))
 have nAB : A ++ B ≠ [] := by simp [nA]
 have hlAB := gO nAB
 have lAB : (A ++ B).length <= 8 := by rw [List.length_append]; omega
 have mAB := d3 K c (mxp nAB nC (by omega) (by omega) (by omega) (fun p hp => (List.mem_append.mp hp).elim (g4 gA p) (g4 gB p)) (g4 gC))
 have ar := aD5 K c (ps := A) (by omega) nA fun p hp => (gA p hp).gq
 have su := aBn K c (ps := A) (qs := B) (by omega) (by omega)
 rw [aC4 nA] at mAA
 rw [aE2 nA nB nC] at mS
 have z1 := aGv nA nC
 have z2 := aGv nB nC
 have ge1 := aE8 nA nAB nC fun p hp => List.mem_append.mpr (.inl hp)
 have ge2 := aE8 nB nAB nC fun p hp => List.mem_append.mpr (.inr hp)
 generalize MV A C = x at *
 generalize MV B C = y at *
 generalize MV (A ++ B) C = z at *
 have w1 := qK K c x
 have w2 := qK K c y
 have dv : ∀ j : Int, j ≠ 0 -> j.natAbs < 2 ^ 90 -> nY fi j := fun j h1 h2 => ⟨h1, (show Sz 90 j from h2).mono (by decide)⟩
 have n4 : (4 : Int) ≠ 0 := by decide
 have ls : ∀ (X : List Q2), listE [.p (.list (X.map slD))] = .ok (.f (.list (X.map slD))) := fun X => rfl
 have adl : eE (.p (.list (A.map slD))) (.p (.list (B.map slD))) = .ok (.f (.list ((A ++ B).map slD))) := by
  unfold eE
  dsimp only [dY]
  rw [if_pos (by rw [List.length_map, List.length_map]; omega), List.map_append]
 have lp : ∀ (v : Int) (r : Option L), 0 <= v -> bO K c [.p (.int v)] = .ok (.p (.bool true)) -> l8 K c [some (.p (.list (ns.map .int))), some (.p (.int fi)), some (.p (.list (A.map slD))), some (.p (.list (B.map slD))), some (.p (.list (C.map slD))), some (.p (.int x)), some (.p (.int y)), some (.p (.int v))] = some (.nx [some (.p (.list (ns.map .int))), some (.p (.int fi)), some (.p (.list (A.map slD))), some (.p (.list (B.map slD))), some (.p (.list (C.map slD))), some (.p (.int x)), some (.p (.int y)), some (.p (.int v))]) := fun v r hv hw => by
  have lt : ltE (.p (.int v)) (.p (.int 0)) = .ok (.p (.bool false)) := by
   have : decide (v < 0) = false := decide_eq_false (by omega)
   simp [ltE, dU, this]
  exact sJ (aJf (aIe (b := true) (nX (hZ rfl hw))) (nX (a8 rfl rfl lt)))
 unfold r8
 refine dM ?_
 rw [show bX 8 [.p (.list (ns.map .int))] = [some (.p (.list (ns.map .int))), none, none, none, none, none, none, none] from rfl]
 unfold yX
 refine (aO (dQ (aAk (aAk rfl rfl c0) rfl hfi))).trans ((aO (fM (l7 (bZ (aG5 rfl ha1) (bZ rfl (bZ (a8 rfl (a8 (a8 rfl rfl (eV (dv 64 (by decide) (by decide)))) rfl (kU n4)) (eQ _ _)) rfl))) rfl rfl hA))).trans ?_)
 refine iY (i := 2) (e1 := [some (.p (.list (ns.map .int))), some (.p (.int fi)), some (.p (.list (A.map slD))), none, none, none, none, none]) rfl ((aO (fM (l7 (bZ (wV b1 5 (fun _ => rfl) (aDw (aG5 rfl hb1) rfl) (by omega)) (bZ (a8 rfl rfl (eV (dv 4 (by decide) (by decide)))) (bZ (a8 rfl (a8 (a8 rfl rfl (eV (dv 256 (by decide) (by decide)))) rfl (kU n4)) (eQ _ _)) rfl))) rfl rfl hB))).trans ?_)
 refine iY (i := 3) (e1 := [some (.p (.list (ns.map .int))), some (.p (.int fi)), some (.p (.list (A.map slD))), some (.p (.list (B.map slD))), none, none, none, none]) rfl ((aO (fM (l7 (bZ (wV d1 9 (fun _ => rfl) (aDw (aG5 rfl hd1) rfl) (by omega)) (bZ (a8 rfl rfl (eV (dv 16 (by decide) (by decide)))) (bZ (a8 rfl (a8 (a8 rfl rfl (eV (dv 1024 (by decide) (by decide)))) rfl (kU n4)) (eQ _ _)) rfl))) rfl rfl hC))).trans ?_)
 refine iY (i := 4) (e1 := [some (.p (.list (ns.map .int))), some (.p (.int fi)), some (.p (.list (A.map slD))), some (.p (.list (B.map slD))), some (.p (.list (C.map slD))), none, none, none]) rfl ((aO (dQ (l7 (bZ (cJ rfl (ls A)) (bZ (cJ rfl (ls C)) rfl)) rfl rfl mA))).trans ((aO (dQ (l7 (bZ (cJ rfl (ls B)) (bZ (cJ rfl (ls C)) rfl)) rfl rfl mB))).trans ?_))
 have it : (aGy (aK eN (aD (aE 5) (aD (aE 6) aY)))) [some (.p (.list (ns.map .int))), some (.p (.int fi)), some (.p (.list (A.map slD))), some (.p (.list (B.map slD))), some (.p (.list (C.map slD))), some (.p (.int x)), some (.p (.int y)), none] = .ok [.int x, .int y] := rfl
 have lo : (p7 (aGy (aK eN (aD (aE 5) (aD (aE 6) aY)))) (bE 7) (l8 K c)) [some (.p (.list (ns.map .int))), some (.p (.int fi)), some (.p (.list (A.map slD))), some (.p (.list (B.map slD))), some (.p (.list (C.map slD))), some (.p (.int x)), some (.p (.int y)), none] = some (.nx [some (.p (.list (ns.map .int))), some (.p (.int fi)), some (.p (.list (A.map slD))), some (.p (.list (B.map slD))), some (.p (.list (C.map slD))), some (.p (.int x)), some (.p (.int y)), some (.p (.int y))]) := (jP it).trans ((l4 rfl (lp x none z1 w1)).trans ((l4 rfl (lp y none z2 w2)).trans rfl))
 refine (aO lo).trans ?_
 refine (aO ((sJ (nX (a8 (l7 (bZ (cJ rfl (ls A)) (bZ (cJ rfl (ls A)) rfl)) rfl rfl mAA) (hZ rfl ar) (eq_int true rfl)))).trans rfl)).trans ?_
 refine (aO ((sJ (nX (a8 (l7 (bZ (l7 (bZ rfl (bZ rfl rfl)) rfl rfl su) (bZ (cJ rfl (ls C)) rfl)) rfl rfl mS) (a8 rfl rfl (eQ _ _)) (eq_int true rfl)))).trans rfl)).trans ?_
 have gt : geE (.p (.int z)) (.p (.int (if y > x then y else x))) = .ok (.p (.bool true)) := by
  have : decide (z ≥ (if y > x then y else x)) = true := decide_eq_true (by split <;> omega)
  simp [geE, dU, this]
 exact n5 (a8 (y := .p (.int (if y > x then y else x))) (l7 (bZ (a8 rfl rfl adl) (bZ (cJ rfl (ls C)) rfl)) rfl rfl mAB) rfl gt)
section
variable {P : Program} {w : World} {K : PySem.W.Frag} {mg : Str -> Option Value} {base : Heap}
theorem sc_law : bL ["_law_script", "_law_first", "_law_one", "_law_other", "_law_third", "_law_left", "_law_right", "_law_found"] ["_law_script"] (aN oA) := ⟨rfl, rfl, rfl, by decide +kernel, rfl, by decide +kernel, by decide +kernel⟩
theorem aEg {c : Cls} {f : Addr} {fd : FuncData} (F : Fun K "law" "law" oA f fd) (B : Blt mg) (C : oN mg c) (O : oM mg base c) (hk : lG K c) (c_mixed : Cal P w K mg base 5 "mixed" 2 (dG K c)) (c__law_sums_by : Cal P w K mg base 1 "_law_sums_by" 2 (bA K c)) (c__law_area_by : Cal P w K mg base 4 "_law_area_by" 1 (bB K c)) (c__law_whole : Cal P w K mg base 1 "_law_whole" 1 (bO K c)) (c__law_places_by : Cal P w K mg base 2 "_law_places_by" 3 (aT K c)) (c__law_stir : Cal P w K mg base 1 "_law_stir" 2 (bF K c)) (c__law_cell_at : Cal P w K mg base 1 "_law_cell_at" 2 (aU K c)) : FnOk P w K mg base (CXr P w) 6 f fd ["_law_script"] (spM K 1 (r8 K c)) := by
 refine fnM (k := 5) F sc_law rfl (fun cdv A outer s H E hr => ⟨yX K c, ?_, aGd K c⟩)
 exact (aG (bC (i := 1) sc_law.nd rfl (Or.inl rfl) (aQ c__law_stir hr cF (aB (aQ c__law_cell_at hr cF (aB (dv 0) (aB aC aI))) (aB aC aI)))) (aG (bC (i := 2) sc_law.nd rfl (Or.inl rfl) (aQ c__law_places_by hr cF (aB (tV (dv 0) (eX aC) (eX aC)) (aB (dv 1) (aB (aM bG bW bH aC (aM b9 dH aF (aM dO fJ aF (dv 1) aC) aC)) aI))))) (eK 2 (aG (bC (i := 3) sc_law.nd rfl (Or.inl rfl) (aQ c__law_places_by hr cF (aB (lP (xs := ["_law_cell"]) (ys := []) (js := []) (cl := []) rfl (e8 (tV (dv 0) (eX aC) (eX aC))) (xY (ys := []) (js := []) rfl (fun _ h => nomatch h) eW (by decide +kernel) (by decide +kernel)) eW (by decide +kernel) rfl (by decide +kernel) rfl (by decide) (fun C s₀ H₀ ex pn => (cI (i := 0) (show (["_law_cell"] : List Str).Nodup by decide +kernel) rfl (Or.inl rfl))) (fun C s₀ H₀ ex pn => mE) (fun C s₀ H₀ ex pn => (aM bG bW bH (dv 0) aC))) (aB (aM dO fJ aF (dv 1) aC) (aB (aM bG bW bH aC (aM b9 dH aF (aM dO fJ aF (dv 1) aC) aC)) aI))))) (eK 3 (aG (bC (i := 4) sc_law.nd rfl (Or.inl rfl) (aQ c__law_places_by hr cF (aB (lP (xs := ["_law_cell"]) (ys := []) (js := []) (cl := []) rfl (e8 (tV (dv 0) (eX aC) (eX aC))) (xY (ys := []) (js := []) rfl (fun _ h => nomatch h) eW (by decide +kernel) (by decide +kernel)) eW (by decide +kernel) rfl (by decide +kernel) rfl (by decide) (fun C s₀ H₀ ex pn => (cI (i := 0) (show (["_law_cell"] : List Str).Nodup by decide +kernel) rfl (Or.inl rfl))) (fun C s₀ H₀ ex pn => mE) (fun C s₀ H₀ ex pn => (aM bG bW bH (dv 0) aC))) (aB (aM dO fJ aF (dv 1) aC) (aB (aM bG bW bH aC (aM b9 dH aF (aM dO fJ aF (dv 1) aC) aC)) aI))))) (eK 4 (aG (bC (i := 5) sc_law.nd rfl (Or.inl rfl) (aQ c_mixed hr cF (aB (cW bN eU dN rfl B.list_ eR (aB (dv 2) aI)) (aB (cW bN eU dN rfl B.list_ eR (aB (dv 4) aI)) aI)))) (aG (bC (i := 6) sc_law.nd rfl (Or.inl rfl) (aQ c_mixed hr cF (aB (cW bN eU dN rfl B.list_ eR (aB (dv 3) aI)) (aB (cW bN eU dN rfl B.list_ eR (aB (dv 4) aI)) aI)))) (aG (fW PassesOwn.leaving rfl (aGp (jG (aB (dv 5) (aB (dv 6) aI)))) (cI (i := 7) sc_law.nd rfl (Or.inl rfl)) (aP (kE (DW.t (aCc (aGj (zX (aQ c__law_whole hr cF (aB (dv 7) aI)))) (vV (eM aBx jH aJ (dv 7) aC (dD _))))) (aP (bY aBe)) fG))) (aG (kE (eM (rC (u64 hr)) oJ g8 (aQ c_mixed hr cF (aB (cW bN eU dN rfl B.list_ eR (aB (dv 2) aI)) (aB (cW bN eU dN rfl B.list_ eR (aB (dv 2) aI)) aI))) (aQ c__law_area_by hr cF (aB (dv 2) aI)) (dD _)) (aP (bY aBe)) fG) (aG (kE (eM (rC (u64 hr)) oJ g8 (aQ c_mixed hr cF (aB (aQ c__law_sums_by hr cF (aB (dv 2) (aB (dv 3) aI))) (aB (cW bN eU dN rfl B.list_ eR (aB (dv 4) aI)) aI))) (aM bG bW bH (dv 5) (dv 6)) (dD _)) (aP (bY aBe)) fG) (aP (bY (uO aHk jH aJ (aQ c_mixed hr cF (aB (aM bG bW bH (dv 2) (dv 3)) (aB (cW bN eU dN rfl B.list_ eR (aB (dv 4) aI)) aI))) (b8 (t7 rfl) aFc aC8 rfl B.max_ aDz (aB (dv 5) (aB (dv 6) aI))) (dD _))))))))))))))))
end
section
variable {P : Program} {w : World} {K : PySem.W.Frag} {mg : Str -> Option Value} {base : Heap}
theorem lY : bL ["_law_found"] ["_law_found"] (aN dP) := ⟨rfl, rfl, rfl, by decide +kernel, rfl, by decide +kernel, by decide +kernel⟩
theorem mG {c : Cls} (Df : Def K mg "_law_whole" ["_law_found"] dP) (B : Blt mg) (C : oN mg c) (O : oM mg base c) (hk : lG K c) : Cal P w K mg base 1 "_law_whole" 1 (bO K c) := by
 refine qC (k := 0) Df lY rfl (fun f cdv A outer s H E hr => ⟨e9 K c, ?_, lJ K c hk⟩)
 exact (aP (bY (aF4 (aAy (cv := .type "int") rfl B.isinstance_ (.inl ⟨_, rfl⟩) rfl (dv 0) (tN (v := .ty "int") rfl B.int_ aFp rfl)) (aF7 (aGe (aAy (cv := .type "bool") rfl B.isinstance_ (.inl ⟨_, rfl⟩) rfl (dv 0) (tN (v := .ty "bool") rfl B.bool_ aDf rfl)))))))
theorem sc__law_places_by : bL ["_law_cells", "_law_kind", "_law_count", "_law_found", "_law_k", "_law_c", "_law_x"] ["_law_cells", "_law_kind", "_law_count"] (aN b6) := ⟨rfl, rfl, rfl, by decide +kernel, rfl, by decide +kernel, by decide +kernel⟩
theorem gT {c : Cls} (Df : Def K mg "_law_places_by" ["_law_cells", "_law_kind", "_law_count"] b6) (B : Blt mg) (C : oN mg c) (O : oM mg base c) (hk : lG K c) (c__law_stir : Cal P w K mg base 1 "_law_stir" 2 (bF K c)) (c__law_cell_at : Cal P w K mg base 1 "_law_cell_at" 2 (aU K c)) : Cal P w K mg base 2 "_law_places_by" 3 (aT K c) := by
 refine qC (k := 1) Df sc__law_places_by rfl (fun f cdv A outer s H E hr => ⟨b7 K c, ?_, gU K c⟩)
 exact (aG (bC (i := 3) sc__law_places_by.nd rfl (Or.inl rfl) (nU aI)) (aG (fW PassesOwn.leaving rfl (gN rfl B.range_ (aB (dv 2) aI)) (cI (i := 4) sc__law_places_by.nd rfl (Or.inl rfl)) (aG (bC (i := 5) sc__law_places_by.nd rfl (Or.inl rfl) (aQ c__law_stir hr cF (aB (aQ c__law_cell_at hr cF (aB (dv 0) (aB (dv 4) aI))) (aB (dv 4) aI)))) (aP (kE (eM (qI (u64 hr)) oJ g8 (aM b9 dH aF (dv 1) aC) aC (dD _)) (aG (bC (i := 6) sc__law_places_by.nd rfl (Or.inl rfl) (aM bU bT aJ (aM b9 dH aF (dv 5) (aM bG bW bH (aM eZ g6 aF aC (aM jW iN aF aC aC)) aC)) (aM jW iN aF aC aC))) (aP (eC (i := 3) (jG (aB (dv 6) (aB (aM bU bT aJ (aM b9 dH aF (aM dO fJ aF (dv 5) (aM jW iN aF aC aC)) (aM bG bW bH (aM eZ g6 aF aC (aM jW iN aF aC aC)) aC)) (aM jW iN aF aC aC)) aI))) (fun t q => fC (pB PySem.F.plainAttrs_list PySem.F.slot_list_append PySem.F.type_list_append eD (pv 3) (dR q gI)))))) (aP (kE (eM (qI (u64 hr)) oJ g8 (aM b9 dH aF (dv 1) aC) aC (dD _)) (aP (eC (i := 3) (jG (aB (aM bU bT aJ (aM eZ g6 aF aC (aM b9 dH aF (dv 5) aC)) aC) (aB (aM bU bT aJ aC (aM eZ g6 aF aC (aM b9 dH aF (dv 5) aC))) aI))) (fun t q => fC (pB PySem.F.plainAttrs_list PySem.F.slot_list_append PySem.F.type_list_append eD (pv 3) (dR q gI))))) (aP (eC (i := 3) (jG (aB (aM bU bT aJ (aM b9 dH aF (dv 5) aC) aC) (aB (aM bU bT aJ (aM b9 dH aF (aM dO fJ aF (dv 5) aC) aC) aC) aI))) (fun t q => fC (pB PySem.F.plainAttrs_list PySem.F.slot_list_append PySem.F.type_list_append eD (pv 3) (dR q gI))))))))))) (aP (bY (dv 3)))))
end
section
variable {P : Program} {w : World} {K : PySem.W.Frag} {mg : Str -> Option Value} {base : Heap}
theorem sc_mixed : bL ["slopes", "others", "inner", "outer", "sums", "slope"] ["slopes", "others"] (aN l9) := ⟨rfl, rfl, rfl, by decide +kernel, rfl, by decide +kernel, by decide +kernel⟩
theorem x6 {c : Cls} (Df : Def K mg "mixed" ["slopes", "others"] l9) (B : Blt mg) (C : oN mg c) (O : oM mg base c) (hk : lG K c) (c_area : Cal P w K mg base 4 "area" 1 (gJ K c)) (c_hull : Cal P w K mg base 3 "hull" 1 (d0 K c)) : Cal P w K mg base 5 "mixed" 2 (dG K c) := by
 refine qC (k := 4) Df sc_mixed rfl (fun f cdv A outer s H E hr => ⟨o6 K c, ?_, yM K c⟩)
 exact (aG (bC (i := 2) sc_mixed.nd rfl (Or.inl rfl) (aQ c_hull hr cF (aB (dv 0) aI))) (aG (bC (i := 3) sc_mixed.nd rfl (Or.inl rfl) (aQ c_hull hr cF (aB (dv 1) aI))) (eK 2 (aG (bC (i := 4) sc_mixed.nd rfl (Or.inl rfl) (nU aI)) (eK 3 (aG (fW PassesOwn.leaving rfl (e8 (dv 2)) (cI (i := 5) sc_mixed.nd rfl (Or.inr rfl)) (aP (uF (i := 4) (lP (xs := ["other"]) (ys := ["slope"]) (js := [5]) (cl := [("slope", s.heap.objs.size + 1)]) rfl (e8 (dv 3)) (xY (ys := ["slope"]) (js := [5]) rfl (List.forall_mem_cons.mpr ⟨rfl, (fun _ h => nomatch h)⟩) (iK ⟨rfl, .inl rfl, .inl rfl, rfl, rfl⟩ eW) (by decide +kernel) (by decide +kernel)) (iK ⟨rfl, .inl rfl, .inl rfl, rfl, rfl⟩ eW) (by decide +kernel) rfl (by decide +kernel) rfl (by decide) (fun C s₀ H₀ ex pn => (cI (i := 0) (show (["other", "slope"] : List Str).Nodup by decide +kernel) rfl (Or.inl rfl))) (fun C s₀ H₀ ex pn => mE) (fun C s₀ H₀ ex pn => (jG (aB (aM bG bW bH (bI (dv 1) aC (fun _ _ => rfl)) (bI (dv 0) aC (fun _ _ => rfl))) (aB (aM bG bW bH (bI (dv 1) aC (fun _ _ => rfl)) (bI (dv 0) aC (fun _ _ => rfl))) aI))))) (fun t q => fC (pB PySem.F.plainAttrs_list PySem.F.slot_list_extend PySem.F.type_list_extend uD (pv 4) (dR q gI)))))) (eK 4 (aP (bY (aM dO fJ aF (aM bU bT aJ (aM bU bT aJ (aQ c_area hr cF (aB (dv 4) aI)) (aQ c_area hr cF (aB (dv 2) aI))) (aQ c_area hr cF (aB (dv 3) aI))) aC))))))))))
theorem sc__law_turn : bL ["_law_one", "_law_far", "_law_place", "_law_here"] ["_law_one", "_law_far", "_law_place"] (aN eF) := ⟨rfl, rfl, rfl, by decide +kernel, rfl, by decide +kernel, by decide +kernel⟩
theorem mZ {c : Cls} (Df : Def K mg "_law_turn" ["_law_one", "_law_far", "_law_place"] eF) (B : Blt mg) (C : oN mg c) (O : oM mg base c) (hk : lG K c) : Cal P w K mg base 1 "_law_turn" 3 (bJ K c) := by
 refine qC (k := 0) Df sc__law_turn rfl (fun f cdv A outer s H E hr => ⟨eG K c, ?_, nL K c⟩)
 exact (aG (bC (i := 3) sc__law_turn.nd rfl (Or.inl rfl) (aM eZ g6 aF (aM bU bT aJ (bI (dv 1) aC (fun _ _ => rfl)) (bI (dv 0) aC (fun _ _ => rfl))) (aM bU bT aJ (bI (dv 2) aC (fun _ _ => rfl)) (bI (dv 0) aC (fun _ _ => rfl))))) (aP (bY (aM bU bT aJ (dv 3) (aM eZ g6 aF (aM bU bT aJ (bI (dv 1) aC (fun _ _ => rfl)) (bI (dv 0) aC (fun _ _ => rfl))) (aM bU bT aJ (bI (dv 2) aC (fun _ _ => rfl)) (bI (dv 0) aC (fun _ _ => rfl))))))))
end
section
variable {P : Program} {w : World} {K : PySem.W.Frag} {mg : Str -> Option Value} {base : Heap}
theorem sc_hull : bL ["slopes", "rows", "there", "back"] ["slopes"] (aN pP) := ⟨rfl, rfl, rfl, by decide +kernel, rfl, by decide +kernel, by decide +kernel⟩
theorem aC7 {c : Cls} (Df : Def K mg "hull" ["slopes"] pP) (B : Blt mg) (C : oN mg c) (O : oM mg base c) (hk : lG K c) (c_chain : Cal P w K mg base 2 "chain" 1 (dS K c)) : Cal P w K mg base 3 "hull" 1 (d0 K c) := by
 refine qC (k := 2) Df sc_hull rfl (fun f cdv A outer s H E hr => ⟨wR K c, ?_, aDm K c⟩)
 exact (aG (bC (i := 1) sc_hull.nd rfl (Or.inl rfl) (kN rfl (u64 hr) rfl B.sorted_ rfl B.set_ (dv 0))) (aG (kE (eM (qI (u64 hr)) oJ g8 (b8 cA kX gS rfl B.len_ PySem.boot_len (aB (dv 1) aI)) aC (dD _)) (aP (bY (dv 1))) fG) (aG (bC (i := 2) sc_hull.nd rfl (Or.inl rfl) (aQ c_chain hr cF (aB (dv 1) aI))) (aG (bC (i := 3) sc_hull.nd rfl (Or.inl rfl) (aQ c_chain hr cF (aB (rQ rfl rfl B.list_ rfl B.reversed_ (dv 1)) aI))) (aP (bY (aM bG bW bH (tV (dv 2) wB (eX (kL aC))) (tV (dv 3) wB (eX (kL aC))))))))))
theorem sc__law_hull_by : bL ["_law_places", "_law_some", "_law_ring", "_law_step", "_law_far", "_law_place"] ["_law_places"] (aN cO) := ⟨rfl, rfl, rfl, by decide +kernel, rfl, by decide +kernel, by decide +kernel⟩
theorem iU {c : Cls} (Df : Def K mg "_law_hull_by" ["_law_places"] cO) (B : Blt mg) (C : oN mg c) (O : oM mg base c) (hk : lG K c) (c__law_farther : Cal P w K mg base 2 "_law_farther" 3 (aW K c)) : Cal P w K mg base 3 "_law_hull_by" 1 (bD K c) := by
 refine qC (k := 2) Df sc__law_hull_by rfl (fun f cdv A outer s H E hr => ⟨dW K c, ?_, iW K c⟩)
 exact (aG (bC (i := 1) sc__law_hull_by.nd rfl (Or.inl rfl) (kN rfl (u64 hr) rfl B.sorted_ rfl B.set_ (dv 0))) (aG (bC (i := 2) sc__law_hull_by.nd rfl (Or.inl rfl) (nU (aB (bI (dv 1) aC (fun _ _ => rfl)) aI))) (eK 1 (aG (fW PassesOwn.leaving rfl (gN rfl B.range_ (aB (b8 cA kX gS rfl B.len_ PySem.boot_len (aB (dv 1) aI)) aI)) (cI (i := 3) sc__law_hull_by.nd rfl (Or.inl rfl)) (aG (bC (i := 4) sc__law_hull_by.nd rfl (Or.inl rfl) aF2) (aG (fW PassesOwn.leaving rfl (e8 (dv 1)) (cI (i := 5) sc__law_hull_by.nd rfl (Or.inl rfl)) (aP (kE (DW.t (zZ (eM (rC (u64 hr)) oJ g8 (dv 5) (bI (dv 2) (kL aC) (fun _ _ => rfl)) (dD _)) (tL (DW.t (aCc (aAz (dv 4)) (vV (zX (aQ c__law_farther hr cF (aB (bI (dv 2) (kL aC) (fun _ _ => rfl)) (aB (dv 4) (aB (dv 5) aI))))))))))) (aP (bC (i := 4) sc__law_hull_by.nd rfl (Or.inl rfl) (dv 5))) fG))) (aG (kE (DW.t (aCc (aAz (dv 4)) (vV (eM (qI (u64 hr)) oJ g8 (dv 4) (bI (dv 2) aC (fun _ _ => rfl)) (dD _))))) (aP x8) fG) (aP (eC (i := 2) (dv 4) (fun t q => fC (pB PySem.F.plainAttrs_list PySem.F.slot_list_append PySem.F.type_list_append eD (pv 2) (dR q gI))))))))) (aP (bY (dv 2)))))))
end
section
variable {P : Program} {w : World} {K : PySem.W.Frag} {mg : Str -> Option Value} {base : Heap}
theorem sc__law_farther : bL ["_law_one", "_law_far", "_law_place", "_law_turned", "_law_here"] ["_law_one", "_law_far", "_law_place"] (aN cR) := ⟨rfl, rfl, rfl, by decide +kernel, rfl, by decide +kernel, by decide +kernel⟩
theorem jJ {c : Cls} (Df : Def K mg "_law_farther" ["_law_one", "_law_far", "_law_place"] cR) (B : Blt mg) (C : oN mg c) (O : oM mg base c) (hk : lG K c) (c__law_turn : Cal P w K mg base 1 "_law_turn" 3 (bJ K c)) : Cal P w K mg base 2 "_law_farther" 3 (aW K c) := by
 refine qC (k := 1) Df sc__law_farther rfl (fun f cdv A outer s H E hr => ⟨cM K c, ?_, j7 K c⟩)
 exact (aG (bC (i := 3) sc__law_farther.nd rfl (Or.inl rfl) (aQ c__law_turn hr cF (aB (dv 0) (aB (dv 1) (aB (dv 2) aI))))) (aG (kE (eM (rC (u64 hr)) oJ g8 (dv 3) aC (dD _)) (aP (bY (uO aBx jH aJ (dv 3) aC (dD _)))) fG) (aG (bC (i := 4) sc__law_farther.nd rfl (Or.inl rfl) (aM bG bW bH (b8 iE qE lL rfl B.abs_ qF (aB (aM bU bT aJ (bI (dv 2) aC (fun _ _ => rfl)) (bI (dv 0) aC (fun _ _ => rfl))) aI)) (b8 iE qE lL rfl B.abs_ qF (aB (aM bU bT aJ (bI (dv 2) aC (fun _ _ => rfl)) (bI (dv 0) aC (fun _ _ => rfl))) aI)))) (aP (bY (uO aEw jH aJ (dv 4) (aM bG bW bH (b8 iE qE lL rfl B.abs_ qF (aB (aM bU bT aJ (bI (dv 1) aC (fun _ _ => rfl)) (bI (dv 0) aC (fun _ _ => rfl))) aI)) (b8 iE qE lL rfl B.abs_ qF (aB (aM bU bT aJ (bI (dv 1) aC (fun _ _ => rfl)) (bI (dv 0) aC (fun _ _ => rfl))) aI))) (dD _)))))))
theorem sc__law_sums_by : bL ["_law_places", "_law_others", "_law_found", "_law_one", "_law_other"] ["_law_places", "_law_others"] (aN cP) := ⟨rfl, rfl, rfl, by decide +kernel, rfl, by decide +kernel, by decide +kernel⟩
theorem jO {c : Cls} (Df : Def K mg "_law_sums_by" ["_law_places", "_law_others"] cP) (B : Blt mg) (C : oN mg c) (O : oM mg base c) (hk : lG K c) : Cal P w K mg base 1 "_law_sums_by" 2 (bA K c) := by
 refine qC (k := 0) Df sc__law_sums_by rfl (fun f cdv A outer s H E hr => ⟨cN K c, ?_, jL K c⟩)
 exact (aG (bC (i := 2) sc__law_sums_by.nd rfl (Or.inl rfl) (nU aI)) (aG (fW PassesOwn.leaving rfl (e8 (dv 0)) (cI (i := 3) sc__law_sums_by.nd rfl (Or.inl rfl)) (aP (fW PassesOwn.leaving rfl (e8 (dv 1)) (cI (i := 4) sc__law_sums_by.nd rfl (Or.inl rfl)) (aP (eC (i := 2) (jG (aB (aM bG bW bH (bI (dv 3) aC (fun _ _ => rfl)) (bI (dv 4) aC (fun _ _ => rfl))) (aB (aM bG bW bH (bI (dv 3) aC (fun _ _ => rfl)) (bI (dv 4) aC (fun _ _ => rfl))) aI))) (fun t q => fC (pB PySem.F.plainAttrs_list PySem.F.slot_list_append PySem.F.type_list_append eD (pv 2) (dR q gI)))))))) (aP (bY (dv 2)))))
end
section
variable {P : Program} {w : World} {K : PySem.W.Frag} {mg : Str -> Option Value} {base : Heap}
theorem sc_chain : bL ["points", "kept", "point"] ["points"] (aN lF) := ⟨rfl, rfl, rfl, by decide +kernel, rfl, by decide +kernel, by decide +kernel⟩
theorem xX {c : Cls} (Df : Def K mg "chain" ["points"] lF) (B : Blt mg) (C : oN mg c) (O : oM mg base c) (hk : lG K c) (c_turn : Cal P w K mg base 1 "turn" 3 (fB K c)) : Cal P w K mg base 2 "chain" 1 (dS K c) := by
 refine qC (k := 1) Df sc_chain rfl (fun f cdv A outer s H E hr => ⟨oQ K c, ?_, y9 K c⟩)
 exact (aG (bC (i := 1) sc_chain.nd rfl (Or.inl rfl) (nU aI)) (aG (fW PassesOwn.leaving rfl (e8 (dv 0)) (cI (i := 2) sc_chain.nd rfl (Or.inl rfl)) (aG (y4 PassesOwn.leaving (DW.t (zZ (eM aEw jH aJ (b8 cA kX gS rfl B.len_ PySem.boot_len (aB (dv 1) aI)) aC (dD _)) (tL (eM aH6 jH aJ (aQ c_turn hr cF (aB (bI (dv 1) (kL aC) (fun _ _ => rfl)) (aB (bI (dv 1) (kL aC) (fun _ _ => rfl)) (aB (dv 2) aI)))) aC (dD _))))) (aP (aEk (i := 1) (fC (aD1 PySem.F.plainAttrs_list PySem.F.slot_list_pop PySem.F.type_list_pop aEi (pv 1)))))) (aP (eC (i := 1) (dv 2) (fun t q => fC (pB PySem.F.plainAttrs_list PySem.F.slot_list_append PySem.F.type_list_append eD (pv 1) (dR q gI))))))) (aP (bY (dv 1)))))
theorem sc_area : bL ["slopes", "around"] ["slopes"] (aN pU) := ⟨rfl, rfl, rfl, by decide +kernel, rfl, by decide +kernel, by decide +kernel⟩
theorem aBs {c : Cls} (Df : Def K mg "area" ["slopes"] pU) (B : Blt mg) (C : oN mg c) (O : oM mg base c) (hk : lG K c) (c_turn : Cal P w K mg base 1 "turn" 3 (fB K c)) (c_hull : Cal P w K mg base 3 "hull" 1 (d0 K c)) : Cal P w K mg base 4 "area" 1 (gJ K c) := by
 refine qC (k := 3) Df sc_area rfl (fun f cdv A outer s H E hr => ⟨qY K c, ?_, aBk K c⟩)
 exact (aG (bC (i := 1) sc_area.nd rfl (Or.inr rfl) (aQ c_hull hr cF (aB (dv 0) aI))) (eK 1 (aP (bY (b8 (tQ rfl rfl) aFv aCl rfl B.sum_ aEa (aB (lP (xs := ["k"]) (ys := ["around"]) (js := [1]) (cl := [("around", s.heap.objs.size + 1)]) rfl (gN rfl B.range_ (aB (b8 cA kX gS rfl B.len_ PySem.boot_len (aB (dv 1) aI)) aI)) (xY (ys := ["around"]) (js := [1]) rfl (List.forall_mem_cons.mpr ⟨rfl, (fun _ h => nomatch h)⟩) (iK ⟨rfl, .inl rfl, .inl rfl, rfl, rfl⟩ eW) (by decide +kernel) (by decide +kernel)) (iK ⟨rfl, .inl rfl, .inl rfl, rfl, rfl⟩ eW) (by decide +kernel) rfl (by decide +kernel) rfl (by decide) (fun C s₀ H₀ ex pn => (cI (i := 0) (show (["k", "around"] : List Str).Nodup by decide +kernel) rfl (Or.inl rfl))) (fun C s₀ H₀ ex pn => mE) (fun C s₀ H₀ ex pn => (aQ c_turn hr aHn (aB (jG (aB aC (aB aC aI))) (aB (bI (dv 1) (aM bU bT aJ (dv 0) aC) (fun _ _ => rfl)) (aB (bI (dv 1) (dv 0) (fun _ _ => rfl)) aI)))))) aI))))))
theorem iQ : bL ["_law_script", "_law_k"] ["_law_script", "_law_k"] (aN cQ) := ⟨rfl, rfl, rfl, by decide +kernel, rfl, by decide +kernel, by decide +kernel⟩
theorem jS {c : Cls} (Df : Def K mg "_law_cell_at" ["_law_script", "_law_k"] cQ) (B : Blt mg) (C : oN mg c) (O : oM mg base c) (hk : lG K c) : Cal P w K mg base 1 "_law_cell_at" 2 (aU K c) := by
 refine qC (k := 0) Df iQ rfl (fun f cdv A outer s H E hr => ⟨dZ K c, ?_, jZ K c⟩)
 exact (aG (kE (eM aBx jH aJ (dv 1) (b8 cA kX gS rfl B.len_ PySem.boot_len (aB (dv 0) aI)) (dD _)) (aP (bY (bI (dv 0) (dv 1) (fun _ _ => rfl)))) fG) (aP (bY aC)))
end
section
variable {P : Program} {w : World} {K : PySem.W.Frag} {mg : Str -> Option Value} {base : Heap}
theorem sc_turn : bL ["start", "middle", "end", "along", "across"] ["start", "middle", "end"] (aN qX) := ⟨rfl, rfl, rfl, by decide +kernel, rfl, by decide +kernel, by decide +kernel⟩
theorem aC2 {c : Cls} (Df : Def K mg "turn" ["start", "middle", "end"] qX) (B : Blt mg) (C : oN mg c) (O : oM mg base c) (hk : lG K c) : Cal P w K mg base 1 "turn" 3 (fB K c) := by
 refine qC (k := 0) Df sc_turn rfl (fun f cdv A outer s H E hr => ⟨uK K c, ?_, aBo K c⟩)
 exact (aG (bC (i := 3) sc_turn.nd rfl (Or.inl rfl) (aM eZ g6 aF (aM bU bT aJ (bI (dv 1) aC (fun _ _ => rfl)) (bI (dv 0) aC (fun _ _ => rfl))) (aM bU bT aJ (bI (dv 2) aC (fun _ _ => rfl)) (bI (dv 0) aC (fun _ _ => rfl))))) (aG (bC (i := 4) sc_turn.nd rfl (Or.inl rfl) (aM eZ g6 aF (aM bU bT aJ (bI (dv 1) aC (fun _ _ => rfl)) (bI (dv 0) aC (fun _ _ => rfl))) (aM bU bT aJ (bI (dv 2) aC (fun _ _ => rfl)) (bI (dv 0) aC (fun _ _ => rfl))))) (aP (bY (aM bU bT aJ (dv 3) (dv 4))))))
theorem sc__law_stir : bL ["_law_cell", "_law_k", "_law_c", "_law_low"] ["_law_cell", "_law_k"] (aN eJ) := ⟨rfl, rfl, rfl, by decide +kernel, rfl, by decide +kernel, by decide +kernel⟩
theorem nN {c : Cls} (Df : Def K mg "_law_stir" ["_law_cell", "_law_k"] eJ) (B : Blt mg) (C : oN mg c) (O : oM mg base c) (hk : lG K c) : Cal P w K mg base 1 "_law_stir" 2 (bF K c) := by
 refine qC (k := 0) Df sc__law_stir rfl (fun f cdv A outer s H E hr => ⟨eH K c, ?_, mP K c⟩)
 exact (aG (bC (i := 2) sc__law_stir.nd rfl (Or.inl rfl) (aM bG bW bH (aM bG bW bH (aM bG bW bH (aM b9 dH aF (dv 0) (aM jW iN aF aC aC)) aC) (aM fA fF aF aC (dv 1))) (aM fA fF aF (aM fA fF aF aC (dv 1)) (dv 1)))) (aG (bC (i := 3) sc__law_stir.nd rfl (Or.inl rfl) (aM b9 dH aF (aM fA fF aF (aM b9 dH aF (aM fA fF aF (dv 2) aC) aC) aC) aC)) (aP (bY (aM bG bW bH (dv 3) (aM fA fF aF aC (aM b9 dH aF (aM fA fF aF (aM fA fF aF (dv 2) (dv 3)) aC) (aM bG bW bH (aM jW iN aF aC aC) aC))))))))
theorem sc__law_area_by : bL ["_law_places", "_law_ring", "_law_total", "_law_k"] ["_law_places"] (aN cS) := ⟨rfl, rfl, rfl, by decide +kernel, rfl, by decide +kernel, by decide +kernel⟩
theorem iM {c : Cls} (Df : Def K mg "_law_area_by" ["_law_places"] cS) (B : Blt mg) (C : oN mg c) (O : oM mg base c) (hk : lG K c) (c__law_turn : Cal P w K mg base 1 "_law_turn" 3 (bJ K c)) (c__law_hull_by : Cal P w K mg base 3 "_law_hull_by" 1 (bD K c)) : Cal P w K mg base 4 "_law_area_by" 1 (bB K c) := by
 refine qC (k := 3) Df sc__law_area_by rfl (fun f cdv A outer s H E hr => ⟨cU K c, ?_, i8 K c⟩)
 exact (aG (bC (i := 1) sc__law_area_by.nd rfl (Or.inl rfl) (aQ c__law_hull_by hr cF (aB (dv 0) aI))) (eK 1 (aG (bC (i := 2) sc__law_area_by.nd rfl (Or.inl rfl) aC) (aG (fW PassesOwn.leaving rfl (gN rfl B.range_ (aB (b8 cA kX gS rfl B.len_ PySem.boot_len (aB (dv 1) aI)) aI)) (cI (i := 3) sc__law_area_by.nd rfl (Or.inl rfl)) (aP (bC (i := 2) sc__law_area_by.nd rfl (Or.inl rfl) (aM bG bW bH (dv 2) (aQ c__law_turn hr cF (aB (bI (dv 1) aC (fun _ _ => rfl)) (aB (bI (dv 1) (aM bU bT aJ (dv 3) aC) (fun _ _ => rfl)) (aB (bI (dv 1) (dv 3) (fun _ _ => rfl)) aI)))))))) (aP (bY (dv 2)))))))
end
theorem pL {α : Type} {us : List α} (h : us.length = 1) : ∃ a, us = [a] := List.length_eq_one_iff.mp h
theorem tK {α : Type} {us : List α} (h : us.length = 2) : ∃ a b, us = [a, b] := by
 cases us with
 | nil => cases h
 | cons a r => obtain ⟨b, rfl⟩ := pL (Nat.succ.inj h); exact ⟨a, b, rfl⟩
theorem xJ {α : Type} {us : List α} (h : us.length = 3) : ∃ a b c, us = [a, b, c] := by
 cases us with
 | nil => cases h
 | cons a r => obtain ⟨b, c, rfl⟩ := tK (Nat.succ.inj h); exact ⟨a, b, c, rfl⟩
def vM (K : PySem.W.Frag) : Bool := K.all fun p => match p.2.cls with
 | .type n => !(n == "list")
 | _ => true
theorem lookup_mem {a : Addr} {o : Obj} : ∀ {l : List (Addr × Obj)}, l.lookup a = some o -> (a, o) ∈ l
 | (k, v) :: r, h => by
  unfold List.lookup at h
  split at h
  ·rename_i z
   have e : a = k := by simpa using z
   cases h
   rw [e]
   exact .head _
  ·exact .tail _ (lookup_mem h)
theorem rS {K : PySem.W.Frag} (h : vM K = true) {a : Addr} {o : Obj} (e : K.lookup a = some o) (hc : o.cls = .type "list") : False := by
 have := List.all_eq_true.mp h (a, o) (lookup_mem e)
 dsimp only at this
 rw [hc] at this
 cases this
def zC : Sp := fun vs H Q _ => ∃ (a : Addr) (ns : List Int), vs = [.ref a] /\ Rd H a (.lst (ns.map V.int)) /\ ns.length <= 63 /\ ∀ H', Q (.bl true) H'
theorem oD {K : PySem.W.Frag} {G : Hp} : ∀ ns : List Int, Reps K G (ns.map V.int) (ns.map PyData.int)
 | [] => .nil
 | i :: r => .cons (.int i) (oD r)
theorem aDv {P : Program} {w : World} {K : PySem.W.Frag} {mg : Str -> Option Value} {base : Heap} {f : Addr} {fd : FuncData} {c : Cls} (hk : lG K c) (F : FnOk P w K mg base (CXr P w) 6 f fd ["_law_script"] (spM K 1 (r8 K c))) : FnOk P w K mg base (CXr P w) 6 f fd ["_law_script"] zC :=
 F.imp fun vs H Q E h => by
  obtain ⟨a, ns, rfl, rd, hl, hq⟩ := h
  refine ⟨rfl, H, [.p (.list (ns.map .int))], Same.refl _, ⟨.lst rd (oD ns), trivial⟩, ?_⟩
  rw [aF3 K c hk ns hl]
  intro G' H' v st r
  cases r
  exact hq H'
structure FnAt (K : PySem.W.Frag) (x : Str) (st : Stmt) (f : Addr) (m : Value) (c : Addr) : Prop where
 a : PySem.W.nsIn K mainGlobals x = some (some (.ref f))
 l : K.lookup f = some ⟨.type "function", none, .func (PySem.W.fnOf x x (fH st) (dF st) (aN st) .none .none .none m none (.ref c) .none), #[]⟩
 c : PySem.W.codeIn K (.ref c) x = true
 k : PySem.W.keepIn K (.ref f) = true
theorem FnAt.df {K : PySem.W.Frag} {h : Heap} {mg : Str -> Option Value} {x : Str} {st : Stmt} {f c : Addr} {m : Value} {ps : List Str} (A : FnAt K x st f m c) (X : K.In h) (G : h.Ns mainGlobals mg)
  (hb : ∀ (kV doc pm : Value) (an : Option Addr) (cdv ct : Value) (us : List Value), us.length = ps.length -> bindArgs (PySem.W.fnOf x x (fH st) (dF st) (aN st) .none kV doc pm an cdv ct) ⟨us, []⟩ = pure (ps.zip us)) : Def K mg x ps st :=
 have F := aAb (st := st) A.l A.c A.k
 ⟨_, _, F, F.binds hb, A.k, PySem.W.mg_of X G A.a⟩
theorem all_mk {l : PySem.W.OpenLaw} {w : World} {K : PySem.W.Frag} {h : Heap} {mg : Str -> Option Value} {fa : Addr} {f1 c1 f2 c2 f3 c3 f4 c4 f5 c5 f6 c6 f7 c7 f8 c8 f9 c9 f10 c10 f11 c11 f12 c12 f13 c13 f14 c14 f15 c15  : Addr} (X : K.In h) (G : h.Ns mainGlobals mg) (hfa : mg "law" = some (.ref fa))
  {m1 m2 m3 m4 m5 m6 m7 m8 m9 m10 m11 m12 m13 m14 m15 : Value}
  (h1 : FnAt K "turn" qX f1 m1 c1)
  (h2 : FnAt K "chain" lF f2 m2 c2)
  (h3 : FnAt K "hull" pP f3 m3 c3)
  (h4 : FnAt K "area" pU f4 m4 c4)
  (h5 : FnAt K "mixed" l9 f5 m5 c5)
  (h6 : FnAt K "_law_cell_at" cQ f6 m6 c6)
  (h7 : FnAt K "_law_stir" eJ f7 m7 c7)
  (h8 : FnAt K "_law_whole" dP f8 m8 c8)
  (h9 : FnAt K "_law_turn" eF f9 m9 c9)
  (h10 : FnAt K "_law_farther" cR f10 m10 c10)
  (h11 : FnAt K "_law_hull_by" cO f11 m11 c11)
  (h12 : FnAt K "_law_area_by" cS f12 m12 c12)
  (h13 : FnAt K "_law_places_by" b6 f13 m13 c13)
  (h14 : FnAt K "_law_sums_by" cP f14 m14 c14)
  (h15 : FnAt K "law" oA f15 m15 c15)
  (z0 : PySem.W.nsIn K mainGlobals "abs" = some none)
  (z1 : PySem.W.nsIn K mainGlobals "bool" = some none)
  (z2 : PySem.W.nsIn K mainGlobals "int" = some none)
  (z3 : PySem.W.nsIn K mainGlobals "isinstance" = some none)
  (z4 : PySem.W.nsIn K mainGlobals "len" = some none)
  (z5 : PySem.W.nsIn K mainGlobals "list" = some none)
  (z6 : PySem.W.nsIn K mainGlobals "max" = some none)
  (z7 : PySem.W.nsIn K mainGlobals "range" = some none)
  (z8 : PySem.W.nsIn K mainGlobals "reversed" = some none)
  (z9 : PySem.W.nsIn K mainGlobals "set" = some none)
  (z10 : PySem.W.nsIn K mainGlobals "sorted" = some none)
  (z11 : PySem.W.nsIn K mainGlobals "sum" = some none)
  (xii : PySem.W.kitOne K (.type "int") (.type "int") = some true)
  (xib : PySem.W.kitOne K (.type "int") (.type "bool") = some false)
  (xtt : PySem.W.kitOne K (.type "tuple") (.type "tuple") = some true)
  (xll : PySem.W.kitOne K (.type "list") (.type "list") = some true)
  : ∃ fd : FuncData, (∀ (s : Shared) (v : Value), BindsTo s fd ⟨[v], []⟩ [("_law_script", v)]) /\ ∀ base : Heap, K.In base -> base.Ns mainGlobals mg -> FnOk l.prog w K mg base (CXr l.prog w) 6 fa fd ["_law_script"] zC := by
 have e := hfa.symm.trans (PySem.W.mg_of X G h15.a)
 cases e
 have D1 := h1.df (ps := ["start", "middle", "end"]) X G (fun _ _ _ _ _ _ us hl => by obtain ⟨_, _, _, rfl⟩ := xJ hl; rfl)
 have D2 := h2.df (ps := ["points"]) X G (fun _ _ _ _ _ _ us hl => by obtain ⟨_, rfl⟩ := pL hl; rfl)
 have D3 := h3.df (ps := ["slopes"]) X G (fun _ _ _ _ _ _ us hl => by obtain ⟨_, rfl⟩ := pL hl; rfl)
 have D4 := h4.df (ps := ["slopes"]) X G (fun _ _ _ _ _ _ us hl => by obtain ⟨_, rfl⟩ := pL hl; rfl)
 have D5 := h5.df (ps := ["slopes", "others"]) X G (fun _ _ _ _ _ _ us hl => by obtain ⟨_, _, rfl⟩ := tK hl; rfl)
 have D6 := h6.df (ps := ["_law_script", "_law_k"]) X G (fun _ _ _ _ _ _ us hl => by obtain ⟨_, _, rfl⟩ := tK hl; rfl)
 have D7 := h7.df (ps := ["_law_cell", "_law_k"]) X G (fun _ _ _ _ _ _ us hl => by obtain ⟨_, _, rfl⟩ := tK hl; rfl)
 have D8 := h8.df (ps := ["_law_found"]) X G (fun _ _ _ _ _ _ us hl => by obtain ⟨_, rfl⟩ := pL hl; rfl)
 have D9 := h9.df (ps := ["_law_one", "_law_far", "_law_place"]) X G (fun _ _ _ _ _ _ us hl => by obtain ⟨_, _, _, rfl⟩ := xJ hl; rfl)
 have D10 := h10.df (ps := ["_law_one", "_law_far", "_law_place"]) X G (fun _ _ _ _ _ _ us hl => by obtain ⟨_, _, _, rfl⟩ := xJ hl; rfl)
 have D11 := h11.df (ps := ["_law_places"]) X G (fun _ _ _ _ _ _ us hl => by obtain ⟨_, rfl⟩ := pL hl; rfl)
 have D12 := h12.df (ps := ["_law_places"]) X G (fun _ _ _ _ _ _ us hl => by obtain ⟨_, rfl⟩ := pL hl; rfl)
 have D13 := h13.df (ps := ["_law_cells", "_law_kind", "_law_count"]) X G (fun _ _ _ _ _ _ us hl => by obtain ⟨_, _, _, rfl⟩ := xJ hl; rfl)
 have D14 := h14.df (ps := ["_law_places", "_law_others"]) X G (fun _ _ _ _ _ _ us hl => by obtain ⟨_, _, rfl⟩ := tK hl; rfl)
 have B : Blt mg := ⟨PySem.W.mg_none_of X G z0, PySem.W.mg_none_of X G z1, PySem.W.mg_none_of X G z2, PySem.W.mg_none_of X G z3, PySem.W.mg_none_of X G z4, PySem.W.mg_none_of X G z5, PySem.W.mg_none_of X G z6, PySem.W.mg_none_of X G z7, PySem.W.mg_none_of X G z8, PySem.W.mg_none_of X G z9, PySem.W.mg_none_of X G z10, PySem.W.mg_none_of X G z11⟩
 let c : Cls := ⟨⟩
 have C : oN mg c := ⟨⟩
 have hk : lG K c := ⟨xii, xib, xtt, xll⟩
 refine ⟨PySem.W.fnOf "law" "law" (fH oA) (dF oA) (aN oA) .none .none .none m15 none (.ref c15) .none, fun s v => .of_eq rfl, fun base kb nb => ?_⟩
 have O : oM mg base c := ⟨⟩
 have G1 : Cal l.prog w K mg base 1 "turn" 3 (fB K c) := aC2 D1 B C O hk
 have G6 : Cal l.prog w K mg base 1 "_law_cell_at" 2 (aU K c) := jS D6 B C O hk
 have G7 : Cal l.prog w K mg base 1 "_law_stir" 2 (bF K c) := nN D7 B C O hk
 have G8 : Cal l.prog w K mg base 1 "_law_whole" 1 (bO K c) := mG D8 B C O hk
 have G9 : Cal l.prog w K mg base 1 "_law_turn" 3 (bJ K c) := mZ D9 B C O hk
 have G14 : Cal l.prog w K mg base 1 "_law_sums_by" 2 (bA K c) := jO D14 B C O hk
 have G2 : Cal l.prog w K mg base 2 "chain" 1 (dS K c) := xX D2 B C O hk G1
 have G10 : Cal l.prog w K mg base 2 "_law_farther" 3 (aW K c) := jJ D10 B C O hk G9
 have G13 : Cal l.prog w K mg base 2 "_law_places_by" 3 (aT K c) := gT D13 B C O hk G7 G6
 have G3 : Cal l.prog w K mg base 3 "hull" 1 (d0 K c) := aC7 D3 B C O hk G2
 have G11 : Cal l.prog w K mg base 3 "_law_hull_by" 1 (bD K c) := iU D11 B C O hk G10
 have G4 : Cal l.prog w K mg base 4 "area" 1 (gJ K c) := aBs D4 B C O hk G1 G3
 have G12 : Cal l.prog w K mg base 4 "_law_area_by" 1 (bB K c) := iM D12 B C O hk G9 G11
 have G5 : Cal l.prog w K mg base 5 "mixed" 2 (dG K c) := x6 D5 B C O hk G4 G3
 exact aDv hk (aEg (aAb (st := oA) h15.l h15.c h15.k) B C O hk G5 G14 G12 G8 G13 G7 G6)
theorem walk {l : PySem.W.OpenLaw} {q : Program} {loose : List Str} {XP : (Str -> Option Value) -> Heap -> Prop} {YP : World -> Heap -> Prop} {d : DefRec} {K : Params -> PySem.W.Frag} (hn : l.most = some 63) (hdf : d.params.defaults = [])
  (hY : ∀ (w : World) (h : Heap), YP w h -> (K w.params).In h) (hK : ∀ w : World, vM (K w.params) = true)
  (F : ∀ (w : World) (mg : Str -> Option Value) (fa : Addr) (h : Heap), (K w.params).In h -> h.Ns mainGlobals mg -> mg d.name = some (.ref fa) ->
   ∃ fd : FuncData, (∀ (s : Shared) (u : Value), BindsTo s fd ⟨[u], []⟩ [("_law_script", u)]) /\ ∀ base : Heap, (K w.params).In base -> base.Ns mainGlobals mg -> FnOk l.prog w (K w.params) mg base (CXr l.prog w) 6 fa fd ["_law_script"] zC) :
  PySem.W.WalkO q loose XP YP l.row.toRowW d [] (fun f vs => PySem.call f vs) :=
 L2.aBh (n := 63) (k := 6) (x := "_law_script") (CX := fun w => CXr l.prog w) (sp := fun _ => zC) hn (by decide) hdf ⟨rfl, by decide, by decide⟩ hY F (fun w _ a ns hl _ hS => ⟨a, ns, rfl, hS.elim id (fun ⟨_, _, _, e, hc, _⟩ => (rS (hK w) e hc).elim), hl, fun _ => rfl⟩) fun _ _ _ _ _ ⟨_, _, _, _, _, _, _, z⟩ => z
end My
namespace Hd
open PySem PySem.W PyProof.Rows L2 My
abbrev pr : Program := PySem.Challenge.pw_creasecurve_k37_mixed_areas_add
noncomputable def vs (s : String) (t : Nat) : Value := .str (Str.ofString s) t
noncomputable def en (P : Params) (s : String) (t : Nat) (v : Value) : DictEntry := ⟨PyData.keyHash P (Str.ofString s), .str (Str.ofString s) t, v⟩
noncomputable def fd (n q : String) (a : Arguments) (b : FuncBody) (s : Scope) (g : Nat) (c : List (Str × Nat)) (d k dc m : Value) (an : Option Nat) (co ct : Value) (bl : Nat) : FuncData := ⟨Str.ofString n, Str.ofString q, a, b, s, g, c, d, k, dc, m, an, co, ct, bl⟩
noncomputable def pE (e : DictEntry) : Obj -> Obj
 | ⟨c, d, .dict es n, s⟩ => ⟨c, d, .dict (es.push e) (n + 1), s⟩
 | o => o
noncomputable def rE (i : Nat) (v : Value) : Obj -> Obj
 | ⟨c, d, .dict es n, s⟩ => ⟨c, d, .dict (es.modify i fun e => ⟨e.hash, e.key, v⟩) n, s⟩
 | o => o
noncomputable def pF (vs : List Value) : Obj -> Obj
 | ⟨c, d, .fields xs, s⟩ => ⟨c, d, .fields (xs ++ vs.toArray), s⟩
 | o => o
noncomputable def tu (xs : List Value) : Obj := ⟨.type "tuple", none, .seq xs.toArray 0, #[]⟩
noncomputable def fl (xs : List Value) : Obj := ⟨.none, none, .fields xs.toArray, #[]⟩
noncomputable def fo (i : Nat) (nm : String) (g : Nat) (m co c : Value) : Obj := ⟨c, none, .func (fd nm nm (fH (top i)) (.stmts (dF (top i))) (aN (top i)) g [] .none .none .none m none co .none 0), #[]⟩
noncomputable def co (nm : String) (t u l k a c : Nat) (v x : Value) (f : Nat) : Obj := ⟨.type "code", none, .fields #[vs nm t, vs nm (t + 1), vs "/claim/cut.py" (t + 2), .int l 0, .int k 0, .int 0 0, .int 0 0, .int 3 0, .ref a, .bool true, .int 181 0, .ref c, .none, v, x, .ref f, .int u 0, .int l 0, vs "/claim/cut.py" (u + 1)], #[]⟩
noncomputable def vL (t : Nat) : List String -> List Value
 | [] => []
 | s :: r => vs s t :: vL (t + 1) r
noncomputable def d7 (P : Params) (i : Nat) (nm : String) (m : Value) (l k : Nat) (vn : List String) (n t u : Nat) (T : BT) : BT := ((((((((T.set 3 (pE (en P nm (u + 2) (.ref (n + 6))))).set 12 (pF [.int l 0, .int 0 0, .ref (n + 5)])).ins n (tu [])).ins (n + 1) (fl [])).ins (n + 2) (tu (vL (t + 3) vn))).ins (n + 3) (tu [])).ins (n + 4) (fo i nm 0 .none .none .none)).ins (n + 5) (co nm t u l k n (n + 1) (.ref (n + 2)) (.ref (n + 3)) (n + 4))).ins (n + 6) (fo i nm 3 m (.ref (n + 5)) (.type "function"))
noncomputable def d5 (P : Params) (i : Nat) (nm : String) (m : Value) (l k n t u : Nat) (T : BT) : BT := ((((((T.set 3 (pE (en P nm (u + 2) (.ref (n + 4))))).set 12 (pF [.int l 0, .int 0 0, .ref (n + 3)])).ins n (tu [])).ins (n + 1) (fl [])).ins (n + 2) (fo i nm 0 .none .none .none)).ins (n + 3) (co nm t u l k n (n + 1) .none .none (n + 2))).ins (n + 4) (fo i nm 3 m (.ref (n + 3)) (.type "function"))
noncomputable def aG1 : Env := { scope := pr.main.scope, locals := mainNs, globals := mainNs, cells := [], code := (.ref 13), frame := some 14 }
noncomputable def cE : Code := .body (behindTheImports pr) aG1
noncomputable def ol (P : Params) : List Obj := [boot_o_0 P, boot_o_1 P, boot_o_2 P, boot_o_3 P, boot_o_4 P, boot_o_5 P, boot_o_6 P, boot_o_7 P, boot_o_8 P, boot_o_9 P, boot_o_10 P, (⟨(.type "tuple"), none, (.seq #[] 0), #[]⟩ : Obj), (⟨.none, none, (.fields #[]), #[]⟩ : Obj), (⟨(.type "code"), none, (.fields #[(vs "<module>" 182), (vs "<module>" 183), (vs "/claim/cut.py" 184), (.int 1 0), (.int 0 0), (.int 0 0), (.int 0 0), (.int 0 0), (.ref 11), (.bool false), (.int 181 0), (.ref 12), .none, .none, .none, .none, (.int 185 0), (.int 1 0), (vs "/claim/cut.py" 186)]), #[]⟩ : Obj), (⟨(.type "frame"), none, .plain, #[(some (.ref 13)), (some (.ref 3)), (some (.ref 3)), none, (some (vs "__main__" 164)), none, (some (.ref 0))]⟩ : Obj)]
noncomputable def bt : Nat -> List Obj -> BT -> BT
 | _, [], T => T
 | i, o :: r, T => bt (i + 1) r (T.ins i o)
noncomputable def t0 (P : Params) : BT := bt 0 (ol P) .nil
noncomputable abbrev sT (t : Params -> BT) (n k : Nat) (w : World) (os : OsState) : SharedT := ⟨t w.params, n, {}, ⟨[]⟩, boot_drawn, k, os⟩
abbrev B : List Frame := [topFrame ⟨0, 0, 0, 0⟩]
theorem aDq (w : World) : (fun os => topGo treeTable pr w 11 (some (.ref 6)) 12 ⟨boot_heap w.params, ⟨[]⟩, boot_drawn, boot_toks, os⟩ (topStub pr)) = (fun os => some ((⟨⟨⟨ol w.params⟩, {}⟩, ⟨[]⟩, boot_drawn, 187, os⟩ : Shared), ⟨denote treeTable cE, cE, ⟨0, 0, 0, 0⟩, B⟩)) := by
 rw [PySem.W.Fast.te15667345088766844465, PySem.W.Fast.te14364793385576792824, PySem.W.Fast.te11892475500146522536]
 kernel_rfl
theorem aEy (w : World) : (fun os => segRun treeTable pr w 11 (some (.ref 6)) 1 1 ⟨⟨⟨ol w.params⟩, {}⟩, ⟨[]⟩, boot_drawn, 187, os⟩ (blockOf (behindTheImports pr) aG1 cE ⟨0, 0, 0, 0⟩ B)) = (fun os => some (.next, (sT t0 15 187 w os).abs, cE, ⟨0, 0, 0, 0⟩)) := by
 rw [PySem.W.Fast.te14374325043358763698, PySem.W.Fast.te14364793385576792824]
 kernel_rfl
noncomputable def t1 (P : Params) : BT :=
 (t0 P) |>
 (fun T => T.set 3 (rE 0 (vs "creasecurve.hulls" 187))) |>
 (d7 P 1 "turn" (vs "creasecurve.hulls" 187) 2 3 ["start", "middle", "end", "along", "across"] 15 189 197) |>
 (d7 P 2 "chain" (vs "creasecurve.hulls" 187) 6 1 ["points", "kept", "point"] 22 200 206) |>
 (d7 P 3 "hull" (vs "creasecurve.hulls" 187) 13 1 ["slopes", "rows", "there", "back"] 29 209 216) |>
 (d5 P 4 "area" (vs "creasecurve.hulls" 187) 20 1 36 219 222) |>
 (fun T => T.set 3 (rE 0 (vs "creasecurve.meetings" 225))) |>
 (d5 P 6 "mixed" (vs "creasecurve.meetings" 225) 24 2 41 227 230) |>
 (fun T => T.set 3 (rE 0 (vs "law_creasecurve_k37_mixed_areas_add" 233))) |>
 (d7 P 8 "_law_cell_at" (vs "law_creasecurve_k37_mixed_areas_add" 233) 32 2 ["_law_script", "_law_k"] 46 235 240) |>
 (d7 P 9 "_law_stir" (vs "law_creasecurve_k37_mixed_areas_add" 233) 36 2 ["_law_cell", "_law_k", "_law_c", "_law_low"] 53 243 250) |>
 (d7 P 10 "_law_whole" (vs "law_creasecurve_k37_mixed_areas_add" 233) 40 1 ["_law_found"] 60 253 257) |>
 (d7 P 11 "_law_turn" (vs "law_creasecurve_k37_mixed_areas_add" 233) 42 3 ["_law_one", "_law_far", "_law_place", "_law_here"] 67 260 267) |>
 (d7 P 12 "_law_farther" (vs "law_creasecurve_k37_mixed_areas_add" 233) 45 3 ["_law_one", "_law_far", "_law_place", "_law_turned", "_law_here"] 74 270 278) |>
 (d7 P 13 "_law_hull_by" (vs "law_creasecurve_k37_mixed_areas_add" 233) 51 1 ["_law_places", "_law_some", "_law_ring", "_law_step", "_law_far", "_law_place"] 81 281 290) |>
 (d7 P 14 "_law_area_by" (vs "law_creasecurve_k37_mixed_areas_add" 233) 63 1 ["_law_places", "_law_ring", "_law_total", "_law_k"] 88 293 300)
noncomputable def g0 : List Stmt := [top 0, top 1, top 2, top 3, top 4, top 5, top 6, top 7, top 8, top 9, top 10, top 11, top 12, top 13, top 14]
theorem hg0 (w : World) : (fun os => segRunT treeTable pr w 11 (some (.ref 6)) 1 398 (sT t0 15 187 w os) (piecesOf g0 aG1 cE ⟨0, 0, 0, 0⟩ B)) = (fun os => some (.next, sT t1 95 303 w os, cE, ⟨63, 0, 68, 21⟩)) := by
 rw [PySem.W.Fast.te10110043849684766642, PySem.W.Fast.te14364793385576792824]
 kernel_rfl
noncomputable def t2 (P : Params) : BT :=
 (t1 P) |>
 (d7 P 15 "_law_places_by" (vs "law_creasecurve_k37_mixed_areas_add" 233) 69 3 ["_law_cells", "_law_kind", "_law_count", "_law_found", "_law_k", "_law_c", "_law_x"] 95 303 313) |>
 (d7 P 16 "_law_sums_by" (vs "law_creasecurve_k37_mixed_areas_add" 233) 81 2 ["_law_places", "_law_others", "_law_found", "_law_one", "_law_other"] 102 316 324) |>
 (d5 P 17 "law" (vs "law_creasecurve_k37_mixed_areas_add" 233) 87 1 109 327 330)
noncomputable def g1 : List Stmt := [top 15, top 16, top 17]
theorem hg1 (w : World) : (fun os => segRunT treeTable pr w 11 (some (.ref 6)) 1 95 (sT t1 95 303 w os) (piecesOf g1 aG1 cE ⟨63, 0, 68, 21⟩ B)) = (fun os => some (.next, sT t2 114 333 w os, cE, ⟨87, 0, 101, 87⟩)) := by
 rw [PySem.W.Fast.te10110043849684766642, PySem.W.Fast.te14364793385576792824]
 kernel_rfl
noncomputable def hF (P : Params) : Heap := absHeap (t2 P) 114 {}
theorem aHl (w : World) : (fun os => topRun treeTable pr w 11 (some (.ref 6)) 2 (sT t2 114 333 w os).abs ⟨doneF .next, cE, ⟨87, 0, 101, 87⟩, B⟩) = (fun os => some ((⟨hF w.params, ⟨[]⟩, boot_drawn, 333, os⟩ : Shared))) := by
 rw [PySem.W.Fast.te14082659384304107361, PySem.W.Fast.te14364793385576792824]
 kernel_rfl
theorem hb : behindTheImports pr = g0 ++ (g1 ++ []) := by kernel_rfl
theorem aJj (w : World) (os : OsState) : topRun treeTable pr w 11 (some (.ref 6)) (12 + (1 + (398 + (95 + (2))))) ⟨boot_heap w.params, ⟨[]⟩, boot_drawn, boot_toks, os⟩ (topStub pr) = some ⟨hF w.params, ⟨[]⟩, boot_drawn, 333, os⟩ := go_top (congrFun (aDq w) os) (piece_block (congrFun (aEy w) os) (by
 rw [hb]
 exact piece_app (segRun_of (congrFun (hg0 w) os)) (piece_app (segRun_of (congrFun (hg1 w) os)) (piece_nil (congrFun (aHl w) os)))))
noncomputable def qv : Program := { pr with main := { pr.main with body := [top 1, top 2, top 3, top 4, top 6, top 8, top 9, top 10, top 11, top 12, top 13, top 14, top 15, top 16, top 17] } }
noncomputable def ks : List Nat := [3, 20, 21, 27, 28, 34, 35, 39, 40, 44, 45, 51, 52, 58, 59, 65, 66, 72, 73, 79, 80, 86, 87, 93, 94, 100, 101, 107, 108, 112, 113]
noncomputable def K (P : Params) : Frag := ks.map fun a => (a, ((t2 P).get a).getD default)
theorem ksE (P : Params) : ks = (K P).map (·.1) := by kernel_rfl
noncomputable abbrev hk : Hook := kHook K ks ksE
noncomputable abbrev xt : Shared -> Bool := fun s => xlAt qv [] s && recOk [] s
theorem aH8 (w : World) : ((boot_heap w.params).isNs mainGlobals && (⟨[]⟩ : Array GenState).size == 0, (boot_heap w.params).objs.size, (boot_heap w.params).nsMap mainGlobals "__annotations__") = (true, 11, (some (.ref 6))) := by kernel_rfl
theorem aIf (w : World) : (fun os : OsState => (staticsOk (importedModules pr.main.body) (boot_heap w.params) (hF w.params) && namesBound pr (hF w.params) && gensDone ⟨hF w.params, ⟨[]⟩, boot_drawn, 333, os⟩ && laidKept (boot_heap w.params) (hF w.params))) = fun _ => true := by
 rw [PySem.W.Fast.te5923862056798008813]
 kernel_rfl
theorem aHh (w : World) : (fun os : OsState => openSeen qv [] (importedModules pr.main.body) xt true ⟨hF w.params, ⟨[]⟩, boot_drawn, 333, os⟩) = fun _ => openGood qv [] := by
 rw [PySem.W.Fast.te4187177175401517315, PySem.W.Fast.te5923862056798008813]
 kernel_rfl
theorem aH7 (w : World) : (fun os : OsState => hk.obs ⟨hF w.params, ⟨[]⟩, boot_drawn, 333, os⟩) = fun _ => hk.val w := by kernel_rfl
theorem left : LeftO pr qv [] xt hk.obs hk.val 1108 := LeftO.of_pieces (boot_open (by kernel_rfl) (by decide) (fun _ => by kernel_rfl)) aH8 aJj (by decide) fun w => funext fun os => looks_pair (congrFun (aIf w) os) (looks_pair (congrFun (aHh w) os) (congrFun (aH7 w) os))
theorem h1 (w : World) : FnAt (K w.params) "turn" qX 21 (vs "creasecurve.hulls" 187) 20 := by constructor <;> kernel_rfl
theorem h2 (w : World) : FnAt (K w.params) "chain" lF 28 (vs "creasecurve.hulls" 187) 27 := by constructor <;> kernel_rfl
theorem h3 (w : World) : FnAt (K w.params) "hull" pP 35 (vs "creasecurve.hulls" 187) 34 := by constructor <;> kernel_rfl
theorem h4 (w : World) : FnAt (K w.params) "area" pU 40 (vs "creasecurve.hulls" 187) 39 := by constructor <;> kernel_rfl
theorem h5 (w : World) : FnAt (K w.params) "mixed" l9 45 (vs "creasecurve.meetings" 225) 44 := by constructor <;> kernel_rfl
theorem h6 (w : World) : FnAt (K w.params) "_law_cell_at" cQ 52 (vs "law_creasecurve_k37_mixed_areas_add" 233) 51 := by constructor <;> kernel_rfl
theorem h7 (w : World) : FnAt (K w.params) "_law_stir" eJ 59 (vs "law_creasecurve_k37_mixed_areas_add" 233) 58 := by constructor <;> kernel_rfl
theorem h8 (w : World) : FnAt (K w.params) "_law_whole" dP 66 (vs "law_creasecurve_k37_mixed_areas_add" 233) 65 := by constructor <;> kernel_rfl
theorem h9 (w : World) : FnAt (K w.params) "_law_turn" eF 73 (vs "law_creasecurve_k37_mixed_areas_add" 233) 72 := by constructor <;> kernel_rfl
theorem h10 (w : World) : FnAt (K w.params) "_law_farther" cR 80 (vs "law_creasecurve_k37_mixed_areas_add" 233) 79 := by constructor <;> kernel_rfl
theorem h11 (w : World) : FnAt (K w.params) "_law_hull_by" cO 87 (vs "law_creasecurve_k37_mixed_areas_add" 233) 86 := by constructor <;> kernel_rfl
theorem h12 (w : World) : FnAt (K w.params) "_law_area_by" cS 94 (vs "law_creasecurve_k37_mixed_areas_add" 233) 93 := by constructor <;> kernel_rfl
theorem h13 (w : World) : FnAt (K w.params) "_law_places_by" b6 101 (vs "law_creasecurve_k37_mixed_areas_add" 233) 100 := by constructor <;> kernel_rfl
theorem h14 (w : World) : FnAt (K w.params) "_law_sums_by" cP 108 (vs "law_creasecurve_k37_mixed_areas_add" 233) 107 := by constructor <;> kernel_rfl
theorem h15 (w : World) : FnAt (K w.params) "law" oA 113 (vs "law_creasecurve_k37_mixed_areas_add" 233) 112 := by constructor <;> kernel_rfl
end Hd
open PySem PySem.W PyProof.Rows
theorem Hd.said : PySem.Challenge.rw_creasecurve_k37_mixed_areas_add.wellSaid = true := by kernel_rfl
set_option maxRecDepth 100000 in
set_option maxHeartbeats 0 in
theorem PySem.Challenge.cw_creasecurve_k37_mixed_areas_add_holds : PySem.Challenge.rw_creasecurve_k37_mixed_areas_add.Holds := by
 refine holds_law Hd.said fun said => ?_
 refine holds_open (q := Hd.qv) (Xt := Hd.xt) (XP := XL Hd.qv []) (YP := Hd.hk.says) (N := 1108) Hd.left Hd.hk.of Hd.hk.keeps (fun s e => xl_of s (Bool.and_eq_true_iff.mp e).1) XL.keeps (by rfl) (by rfl) (by rfl) (fun s e => recFacts_of (Bool.and_eq_true_iff.mp e).2) (by rfl) said (by decide +kernel) ⟨rfl, rfl, rfl, rfl, rfl, by decide +kernel⟩ ?hw ?hc
 case hw => w_witness2
 refine My.walk (l := PySem.Challenge.rw_creasecurve_k37_mixed_areas_add) rfl rfl (fun w h Y => PySem.W.kIn_of Y) (fun w => by kernel_rfl) ?F
 case F =>
  intro w mg fa h KX G hmg
  exact My.all_mk KX G hmg (Hd.h1 w) (Hd.h2 w) (Hd.h3 w) (Hd.h4 w) (Hd.h5 w) (Hd.h6 w) (Hd.h7 w) (Hd.h8 w) (Hd.h9 w) (Hd.h10 w) (Hd.h11 w) (Hd.h12 w) (Hd.h13 w) (Hd.h14 w) (Hd.h15 w) (by kernel_rfl) (by kernel_rfl) (by kernel_rfl) (by kernel_rfl) (by kernel_rfl) (by kernel_rfl) (by kernel_rfl) (by kernel_rfl) (by kernel_rfl) (by kernel_rfl) (by kernel_rfl) (by kernel_rfl) (by kernel_rfl) (by kernel_rfl) (by kernel_rfl) (by kernel_rfl)

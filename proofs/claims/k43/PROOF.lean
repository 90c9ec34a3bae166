import PyProof.Rows.All
import Wide.All
import OpenK.AllK
import Wide.FinOn
import Lean
import PyProof.EqAt
import PyProof.EqKinds
import PyProof.TupleCall
import PySem.Challenge.RW_creasecurve_k43_heights_by_dealings
set_option Elab.async false
set_option linter.all false
set_option maxRecDepth 100000
namespace L2
open PySem PySem.Spec PyProof.Rows
abbrev Key := Sum Int Str
def xU : Key -> Value -> Bool
 | .inl k, v => Value.isInt k v
 | .inr x, v => Value.isStrOf x v
def aIp (w : World) : Key -> Int
 | .inl k => hashInt k
 | .inr x => hashStr w x
theorem dF : ∀ {k : Key} {v : Value}, xU k v = true -> (∃ i t, k = Sum.inl i /\ v = Value.int i t) \/ (∃ x t, k = Sum.inr x /\ v = Value.str x t)
 | .inl i, v, h => by
  obtain ⟨t, e⟩ := Value.isInt_shape (k := i) (v := v) h
  exact .inl ⟨i, t, rfl, e⟩
 | .inr x, v, h => by
  obtain ⟨t, e⟩ := Value.isStrOf_shape (x := x) (v := v) h
  exact .inr ⟨x, t, rfl, e⟩
theorem aAy (i : Int) (t : Tok) : xU (.inl i) (.int i t) = true := by simp [xU, Value.isInt]
theorem aBl (x : Str) (t : Tok) : xU (.inr x) (.str x t) = true := by simp [xU, Value.isStrOf]
theorem aIv (a b : Int) : decide ((Sum.inl a : Key) = Sum.inl b) = (a == b) := by
 by_cases e : a = b
 ·subst e; simp
 ·have h : ¬ (Sum.inl a : Key) = Sum.inl b := fun q => e (Sum.inl.inj q)
  rw [decide_eq_false h]
  exact (beq_eq_false_iff_ne.mpr e).symm
theorem aI3 (a b : Str) : decide ((Sum.inr a : Key) = Sum.inr b) = decide (a = b) := by
 by_cases e : a = b
 ·subst e; simp
 ·have h : ¬ (Sum.inr a : Key) = Sum.inr b := fun q => e (Sum.inr.inj q)
  rw [decide_eq_false h, decide_eq_false e]
theorem aI4 (a : Int) (b : Str) : decide ((Sum.inl a : Key) = Sum.inr b) = false := decide_eq_false (fun q => nomatch q)
theorem aIq (a : Str) (b : Int) : decide ((Sum.inr a : Key) = Sum.inl b) = false := decide_eq_false (fun q => nomatch q)
def fX (prog : Program) (w : World) : PySem.KeyKind prog w Key where
 is := xU
 hash := aIp w
 inj := fun v a b ha hb => by
  rcases dF ha with ⟨i, t, rfl, rfl⟩ | ⟨x, t, rfl, rfl⟩
  ·rcases dF hb with ⟨j, u, rfl, e⟩ | ⟨y, u, rfl, e⟩
   ·injection e with e1 _; rw [e1]
   ·exact nomatch e
  ·rcases dF hb with ⟨j, u, rfl, e⟩ | ⟨y, u, rfl, e⟩
   ·exact nomatch e
   ·injection e with e1 _; rw [e1]
 byValue := fun k v h => by
  rcases dF h with ⟨i, t, rfl, rfl⟩ | ⟨x, t, rfl, rfl⟩ <;> rfl
 pyHash := fun hv h => by
  rcases dF hv with ⟨i, t, rfl, rfl⟩ | ⟨x, t, rfl, rfl⟩
  ·exact wpAny_pyHash_int h
  ·exact wpAny_pyHash_str h
 eqBool := fun hu hv h => by
  rcases dF hu with ⟨i, t, rfl, rfl⟩ | ⟨x, t, rfl, rfl⟩
  ·rcases dF hv with ⟨j, u, rfl, rfl⟩ | ⟨y, u, rfl, rfl⟩
   ·rw [aIv] at h; exact wpAny_eqBool_int h
   ·rw [aI4] at h; exact SeqAt.EqAt.int_str i t y u _ _ _ _ h
  ·rcases dF hv with ⟨j, u, rfl, rfl⟩ | ⟨y, u, rfl, rfl⟩
   ·rw [aIq] at h; exact SeqAt.EqAt.str_int x t j u _ _ _ _ h
   ·rw [aI3] at h; exact wpAny_eqBool_str h
 «strs» := fun k x t v h => by
  rcases dF h with ⟨i, u, rfl, e⟩ | ⟨y, u, rfl, e⟩
  ·exact nomatch e
  ·injection e with e1 _
   subst e1
   cases v <;> rfl
theorem uI (prog : Program) (w : World) (i : Int) (t : Tok) : (fX prog w).is (.inl i) (.int i t) = true := aAy i t
theorem uS (prog : Program) (w : World) (x : Str) (t : Tok) : (fX prog w).is (.inr x) (.str x t) = true := aBl x t
inductive V where
 | non | bl (b : Bool) | int (i : Int) | str (x : Str) | byt (b : Array UInt8) | flt (b : UInt64) | ref (a : Addr) | ty (n : String)
 deriving DecidableEq
def RelV : V -> Value -> Prop
 | .non, u => u = Value.none
 | .bl b, u => u = Value.bool b
 | .int i, u => ∃ t, u = Value.int i t
 | .str x, u => ∃ t, u = Value.str x t
 | .byt b, u => ∃ t, u = Value.bytes b t
 | .flt b, u => ∃ t, u = Value.float b t
 | .ref a, u => u = Value.ref a
 | .ty n, u => u = Value.type n
abbrev Vals : List V -> List Value -> Prop := Paired RelV
theorem Vals.length {xs : List V} {us : List Value} (r : Vals xs us) : xs.length = us.length := Paired.length r
theorem Vals.get : ∀ {xs : List V} {us : List Value} {i : Nat} {x : V}, Vals xs us -> xs[i]? = some x -> ∃ u, us[i]? = some u /\ RelV x u
 | _, _, _, _, .nil, e => by simp at e
 | _, _, 0, _, .cons r _, e => by simp at e; subst e; exact ⟨_, rfl, r⟩
 | _, _, i + 1, x, .cons _ t, e => by
  obtain ⟨u, h1, h2⟩ := Vals.get (i := i) (x := x) t (by simpa using e)
  exact ⟨u, by simpa using h1, h2⟩
theorem Vals.append : ∀ {xs ys : List V} {us ws : List Value}, Vals xs us -> Vals ys ws -> Vals (xs ++ ys) (us ++ ws)
 | _, _, _, _, .nil, s => s
 | _, _, _, _, .cons r t, s => .cons r (Vals.append t s)
theorem Vals.take : ∀ {xs : List V} {us : List Value} (n : Nat), Vals xs us -> Vals (xs.take n) (us.take n)
 | _, _, 0, _ => .nil
 | _, _, _ + 1, .nil => .nil
 | _, _, n + 1, .cons r t => .cons r (Vals.take n t)
theorem Vals.drop : ∀ {xs : List V} {us : List Value} (n : Nat), Vals xs us -> Vals (xs.drop n) (us.drop n)
 | _, _, 0, r => r
 | _, _, _ + 1, .nil => .nil
 | _, _, n + 1, .cons _ t => Vals.drop n t
def aMz : Option V -> Option Value -> Prop
 | some v, some u => RelV v u
 | none, none => True
 | _, _ => False
def KV {κ : Type} : List (κ × V) -> List (κ × Value) -> Prop := Paired fun (p : κ × V) (q : κ × Value) => p.1 = q.1 /\ RelV p.2 q.2
def kV : Key -> V
 | .inl i => .int i
 | .inr x => .str x
inductive HO where
 /-- a list -/
 | lst (xs : List V)
 /-- a tuple (never changes) -/
 | tup (xs : List V)
 /-- a dict whose keys are ints and texts; one whose keys are tuples of ints and texts (the empty one is both) -/
 | dK (kvs : List (Key × V)) | dT (kvs : List (List Key × V))
 /-- a set of ints: its members, its size -/
 | set (S : Int -> Bool) (n : Nat)
 /-- an instance of the class at C, its dict at dx, its attributes -/
 | ins (C dx : Addr) (fs : List (Str × V))
 /-- the dict of the instance at x -/
 | own (x : Addr)
 /-- the dict of an exception -/
 | xd (fs : List (Str × V))
 /-- a bound method, f of x -/
 | met (f x : Addr)
 /-- a range object lo, lo + 1, .. below hi -/
 | rng (lo hi : Int)
 /-- a thing that is known to the object (the script; a dict while a loop walks it): read, never written while it is so -/
 | frz (o : Obj) (u : HO)
 /-- a code object's table -/
 | tbl (ps : Array Value)
 /-- any other thing, by what is true of its one object (a def of one's own: SetO a S n := HO.ext fun h => ..) -/
 | ext (φ : Heap -> Prop)
abbrev Hp := Addr -> Option HO
def upd (H : Hp) (a : Addr) (o : HO) : Hp := fun b => if b = a then some o else H b
theorem aY {H : Hp} {a : Addr} {o : HO} : upd H a o a = some o := by unfold upd; rw [if_pos rfl]
theorem aU {H : Hp} {a b : Addr} {o : HO} (h : b ≠ a) : upd H a o b = H b := by unfold upd; rw [if_neg h]
theorem b5 {H : Hp} {a b : Addr} {o : HO} (h : H a = some o) (h' : H b = none) : a ≠ b := by
 intro e; subst e; rw [h] at h'; cases h'
section
variable (P : Program) (w : World)
def ObjOk (H : Hp) (h : Heap) (a : Addr) : HO -> Prop
 | .lst xs => xs.length <= sizeLine /\ ∃ (its : List Value) (n : Nat), Vals xs its /\ h.get? a = some { cls := .type "list", data := .seq its.toArray n }
 | .tup xs => xs.length <= sizeLine /\ ∃ its : List Value, Vals xs its /\ IsTup h a its.toArray
 | .dK kvs => kvs.length <= sizeLine /\ (a == sysModules) = false /\ ∃ vs, KV kvs vs /\ h.DictOf (fX P w) a vs
 | .dT kvs => kvs.length <= sizeLine /\ (a == sysModules) = false /\ ∃ xs : List (List Key × Addr × Value),
   Paired (fun (p : List Key × V) (q : List Key × Addr × Value) => p.1 = q.1 /\ H q.2.1 = some (.tup (p.1.map kV)) /\ RelV p.2 q.2.2) kvs xs /\
   ∃ o es ep, h.get? a = some o /\ o.ExactDict /\ o.data = .dict es ep /\ es.toList = xs.map (entryOfKey (tupleKind (fX P w))) /\ (xs.map (·.1)).Nodup
 | .set S n => h.SetOf (intKind P w) a S n
 | .ins C dx fs => H dx = some (.own a) /\ fs.length <= 1000 /\ dx ≠ a /\ h.get? a = some (PySem.W.instObj C dx) /\
   ∃ mA, h.Ns1 dx mA /\ (∀ f, aMz (fs.lookup f) (mA f)) /\ PySem.Within mA (fs.map (·.1))
 | .own _ => ∃ o, h.get? a = some o
 | .xd fs => ∃ mA, h.Ns1 a mA /\ ∀ f, aMz (fs.lookup f) (mA f)
 | .rng lo hi => ∃ t u v, h.get? a = some { cls := .type "range", data := .fields #[.int lo t, .int hi u, .int 1 v] }
 | .frz o u => h.get? a = some o /\ ObjOk H h a u
 | .tbl ps => h.get? a = some { cls := .none, data := .fields ps }
 | .met f x => h.get? a = some (PySem.W.methodObj (.ref f) (.ref x))
 | .ext φ => φ h /\ (∃ o, h.get? a = some o) /\ ∀ h1 h2 : Heap, φ h1 -> (∀ o, h1.get? a = some o -> h2.get? a = some o) -> φ h2
def HOk (H : Hp) (h : Heap) : Prop := ∀ a o, H a = some o -> ObjOk P w H h a o
end
section
variable {P : Program} {w : World} {H H' : Hp} {h h' : Heap} {a : Addr} {o : HO}
theorem ObjOk.lt (x : ObjOk P w H h a o) : a < h.objs.size := by
 cases o with
 | lst xs => obtain ⟨_, _, _, _, e⟩ := x; exact Heap.lt_size e
 | tup xs => obtain ⟨_, _, _, p⟩ := x; exact p.lt
 | dK kvs => obtain ⟨_, _, _, _, o, _, _, e, _⟩ := x; exact Heap.lt_size e
 | dT kvs => obtain ⟨_, _, _, _, o, _, _, e, _⟩ := x; exact Heap.lt_size e
 | set S n => obtain ⟨o, _, _, _, e, _⟩ := x; exact Heap.lt_size e
 | ins C dx fs => obtain ⟨_, _, _, e, _⟩ := x; exact Heap.lt_size e
 | own y => obtain ⟨_, e⟩ := x; exact Heap.lt_size e
 | xd fs => obtain ⟨_, ⟨_, _, _, e, _⟩, _⟩ := x; exact Heap.lt_size e
 | rng lo hi => obtain ⟨_, _, _, e⟩ := x; exact Heap.lt_size e
 | frz ob u => obtain ⟨e, _⟩ := x; exact Heap.lt_size e
 | tbl ps => exact Heap.lt_size (show h.get? a = some _ from x)
 | met f y => exact Heap.lt_size (show h.get? a = some _ from x)
 | ext φ => obtain ⟨_, ⟨_, e⟩, _⟩ := x; exact Heap.lt_size e
theorem Paired.mapP {α β : Type} {F G : α -> β -> Prop} : ∀ {l₁ : List α} {l₂ : List β}, Paired F l₁ l₂ -> (∀ a b, F a b -> G a b) -> Paired G l₁ l₂
 | _, _, .nil, _ => .nil
 | _, _, .cons r t, f => .cons (f _ _ r) (Paired.mapP t f)
theorem ObjOk.stay (x : ObjOk P w H h a o) (k : ∀ b u, (b = a \/ H b = some (.own a)) -> h.get? b = some u -> h'.get? b = some u)
  (ho : ∀ b, H b = some (.own a) -> H' b = some (.own a)) (ht : ∀ b xs, H b = some (.tup xs) -> H' b = some (.tup xs)) : ObjOk P w H' h' a o := by
 induction o with
 | lst xs => obtain ⟨z, its, n, r, e⟩ := x; exact ⟨z, its, n, r, k _ _ (.inl rfl) e⟩
 | tup xs => obtain ⟨z, its, r, ob, e, c⟩ := x; exact ⟨z, its, r, ob, k _ _ (.inl rfl) e, c⟩
 | dK kvs => obtain ⟨z, y, vs, r, ob, es, ep, e, c⟩ := x; exact ⟨z, y, vs, r, ob, es, ep, k _ _ (.inl rfl) e, c⟩
 | dT kvs =>
  obtain ⟨z, y, xs, r, ob, es, ep, e, c⟩ := x
  exact ⟨z, y, xs, Paired.mapP r fun p q z => ⟨z.1, ht _ _ z.2.1, z.2.2⟩, ob, es, ep, k _ _ (.inl rfl) e, c⟩
 | set S n => obtain ⟨ob, es, ep, t, e, c⟩ := x; exact ⟨ob, es, ep, t, k _ _ (.inl rfl) e, c⟩
 | ins C dx fs =>
  obtain ⟨d, z, ne, e, mA, ⟨od, es, ep, e2, c⟩, r⟩ := x
  exact ⟨ho _ d, z, ne, k _ _ (.inl rfl) e, mA, ⟨od, es, ep, k _ _ (.inr d) e2, c⟩, r⟩
 | own y => obtain ⟨ob, e⟩ := x; exact ⟨ob, k _ _ (.inl rfl) e⟩
 | xd fs => obtain ⟨mA, ⟨od, es, ep, e, c⟩, r⟩ := x; exact ⟨mA, ⟨od, es, ep, k _ _ (.inl rfl) e, c⟩, r⟩
 | rng lo hi => obtain ⟨t, u, v, e⟩ := x; exact ⟨t, u, v, k _ _ (.inl rfl) e⟩
 | frz ob u ih => obtain ⟨e, q⟩ := x; exact ⟨k _ _ (.inl rfl) e, ih q⟩
 | tbl ps =>
  have e : h.get? a = some { cls := .none, data := .fields ps } := x
  show h'.get? a = some { cls := .none, data := .fields ps }
  exact k a _ (.inl rfl) e
 | met f y =>
  have e : h.get? a = some (PySem.W.methodObj (.ref f) (.ref y)) := x
  show h'.get? a = some (PySem.W.methodObj (.ref f) (.ref y))
  exact k a _ (.inl rfl) e
 | ext φ => obtain ⟨p, ⟨o, e⟩, st⟩ := x; exact ⟨st _ _ p fun o q => k _ _ (.inl rfl) q, ⟨o, k _ _ (.inl rfl) e⟩, st⟩
theorem HOk.lt (x : HOk P w H h) (e : H a = some o) : a < h.objs.size := (x a o e).lt
theorem HOk.fresh (x : HOk P w H h) (e : h.objs.size <= a) : H a = none := by
 cases q : H a with
 | none => rfl
 | some u => exact absurd (Nat.lt_of_lt_of_le (x.lt q) e) (Nat.lt_irrefl _)
theorem HOk.kept (x : HOk P w H h) (k : ∀ b u, h.get? b = some u -> h'.get? b = some u) : HOk P w H h' := fun a o e =>
 (x a o e).stay (fun b u _ q => k b u q) (fun _ q => q) fun _ _ q => q
theorem HOk.laid (x : HOk P w H h) (k : ∀ b u, h.get? b = some u -> h'.get? b = some u) (hp : h.objs.size <= a) (new : ObjOk P w (upd H a o) h' a o) : HOk P w (upd H a o) h' := fun b u e => by
 have hn := x.fresh hp
 by_cases hb : b = a
 ·subst hb; rw [aY] at e; cases e; exact new
 ·rw [aU hb] at e
  exact (x b u e).stay (fun c v _ q => k c v q) (fun c q => by rw [aU (b5 q hn)]; exact q) fun c xs q => by rw [aU (b5 q hn)]; exact q
end
def Rd (H : Hp) (a : Addr) (u : HO) : Prop := H a = some u \/ ∃ o, H a = some (.frz o u)
theorem Rd.ok {P : Program} {w : World} {H : Hp} {h : Heap} {a : Addr} {u : HO} (r : Rd H a u) (x : HOk P w H h) : ObjOk P w H h a u := by
 rcases r with r | ⟨o, r⟩
 ·exact x a u r
 ·obtain ⟨_, q⟩ := x a _ r
  exact q
def Mut : Option HO -> Prop
 | some (.lst _) => True
 | some (.dK _) => True
 | some (.dT _) => True
 | some (.set _ _) => True
 | some (.ins _ _ _) => True
 | some (.ext _) => True
 | _ => False
section
variable {P : Program} {w : World} {H : Hp} {h h' : Heap} {x e : Addr} {o' : HO}
theorem HOk.write (ok : HOk P w H h) (mu : Mut (H x)) (he : e = x \/ H e = some (.own x)) (k : ∀ b u, b ≠ e -> h.get? b = some u -> h'.get? b = some u) (heo : ∃ u, h'.get? e = some u)
  (new : ObjOk P w (upd H x o') h' x o') : HOk P w (upd H x o') h' := fun b u q => by
 have nown : ∀ c y, H c = some (.own y) -> c ≠ x := fun c y r z => by subst z; rw [r] at mu; exact mu
 have ntup : ∀ c xs, H c = some (.tup xs) -> c ≠ x := fun c xs r z => by subst z; rw [r] at mu; exact mu
 by_cases hb : b = x
 ·subst hb; rw [aY] at q; cases q; exact new
 ·rw [aU hb] at q
  by_cases hbe : b = e
  ·have q' : H b = some (.own x) := by
    rcases he with z | z
    ·exact absurd (hbe.trans z) hb
    ·rw [hbe]; exact z
   rw [q] at q'; cases q'
   obtain ⟨v, hv⟩ := heo
   exact ⟨v, by rw [hbe]; exact hv⟩
  ·refine (ok b u q).stay (fun c v hc r => k c v ?_ r) (fun c r => by rw [aU (nown c b r)]; exact r) fun c xs r => by rw [aU (ntup c xs r)]; exact r
   rcases hc with rfl | hc
   ·exact hbe
   ·rintro rfl
    rcases he with z | z
    ·exact nown c b hc z
    ·rw [hc] at z; cases z; exact hb rfl
end
structure Un (fs ex : List Addr) (H H' : Hp) (h h' : Heap) : Prop where
 keep : ∀ b o, h.get? b = some o -> H b = none -> b ∉ fs -> b ∉ ex -> h'.get? b = some o
 slot : ∀ b o, h.get? b = some o -> H b = none -> b ∈ fs -> b ∉ ex -> ∃ sl, h'.get? b = some { o with slots := sl }
 free : ∀ b o, h.get? b = some o -> H b = none -> b ∉ ex -> H' b = none
 there : ∀ b o, h.get? b = some o -> b ∉ ex -> ∃ o', h'.get? b = some o'
 tups : ∀ b xs, H b = some (.tup xs) -> H' b = some (.tup xs)
 frzs : ∀ b o u, H b = some (.frz o u) -> H' b = some (.frz o u)
 tbls : ∀ b ps, H b = some (.tbl ps) -> ∃ more, H' b = some (.tbl (ps ++ more))
section
variable {fs fs' ex ex' : List Addr} {H H1 H2 : Hp} {h h1 h2 h' : Heap} {a x e : Addr} {o : HO}
theorem Un.any (u : Un fs ex H H1 h h1) {b : Addr} {ob : Obj} (q : h.get? b = some ob) (n : H b = none) (hx : b ∉ ex) : ∃ sl, h1.get? b = some { ob with slots := sl } := by
 by_cases hb : b ∈ fs
 ·exact u.slot b ob q n hb hx
 ·exact ⟨ob.slots, u.keep b ob q n hb hx⟩
theorem Un.kept (k : ∀ b u, h.get? b = some u -> h'.get? b = some u) : Un fs ex H H h h' :=
 ⟨fun b ob q _ _ _ => k b ob q, fun b ob q _ _ _ => ⟨ob.slots, k b ob q⟩, fun _ _ _ n _ => n, fun b ob q _ => ⟨ob, k b ob q⟩, fun _ _ q => q, fun _ _ _ q => q, fun _ ps q => ⟨#[], by rw [q]; simp⟩⟩
theorem Un.refl : Un fs ex H H h h := Un.kept fun _ _ q => q
theorem Un.laid (k : ∀ b u, h.get? b = some u -> h'.get? b = some u) (hp : h.objs.size <= a) (hn : H a = none) : Un fs ex H (upd H a o) h h' where
 keep := fun b u q _ _ _ => k b u q
 slot := fun b u q _ _ _ => ⟨u.slots, k b u q⟩
 free := fun b u q n _ => by rw [aU (Nat.ne_of_lt (Nat.lt_of_lt_of_le (Heap.lt_size q) hp))]; exact n
 there := fun b u q _ => ⟨u, k b u q⟩
 tups := fun b xs q => by rw [aU (b5 q hn)]; exact q
 frzs := fun b u xs q => by rw [aU (b5 q hn)]; exact q
 tbls := fun b ps q => ⟨#[], by rw [aU (b5 q hn), q]; simp⟩
theorem Un.write (mu : Mut (H x)) (he : e = x \/ H e = some (.own x)) (k : ∀ b u, b ≠ e -> h.get? b = some u -> h'.get? b = some u) (heo : ∃ u, h'.get? e = some u) : Un fs ex H (upd H x o) h h' := by
 have hx : ∀ b, H b = none -> b ≠ x := fun b n z => by subst z; rw [n] at mu; exact mu
 have hb : ∀ b, H b = none -> b ≠ e := fun b n z => by
  subst z
  rcases he with r | r
  ·exact hx b n r
  ·rw [n] at r; cases r
 have hm : ∀ b u, H b = some u -> ¬ Mut (some u) -> b ≠ x := fun b u q nm z => by subst z; rw [q] at mu; exact nm mu
 refine ⟨fun b u q n _ _ => k b u (hb b n) q, fun b u q n _ _ => ⟨u.slots, k b u (hb b n) q⟩, fun b u q n _ => by rw [aU (hx b n)]; exact n, fun b u q _ => ?_,
  fun b xs q => by rw [aU (hm b _ q fun z => z)]; exact q, fun b u xs q => by rw [aU (hm b _ q fun z => z)]; exact q, fun b ps q => ⟨#[], by rw [aU (hm b _ q fun z => z), q]; simp⟩⟩
 by_cases hbe : b = e
 ·subst hbe; exact heo
 ·exact ⟨u, k b u hbe q⟩
end
def trk (h : Heap) (H : Hp) : List Addr := (List.range h.objs.size).filter fun a => (H a).isSome
def aCv (h : Heap) (H : Hp) : Heap := PySem.W.hideAll h (trk h H)
theorem zM (h : Heap) (H : Hp) : (aCv h H).objs.size = h.objs.size := PySem.W.hideAll_size _ _
theorem aDc {h : Heap} {H : Hp} {b : Addr} {o : Obj} (e : h.get? b = some o) (n : H b = none) : (aCv h H).get? b = some o :=
 PySem.W.hideAll_get _ e fun hm => by
  have q : (H b).isSome = true := (List.mem_filter.mp hm).2
  rw [n] at q; simp at q
theorem aGj {h : Heap} {H : Hp} {b : Addr} {o : Obj} (e : (aCv h H).get? b = some o) : h.get? b = some o /\ H b = none := by
 have e' : h.get? b = some o := PySem.W.of_hideAll (trk h H) e
 refine ⟨e', ?_⟩
 cases q : H b with
 | none => rfl
 | some x =>
  have hm : b ∈ trk h H := List.mem_filter.mpr ⟨List.mem_range.mpr (Heap.lt_size e'), by simp [q]⟩
  have z : (aCv h H).get? b = none := PySem.W.hideAll_none (trk h H) hm
  rw [z] at e; cases e
def aGq (g h : Heap) (L : Addr) : List (Addr × Obj) := (List.range h.objs.size).filterMap fun a => if a = L \/ (g.get? a).isSome = true then none else (h.get? a).map fun o => (a, o)
def rest (g h : Heap) (L d : Addr) : List (Addr × Obj) := (aGq g h L).filter fun p => decide (p.1 ≠ d)
structure Mod (K : PySem.W.Frag) (mg : Str -> Option Value) (base : Heap) : Prop where
 kin : K.In base
 glob : base.Ns mainGlobals mg
 blt : ∃ mb, base.Ns builtinsNs mb /\ ∀ x : Str, x ≠ "__name__" -> mb x = bootBuiltins x
 nolimit : base.NoLimit
structure Cx where
 prog : Program
 w : World
 K : PySem.W.Frag
 mg : Str -> Option Value
 base : Heap
 A : Around
 N : List Str
 s₀ : Shared
 H₀ : Hp
 env : Env
 outer : List Env
 stack : List Env
 ex : List Addr
 fn : Str -> Bool
 calm : Bool
 pn : List (Addr × Obj)
 xe : Value -> Shared -> Prop
def frs (l : List Env) : List Addr := l.filterMap (·.frame)
abbrev Cx.fs (X : Cx) : List Addr := frs X.outer
def Vis (sc : Scope) (x : Str) : Prop := sc.names.lookup x = some .local \/ sc.names.lookup x = some .cell \/ sc.names.lookup x = some .free
def Loc (sc : Scope) (x : Str) : Prop := sc.names.lookup x = some .local \/ sc.names.lookup x = some .cell
def Look (env : Env) (h : Heap) (m : Str -> Option Value) (x : Str) (u : Value) : Prop :=
 (env.kindOf x = some .local /\ m x = some u) \/ ((env.kindOf x = some .cell \/ env.kindOf x = some .free) /\ ∃ c, env.cells.lookup x = some c /\ h.IsCell c (some u))
structure Cx.Ok (X : Cx) : Prop where
 mod : Mod X.K X.mg X.base
 kind : X.env.scope.kind = .function
 glob : X.env.globals = mainGlobals
 blt : X.env.builtins = builtinsNs
 above : X.s₀.heap.objs.size <= X.env.locals
 inj : ∀ x y c, X.env.cells.lookup x = some c -> X.env.cells.lookup y = some c -> x = y
 has : ∀ x, (X.env.kindOf x = some .cell \/ X.env.kindOf x = some .free) -> ∃ c, X.env.cells.lookup x = some c
 cab : ∀ x c, X.fn x = true -> X.env.cells.lookup x = some c -> X.s₀.heap.objs.size <= c
 hd : X.calm = true -> X.A.handled = none
 frames : X.A.frames = some X.stack
 stk : X.stack = X.outer \/ (X.stack = X.env :: X.outer /\ X.env.frame = some X.env.locals)
 exf : ∀ b ∈ X.ex, b ≠ X.env.locals /\ ∀ x c, X.env.cells.lookup x = some c -> c ≠ b
 bs : ∀ b o, X.base.get? b = some o -> X.s₀.heap.get? b = some o /\ X.H₀ b = none
 bsz : X.base.objs.size <= X.s₀.heap.objs.size
 noex : ∀ b o, X.base.get? b = some o -> b ∉ X.ex
 exfs : ∀ b ∈ X.ex, b ∉ X.fs
 funs : X.s₀.heap.FunFrames X.base X.outer
 frf : ∀ b ∈ X.fs, X.H₀ b = none
structure Inv (X : Cx) (pins : List (Addr × Obj)) (σ : List (Option V)) (H : Hp) (s : Shared) : Prop where
 ok : X.Ok
 os : s.os = X.s₀.os
 bare : AllBare s.gens
 base : Un X.fs X.ex X.H₀ H X.s₀.heap s.heap
 loc : ∃ m, s.heap.Ns X.env.locals m /\ ∀ (i : Nat) (x : Str) (v : V), X.N[i]? = some x -> σ[i]? = some (some v) -> Vis X.env.scope x -> ∃ u, RelV v u /\ Look X.env s.heap m x u
 cell : ∀ x c, X.env.cells.lookup x = some c -> ∃ v, s.heap.IsCell c v
 free : H X.env.locals = none
 freeC : ∀ x c, X.env.cells.lookup x = some c -> H c = none
 pin : ∀ p ∈ X.pn ++ pins, s.heap.get? p.1 = some p.2 /\ H p.1 = none /\ p.1 ≠ X.env.locals /\ p.1 ∉ X.fs /\ ∀ v, p.2.data ≠ .cell v
 hok : HOk X.prog X.w H s.heap
 len : σ.length = X.N.length
section
variable {X : Cx} {pins : List (Addr × Obj)} {σ : List (Option V)} {H H' : Hp} {s : Shared} {h' : Heap}
theorem Cx.Ok.nofr (ok : X.Ok) {b : Addr} {o : Obj} (e : X.base.get? b = some o) : b ∉ X.fs := fun hb => by
 have := (ok.funs.mem hb).1
 rw [e] at this; cases this
theorem Inv.bs (I : Inv X pins σ H s) : ∀ b o, X.base.get? b = some o -> s.heap.get? b = some o /\ H b = none := fun b o e =>
 ⟨I.base.keep b o (I.ok.bs b o e).1 (I.ok.bs b o e).2 (I.ok.nofr e) (I.ok.noex b o e), I.base.free b o (I.ok.bs b o e).1 (I.ok.bs b o e).2 (I.ok.noex b o e)⟩
theorem Inv.bk (I : Inv X pins σ H s) : ∀ b o, X.base.get? b = some o -> s.heap.get? b = some o := fun b o e => (I.bs b o e).1
theorem Inv.mod (I : Inv X pins σ H s) : Mod X.K X.mg X.base := I.ok.mod
theorem Inv.kIn (I : Inv X pins σ H s) : X.K.In s.heap := I.ok.mod.kin.keeps I.bk
theorem Inv.lt (I : Inv X pins σ H s) : X.env.locals < s.heap.objs.size := let ⟨_, hn, _⟩ := I.loc; hn.lt
theorem Inv.sz (I : Inv X pins σ H s) : X.s₀.heap.objs.size <= s.heap.objs.size := Nat.le_trans I.ok.above (Nat.le_of_lt I.lt)
theorem Inv.nofs (I : Inv X pins σ H s) {a : Addr} (h : s.heap.objs.size <= a) : a ∉ X.fs := fun hb => by
 obtain ⟨_, o, ho, _⟩ := I.ok.funs.mem hb
 exact absurd (Nat.lt_of_lt_of_le (Heap.lt_size ho) (Nat.le_trans I.sz h)) (Nat.lt_irrefl _)
theorem Inv.cne (I : Inv X pins σ H s) : ∀ x c, X.env.cells.lookup x = some c -> c ≠ X.env.locals := fun x c e z => by
 obtain ⟨v, o, ho, hd⟩ := I.cell x c e
 obtain ⟨m, ⟨o', es, ep, ho', hd', _⟩, _⟩ := I.loc
 rw [z, ho'] at ho; cases ho; rw [hd'] at hd; cases hd
theorem Inv.funs (I : Inv X pins σ H s) : s.heap.FunFrames X.base X.outer := by
 have all : ∀ (l : List Env), (∀ b ∈ frs l, b ∈ X.fs) -> X.s₀.heap.FunFrames X.base l -> s.heap.FunFrames X.base l := by
  intro l
  induction l with
  | nil => intro _ _; trivial
  | cons env r ih =>
   intro hs hl
   obtain ⟨hk, ⟨L, o, hf, hn, ho, hd⟩, hr⟩ := hl
   have hL : L ∈ X.fs := hs L (by unfold frs; rw [List.filterMap_cons, hf]; exact List.mem_cons_self)
   obtain ⟨sl, e⟩ := I.base.slot L o ho (I.ok.frf L hL) hL fun z => I.ok.exfs L z hL
   exact ⟨hk, ⟨L, _, hf, hn, e, hd⟩, ih (fun b hb => hs b (by unfold frs; rw [List.filterMap_cons, hf]; exact List.mem_cons_of_mem _ hb)) hr⟩
 exact all X.outer (fun _ hb => hb) I.ok.funs
theorem Inv.stack (I : Inv X pins σ H s) : s.heap.FunFrames X.base X.stack := by
 rcases I.ok.stk with e | ⟨e, hf⟩
 ·rw [e]; exact I.funs
 ·rw [e]
  obtain ⟨m, hn, _⟩ := I.loc
  refine .cons (by rw [I.ok.kind]; decide) hf hn ?_ I.funs
  exact Heap.get?_none_of_le (Nat.le_trans I.ok.bsz I.ok.above)
theorem Inv.stkSub (I : Inv X pins σ H s) : ∀ b ∈ frs X.stack, b ∈ X.env.locals :: X.fs := fun b hb => by
 rcases I.ok.stk with e | ⟨e, hf⟩
 ·rw [e] at hb; exact List.mem_cons_of_mem _ hb
 ·rw [e] at hb
  unfold frs at hb
  rw [List.filterMap_cons, hf] at hb
  exact hb
theorem Inv.stkFree (I : Inv X pins σ H s) : ∀ b ∈ frs X.stack, H b = none := fun b hb => by
 rcases List.mem_cons.mp (I.stkSub b hb) with e | hb
 ·rw [e]; exact I.free
 ·obtain ⟨_, o, ho, _⟩ := I.ok.funs.mem hb
  exact I.base.free b o ho (I.ok.frf b hb) fun z => I.ok.exfs b z hb
theorem Inv.step {g' : Array GenState} {t' : Nat} {d' : Drawn} {ch : List Addr} (I : Inv X pins σ H s)
  (hch : ∀ b ∈ ch, (b ∈ X.ex \/ X.s₀.heap.objs.size <= b) /\ b ≠ X.env.locals /\ (∀ x c, X.env.cells.lookup x = some c -> c ≠ b) /\ ∀ p ∈ X.pn ++ pins, p.1 ≠ b)
  (keep : ∀ b o, b ≠ X.env.locals -> b ∉ X.fs -> b ∉ ch -> s.heap.get? b = some o -> H b = none -> h'.get? b = some o)
  (slot : ∀ b o, b ≠ X.env.locals -> b ∈ X.fs -> b ∉ ch -> s.heap.get? b = some o -> H b = none -> ∃ sl, h'.get? b = some { o with slots := sl }) (free : ∀ b o, b ∉ ch -> s.heap.get? b = some o -> H b = none -> H' b = none)
  (there : ∀ b o, b ∉ ch -> s.heap.get? b = some o -> ∃ o', h'.get? b = some o')
  (tups : ∀ b xs, H b = some (.tup xs) -> H' b = some (.tup xs)) (frzs : ∀ b o u, H b = some (.frz o u) -> H' b = some (.frz o u)) (tbls : ∀ b ps, H b = some (.tbl ps) -> ∃ more, H' b = some (.tbl (ps ++ more)))
  (ns : ∀ m, s.heap.Ns X.env.locals m -> h'.Ns X.env.locals m) (hok : HOk X.prog X.w H' h') (hg : AllBare g') :
  Inv X pins σ H' { s with heap := h', gens := g', drawn := d', toks := t' } := by
 have neL : ∀ b o, X.s₀.heap.get? b = some o -> b ≠ X.env.locals := fun b o e => Nat.ne_of_lt (Nat.lt_of_lt_of_le (Heap.lt_size e) I.ok.above)
 have neC : ∀ b o, X.s₀.heap.get? b = some o -> b ∉ X.ex -> b ∉ ch := fun b o e hx hb => by
  rcases (hch b hb).1 with z | z
  ·exact hx z
  ·exact absurd (Nat.lt_of_lt_of_le (Heap.lt_size e) z) (Nat.lt_irrefl _)
 have cellK : ∀ x c, X.env.cells.lookup x = some c -> ∀ v, s.heap.IsCell c v -> h'.IsCell c v := fun x c e v ⟨o, ho, hd⟩ => by
  have nch : c ∉ ch := fun z => (hch c z).2.2.1 x c e rfl
  by_cases hc : c ∈ X.fs
  ·obtain ⟨sl, q⟩ := slot c o (I.cne x c e) hc nch ho (I.freeC x c e)
   exact ⟨_, q, hd⟩
  ·exact ⟨o, keep c o (I.cne x c e) hc nch ho (I.freeC x c e), hd⟩
 refine ⟨I.ok, I.os, hg, ⟨fun b o e n hb hx => ?_, fun b o e n hb hx => ?_, fun b o e n hx => ?_, fun b o e hx => ?_, fun b xs e => tups b xs (I.base.tups b xs e), fun b o xs e => frzs b o xs (I.base.frzs b o xs e), fun b ps e => ?_⟩, ?_, fun x c e => ?_, ?_, fun x c e => ?_, fun p hp => ?_, hok, I.len⟩
 ·exact keep b o (neL b o e) hb (neC b o e hx) (I.base.keep b o e n hb hx) (I.base.free b o e n hx)
 ·obtain ⟨sl, e1⟩ := I.base.slot b o e n hb hx
  obtain ⟨sl', e2⟩ := slot b _ (neL b o e) hb (neC b o e hx) e1 (I.base.free b o e n hx)
  exact ⟨sl', e2⟩
 ·obtain ⟨o', e1⟩ := I.base.there b o e hx
  exact free b o' (neC b o e hx) e1 (I.base.free b o e n hx)
 ·obtain ⟨o', e1⟩ := I.base.there b o e hx
  exact there b o' (neC b o e hx) e1
 ·obtain ⟨m1, e1⟩ := I.base.tbls b ps e
  obtain ⟨m2, e2⟩ := tbls b _ e1
  exact ⟨m1 ++ m2, by rw [e2, Array.append_assoc]⟩
 ·obtain ⟨m, hn, hl⟩ := I.loc
  refine ⟨m, ns m hn, fun i x v e1 e2 e3 => ?_⟩
  obtain ⟨u, r, l⟩ := hl i x v e1 e2 e3
  refine ⟨u, r, ?_⟩
  rcases l with l | ⟨k, c, e, z⟩
  ·exact .inl l
  ·exact .inr ⟨k, c, e, cellK x c e _ z⟩
 ·obtain ⟨v, z⟩ := I.cell x c e
  exact ⟨v, cellK x c e v z⟩
 ·obtain ⟨m, ⟨o, _, _, ho, _⟩, _⟩ := I.loc
  exact free _ o (fun z => (hch _ z).2.1 rfl) ho I.free
 ·obtain ⟨v, o, ho, hd⟩ := I.cell x c e
  exact free c o (fun z => (hch c z).2.2.1 x c e rfl) ho (I.freeC x c e)
 ·obtain ⟨e, n, ne, nf, d⟩ := I.pin p hp
  have nch : p.1 ∉ ch := fun z => (hch p.1 z).2.2.2 p hp rfl
  exact ⟨keep p.1 p.2 ne nf nch e n, free p.1 p.2 nch e n, ne, nf, d⟩
theorem Inv.un {t' : Nat} (I : Inv X pins σ H s) (u : Un X.fs [] H H' s.heap h') (hok : HOk X.prog X.w H' h') : Inv X pins σ H' { s with heap := h', toks := t' } := by
 obtain ⟨m, ⟨o, es, ep, ho, r⟩, _⟩ := id I.loc
 obtain ⟨sl, hL⟩ := u.any ho I.free (by simp)
 exact I.step (g' := s.gens) (d' := s.drawn) (ch := []) (fun _ z => nomatch z) (fun b o _ hb _ e n => u.keep b o e n hb (by simp)) (fun b o _ hb _ e n => u.slot b o e n hb (by simp)) (fun b o _ e n => u.free b o e n (by simp)) (fun b o _ e => u.there b o e (by simp)) u.tups u.frzs u.tbls (fun m' hm => by
  obtain ⟨o', es', ep', ho', r'⟩ := hm
  rw [ho] at ho'; cases ho'
  exact ⟨_, es', ep', hL, r'⟩) hok I.bare
theorem Inv.call {g' : Array GenState} {t' : Nat} {d' : Drawn} {ch : List Addr} (I : Inv X pins σ H s) (u : Un (frs X.stack) ch H H' s.heap h') (hok : HOk X.prog X.w H' h') (hg : AllBare g')
  (hch : ∀ b ∈ ch, (b ∈ X.ex \/ X.s₀.heap.objs.size <= b) /\ b ≠ X.env.locals /\ (∀ x c, X.env.cells.lookup x = some c -> c ≠ b) /\ ∀ p ∈ X.pn ++ pins, p.1 ≠ b) :
  Inv X pins σ H' { s with heap := h', gens := g', drawn := d', toks := t' } := by
 obtain ⟨m, ⟨o, es, ep, ho, r⟩, _⟩ := id I.loc
 obtain ⟨sl, hL⟩ := u.any ho I.free fun z => (hch _ z).2.1 rfl
 exact I.step (ch := ch) hch (fun b o hL hb hc e n => u.keep b o e n (fun z => (List.mem_cons.mp (I.stkSub b z)).elim hL hb) hc) (fun b o _ _ hc e n => u.any e n hc) (fun b o hc e n => u.free b o e n hc) (fun b o hc e => u.there b o e hc) u.tups u.frzs u.tbls (fun m' hm => by
  obtain ⟨o', es', ep', ho', r'⟩ := hm
  rw [ho] at ho'; cases ho'
  exact ⟨_, es', ep', hL, r'⟩) hok hg
theorem Inv.turned {t' : Nat} {it : Addr} (I : Inv X pins σ H s) (k : ∀ b o, b ≠ it -> s.heap.get? b = some o -> h'.get? b = some o) (hn : H it = none) (hL : it ≠ X.env.locals)
  (h1 : it ∈ X.ex \/ X.s₀.heap.objs.size <= it) (h2 : ∀ x c, X.env.cells.lookup x = some c -> c ≠ it) (h3 : ∀ p ∈ X.pn ++ pins, p.1 ≠ it) : Inv X pins σ H { s with heap := h', toks := t' } := by
 have nit : ∀ b u, H b = some u -> b ≠ it := fun b u e z => by rw [z, hn] at e; cases e
 refine I.step (g' := s.gens) (d' := s.drawn) (ch := [it]) (fun b hb => ?_) (fun b o _ _ hc e _ => k b o (fun z => hc (by simp [z])) e) (fun b o _ _ hc e _ => ⟨o.slots, k b o (fun z => hc (by simp [z])) e⟩) (fun _ _ _ _ n => n)
  (fun b o hc e => ⟨o, k b o (fun z => hc (by simp [z])) e⟩) (fun _ _ e => e) (fun _ _ _ e => e) (fun b ps e => ⟨#[], by rw [e]; simp⟩) (fun m hm => ?_) (fun b u e => ?_) I.bare
 ·have e : b = it := by simpa using hb
  subst e
  exact ⟨h1, hL, h2, h3⟩
 ·obtain ⟨o, es, ep, ho, r⟩ := hm
  exact ⟨o, es, ep, k _ o (Ne.symm hL) ho, r⟩
 ·refine (I.hok b u e).stay (fun c v hc q => k c v ?_ q) (fun _ q => q) fun _ _ q => q
  rcases hc with z | z
  ·rw [z]; exact nit b u e
  ·exact nit c _ z
theorem Inv.tok (I : Inv X pins σ H s) (t : Nat) : Inv X pins σ H { s with toks := t } := I.un (h' := s.heap) (t' := t) Un.refl I.hok
theorem Inv.kept {t' : Nat} (I : Inv X pins σ H s) (k : ∀ b u, s.heap.get? b = some u -> h'.get? b = some u) : Inv X pins σ H { s with heap := h', toks := t' } := I.un (Un.kept k) (I.hok.kept k)
theorem Inv.laid {a : Addr} {o : HO} {t' : Nat} (I : Inv X pins σ H s) (k : ∀ b u, s.heap.get? b = some u -> h'.get? b = some u) (hp : s.heap.objs.size <= a) (new : ObjOk X.prog X.w (upd H a o) h' a o) :
  Inv X pins σ (upd H a o) { s with heap := h', toks := t' } := I.un (Un.laid k hp (I.hok.fresh hp)) (I.hok.laid k hp new)
theorem Inv.write {x e : Addr} {o : HO} {t' : Nat} (I : Inv X pins σ H s) (mu : Mut (H x)) (he : e = x \/ H e = some (.own x)) (k : ∀ b u, b ≠ e -> s.heap.get? b = some u -> h'.get? b = some u) (heo : ∃ u, h'.get? e = some u)
  (new : ObjOk X.prog X.w (upd H x o) h' x o) : Inv X pins σ (upd H x o) { s with heap := h', toks := t' } := I.un (Un.write mu he k heo) (I.hok.write mu he k heo new)
theorem Inv.weak {σ' : List (Option V)} (I : Inv X pins σ H s) (hl : σ'.length = σ.length) (w : ∀ (i : Nat) v, σ'[i]? = some (some v) -> σ[i]? = some (some v)) : Inv X pins σ' H s :=
 ⟨I.ok, I.os, I.bare, I.base, let ⟨m, hn, hl'⟩ := I.loc; ⟨m, hn, fun i x v e1 e2 e3 => hl' i x v e1 (w i v e2) e3⟩, I.cell, I.free, I.freeC, I.pin, I.hok, hl.trans I.len⟩
theorem Inv.pins_of {pins' : List (Addr × Obj)} (I : Inv X pins σ H s) (h : ∀ p ∈ pins', s.heap.get? p.1 = some p.2 /\ H p.1 = none /\ p.1 ≠ X.env.locals /\ p.1 ∉ X.fs /\ ∀ v, p.2.data ≠ .cell v) : Inv X pins' σ H s :=
 ⟨I.ok, I.os, I.bare, I.base, I.loc, I.cell, I.free, I.freeC, fun p hp => (List.mem_append.mp hp).elim (fun z => I.pin p (List.mem_append_left _ z)) (h p), I.hok, I.len⟩
theorem wL {N : List Str} (hN : N.Nodup) {i j : Nat} {x : Str} (a : N[i]? = some x) (b : N[j]? = some x) : i = j := by
 obtain ⟨h1, e1⟩ := List.getElem?_eq_some_iff.mp a
 obtain ⟨h2, e2⟩ := List.getElem?_eq_some_iff.mp b
 exact (List.getElem_inj hN).mp (e1.trans e2.symm)
theorem aBc {M : Model} {A : Around} {E : Value -> Shared -> Prop} {i : Nat} {x : Str} {v : V} {u : Value} {Q : Unit -> Shared -> Prop} (I : Inv X pins σ H s) (hN : X.N.Nodup) (hi : X.N[i]? = some x) (hx : Loc X.env.scope x) (r : RelV v u)
  (h : ∀ s', Inv X pins (σ.set i (some v)) H s' -> (∃ a, Heap.SameBut a s.heap s'.heap /\ (a = X.env.locals \/ X.env.cells.lookup x = some a)) -> Q () s') (hf : X.fn x = true \/ X.env.scope.names.lookup x = some .local := by first | exact .inl rfl | exact .inr rfl | assumption) : wpAny M A (storeName X.env x u) Q E s := by
 obtain ⟨m, hn, hl⟩ := id I.loc
 have hcls : (X.env.scope.kind == .class || (X.env.scope.kind == .module && X.env.locals != X.env.globals)) = false := by rw [I.ok.kind]; rfl
 have hiσ : i < σ.length := by rw [I.len]; exact (List.getElem?_eq_some_iff.mp hi).1
 have cne := I.cne
 have tracked : ∀ {a : Addr} {h' : Heap}, (∃ o, s.heap.get? a = some o /\ H a = none) -> Heap.SameBut a s.heap h' -> HOk X.prog X.w H h' := fun {a h'} ha hs b ob e => by
  obtain ⟨_, _, hfree⟩ := ha
  refine (I.hok b ob e).stay (fun c w' hc q => (hs.2 c ?_).trans q) (fun _ q => q) fun _ _ q => q
  rintro rfl
  rcases hc with rfl | hc
  ·rw [hfree] at e; cases e
  ·rw [hfree] at hc; cases hc
 rcases hx with hk | hk
 ·refine wpAny_storeName_local hk hn (fun h' hn' hs => ?_) hcls
  obtain ⟨oL, _, _, hoL, _⟩ := id hn
  refine h _ ⟨I.ok, I.os, I.bare, ⟨fun b o e n hb hx => ?_, fun b o e n hb hx => ?_, I.base.free, fun b o e hx => ?_, I.base.tups, I.base.frzs, I.base.tbls⟩, ⟨_, hn', fun j y v' e1 e2 e3 => ?_⟩, fun y c e => ?_, I.free, I.freeC, fun p hp => ?_, tracked ⟨oL, hoL, I.free⟩ hs, by simpa using I.len⟩ ⟨_, hs, .inl rfl⟩
  ·exact (hs.2 b (Nat.ne_of_lt (Nat.lt_of_lt_of_le (Heap.lt_size e) I.ok.above))).trans (I.base.keep b o e n hb hx)
  ·obtain ⟨sl, e1⟩ := I.base.slot b o e n hb hx
   exact ⟨sl, (hs.2 b (Nat.ne_of_lt (Nat.lt_of_lt_of_le (Heap.lt_size e) I.ok.above))).trans e1⟩
  ·obtain ⟨o', e1⟩ := I.base.there b o e hx
   exact ⟨o', (hs.2 b (Nat.ne_of_lt (Nat.lt_of_lt_of_le (Heap.lt_size e) I.ok.above))).trans e1⟩
  ·by_cases hj : j = i
   ·subst hj
    rw [hi] at e1; cases e1
    rw [List.getElem?_set_self hiσ] at e2
    cases e2
    exact ⟨u, r, .inl ⟨hk, by simp⟩⟩
   ·rw [List.getElem?_set_ne (Ne.symm hj)] at e2
    obtain ⟨u', r', q⟩ := hl j y v' e1 e2 e3
    refine ⟨u', r', ?_⟩
    rcases q with ⟨k, e⟩ | ⟨k, c, e, z⟩
    ·refine .inl ⟨k, ?_⟩
     have : y ≠ x := fun e => hj (wL hN e1 (e ▸ hi))
     simp [this, e]
    ·exact .inr ⟨k, c, e, z.sameBut hs (cne y c e)⟩
  ·obtain ⟨w', z⟩ := I.cell y c e
   exact ⟨w', z.sameBut hs (cne y c e)⟩
  ·obtain ⟨e, n, ne, nf, d⟩ := I.pin p hp
   exact ⟨(hs.2 p.1 ne).trans e, n, ne, nf, d⟩
 ·have hfn : X.fn x = true := by
   rcases hf with z | z
   ·exact z
   ·rw [z] at hk; cases hk
  obtain ⟨c, hc⟩ := I.ok.has x (.inl hk)
  obtain ⟨w', z⟩ := I.cell x c hc
  refine wpAny_storeName_cell I.ok.kind hk hc z (fun h' hc' hs => ?_)
  obtain ⟨oc, hoc, hocd⟩ := id z
  refine h { s with heap := h' } ⟨I.ok, I.os, I.bare, ⟨fun b o e n hb hx => ?_, fun b o e n hb hx => ?_, I.base.free, fun b o e hx => ?_, I.base.tups, I.base.frzs, I.base.tbls⟩, ⟨m, hn.sameBut hs (Ne.symm (cne x c hc)), fun j y v' e1 e2 e3 => ?_⟩, fun y c' e => ?_, I.free, I.freeC, fun p hp => ?_, tracked ⟨oc, hoc, I.freeC x c hc⟩ hs, by simpa using I.len⟩ ⟨c, hs, .inr hc⟩
  ·exact (hs.2 b (Nat.ne_of_lt (Nat.lt_of_lt_of_le (Heap.lt_size e) (I.ok.cab x c hfn hc)))).trans (I.base.keep b o e n hb hx)
  ·obtain ⟨sl, e1⟩ := I.base.slot b o e n hb hx
   exact ⟨sl, (hs.2 b (Nat.ne_of_lt (Nat.lt_of_lt_of_le (Heap.lt_size e) (I.ok.cab x c hfn hc)))).trans e1⟩
  ·obtain ⟨o', e1⟩ := I.base.there b o e hx
   exact ⟨o', (hs.2 b (Nat.ne_of_lt (Nat.lt_of_lt_of_le (Heap.lt_size e) (I.ok.cab x c hfn hc)))).trans e1⟩
  ·by_cases hj : j = i
   ·subst hj
    rw [hi] at e1; cases e1
    rw [List.getElem?_set_self hiσ] at e2
    cases e2
    exact ⟨u, r, .inr ⟨.inl hk, c, hc, hc'⟩⟩
   ·rw [List.getElem?_set_ne (Ne.symm hj)] at e2
    obtain ⟨u', r', q⟩ := hl j y v' e1 e2 e3
    refine ⟨u', r', ?_⟩
    rcases q with q | ⟨k, c', e, z'⟩
    ·exact .inl q
    ·refine .inr ⟨k, c', e, z'.sameBut hs ?_⟩
     rintro rfl
     exact hj (wL hN e1 (I.ok.inj _ _ _ e hc ▸ hi))
  ·by_cases hcc : c' = c
   ·subst hcc; exact ⟨_, hc'⟩
   ·obtain ⟨w2, z2⟩ := I.cell y c' e
    exact ⟨w2, z2.sameBut hs hcc⟩
  ·obtain ⟨e, n, ne, nf, d⟩ := I.pin p hp
   refine ⟨(hs.2 p.1 ?_).trans e, n, ne, nf, d⟩
   intro q
   rw [q, hoc] at e
   have q' : oc = p.2 := Option.some.inj e
   exact d w' (by rw [<- q']; exact hocd)
theorem qF {M : Model} {A : Around} {E : Value -> Shared -> Prop} {i : Nat} {x : Str} {v : V} {u : Value} {Q : Unit -> Shared -> Prop} (I : Inv X pins σ H s) (hN : X.N.Nodup) (hi : X.N[i]? = some x) (hx : Loc X.env.scope x) (r : RelV v u)
  (h : ∀ s', Inv X pins (σ.set i (some v)) H s' -> Q () s') (hf : X.fn x = true \/ X.env.scope.names.lookup x = some .local := by first | exact .inl rfl | exact .inr rfl | assumption) : wpAny M A (storeName X.env x u) Q E s :=
 aBc I hN hi hx r (fun s' I' _ => h s' I') hf
theorem Inv.call' {s' : Shared} {ch : List Addr} (I : Inv X pins σ H s) (ho : s'.os = s.os) (u : Un (frs X.stack) ch H H' s.heap s'.heap) (hok : HOk X.prog X.w H' s'.heap) (hg : AllBare s'.gens)
  (hch : ∀ b ∈ ch, (b ∈ X.ex \/ X.s₀.heap.objs.size <= b) /\ b ≠ X.env.locals /\ (∀ x c, X.env.cells.lookup x = some c -> c ≠ b) /\ ∀ p ∈ X.pn ++ pins, p.1 ≠ b) : Inv X pins σ H' s' := by
 obtain ⟨h', g', d', t', o'⟩ := s'
 have e : o' = s.os := ho
 subst e
 exact I.call (g' := g') (t' := t') (d' := d') u hok hg hch
end
abbrev XK := Value -> Option Addr -> Hp -> Prop
abbrev St := List (Option V)
abbrev VK := V -> Hp -> Prop
abbrev TE := St -> Hp -> VK -> Prop
abbrev TT := St -> Hp -> (Bool -> Hp -> Prop) -> Prop
abbrev TA := St -> Hp -> (List V -> Hp -> Prop) -> Prop
structure Ends where
 nx : St -> Hp -> Prop
 rt : VK
 bk : St -> Hp -> Prop := fun _ _ => False
 ct : St -> Hp -> Prop := fun _ _ => False
abbrev TS := Ends -> St -> Hp -> Prop
def EP (X : Cx) (pins : List (Addr × Obj)) (σ : St) (Q : VK) (u : Value) (s' : Shared) : Prop := ∃ v H', Inv X pins σ H' s' /\ RelV v u /\ Q v H'
def TP (X : Cx) (pins : List (Addr × Obj)) (σ : St) (Q : Bool -> Hp -> Prop) (b : Bool) (s' : Shared) : Prop := ∃ H', Inv X pins σ H' s' /\ Q b H'
def AP (X : Cx) (pins : List (Addr × Obj)) (σ : St) (Q : List V -> Hp -> Prop) (us : List Value) (s' : Shared) : Prop := ∃ vs H', Inv X pins σ H' s' /\ Vals vs us /\ Q vs H'
def SP (X : Cx) (pins : List (Addr × Obj)) (D : Ends) (f : Flow) (s' : Shared) : Prop :=
 match f with
 | .next => ∃ σ' H', Inv X pins σ' H' s' /\ D.nx σ' H'
 | .brk => ∃ σ' H', Inv X pins σ' H' s' /\ D.bk σ' H'
 | .cont => ∃ σ' H', Inv X pins σ' H' s' /\ D.ct σ' H'
 | .ret u => ∃ v σ' H', Inv X pins σ' H' s' /\ RelV v u /\ D.rt v H'
def PE (X : Cx) (e : Expr) (t : TE) : Prop :=
 ∀ (pins : List (Addr × Obj)) (s : Shared) (σ : St) (H : Hp) (Q : VK), Inv X pins σ H s -> t σ H Q -> wpAny (model X.prog X.w) X.A (eval e X.env) (EP X pins σ Q) X.xe s
def PT (X : Cx) (e : Expr) (t : TT) : Prop :=
 ∀ (pins : List (Addr × Obj)) (s : Shared) (σ : St) (H : Hp) (Q : Bool -> Hp -> Prop), Inv X pins σ H s -> t σ H Q -> wpAny (model X.prog X.w) X.A (isTrue e X.env (eval e X.env)) (TP X pins σ Q) X.xe s
def PW (X : Cx) (e : Expr) (t : TT) : Prop :=
 ∀ (whole : Sem Value) (pins : List (Addr × Obj)) (s : Shared) (σ : St) (H : Hp) (Q : Bool -> Hp -> Prop), Inv X pins σ H s -> t σ H Q -> wpAny (model X.prog X.w) X.A (isTrue e X.env whole) (TP X pins σ Q) X.xe s
def PA (X : Cx) (es : List Expr) (t : TA) : Prop :=
 ∀ (pos : Pos) (pins : List (Addr × Obj)) (s : Shared) (σ : St) (H : Hp) (Q : List V -> Hp -> Prop), Inv X pins σ H s -> t σ H Q -> wpAny (model X.prog X.w) X.A (spliced (backTo pos (starEach es X.env))) (AP X pins σ Q) X.xe s
def PS (X : Cx) (st : Stmt) (t : TS) : Prop :=
 ∀ (pins : List (Addr × Obj)) (s : Shared) (σ : St) (H : Hp) (D : Ends), Inv X pins σ H s -> t D σ H -> wpAny (model X.prog X.w) X.A (exec st X.env) (SP X pins D) X.xe s
def PSs (X : Cx) (st : List Stmt) (t : TS) : Prop :=
 ∀ (pins : List (Addr × Obj)) (s : Shared) (σ : St) (H : Hp) (D : Ends), Inv X pins σ H s -> t D σ H -> wpAny (model X.prog X.w) X.A (execs st X.env) (SP X pins D) X.xe s
theorem thn {α : Type} {t : Sem α} {Q Q' : α -> Shared -> Prop} {M : Model} {A : Around} {E : Value -> Shared -> Prop} {s : Shared} (h : wpAny M A t Q E s) (hQ : ∀ a s, Q a s -> Q' a s) : wpAny M A t Q' E s := wpAny_mono h hQ fun _ _ x => x
section
variable {X : Cx}
def aFg (i : Nat) : TE := fun σ H Q => ∃ v, σ[i]? = some (some v) /\ Q v H
def tC (v : V) : TE := fun _ H Q => Q v H
theorem zP {i : Nat} {x : Str} {pos : Pos} (hN : X.N[i]? = some x) (hv : Vis X.env.scope x) (hd : (x == ("__debug__" : Str)) = false := by decide) (hcd : (x == ("__classdict__" : Str)) = false := by decide) : PE X (.Name x pos) (aFg i) := by
 intro pins s σ H Q I h
 obtain ⟨v, e, h⟩ := h
 obtain ⟨m, hn, hl⟩ := I.loc
 obtain ⟨u, r, l⟩ := hl i x v hN e hv
 have fin : EP X pins σ Q u s := ⟨v, H, I, r, h⟩
 rcases l with ⟨hk, hm⟩ | ⟨hk, c, hc, hcell⟩
 ·exact wpAny_Name (wpAny_loadName_local I.ok.kind hk hn hm fin) hd
 ·rcases hk with hk | hk
  ·exact wpAny_Name (wpAny_loadName_cell I.ok.kind hk hc hcell fin) hd
  ·exact wpAny_Name (wpAny_loadName_free I.ok.kind hk hc hcell fin hcd) hd
theorem wV {i j pos} : PE X (.Constant (.int i) j pos) (tC (.int i)) := fun _ _ _ H _ I h => wpAny_Constant_int ⟨.int i, H, I.tok _, ⟨_, rfl⟩, h⟩
theorem aMe {b j pos} : PE X (.Constant (.bool b) j pos) (tC (.bl b)) := fun _ _ _ H _ I h => Constant_bool ⟨.bl b, H, I, rfl, h⟩
theorem aKp {j pos} : PE X (.Constant .none j pos) (tC .non) := fun _ _ _ H _ I h => Constant_none ⟨.non, H, I, rfl, h⟩
theorem aIz {x j pos} : PE X (.Constant (.str x) j pos) (tC (.str x)) := fun _ _ _ H _ I h => Calls.Constant_str ⟨.str x, H, I.tok _, ⟨_, rfl⟩, h⟩
def Gl (X : Cx) (x : Str) : Prop := X.env.kindOf x = some .globalImplicit
theorem uX {E : Value -> Shared -> Prop} {pins : List (Addr × Obj)} {s : Shared} {σ : St} {H : Hp} {x : Str} {u : Value} {pos : Pos} {Q : Value -> Shared -> Prop} (I : Inv X pins σ H s) (hg : Gl X x) (hm : X.mg x = some u) (h : Q u s)
  (hd : (x == ("__debug__" : Str)) = false := by decide) : wpAny (model X.prog X.w) X.A (eval (.Name x pos) X.env) Q E s :=
 Calls.Name_function_global I.ok.kind hg (Calls.loadGlobal_global (by rw [I.ok.glob]; exact I.mod.glob.keeps I.bk) hm h) hd
theorem l9 {E : Value -> Shared -> Prop} {pins : List (Addr × Obj)} {s : Shared} {σ : St} {H : Hp} {x : Str} {u : Value} {pos : Pos} {Q : Value -> Shared -> Prop} (I : Inv X pins σ H s) (hg : Gl X x) (hm : X.mg x = none) (hv : bootBuiltins x = some u) (h : Q u s)
  (hn : x ≠ "__name__" := by decide) (hd : (x == ("__debug__" : Str)) = false := by decide) : wpAny (model X.prog X.w) X.A (eval (.Name x pos) X.env) Q E s := by
 obtain ⟨mb, h1, h2⟩ := I.mod.blt
 exact Calls.Name_function_global I.ok.kind hg (Calls.loadGlobal_builtin (by rw [I.ok.glob]; exact I.mod.glob.keeps I.bk) hm (by rw [I.ok.blt]; exact h1.keeps I.bk) ((h2 x hn).trans hv) h) hd
theorem aHk {x : Str} {v : V} {u : Value} {pos : Pos} (hg : Gl X x) (hm : X.mg x = some u) (r : RelV v u) (hd : (x == ("__debug__" : Str)) = false := by decide) : PE X (.Name x pos) (tC v) :=
 fun _ _ _ H _ I h => uX I hg hm ⟨v, H, I, r, h⟩ hd
theorem kS {x : Str} {v : V} {u : Value} {pos : Pos} (hg : Gl X x) (hm : X.mg x = none) (hv : bootBuiltins x = some u) (r : RelV v u) (hn : x ≠ "__name__" := by decide) (hd : (x == ("__debug__" : Str)) = false := by decide) : PE X (.Name x pos) (tC v) :=
 fun _ _ _ H _ I h => l9 I hg hm hv ⟨v, H, I, r, h⟩ hn hd
variable {a b : Expr} {ta tb : TE} {pos : Pos}
def PC (X : Cx) (op : CmpOp) (a b : Expr) (t : TE) : Prop :=
 ∀ (pins : List (Addr × Obj)) (s : Shared) (σ : St) (H : Hp) (Q : VK), Inv X pins σ H s -> t σ H Q ->
  wpAny (model X.prog X.w) X.A (eval a X.env) (fun v s₁ => wpAny (model X.prog X.w) X.A (eval b X.env) (fun u s₂ => wpAny (model X.prog X.w) X.A (compareOp op v u) (EP X pins σ Q) X.xe s₂) X.xe s₁) X.xe s
theorem wJ (b : Expr) {op : CmpOp} (h : op ≠ .In) (h2 : op ≠ .NotIn) : behindInMarks op b = false := by
 have e1 : (op == CmpOp.In) = false := by cases op <;> first | rfl | exact absurd rfl h
 have e2 : (op == CmpOp.NotIn) = false := by cases op <;> first | rfl | exact absurd rfl h2
 cases b <;> simp [behindInMarks, e1, e2]
def aNc (ta : TE) : TE := fun σ H Q => ta σ H fun x H1 => Q (.bl (decide (x = .non))) H1
theorem RelV.none_iff {x : V} {v : Value} (r : RelV x v) : (v == Value.none) = decide (x = .non) := by
 cases x with
 | non => cases r; rfl
 | bl _ => cases r; rfl
 | int _ => obtain ⟨t, rfl⟩ := r; rfl
 | str _ => obtain ⟨t, rfl⟩ := r; rfl
 | byt _ => obtain ⟨t, rfl⟩ := r; rfl
 | flt _ => obtain ⟨t, rfl⟩ := r; rfl
 | ref _ => cases r; rfl
 | ty _ => cases r; rfl
theorem aEm {j pos'} (ha : PE X a ta) : PC X .Is a (.Constant .none j pos') (aNc ta) := by
 intro pins s σ H Q I h
 refine thn (ha pins s σ H _ I h) fun v s1 ⟨x, H1, I1, r1, q1⟩ => ?_
 exact Constant_none (is_none_gen ⟨.bl _, H1, I1, by rw [r1.none_iff]; rfl, q1⟩)
def tB (t : TE) : TT := fun σ H Q => t σ H fun x H1 => ∃ c, x = .bl c /\ Q c H1
theorem aJs {op : CmpOp} {t : TE} (h : PC X op a b t) (h1 : behindInMarks op b = false := by first | exact wJ _ (by decide) (by decide) | rfl) : PE X (.Compare a [op] [b] pos) t := fun pins s σ H Q I hw => wpAny_Compare1 (h pins s σ H Q I hw) h1
theorem aJz {op : CmpOp} {t : TE} (h : PC X op a b t) (h1 : behindInMarks op b = false := by first | exact wJ _ (by decide) (by decide) | rfl) : PT X (.Compare a [op] [b] pos) (tB t) := by
 intro pins s σ H Q I hw
 refine wpAny_isTrue_Compare1 (thn (h pins s σ H _ I hw) fun v s1 h1 => thn h1 fun u s2 h2 => thn h2 fun c s3 ⟨x, H1, I1, r1, q1⟩ => ?_) h1
 obtain ⟨d, rfl, q⟩ := q1
 cases r1
 exact wpAny_truthy_bool ⟨H1, I1, q⟩
theorem aIs {e : Expr} {t : TE} (h : PE X e t) (he : ∀ whole, isTrue e X.env whole = (do let v <- whole; standAt e.pos; holding [v] (truthy v)) := by intro _; rfl) : PT X e (tB t) := by
 intro pins s σ H Q I hw
 refine isTrue_plain (thn (h pins s σ H _ I hw) fun v s1 ⟨x, H1, I1, r1, q1⟩ => ?_) (he _)
 obtain ⟨d, rfl, q⟩ := q1
 cases r1
 exact wpAny_truthy_bool ⟨H1, I1, q⟩
variable {tA tB' : TT} {rest : List Expr}
def aNq (t u : TT) : TT := fun σ H Q => t σ H fun c H1 => if c = true then u σ H1 Q else Q false H1
def tOr (t u : TT) : TT := fun σ H Q => t σ H fun c H1 => if c = true then Q true H1 else u σ H1 Q
def aN9 (t : TT) : TT := fun σ H Q => t σ H fun c H1 => Q (!c) H1
theorem aGy (ha : PT X a tA) : PW X (.BoolOp .And [a] pos) tA := by
 intro wh pins s σ H Q I h
 refine isTrue_and (thn (ha pins s σ H Q I h) fun c s1 e => ?_)
 cases c with
 | true => exact isTrue_and_nil e
 | false => exact e
theorem aI0 (ha : PT X a tA) : PW X (.BoolOp .Or [a] pos) tA := by
 intro wh pins s σ H Q I h
 refine isTrue_or (thn (ha pins s σ H Q I h) fun c s1 e => ?_)
 cases c with
 | false => exact isTrue_or_nil e
 | true => exact e
theorem aI9 (ha : PT X a tA) (hb : PW X (.BoolOp .And (b :: rest) pos) tB') : PW X (.BoolOp .And (a :: b :: rest) pos) (aNq tA tB') := by
 intro wh pins s σ H Q I h
 refine isTrue_and (thn (ha pins s σ H _ I h) fun c s1 ⟨H1, I1, q1⟩ => ?_)
 cases c with
 | true => exact hb wh pins s1 σ H1 Q I1 q1
 | false => exact ⟨H1, I1, q1⟩
theorem aL0 (ha : PT X a tA) (hb : PW X (.BoolOp .Or (b :: rest) pos) tB') : PW X (.BoolOp .Or (a :: b :: rest) pos) (tOr tA tB') := by
 intro wh pins s σ H Q I h
 refine isTrue_or (thn (ha pins s σ H _ I h) fun c s1 ⟨H1, I1, q1⟩ => ?_)
 cases c with
 | true => exact ⟨H1, I1, q1⟩
 | false => exact hb wh pins s1 σ H1 Q I1 q1
theorem aLc (ha : PT X a tA) : PT X (.UnaryOp .Not a pos) (aN9 tA) := by
 intro pins s σ H Q I h
 exact isTrue_not (ha pins s σ H (fun c H1 => Q (!c) H1) I h)
def aMy (ta tb : TE) : TE := fun σ H Q => ta σ H fun x H1 => ∃ c, x = .bl c /\ if c = true then tb σ H1 Q else Q (.bl false) H1
def aL6 (ta : TE) : TE := fun σ H Q => ta σ H fun x H1 => ∃ c, x = .bl c /\ Q (.bl (!c)) H1
theorem aJk {op} {t : TE} (h : PE X a t) : PE X (.BoolOp op [a] pos) t := fun pins s σ H Q I hw => BoolOp_one (h pins s σ H Q I hw)
theorem aJa (ha : PE X a ta) (hb : PE X (.BoolOp .And (b :: rest) pos) tb) : PE X (.BoolOp .And (a :: b :: rest) pos) (aMy ta tb) := by
 intro pins s σ H Q I h
 refine BoolOp_and (thn (ha pins s σ H _ I h) fun v s1 ⟨x, H1, I1, r1, q1⟩ => ?_)
 obtain ⟨c, rfl, q1⟩ := q1
 cases r1
 refine wpAny_truthy_bool ?_
 cases c with
 | true => exact hb pins s1 σ H1 Q I1 q1
 | false => exact ⟨.bl false, H1, I1, rfl, q1⟩
theorem aIb (ha : PE X a ta) : PE X (.UnaryOp .Not a pos) (aL6 ta) := by
 intro pins s σ H Q I h
 refine UnaryOp_ (thn (ha pins s σ H _ I h) fun v s1 ⟨x, H1, I1, r1, q1⟩ => ?_)
 obtain ⟨c, rfl, q1⟩ := q1
 cases r1
 exact not_of (wpAny_truthy_bool ⟨.bl (!c), H1, I1, rfl, q1⟩)
end
def SqL (K : PySem.W.Frag) (H : Hp) (a : Addr) (xs : List V) : Prop :=
 Rd H a (.lst xs) \/
  ∃ (o : Obj) (its : Array Value) (n : Nat), K.lookup a = some o /\ o.cls = .type "list" /\ o.dict = none /\ o.data = .seq its n /\ its.size <= sizeLine /\ Vals xs its.toList
def SqT (K : PySem.W.Frag) (H : Hp) (a : Addr) (xs : List V) : Prop :=
 Rd H a (.tup xs) \/
  ∃ (o : Obj) (its : Array Value) (n : Nat), K.lookup a = some o /\ o.cls = .type "tuple" /\ o.data = .seq its n /\ its.size <= sizeLine /\ Vals xs its.toList
def aN6 : Value -> Option V
 | .none => some .non
 | .bool b => some (.bl b)
 | .int i _ => some (.int i)
 | .str x _ => some (.str x)
 | .bytes b _ => some (.byt b)
 | .float b _ => some (.flt b)
 | .ref a => some (.ref a)
 | .type n => some (.ty n)
 | _ => none
theorem RelV.abs {x : V} {u : Value} (r : RelV x u) : aN6 u = some x := by
 cases x with
 | non => cases r; rfl
 | bl _ => cases r; rfl
 | int _ => obtain ⟨t, rfl⟩ := r; rfl
 | str _ => obtain ⟨t, rfl⟩ := r; rfl
 | byt _ => obtain ⟨t, rfl⟩ := r; rfl
 | flt _ => obtain ⟨t, rfl⟩ := r; rfl
 | ref _ => cases r; rfl
 | ty _ => cases r; rfl
theorem RelV.inj {x y : V} {u : Value} (r : RelV x u) (q : RelV y u) : x = y := Option.some.inj (r.abs.symm.trans q.abs)
theorem Vals.inj : ∀ {xs ys : List V} {us : List Value}, Vals xs us -> Vals ys us -> xs = ys
 | _, _, _, .nil, .nil => rfl
 | _, _, _, .cons r t, .cons r' t' => by rw [r.inj r', Vals.inj t t']
section
variable {X : Cx} {pins : List (Addr × Obj)} {σ : St} {H : Hp} {s : Shared} {a : Addr} {xs ys : List V}
theorem SqL.of {K : PySem.W.Frag} (h : H a = some (.lst xs)) : SqL K H a xs := .inl (.inl h)
theorem SqT.of {K : PySem.W.Frag} (h : H a = some (.tup xs)) : SqT K H a xs := .inl (.inl h)
theorem Inv.list (I : Inv X pins σ H s) (h : SqL X.K H a xs) : ∃ its : List Value, Vals xs its /\ PlainL s.heap a its.toArray /\ xs.length <= sizeLine := by
 rcases h with h | ⟨o, its, n, hk, hc, hd, hs, hz, r⟩
 ·obtain ⟨z, its, n, r, e⟩ := h.ok I.hok
  exact ⟨its, r, ⟨_, n, e, rfl, rfl, rfl⟩, z⟩
 ·refine ⟨its.toList, r, ⟨o, n, I.kIn a o hk, hc, hd, by simpa using hs⟩, ?_⟩
  have e := r.length
  simp only [Array.length_toList] at e
  omega
theorem Inv.tuple (I : Inv X pins σ H s) (h : SqT X.K H a xs) : ∃ its : List Value, Vals xs its /\ IsTup s.heap a its.toArray /\ xs.length <= sizeLine := by
 rcases h with h | ⟨o, its, n, hk, hc, hs, hz, r⟩
 ·obtain ⟨z, its, r, p⟩ := h.ok I.hok
  exact ⟨its, r, p, z⟩
 ·refine ⟨its.toList, r, ⟨o, I.kIn a o hk, hc, n, by simpa using hs⟩, ?_⟩
  have e := r.length
  simp only [Array.length_toList] at e
  omega
theorem Inv.list_inj (I : Inv X pins σ H s) (h : SqL X.K H a xs) (h' : SqL X.K H a ys) : xs = ys := by
 obtain ⟨its, r, ⟨o, n, e, _, _, d⟩, _⟩ := I.list h
 obtain ⟨its', r', ⟨o', n', e', _, _, d'⟩, _⟩ := I.list h'
 rw [e] at e'; cases e'
 rw [d] at d'
 injection d' with d1 _
 have : its = its' := by simpa using congrArg Array.toList d1
 subst this
 exact r.inj r'
end
section
variable {X : Cx} {pins : List (Addr × Obj)} {σ : St} {H : Hp} {s : Shared} {E : Value -> Shared -> Prop}
end
section
variable {X : Cx} {st : Stmt} {rest : List Stmt} {t u : TS} {e : Expr} {te : TE} {pos : Pos}
def aMd : TS := fun D σ H => D.nx σ H
def aNv (t u : TS) : TS := fun D σ H => t { D with nx := u D } σ H
theorem uY : PSs X [] aMd := fun _ _ σ H _ I h => wpAny_execs_nil ⟨σ, H, I, h⟩
theorem gR (h1 : PS X st t) (h2 : PSs X rest u) : PSs X (st :: rest) (aNv t u) := by
 intro pins s σ H D I h
 refine wpAny_execs_cons (thn (h1 pins s σ H { D with nx := u D } I h) fun f s1 q => ?_)
 cases f with
 | next =>
  obtain ⟨σ', H', I', q⟩ := q
  exact h2 pins s1 σ' H' D I' q
 | ret v => exact q
 | brk => exact q
 | cont => exact q
theorem zV (h1 : PS X st t) : PSs X [st] t := by
 intro pins s σ H D I h
 refine wpAny_execs_cons (thn (h1 pins s σ H D I h) fun f s1 q => ?_)
 cases f with
 | next => exact wpAny_execs_nil q
 | ret v => exact q
 | brk => exact q
 | cont => exact q
theorem Inv.quiet {pins : List (Addr × Obj)} {σ : St} {H : Hp} {s : Shared} (I : Inv X pins σ H s) : interactive X.env = false := by simp [interactive, I.ok.kind]
def vG (te : TE) : TS := fun D σ H => te σ H fun _ H1 => D.nx σ H1
theorem eP (he : PE X e te) (hs : swapsWith e none pos.line X.env = pure false := by rfl) : PS X (.Expr e pos) (vG te) := by
 intro pins s σ H D I h
 exact wpAny_Expr_any (thn (he pins s σ H _ I h) fun v s1 ⟨x, H1, I1, r1, q1⟩ => ⟨σ, H1, I1, q1⟩) I.quiet hs
def aN7 (te : TE) : TS := fun D σ H => te σ H D.rt
theorem aEs (he : PE X e te) : PS X (.Return (some e) pos) (aN7 te) := by
 intro pins s σ H D I h
 exact wpAny_Return_some (thn (he pins s σ H _ I h) fun v s1 ⟨x, H1, I1, r1, q1⟩ => ⟨x, σ, H1, I1, r1, q1⟩)
def aN3 (c : TT) (t u : TS) : TS := fun D σ H => c σ H fun b H1 => if b = true then t D σ H1 else u D σ H1
theorem aGk {c : Expr} {a b : List Stmt} {tc : TT} (hc : PT X c tc) (ha : PSs X a t) (hb : PSs X b u) : PS X (.If c a b pos) (aN3 tc t u) := by
 intro pins s σ H D I h
 refine wpAny_If (thn (hc pins s σ H _ I h) fun d s1 ⟨H1, I1, q1⟩ => ?_)
 cases d with
 | true => exact ha pins s1 σ H1 D I1 q1
 | false => exact hb pins s1 σ H1 D I1 q1
end
abbrev TG := V -> St -> Hp -> (St -> Hp -> Prop) -> Prop
abbrev TGs := List V -> St -> Hp -> (St -> Hp -> Prop) -> Prop
def PG (X : Cx) (target : Expr) (t : TG) : Prop :=
 ∀ (pins : List (Addr × Obj)) (s : Shared) (σ : St) (H : Hp) (v : V) (u : Value) (Q : St -> Hp -> Prop), Inv X pins σ H s -> RelV v u -> t v σ H Q ->
  wpAny (model X.prog X.w) X.A (assign target X.env u) (fun _ s' => ∃ σ' H', Inv X pins σ' H' s' /\ Q σ' H') X.xe s
def PGs (X : Cx) (ts : List Expr) (t : TGs) : Prop :=
 ∀ (pins : List (Addr × Obj)) (s : Shared) (σ : St) (H : Hp) (vs : List V) (us : List Value) (Q : St -> Hp -> Prop), Inv X pins σ H s -> Vals vs us -> t vs σ H Q ->
  wpAny (model X.prog X.w) X.A (assignInOrder ((assignEach ts X.env).map (·.2)) us) (fun _ s' => ∃ σ' H', Inv X pins σ' H' s' /\ Q σ' H') X.xe s
abbrev TIp := V -> V -> Hp -> VK -> Prop
def PIp (X : Cx) (op : Operator) (t : TIp) : Prop :=
 ∀ (pins : List (Addr × Obj)) (s : Shared) (σ : St) (H : Hp) (x y : V) (v u : Value) (Q : VK), Inv X pins σ H s -> RelV x v -> RelV y u -> t x y H Q ->
  wpAny (model X.prog X.w) X.A (inplaceOp op v u) (EP X pins σ Q) X.xe s
section
variable {X : Cx} {pos : Pos}
def aC8 (i : Nat) : TG := fun v σ H Q => Q (σ.set i (some v)) H
theorem u9 {i : Nat} {x : Str} (hN : X.N.Nodup) (hi : X.N[i]? = some x) (hx : Loc X.env.scope x) (hf : X.fn x = true \/ X.env.scope.names.lookup x = some .local := by first | exact .inl rfl | exact .inr rfl | assumption) : PG X (.Name x pos) (aC8 i) := by
 intro pins s σ H v u Q I r h
 exact wpAny_assign_Name (qF I hN hi hx r (fun s' I' => ⟨_, H, I', h⟩) hf)
def aOa : TGs := fun vs σ H Q => vs = [] /\ Q σ H
def aLp (t : TG) (u : TGs) : TGs := fun vs σ H Q => ∃ v r, vs = v :: r /\ t v σ H fun σ' H' => u r σ' H' Q
theorem aF9 : PGs X [] aOa := by
 intro pins s σ H vs us Q I r h
 obtain ⟨e, h⟩ := h
 subst e
 cases r
 exact assignInOrder_nil ⟨σ, H, I, h⟩
theorem aC7 {e : Expr} {es : List Expr} {t : TG} {u : TGs} (h1 : PG X e t) (h2 : PGs X es u)
  (hs : (assignEach (e :: es) X.env).map (·.2) = assign e X.env :: (assignEach es X.env).map (·.2) := by rfl) : PGs X (e :: es) (aLp t u) := by
 intro pins s σ H vs us Q I r h
 obtain ⟨v, vr, e1, h⟩ := h
 subst e1
 cases r with
 | cons r rr =>
  rw [hs]
  refine assignInOrder_cons (thn (h1 pins s σ H _ _ _ I r h) fun _ s1 ⟨σ1, H1, I1, q1⟩ => ?_)
  exact h2 pins s1 σ1 H1 _ _ Q I1 rr q1
def aNy (K : PySem.W.Frag) (n : Nat) (t : TGs) : TG := fun v σ H Q => ∃ a xs, v = .ref a /\ SqT K H a xs /\ xs.length = n /\ t xs σ H Q
theorem aJt {es : List Expr} {k : Nat} {t : TGs} {n : Nat} (hc : X.calm = true) (h : PGs X es t)
  (hn : (assignEach es X.env).length = n := by rfl) (hst : (assignEach es X.env).findIdx? (·.1) = none := by rfl) : PG X (.Tuple es k pos) (aNy X.K n t) := by
 intro pins s σ H v u Q I r hw
 obtain ⟨a, xs, e1, hq, hl, hw⟩ := hw
 subst e1
 cases r
 obtain ⟨its, rv, ht, hz⟩ := I.tuple hq
 refine assign_Tuple_tuple (I.ok.hd hc) ht (by simp [hn, <- hl, rv.length]) hst fun h' hx => ?_
 have I1 : Inv X pins σ H { s with heap := h' } := I.kept (t' := s.toks) fun b o e => hx b o (Nat.ne_of_lt (Heap.lt_size e)) e
 exact h pins _ σ H xs _ Q I1 (by simpa using rv) hw
def aLq (te : TE) (g : TG) : TS := fun D σ H => te σ H fun x H1 => g x σ H1 D.nx
theorem yE {i : Nat} {x : Str} {e : Expr} {te : TE} {pos' : Pos} (hN : X.N.Nodup) (hi : X.N[i]? = some x) (hx : Loc X.env.scope x) (he : PE X e te) (hs : swapsWith e (some (.Name x pos')) pos.line X.env = pure false := by rfl) (hf : X.fn x = true \/ X.env.scope.names.lookup x = some .local := by first | exact .inl rfl | exact .inr rfl | assumption) :
  PS X (.Assign [.Name x pos'] e pos) (aLq te (aC8 i)) := by
 intro pins s σ H D I h
 refine wpAny_Assign_Name (thn (he pins s σ H _ I h) fun v s1 ⟨y, H1, I1, r1, q1⟩ => ?_) hs
 exact qF I1 hN hi hx r1 (fun s2 I2 => ⟨_, H1, I2, q1⟩) hf
def aN0 (i : Nat) (te : TE) (ti : TIp) : TS := fun D σ H => ∃ x, σ[i]? = some (some x) /\ te σ H fun y H1 => ti x y H1 fun z H2 => D.nx (σ.set i (some z)) H2
theorem aJw {i : Nat} {x : Str} {e : Expr} {te : TE} {op : Operator} {ti : TIp} {pos' : Pos} (hN : X.N.Nodup) (hi : X.N[i]? = some x) (hx : Loc X.env.scope x) (he : PE X e te) (ho : PIp X op ti) (hf : X.fn x = true \/ X.env.scope.names.lookup x = some .local := by first | exact .inl rfl | exact .inr rfl | assumption) :
  PS X (.AugAssign (.Name x pos') op e pos) (aN0 i te ti) := by
 intro pins s σ H D I h
 obtain ⟨v, e1, h⟩ := h
 obtain ⟨m, hn, hl⟩ := I.loc
 have vis : Vis X.env.scope x := by rcases hx with k | k; exact .inl k; exact .inr (.inl k)
 obtain ⟨u, r, l⟩ := hl i x v hi e1 vis
 refine wpAny_AugAssign_Name ?_
 have go : wpAny (model X.prog X.w) X.A (eval e X.env) (fun w s₂ => wpAny (model X.prog X.w) X.A (inplaceOp op u w) (fun r s₃ => wpAny (model X.prog X.w) X.A (storeName X.env x r) (fun _ => SP X pins D .next) X.xe s₃) X.xe s₂) X.xe s := by
  refine thn (he pins s σ H _ I h) fun w s1 ⟨y, H1, I1, r1, q1⟩ => ?_
  refine thn (ho pins s1 σ H1 v y u w _ I1 r r1 q1) fun z s2 ⟨zv, H2, I2, r2, q2⟩ => ?_
  exact qF I2 hN hi hx r2 (fun s3 I3 => ⟨_, H2, I3, q2⟩) hf
 rcases l with ⟨hk, hm⟩ | ⟨hk, c, hc, hcell⟩
 ·exact wpAny_loadName_local I.ok.kind hk hn hm go
 ·rcases hk with hk | hk
  ·exact wpAny_loadName_cell I.ok.kind hk hc hcell go
  ·rcases hx with k | k
   ·have : X.env.scope.names.lookup x = some .free := hk
    rw [k] at this; cases this
   ·have : X.env.scope.names.lookup x = some .free := hk
    rw [k] at this; cases this
def ipI (f : Int -> Int -> Int) : TIp := fun x y H Q => ∃ i j, x = .int i /\ y = .int j /\ Q (.int (f i j)) H
theorem aI2 : PIp X .Add (ipI fun i j => i + j) := by
 intro pins s σ H x y v u Q I r1 r2 h
 obtain ⟨i, j, e1, e2, q⟩ := h
 subst e1; subst e2
 obtain ⟨t, rfl⟩ := r1
 obtain ⟨t', rfl⟩ := r2
 exact iadd_int ⟨.int _, H, I.tok _, ⟨_, rfl⟩, q⟩
end
section
variable {X : Cx} {pos : Pos}
def aI7 (c : TT) (tb : TS) : TS := fun D σ H => ∃ W : Nat -> St -> Hp -> Prop, (∃ m, W m σ H) /\ ∀ m σ H, W m σ H ->
 c σ H fun b H1 => if b = true then ∃ N : St -> Hp -> Prop, (∀ σ' H', N σ' H' -> ∃ m', m' < m /\ W m' σ' H') /\ tb { D with nx := N, ct := N, bk := D.nx } σ H1 else D.nx σ H1
theorem aCx {c : Expr} {body : List Stmt} {tc : TT} {tb : TS} (hp : PassesOwn (model X.prog X.w) X.A X.env X.xe) (hc : PT X c tc) (hb : PSs X body tb) : PS X (.While c body [] pos) (aI7 tc tb) := by
 intro pins s σ H D I h
 obtain ⟨W, ⟨m0, w0⟩, turn⟩ := h
 refine wpAny_While (codeAny_whileLoop (fun n s' => ∃ σ' H', Inv X pins σ' H' s' /\ W n σ' H') ?_ m0 ⟨σ, H, I, w0⟩)
 rintro n s1 ⟨σ1, H1, I1, w1⟩
 refine wpAny_passesOwn hp (thn (hc pins s1 σ1 H1 _ I1 (turn n σ1 H1 w1)) fun b s2 ⟨H2, I2, q2⟩ => ?_)
 cases b with
 | true =>
  obtain ⟨N, hN, q2⟩ := q2
  rw [if_pos rfl]
  refine wpAny_passesOwn hp (thn (hb pins s2 σ1 H2 _ I2 q2) fun f s3 q3 => ?_)
  cases f with
  | next =>
   obtain ⟨σ3, H3, I3, n3⟩ := q3
   obtain ⟨m', hm, w3⟩ := hN σ3 H3 n3
   exact ⟨m', hm, σ3, H3, I3, w3⟩
  | cont =>
   obtain ⟨σ3, H3, I3, n3⟩ := q3
   obtain ⟨m', hm, w3⟩ := hN σ3 H3 n3
   exact ⟨m', hm, σ3, H3, I3, w3⟩
  | brk => exact q3
  | ret v => exact q3
 | false =>
  rw [if_neg Bool.false_ne_true]
  exact wpAny_execs_nil ⟨σ1, H2, I2, q2⟩
end
structure It where
 go : Nat -> Hp -> Prop
 yld : Nat -> Hp -> V -> Hp -> Prop
 stop : Nat -> Hp -> Prop
def aAd (X : Cx) (pins : List (Addr × Obj)) (H : Hp) (b : Addr) : Prop :=
 H b = none /\ b ≠ X.env.locals /\ b ∉ X.fs /\ (b ∈ X.ex \/ X.s₀.heap.objs.size <= b) /\ (∀ x c, X.env.cells.lookup x = some c -> c ≠ b) /\ ∀ p ∈ X.pn ++ pins, p.1 ≠ b
theorem Inv.fpOk {X : Cx} {pins : List (Addr × Obj)} {σ : St} {H H' : Hp} {s : Shared} {b : Addr} (I : Inv X pins σ H s) (hb : s.heap.objs.size <= b) (hn : H' b = none) : aAd X pins H' b := by
 refine ⟨hn, Nat.ne_of_gt (Nat.lt_of_lt_of_le I.lt hb), I.nofs hb, .inr (Nat.le_trans I.sz hb), fun x c e z => ?_, fun p hp z => ?_⟩
 ·obtain ⟨v, q⟩ := I.cell x c e
  exact absurd (Nat.lt_of_lt_of_le q.lt (by rw [z]; exact hb)) (Nat.lt_irrefl _)
 ·exact absurd (Nat.lt_of_lt_of_le (Heap.lt_size (I.pin p hp).1) (by rw [z]; exact hb)) (Nat.lt_irrefl _)
structure Turn (P : Program) (w : World) (K : PySem.W.Frag) (tg : Expr) (J : It) (fp : List Addr) (it : Addr) (tn : Nat -> Heap -> Prop) : Prop where
 mem : it ∈ fp
 obj : ∀ i h, tn i h -> ∀ b ∈ fp, ∃ o, h.get? b = some o /\ ∀ v, o.data ≠ .cell v
 keep : ∀ i h h', tn i h -> (∀ b ∈ fp, ∀ o, h.get? b = some o -> h'.get? b = some o) -> tn i h'
 item : ∀ (X : Cx), X.prog = P -> X.w = w -> X.K = K -> X.calm = true -> ∀ (i : Nat) (pins : List (Addr × Obj)) (s : Shared) (σ : St) (H : Hp) (E : Value -> Shared -> Prop), Inv X pins σ H s -> (∀ b ∈ fp, aAd X pins H b) -> tn i s.heap -> J.go i H ->
  wpAny (model P w) X.A (pyNext (.ref it)) (fun r s1 => ∃ u, r = some u /\
   wpAny (model P w) X.A (letOwnedTupleGo tg (.ref it) u) (fun _ s2 => ∃ x H', Inv X pins σ H' s2 /\ RelV x u /\ J.yld i H x H' /\ tn (i + 1) s2.heap /\ ∀ b ∈ fp, H' b = none) E s1) E s
 done : ∀ (X : Cx), X.prog = P -> X.w = w -> X.K = K -> X.calm = true -> ∀ (i : Nat) (pins : List (Addr × Obj)) (s : Shared) (σ : St) (H : Hp) (E : Value -> Shared -> Prop), Inv X pins σ H s -> (∀ b ∈ fp, aAd X pins H b) -> tn i s.heap -> J.stop i H ->
  wpAny (model P w) X.A (pyNext (.ref it)) (fun r s1 => r = none /\ Inv X pins σ H s1) E s
 self : ∀ (A : Around) (i : Nat) (s : Shared) (Q : Value -> Shared -> Prop) (E : Value -> Shared -> Prop), tn i s.heap -> Q (.ref it) s -> wpAny (model P w) A (pyIter (.ref it)) Q E s
abbrev TI := St -> Hp -> (It -> Hp -> Prop) -> Prop
def PIE (X : Cx) (pins : List (Addr × Obj)) (σ : St) (tg : Expr) (R : It -> Hp -> Prop) (itv : Value) (s2 : Shared) : Prop :=
 ∃ (it : Addr) (fp : List Addr) (tn : Nat -> Heap -> Prop) (J : It) (H' : Hp), itv = .ref it /\ Inv X pins σ H' s2 /\ Turn X.prog X.w X.K tg J fp it tn /\ tn 0 s2.heap /\ (∀ b ∈ fp, aAd X pins H' b) /\ R J H'
def PI (X : Cx) (tg iter : Expr) (wi : TI) : Prop :=
 ∀ (pins : List (Addr × Obj)) (s : Shared) (σ : St) (H : Hp) (R : It -> Hp -> Prop), Inv X pins σ H s -> wi σ H R ->
  wpAny (model X.prog X.w) X.A (eval iter X.env) (fun v s1 => wpAny (model X.prog X.w) X.A (pyIter v) (PIE X pins σ tg R) X.xe s1) X.xe s
theorem aJ6 {M : Model} {A : Around} {E : Value -> Shared -> Prop} {s : Shared} {tg : Expr} {it : Addr} {u : Value} {o : Obj} {n : String} {vs : Array Value} {Q : Unit -> Shared -> Prop} (ho : s.heap.get? it = some o) (hc : o.cls = .type n) (hd : o.data = .fields vs)
  (hn : ["enumerate", "zip", "dict_itemiterator", "dict_reverseitemiterator", "odict_iterator", "itertools.zip_longest", "itertools.pairwise"].contains n = false) (hQ : Q () s) : wpAny M A (letOwnedTupleGo tg (.ref it) u) Q E s := by
 unfold letOwnedTupleGo
 cases tg <;> first
  | exact wpAny_pure hQ
  | (cases u <;> first
    | exact wpAny_pure hQ
    | (refine wpAny_bind (wpAny_load ho ?_)
       rw [hc, hd]
       show wpAny M A (if (["enumerate", "zip", "dict_itemiterator", "dict_reverseitemiterator", "odict_iterator", "itertools.zip_longest", "itertools.pairwise"].contains n && vs[0]? == some (rawInt _)) = true then _ else _) Q E s
       rw [if_neg (by intro h; rw [hn, Bool.false_and] at h; cases h)]
       exact wpAny_pure hQ))
def Itl (K : PySem.W.Frag) (a : Addr) : It :=
 ⟨fun i H => ∃ xs x, SqL K H a xs /\ xs[i]? = some x, fun i H x H' => H' = H /\ ∀ xs, SqL K H a xs -> xs[i]? = some x, fun i H => ∃ xs, SqL K H a xs /\ xs.length <= i⟩
def Itr (lo : Int) (n : Nat) : It := ⟨fun i _ => i < n, fun i H x H' => H' = H /\ x = .int (lo + i), fun i _ => n <= i⟩
theorem yC {P : Program} {w : World} {K : PySem.W.Frag} {tg : Expr} (a it : Addr) : Turn P w K tg (Itl K a) [it] it (fun i h => h.IsListIter it a i) where
 mem := by simp
 obj := fun i h st b hb => by
  have e : b = it := by simpa using hb
  subst e
  obtain ⟨o, e, c, d⟩ := st
  exact ⟨o, e, fun v z => by rw [d] at z; cases z⟩
 keep := fun i h h' st k => st.at fun o e => k it (by simp) o e
 item := by
  intro X hP hw hK hc i pins s σ H E I hf st hg
  subst hP hw hK
  obtain ⟨xs, x, hq, hx⟩ := hg
  obtain ⟨its, rv, p, hz⟩ := I.list hq
  obtain ⟨u, hu, ru⟩ := rv.get hx
  obtain ⟨f0, f1, f2, f3, f4, f5⟩ := hf it (by simp)
  refine wpAny_pyNext_list_item st p.isList (x := u) (by simpa using hu) fun h' st' sb => ?_
  have I1 : Inv X pins σ H { s with heap := h' } := I.turned (t' := s.toks) (fun b o hb e => (sb.2 b hb).trans e) f0 f1 f3 f4 f5
  obtain ⟨o, e, c, d⟩ := id st'
  exact ⟨u, rfl, aJ6 (s := { s with heap := h' }) e c d (by decide) ⟨x, H, I1, ru, ⟨rfl, fun ys hy => by rw [I.list_inj hy hq]; exact hx⟩, st', fun b hb => (hf b hb).1⟩⟩
 done := by
  intro X hP hw hK hc i pins s σ H E I hf st hg
  subst hP hw hK
  obtain ⟨xs, hq, hx⟩ := hg
  obtain ⟨its, rv, p, hz⟩ := I.list hq
  obtain ⟨f0, f1, f2, f3, f4, f5⟩ := hf it (by simp)
  have hl := rv.length
  exact wpAny_pyNext_list_end (I.ok.hd hc) st p.isList (by simp; omega) fun h' eb => ⟨rfl, I.turned (t' := s.toks) (fun b o hb e => eb b o hb e) f0 f1 f3 f4 f5⟩
 self := fun _ _ _ _ _ st h => wpAny_pyIter_listiter st h
theorem xR {P : Program} {w : World} {K : PySem.W.Frag} {tg : Expr} (it : Addr) (lo : Int) (n : Nat) : Turn P w K tg (Itr lo n) [it] it (fun i h => IsRangeIter h it (lo + (i : Nat) * 1) ((n : Int) - (i : Nat)) 1) where
 mem := by simp
 obj := fun i h st b hb => by
  have e : b = it := by simpa using hb
  subst e
  exact ⟨_, st, fun v z => by
   have z' : Data.fields _ = Data.cell v := z
   cases z'⟩
 keep := fun i h h' st k => k it (by simp) _ st
 item := by
  intro X hP hw hK hc i pins s σ H E I hf st hg
  subst hP hw hK
  obtain ⟨f0, f1, f2, f3, f4, f5⟩ := hf it (by simp)
  have W := Walks.range (prog := X.prog) (w := X.w) (I.ok.hd hc) it lo 1 n
  refine W.item i s _ _ hg st fun v h' tk hv st' kk => ?_
  obtain ⟨t, rfl⟩ := hv
  have I1 : Inv X pins σ H { s with heap := h', toks := tk } := I.turned (fun b o hb e => kk b o (by simpa using hb) e) f0 f1 f3 f4 f5
  refine ⟨_, rfl, aJ6 (s := { s with heap := h', toks := tk }) (n := "range_iterator") st' rfl rfl (by decide) ⟨.int (lo + i), H, I1, ⟨t, ?_⟩, ⟨rfl, rfl⟩, st', fun b hb => (hf b hb).1⟩⟩
  rw [Int.mul_one]
 done := by
  intro X hP hw hK hc i pins s σ H E I hf st hg
  subst hP hw hK
  obtain ⟨f0, f1, f2, f3, f4, f5⟩ := hf it (by simp)
  exact wpAny_pyNext_range_end (I.ok.hd hc) st (by have : n <= i := hg; omega) fun h' eb => ⟨rfl, I.turned (t' := s.toks) (fun b o hb e => eb b o hb e) f0 f1 f3 f4 f5⟩
 self := fun _ _ _ _ _ st h => wpAny_pyIter_rangeiter st h
section
variable {X : Cx} {tg : Expr}
def aMr (K : PySem.W.Frag) (tl : TE) : TI := fun σ H R => tl σ H fun x H1 => ∃ a, x = .ref a /\ (∃ xs, SqL K H1 a xs) /\ R (Itl K a) H1
theorem aHn {l : Expr} {tl : TE} (hl : PE X l tl) : PI X tg l (aMr X.K tl) := by
 intro pins s σ H R I h
 refine thn (hl pins s σ H _ I h) fun v s1 ⟨x, H1, I1, r1, q1⟩ => ?_
 obtain ⟨a, e, ⟨xs, hq⟩, q⟩ := q1
 subst e
 cases r1
 obtain ⟨its, rv, p, hz⟩ := I1.list hq
 refine wpAny_pyIter_list p.isList ?_
 refine ⟨s1.heap.objs.size, [s1.heap.objs.size], _, _, H1, rfl, I1.kept (t' := s1.toks) fun b o e => Heap.get?_push_of_some _ e, yC a _, ⟨_, Heap.get?_push_size _ rfl, rfl, rfl⟩, fun b hb => ?_, q⟩
 have e : b = s1.heap.objs.size := by simpa using hb
 subst e
 exact I1.fpOk (Nat.le_refl _) (I1.hok.fresh (Nat.le_refl _))
theorem aDy {pins : List (Addr × Obj)} {σ : St} {H : Hp} {s : Shared} {R : It -> Hp -> Prop} {E : Value -> Shared -> Prop} {lo hi : Int} {t u v : Tok} {tk : Nat} (I : Inv X pins σ H s) (h1 : -(2 ^ 62) <= lo) (h2 : lo < 2 ^ 62) (h3 : -(2 ^ 62) <= hi) (h4 : hi < 2 ^ 62)
  (q : R (Itr lo (hi - lo).toNat) H) : wpAny (model X.prog X.w) X.A (pyIter (.ref s.heap.objs.size)) (PIE X pins σ tg R) E { s with heap := s.heap.push { cls := .type "range", data := .fields #[.int lo t, .int hi u, .int 1 v] }, toks := tk } := by
 refine wpAny_pyIter_range (IsRange.new ..) (small_one h1 h2 h3 h4) ?_
 have I1 : Inv X pins σ H { s with heap := s.heap.push { cls := .type "range", data := .fields #[.int lo t, .int hi u, .int 1 v] }, toks := tk } := I.kept fun b o e => Heap.get?_push_of_some _ e
 refine ⟨(s.heap.push { cls := .type "range", data := .fields #[.int lo t, .int hi u, .int 1 v] }).objs.size, [(s.heap.push { cls := .type "range", data := .fields #[.int lo t, .int hi u, .int 1 v] }).objs.size], _, _, H, rfl,
  I1.kept (t' := tk) fun b o e => Heap.get?_push_of_some _ e, xR _ lo (hi - lo).toNat, ?_, fun b hb => ?_, q⟩
 ·have e1 : lo + ((0 : Nat) : Int) * 1 = lo := by simp
  have e2 : (((hi - lo).toNat : Nat) : Int) - ((0 : Nat) : Int) = Builtin.Range.rangeSize lo hi 1 := by rw [rangeSize_one]; split <;> omega
  show IsRangeIter _ _ (lo + ((0 : Nat) : Int) * 1) ((((hi - lo).toNat : Nat) : Int) - ((0 : Nat) : Int)) 1
  rw [e1, e2]
  exact Heap.get?_push_size _ rfl
 ·have e : b = (s.heap.push { cls := .type "range", data := .fields #[.int lo t, .int hi u, .int 1 v] }).objs.size := by simpa using hb
  subst e
  exact I1.fpOk (Nat.le_refl _) (I1.hok.fresh (Nat.le_refl _))
def aLo (ta : TA) : TI := fun σ H R => ta σ H fun vs H1 => ∃ j : Int, vs = [.int j] /\ -(2 ^ 62) <= j /\ j < 2 ^ 62 /\ R (Itr 0 j.toNat) H1
theorem aBt {a : Expr} {ta : TA} {p pos : Pos} (hg : Gl X "range") (hm : X.mg "range" = none) (ha : PA X [a] ta) (hs : starEach [a] X.env = [(false, eval a X.env)] := by rfl) : PI X tg (.Call (.Name "range" p) [a] [] pos) (aLo ta) := by
 intro pins s σ H R I h
 refine Call_ (l9 I hg hm boot_range (PyProof.Rows.callWith_type1 (thn (ha pos pins s σ H _ I h) fun us s1 ⟨vs, H1, I1, r1, q1⟩ => ?_) hs rfl))
 obtain ⟨j, e, q1, q2, q⟩ := q1
 subst e
 cases r1 with
 | cons r rr =>
  cases rr
  obtain ⟨t, rfl⟩ := r
  exact call_range_1 (aDy I1 (by omega) (by omega) q1 q2 (by simpa using q))
def aN5 (wi : TI) (g : TG) (tb : TS) : TS := fun D σ H => wi σ H fun J H1 => ∃ W : Nat -> Nat -> St -> Hp -> Prop, (∃ m, W 0 m σ H1) /\ ∀ i m σ H, W i m σ H ->
 (J.stop i H /\ D.nx σ H) \/ (J.go i H /\ ∃ N : St -> Hp -> Prop, (∀ σ' H', N σ' H' -> ∃ m', m' < m /\ W (i + 1) m' σ' H') /\ ∀ x H', J.yld i H x H' -> g x σ H' fun σ2 H2 => tb { D with nx := N, ct := N, bk := D.nx } σ2 H2)
def w5 (fp : List Addr) (h : Heap) : List (Addr × Obj) := fp.filterMap fun b => (h.get? b).map fun o => (b, o)
theorem cM {fp : List Addr} {h : Heap} {b : Addr} {o : Obj} (hb : b ∈ fp) (e : h.get? b = some o) : (b, o) ∈ w5 fp h := List.mem_filterMap.mpr ⟨b, hb, by rw [e]; rfl⟩
theorem aBb {fp : List Addr} {h : Heap} {p : Addr × Obj} (hp : p ∈ w5 fp h) : p.1 ∈ fp /\ h.get? p.1 = some p.2 := by
 obtain ⟨b, hb, e⟩ := List.mem_filterMap.mp hp
 cases q : h.get? b with
 | none => rw [q] at e; cases e
 | some o =>
  rw [q] at e
  have e' : (b, o) = p := Option.some.inj e
  subst e'
  exact ⟨hb, q⟩
theorem Inv.pinned {pins : List (Addr × Obj)} {σ : St} {H : Hp} {s : Shared} {fp : List Addr} (I : Inv X pins σ H s) (hf : ∀ b ∈ fp, aAd X pins H b) (ho : ∀ b ∈ fp, ∃ o, s.heap.get? b = some o /\ ∀ v, o.data ≠ .cell v) : Inv X (pins ++ w5 fp s.heap) σ H s :=
 I.pins_of fun p hp => (List.mem_append.mp hp).elim (fun z => I.pin p (List.mem_append_right _ z)) fun z => by
  obtain ⟨hb, e⟩ := aBb z
  obtain ⟨f0, f1, f2, _⟩ := hf p.1 hb
  obtain ⟨o, e', d⟩ := ho p.1 hb
  rw [e] at e'; cases e'
  exact ⟨e, f0, f1, f2, d⟩
theorem Inv.unpinned {pins pl : List (Addr × Obj)} {σ : St} {H : Hp} {s : Shared} (I : Inv X (pins ++ pl) σ H s) : Inv X pins σ H s := I.pins_of fun p hp => I.pin p (List.mem_append_right _ (List.mem_append_left _ hp))
theorem aKh {iter : Expr} {body : List Stmt} {wi : TI} {g : TG} {tb : TS} {pos : Pos} (hp : PassesOwn (model X.prog X.w) X.A X.env X.xe) (hc : X.calm = true) (hi : PI X tg iter wi) (hg : PG X tg g) (hb : PSs X body tb)
  (hs : ∀ x, foldedSetIterable iter X.env x = pure x := by intro _; rfl) : PS X (.For tg iter body [] pos) (aN5 wi g tb) := by
 intro pins s σ H D I h
 refine wpAny_For (thn (hi pins s σ H _ I h) fun v s1 h1 => thn h1 fun itv s2 h2 => ?_) hs
 obtain ⟨it, fp, tn, J, H2, e, I2, T, st2, f2, W, ⟨m0, w0⟩, turn⟩ := h2
 subst e
 have stat : ∀ {H' : Hp}, (∀ b ∈ fp, H' b = none) -> ∀ b ∈ fp, aAd X pins H' b := fun hn b hb => ⟨hn b hb, (f2 b hb).2⟩
 refine codeAny_forLoop_any (fun n s' => ∃ i σ' H', Inv X pins σ' H' s' /\ tn i s'.heap /\ (∀ b ∈ fp, H' b = none) /\ W i n σ' H') ?_ m0 ⟨0, σ, H2, I2, st2, fun b hb => (f2 b hb).1, w0⟩
 rintro n s3 ⟨i, σ3, H3, I3, st3, fr3, w3⟩
 rcases turn i n σ3 H3 w3 with ⟨stop, qn⟩ | ⟨go, N, hN, step⟩
 ·refine wpAny_passesOwn hp (thn (T.done X rfl rfl rfl hc i pins s3 σ3 H3 X.xe I3 (stat fr3) st3 stop) fun r s4 ⟨hr, I4⟩ => ?_)
  subst hr
  exact wpAny_execs_nil ⟨σ3, H3, I4, qn⟩
 ·refine wpAny_passesOwn hp (thn (T.item X rfl rfl rfl hc i pins s3 σ3 H3 X.xe I3 (stat fr3) st3 go) fun r s4 ⟨u, hr, h4⟩ => ?_)
  subst hr
  refine wpAny_passesOwn hp (thn h4 fun _ s5 ⟨x, H5, I5, r5, y5, st5, fr5⟩ => ?_)
  have I5' := I5.pinned (stat fr5) (T.obj _ _ st5)
  refine wpAny_passesOwn hp (thn (hg _ s5 σ3 H5 x u _ I5' r5 (step x H5 y5)) fun _ s6 ⟨σ6, H6, I6, q6⟩ => ?_)
  refine wpAny_passesOwn hp (thn (hb _ s6 σ6 H6 _ I6 q6) fun f s7 q7 => ?_)
  have again : ∀ {σ7 : St} {H7 : Hp}, Inv X (pins ++ w5 fp s5.heap) σ7 H7 s7 -> N σ7 H7 -> ∃ m, m < n /\ ∃ i σ' H', Inv X pins σ' H' s7 /\ tn i s7.heap /\ (∀ b ∈ fp, H' b = none) /\ W i m σ' H' := fun {σ7 H7} I7 n7 => by
   obtain ⟨m', hm, w7⟩ := hN σ7 H7 n7
   refine ⟨m', hm, i + 1, σ7, H7, I7.unpinned, T.keep _ _ _ st5 fun b hb o e => (I7.pin (b, o) (List.mem_append_right _ (List.mem_append_right _ (cM hb e)))).1, fun b hb => ?_, w7⟩
   obtain ⟨o, e, d⟩ := T.obj _ _ st5 b hb
   exact (I7.pin (b, o) (List.mem_append_right _ (List.mem_append_right _ (cM hb e)))).2.1
  cases f with
  | next => obtain ⟨σ7, H7, I7, n7⟩ := q7; exact again I7 n7
  | cont => obtain ⟨σ7, H7, I7, n7⟩ := q7; exact again I7 n7
  | brk => obtain ⟨σ7, H7, I7, q7⟩ := q7; exact ⟨σ7, H7, I7.unpinned, q7⟩
  | ret v => obtain ⟨x7, σ7, H7, I7, r7, q7⟩ := q7; exact ⟨x7, σ7, H7, I7.unpinned, r7, q7⟩
end
abbrev R2 := V -> V -> Hp -> VK -> Prop
def OpR (X : Cx) (f : Value -> Value -> Sem Value) (r : R2) : Prop :=
 ∀ (pins : List (Addr × Obj)) (s : Shared) (σ : St) (H : Hp) (x y : V) (v u : Value) (Q : VK), Inv X pins σ H s -> RelV x v -> RelV y u -> r x y H Q ->
  wpAny (model X.prog X.w) X.A (f v u) (EP X pins σ Q) X.xe s
def UnR (X : Cx) (f : Value -> Sem Value) (r : V -> Hp -> VK -> Prop) : Prop :=
 ∀ (pins : List (Addr × Obj)) (s : Shared) (σ : St) (H : Hp) (x : V) (v : Value) (Q : VK), Inv X pins σ H s -> RelV x v -> r x H Q ->
  wpAny (model X.prog X.w) X.A (f v) (EP X pins σ Q) X.xe s
def nD (X : Cx) (f : Value) (r : List V -> Hp -> VK -> Prop) : Prop :=
 ∀ (pins : List (Addr × Obj)) (s : Shared) (σ : St) (H : Hp) (xs : List V) (us : List Value) (Q : VK), Inv X pins σ H s -> Vals xs us -> r xs H Q ->
  wpAny (model X.prog X.w) X.A (call f us) (EP X pins σ Q) X.xe s
def tOp (r : R2) (ta tb : TE) : TE := fun σ H Q => ta σ H fun x H1 => tb σ H1 fun y H2 => r x y H2 Q
def tUn (r : V -> Hp -> VK -> Prop) (ta : TE) : TE := fun σ H Q => ta σ H fun x H1 => r x H1 Q
def rI (C : Int -> Int -> Prop) (g : Int -> Int -> V) : R2 := fun x y H Q => ∃ i j, x = .int i /\ y = .int j /\ C i j /\ Q (g i j) H
def rI0 (g : Int -> Int -> V) : R2 := fun x y H Q => ∃ i j, x = .int i /\ y = .int j /\ Q (g i j) H
def rU (g : Int -> V) : V -> Hp -> VK -> Prop := fun x H Q => ∃ i, x = .int i /\ Q (g i) H
section
variable {X : Cx} {a b c : Expr} {ta tb tc : TE} {pos : Pos}
theorem aMl (ha : PE X a ta) (hb : PE X b tb) {pins : List (Addr × Obj)} {s : Shared} {σ : St} {H : Hp} {R : V -> V -> Hp -> Prop} (I : Inv X pins σ H s)
  (h : ta σ H fun x H1 => tb σ H1 fun y H2 => R x y H2) {Q : Value -> Shared -> Prop} {f : Value -> Value -> Sem Value}
  (hf : ∀ v u s2 x y H2, Inv X pins σ H2 s2 -> RelV x v -> RelV y u -> R x y H2 -> wpAny (model X.prog X.w) X.A (f v u) Q X.xe s2) :
  wpAny (model X.prog X.w) X.A (eval a X.env) (fun v s₁ => wpAny (model X.prog X.w) X.A (eval b X.env) (fun u s₂ => wpAny (model X.prog X.w) X.A (f v u) Q X.xe s₂) X.xe s₁) X.xe s := by
 refine thn (ha pins s σ H _ I h) fun v s1 ⟨x, H1, I1, r1, q1⟩ => ?_
 refine thn (hb pins s1 σ H1 _ I1 q1) fun u s2 ⟨y, H2, I2, r2, q2⟩ => ?_
 exact hf v u s2 x y H2 I2 r1 r2 q2
theorem aMm {op : Operator} {r : R2} (ho : OpR X (binaryOp op) r) (ha : PE X a ta) (hb : PE X b tb) : PE X (.BinOp a op b pos) (tOp r ta tb) := by
 intro pins s σ H Q I h
 exact wpAny_BinOp (aMl ha hb I h fun v u s2 x y H2 I2 rx ry q => ho pins s2 σ H2 x y v u Q I2 rx ry q)
theorem aLx {op : UnaryOp} {r : V -> Hp -> VK -> Prop} (ho : UnR X (unaryOp op) r) (ha : PE X a ta) : PE X (.UnaryOp op a pos) (tUn r ta) := by
 intro pins s σ H Q I h
 exact UnaryOp_ (thn (ha pins s σ H _ I h) fun v s1 ⟨x, H1, I1, r1, q1⟩ => ho pins s1 σ H1 x v Q I1 r1 q1)
theorem opI {f : Value -> Value -> Sem Value} {C : Int -> Int -> Prop} {g : Int -> Int -> Int}
  (rule : ∀ (i j : Int) (t u : Tok) (s : Shared) (Q : Value -> Shared -> Prop) (E : Value -> Shared -> Prop), C i j -> Q (.int (g i j) s.toks) { s with toks := s.toks + 1 } -> wpAny (model X.prog X.w) X.A (f (.int i t) (.int j u)) Q E s) :
  OpR X f (rI C fun i j => .int (g i j)) := by
 intro pins s σ H x y v u Q I rx ry h
 obtain ⟨i, j, rfl, rfl, hc, q⟩ := h
 obtain ⟨t, rfl⟩ := rx
 obtain ⟨t', rfl⟩ := ry
 exact rule i j t t' s _ _ hc ⟨.int (g i j), H, I.tok _, ⟨_, rfl⟩, q⟩
theorem aM9 {f : Value -> Value -> Sem Value} {g : Int -> Int -> Int}
  (rule : ∀ (i j : Int) (t u : Tok) (s : Shared) (Q : Value -> Shared -> Prop) (E : Value -> Shared -> Prop), Q (.int (g i j) s.toks) { s with toks := s.toks + 1 } -> wpAny (model X.prog X.w) X.A (f (.int i t) (.int j u)) Q E s) :
  OpR X f (rI0 fun i j => .int (g i j)) := by
 intro pins s σ H x y v u Q I rx ry h
 obtain ⟨i, j, rfl, rfl, q⟩ := h
 obtain ⟨t, rfl⟩ := rx
 obtain ⟨t', rfl⟩ := ry
 exact rule i j t t' s _ _ ⟨.int (g i j), H, I.tok _, ⟨_, rfl⟩, q⟩
theorem aNj {f : Value -> Value -> Sem Value} {g : Int -> Int -> Bool}
  (rule : ∀ (i j : Int) (t u : Tok) (s : Shared) (Q : Value -> Shared -> Prop) (E : Value -> Shared -> Prop), Q (.bool (g i j)) s -> wpAny (model X.prog X.w) X.A (f (.int i t) (.int j u)) Q E s) :
  OpR X f (rI0 fun i j => .bl (g i j)) := by
 intro pins s σ H x y v u Q I rx ry h
 obtain ⟨i, j, rfl, rfl, q⟩ := h
 obtain ⟨t, rfl⟩ := rx
 obtain ⟨t', rfl⟩ := ry
 exact rule i j t t' s _ _ ⟨.bl (g i j), H, I, rfl, q⟩
def aHx (i j : Int) : Prop := 0 <= j /\ j <= 1000000 /\ i.natAbs < 2 ^ 64
def CMul (i j : Int) : Prop := (-(2 ^ 64) < i /\ i < 2 ^ 64) \/ (-(2 ^ 64) < j /\ j < 2 ^ 64)
theorem CMul.ok {i j : Int} (h : CMul i j) : IntMulOk i j := by
 rcases h with ⟨h1, h2⟩ | ⟨h1, h2⟩
 ·exact .of_left (intBits_le_64 h1 h2)
 ·exact .of_right (intBits_le_64 h1 h2)
theorem aJb : OpR X (binaryOp .Add) (rI0 fun i j => .int (i + j)) := aM9 fun _ _ _ _ _ _ _ q => add_int q
theorem l7 : OpR X (binaryOp .Sub) (rI0 fun i j => .int (i - j)) := aM9 fun _ _ _ _ _ _ _ q => sub_int q
theorem dX : OpR X (binaryOp .Mod) (rI (fun _ j => j ≠ 0) fun i j => .int (i.fmod j)) := opI fun _ _ _ _ _ _ _ hc q => mod_int' hc q
theorem zA : OpR X (binaryOp .Pow) (rI aHx fun i j => .int (i ^ j.toNat)) := opI fun _ _ _ _ _ _ _ hc q => pow_int_small hc.1 hc.2.1 hc.2.2 q
theorem unI {f : Value -> Sem Value} {g : Int -> Int}
  (rule : ∀ (i : Int) (t : Tok) (s : Shared) (Q : Value -> Shared -> Prop) (E : Value -> Shared -> Prop), Q (.int (g i) s.toks) { s with toks := s.toks + 1 } -> wpAny (model X.prog X.w) X.A (f (.int i t)) Q E s) :
  UnR X f (rU fun i => .int (g i)) := by
 intro pins s σ H x v Q I rx h
 obtain ⟨i, rfl, q⟩ := h
 obtain ⟨t, rfl⟩ := rx
 exact rule i t s _ _ ⟨.int (g i), H, I.tok _, ⟨_, rfl⟩, q⟩
theorem aJx : UnR X (unaryOp .USub) (rU fun i => .int (-i)) := unI fun _ _ _ _ _ q => neg_int q
end
section
variable {X : Cx} {a b c : Expr} {ta tb tc : TE} {pos : Pos}
theorem xV : OpR X (compareOp .Lt) (rI0 fun i j => .bl (decide (i < j))) := aNj fun _ _ _ _ _ _ _ q => lt_int q
theorem aD2 : OpR X (compareOp .Gt) (rI0 fun i j => .bl (decide (j < i))) := aNj fun _ _ _ _ _ _ _ q => gt_int q
theorem OpR.or {f : Value -> Value -> Sem Value} {r r' : R2} (h : OpR X f r) (h' : OpR X f r') : OpR X f (fun x y H Q => r x y H Q \/ r' x y H Q) := by
 intro pins s σ H x y v u Q I rx ry q
 rcases q with q | q
 ·exact h pins s σ H x y v u Q I rx ry q
 ·exact h' pins s σ H x y v u Q I rx ry q
theorem cU (b : Expr) {op : CmpOp} (h : op ≠ .In := by decide) (h2 : op ≠ .NotIn := by decide) : behindInMarks op b = false := by
 have e1 : (op == CmpOp.In) = false := by cases op <;> first | rfl | exact absurd rfl h
 have e2 : (op == CmpOp.NotIn) = false := by cases op <;> first | rfl | exact absurd rfl h2
 cases b <;> simp [behindInMarks, e1, e2]
theorem aG2 {op : CmpOp} {r : R2} (ho : OpR X (compareOp op) r) (ha : PE X a ta) (hb : PE X b tb) (hm : behindInMarks op b = false) : PE X (.Compare a [op] [b] pos) (tOp r ta tb) := by
 intro pins s σ H Q I h
 exact wpAny_Compare1 (aMl ha hb I h fun v u s2 x y H2 I2 rx ry q => ho pins s2 σ H2 x y v u Q I2 rx ry q) hm
def aLt (t : TE) : TT := fun σ H Q => t σ H fun x H' => ∃ k, x = .bl k /\ Q k H'
theorem aHe {op : CmpOp} {r : R2} (ho : OpR X (compareOp op) r) (ha : PE X a ta) (hb : PE X b tb) (hm : behindInMarks op b = false) : PT X (.Compare a [op] [b] pos) (aLt (tOp r ta tb)) := by
 intro pins s σ H Q I h
 refine wpAny_isTrue_Compare1 (thn (ha pins s σ H _ I h) fun v s1 ⟨x, H1, I1, r1, q1⟩ => thn (hb pins s1 σ H1 _ I1 q1) fun u s2 ⟨y, H2, I2, r2, q2⟩ =>
  thn (ho pins s2 σ H2 x y v u _ I2 r1 r2 q2) fun c s3 ⟨z, H3, I3, r3, k, e, q3⟩ => ?_) hm
 subst e
 cases r3
 exact wpAny_truthy_bool ⟨H3, I3, q3⟩
theorem xG : (sizeLine : Nat) < 2 ^ 63 := by rw [sizeLine_eq]; decide
theorem xN : OpR X (binaryOp .Add) (fun x y H Q => ∃ i j, x = .str i /\ y = .str j /\ i.length + j.length <= sizeLine /\ Q (.str (i ++ j)) H) := by
 intro pins s σ H x y v u Q I rx ry h
 obtain ⟨i, j, rfl, rfl, hz, q⟩ := h
 obtain ⟨t, rfl⟩ := rx
 obtain ⟨t', rfl⟩ := ry
 exact add_str (fun t' tk => ⟨.str (i ++ j), H, I.tok _, ⟨_, rfl⟩, q⟩) hz
theorem vals1 {x : V} {us : List Value} (r : Vals [x] us) : ∃ u, us = [u] /\ RelV x u := by
 cases r with
 | cons r1 r2 => cases r2; exact ⟨_, rfl, r1⟩
theorem vals2 {x y : V} {us : List Value} (r : Vals [x, y] us) : ∃ u w', us = [u, w'] /\ RelV x u /\ RelV y w' := by
 cases r with
 | cons r1 r2 =>
  cases r2 with
  | cons r3 r4 => cases r4; exact ⟨_, _, rfl, r1, r3⟩
theorem mY : nD X (.builtin "abs") (fun xs H Q => ∃ i, xs = [.int i] /\ Q (.int (if i < 0 then -i else i)) H) := by
 intro pins s σ H xs us Q I r h
 obtain ⟨i, rfl, q⟩ := h
 obtain ⟨u, rfl, t, rfl⟩ := vals1 r
 exact call_abs_int fun u tk => ⟨.int (if i < 0 then -i else i), H, I.tok _, ⟨_, rfl⟩, q⟩
end
structure ObjM (h : Heap) (x dx C : Addr) (mA : Str -> Option Value) : Prop where
 obj : h.get? x = some (PySem.W.instObj C dx)
 ns : h.Ns1 dx mA
 ne : dx ≠ x
theorem aAt {h : Heap} {dx : Addr} {mA : Str -> Option Value} (n : h.Ns1 dx mA) : ∃ od, h.get? dx = some od /\ ∀ name, PySem.W.lookIn name od = some (mA name) := by
 obtain ⟨o, es, ep, ho, hd, hk, _, hm⟩ := n
 refine ⟨o, ho, fun name => ?_⟩
 have e := hm name
 unfold nsFind findBy at e
 rw [<- Array.find?_toList] at e
 unfold PySem.W.lookIn
 rw [hd]
 dsimp only
 split
 ·rename_i y q
  rw [q] at e
  exact congrArg some e
 ·rename_i q
  rw [q] at e
  have a : es.toList.any (·.refKey) = false := by
   rw [List.any_eq_false]
   intro y hy
   obtain ⟨z, t, hkey⟩ := hk y (Array.mem_toList_iff.mp hy)
   simp [DictEntry.refKey, hkey]
  have a' : ¬ es.toList.any (·.refKey) = true := by rw [a]; exact Bool.false_ne_true
  rw [if_neg a']
  exact congrArg some e
theorem ObjM.look {h : Heap} {x dx C : Addr} {mA : Str -> Option Value} (I : ObjM h x dx C mA) : ∃ od, PySem.W.InstAt h x (PySem.W.instObj C dx) C (some od) /\ ∀ name, PySem.W.lookIn name od = some (mA name) :=
 let ⟨od, ho, hl⟩ := aAt I.ns
 ⟨od, ⟨I.obj, rfl, rfl, ho⟩, hl⟩
section
variable {prog : Program} {w : World} {A : Around} {E : Value -> Shared -> Prop} {s : Shared} {K : PySem.W.Frag} {x dx C f : Addr} {mA : Str -> Option Value} {name : Str} {v : Value}
end
section
variable {P : Program} {w : World} {H H' : Hp} {h h' : Heap} {a C dx : Addr} {fs fs' : List (Str × V)}
theorem aFz (hok : HOk P w H h) (e : H a = some (.ins C dx fs)) : ∃ mA, ObjM h a dx C mA /\ (∀ f, aMz (fs.lookup f) (mA f)) /\ PySem.Within mA (fs.map (·.1)) /\ fs.length <= 1000 /\ H dx = some (.own a) := by
 obtain ⟨d, z, ne, ob, mA, n, r, q⟩ := (show ObjOk P w H h a (.ins C dx fs) from hok a _ e)
 exact ⟨mA, ⟨ob, n, ne⟩, r, q, z, d⟩
end
structure Cls (K : PySem.W.Frag) (C : Addr) : Prop where
 pg : PySem.W.plainGet K C Str.empty = true
 hd : PySem.W.hasDictIn K C = true
 po : PySem.W.plainOver K C = true
 sa : PySem.W.findIn K (.ref C) "__setattr__" = some (some (.builtin "object.__setattr__"))
theorem Cls.get {K : PySem.W.Frag} {C : Addr} (c : Cls K C) (f : Str) : PySem.W.plainGet K C f = true := c.pg
section
variable {X : Cx} {pins : List (Addr × Obj)} {σ : St} {H : Hp} {s : Shared} {a C dx : Addr} {fs : List (Str × V)} {f : Str} {v : V} {A : Around} {E : Value -> Shared -> Prop}
end
section
variable {X : Cx} {o e value : Expr} {f : Str} {pos pos' tpos : Pos} {ta tv : TE}
end
section
variable {X : Cx} {pins : List (Addr × Obj)} {σ : St} {H : Hp} {s : Shared} {A : Around} {E : Value -> Shared -> Prop} {Q : Value -> Shared -> Prop} {c : Value} {b : Bool}
inductive v8 (K : PySem.W.Frag) (H : Hp) : V -> Value -> Prop where
 | non : v8 K H .non (.type "NoneType")
 | bl (x : Bool) : v8 K H (.bl x) (.type "bool")
 | int (i : Int) : v8 K H (.int i) (.type "int")
 | str (x : Str) : v8 K H (.str x) (.type "str")
 | flt (x : UInt64) : v8 K H (.flt x) (.type "float")
 | lst {a : Addr} {xs : List V} (e : H a = some (.lst xs)) : v8 K H (.ref a) (.type "list")
 | frz {a : Addr} {o : Obj} {xs : List V} (e : H a = some (.frz o (.lst xs))) : v8 K H (.ref a) (.type "list")
 | tup {a : Addr} {xs : List V} (e : H a = some (.tup xs)) : v8 K H (.ref a) (.type "tuple")
 | dK {a : Addr} {kvs : List (Key × V)} (e : H a = some (.dK kvs)) : v8 K H (.ref a) (.type "dict")
 | dT {a : Addr} {kvs : List (List Key × V)} (e : H a = some (.dT kvs)) : v8 K H (.ref a) (.type "dict")
 | ins {a C dx : Addr} {fs : List (Str × V)} (e : H a = some (.ins C dx fs)) (cl : Cls K C) (ha : PySem.W.findIn K (.ref C) "__class__" = some (some (.builtin "object.__class__")))
   (hn : PySem.W.specialIn K (.builtin "object.__class__") "__get__" = some (some (.builtin "getset_descriptor.__get__"))) (htk : PySem.W.takesIn K (.builtin "object.__class__") = some true)
   (hm : PySem.W.mroIn K C (.type "object") = some true) : v8 K H (.ref a) (.ref C)
theorem zB {x : V} {u t : Value} (I : Inv X pins σ H s) (rx : RelV x u) (ty : v8 X.K H x t) (e : PySem.W.kitOne X.K t c = some b) (h : ∀ tk, Q (.bool b) { s with toks := tk }) :
  wpAny (model X.prog X.w) A (call (.builtin "isinstance") [u, c]) Q E s := by
 cases ty with
 | non => cases (show u = Value.none from rx); exact PySem.W.kia_one PySem.W.kitx_none I.kIn True.intro e (fun z => nomatch z) h
 | bl y => cases (show u = Value.bool y from rx); exact PySem.W.kia_one PySem.W.kitx_bool I.kIn True.intro e (fun z => nomatch z) h
 | int i => obtain ⟨t, q⟩ := (show ∃ t, u = Value.int i t from rx); cases q; exact PySem.W.kia_one PySem.W.kitx_int I.kIn True.intro e (fun z => nomatch z) h
 | str y => obtain ⟨t, q⟩ := (show ∃ t, u = Value.str y t from rx); cases q; exact PySem.W.kia_one PySem.W.kitx_str I.kIn True.intro e (fun z => nomatch z) h
 | flt y => obtain ⟨t, q⟩ := (show ∃ t, u = Value.float y t from rx); cases q; exact PySem.W.kia_one PySem.W.kitx_float I.kIn True.intro e (fun z => nomatch z) h
 | @lst a xs ea =>
  cases (show u = Value.ref a from rx)
  obtain ⟨_, _, n, _, h1⟩ := (show ObjOk X.prog X.w H s.heap a (.lst xs) from I.hok a _ ea)
  exact PySem.W.kia_one PySem.W.kitx_list I.kIn ⟨_, h1, rfl⟩ e (fun z => nomatch z) h
 | @frz a ob xs ea =>
  cases (show u = Value.ref a from rx)
  obtain ⟨_, _, _, n, _, h1⟩ := (show ObjOk X.prog X.w H s.heap a (.frz ob (.lst xs)) from I.hok a _ ea)
  exact PySem.W.kia_one PySem.W.kitx_list I.kIn ⟨_, h1, rfl⟩ e (fun z => nomatch z) h
 | @tup a xs ea =>
  cases (show u = Value.ref a from rx)
  obtain ⟨_, _, _, p⟩ := (show ObjOk X.prog X.w H s.heap a (.tup xs) from I.hok a _ ea)
  obtain ⟨o, h1, h2, _⟩ := p
  exact PySem.W.kia_one PySem.W.kitx_tuple I.kIn ⟨o, h1, h2⟩ e (fun z => nomatch z) h
 | @dK a kvs ea =>
  cases (show u = Value.ref a from rx)
  obtain ⟨_, _, vs, _, p⟩ := (show ObjOk X.prog X.w H s.heap a (.dK kvs) from I.hok a _ ea)
  obtain ⟨o, es, ep, h1, h2, _⟩ := p
  exact PySem.W.kia_one PySem.W.kitx_dict I.kIn ⟨o, h1, h2.1⟩ e (fun z => nomatch z) h
 | @dT a kvs ea =>
  cases (show u = Value.ref a from rx)
  obtain ⟨_, _, xs, _, o, es, ep, h1, h2, _⟩ := (show ObjOk X.prog X.w H s.heap a (.dT kvs) from I.hok a _ ea)
  exact PySem.W.kia_one PySem.W.kitx_dict I.kIn ⟨o, h1, h2.1⟩ e (fun z => nomatch z) h
 | @ins a C dx fs ea cl ha hn htk hm =>
  cases (show u = Value.ref a from rx)
  obtain ⟨mA, O, _⟩ := aFz I.hok ea
  obtain ⟨od, J, _⟩ := O.look
  exact PySem.W.kia_one (PySem.W.kitx_own (cl.get _) cl.hd ha hn htk hm) I.kIn J e (fun z => nomatch z) h
end
structure Room (k : Nat) (A : Around) : Prop where
 hd : A.handled = none
 dp : A.depth + 3 * k + 5 < recursionLimit
 un : A.units + 16 * k + 200 < cLine
theorem Room.mono {j k : Nat} {A : Around} (r : Room k A) (h : j <= k) : Room j A := ⟨r.hd, by have := r.dp; omega, by have := r.un; omega⟩
theorem Room.deeper {k : Nat} {A : Around} (r : Room (k + 1) A) (env : Env) : Room k (A.deeper env) :=
 ⟨r.hd, by have := r.dp; show A.depth + 1 + 3 * k + 5 < _; omega, by have := r.un; show A.units + 3 + 16 * k + 200 < _; omega⟩
theorem Room.depth {k : Nat} {A : Around} (r : Room k A) : A.depth < recursionLimit := by have := r.dp; omega
def aI5 : TA := fun _ H Q => Q [] H
def aBa (ta : TE) (tr : TA) : TA := fun σ H Q => ta σ H fun x H1 => tr σ H1 fun xs H2 => Q (x :: xs) H2
section
variable {X : Cx} {e : Expr} {es : List Expr} {te : TE} {t : TA} {pos : Pos}
theorem fY : PA X [] aI5 := fun _ _ _ _ H Q I h => Calls.spliced_nil ⟨[], H, I, .nil, h⟩
theorem dG (ha : PE X e te) (hr : PA X es t) (hs : starEach (e :: es) X.env = (false, eval e X.env) :: starEach es X.env := by rfl) : PA X (e :: es) (aBa te t) := by
 intro pos pins s σ H Q I h
 rw [hs]
 show wpAny _ _ (spliced ((false, eval e X.env) :: backTo pos (starEach es X.env))) _ _ s
 refine Calls.spliced_cons (thn (ha pins s σ H _ I h) fun u s1 ⟨x, H1, I1, r1, q1⟩ => ?_)
 exact thn (hr pos pins s1 σ H1 _ I1 q1) fun us s2 ⟨xs, H2, I2, r2, q2⟩ => ⟨x :: xs, H2, I2, .cons r1 r2, q2⟩
def aN4 (t : TA) : TE := fun σ H Q => t σ H fun xs H1 => xs.length <= sizeLine /\ ∀ p, H1 p = none -> Q (.ref p) (upd H1 p (.tup xs))
def aNw (t : TA) : TE := fun σ H Q => t σ H fun xs H1 => xs.length <= sizeLine /\ ∀ p, H1 p = none -> Q (.ref p) (upd H1 p (.lst xs))
theorem aA3 {x1} (h : PA X es t) : PE X (.Tuple es x1 pos) (aN4 t) := by
 intro pins s σ H Q I hq
 refine wpAny_Tuple_spliced (thn (h pos pins s σ H _ I hq) fun us s1 ⟨xs, H1, I1, r, z, q⟩ => ⟨by rw [<- r.length]; exact z, ?_⟩)
 have hf : H1 s1.heap.objs.size = none := I1.hok.fresh (Nat.le_refl _)
 refine ⟨.ref s1.heap.objs.size, upd H1 s1.heap.objs.size (.tup xs), I1.laid (t' := s1.toks) (fun b u e => Heap.get?_push_of_some _ e) (Nat.le_refl _) ?_, rfl, q _ hf⟩
 exact ⟨z, us, r, ⟨_, Heap.get?_push_size _ rfl, rfl, _, rfl⟩⟩
theorem aH7 (h : PA X es t) : PE X (.List es pos) (aNw t) := by
 intro pins s σ H Q I hq
 refine wpAny_List_spliced (thn (h pos pins s σ H _ I hq) fun us s1 ⟨xs, H1, I1, r, z, q⟩ => ⟨by rw [<- r.length]; exact z, ?_⟩)
 have hf : H1 s1.heap.objs.size = none := I1.hok.fresh (Nat.le_refl _)
 refine ⟨.ref s1.heap.objs.size, upd H1 s1.heap.objs.size (.lst xs), I1.laid (t' := s1.toks) (fun b u e => Heap.get?_push_of_some _ e) (Nat.le_refl _) ?_, rfl, q _ hf⟩
 exact ⟨z, us, 0, r, Heap.get?_push_size _ rfl⟩
end
abbrev Sp := List V -> Hp -> VK -> XK -> Prop
abbrev CXT := List Env -> Hp -> Shared -> XK -> Value -> Shared -> Prop
structure aLl (P : Program) (w : World) (K : PySem.W.Frag) (mg : Str -> Option Value) (base : Heap) (A : Around) (outer : List Env) (s : Shared) (H : Hp) : Prop where
 frames : A.frames = some outer
 mod : Mod K mg base
 bs : ∀ b o, base.get? b = some o -> s.heap.get? b = some o /\ H b = none
 bsz : base.objs.size <= s.heap.objs.size
 funs : s.heap.FunFrames base outer
 frf : ∀ b ∈ frs outer, H b = none
 hok : HOk P w H s.heap
 bare : AllBare s.gens
def CE (outer : List Env) (P : Program) (w : World) (H : Hp) (s : Shared) (Q : VK) (u : Value) (s' : Shared) : Prop :=
 ∃ v H', s'.os = s.os /\ AllBare s'.gens /\ Un (frs outer) [] H H' s.heap s'.heap /\ HOk P w H' s'.heap /\ RelV v u /\ Q v H'
def CR (CX : CXT) (outer : List Env) (P : Program) (w : World) (H : Hp) (s : Shared) (Q : VK) (E : XK) (r : Result) (s' : Shared) : Prop :=
 match r with
 | .ok (.ret u) => CE outer P w H s Q u s'
 | .ok _ => False
 | .error e => CX outer H s E e s'
structure FnOk (P : Program) (w : World) (K : PySem.W.Frag) (mg : Str -> Option Value) (base : Heap) (CX : CXT) (k : Nat) (f : Addr) (fd : FuncData) (ps : List Str) (sp : Sp) : Prop where
 len : ∀ vs H Q E, sp vs H Q E -> vs.length = ps.length
 run : ∀ (A : Around) (outer : List Env) (s : Shared) (H : Hp) (args : Args) (us : List Value) (vs : List V) (Q : VK) (E : XK), Room k A -> aLl P w K mg base A outer s H -> BindsTo s fd args (ps.zip us) -> Vals vs us -> sp vs H Q E ->
  codeAny (model P w) A (.call (.ref f) args) (CR CX outer P w H s Q E) s
theorem FnOk.mono {P : Program} {w : World} {K : PySem.W.Frag} {mg : Str -> Option Value} {base : Heap} {CX : CXT} {j k : Nat} {f : Addr} {fd : FuncData} {ps : List Str} {sp : Sp} (F : FnOk P w K mg base CX j f fd ps sp) (h : j <= k) :
  FnOk P w K mg base CX k f fd ps sp := ⟨F.len, fun A outer s H args us vs Q E hr => F.run A outer s H args us vs Q E (hr.mono h)⟩
theorem FnOk.imp {P : Program} {w : World} {K : PySem.W.Frag} {mg : Str -> Option Value} {base : Heap} {CX : CXT} {k : Nat} {f : Addr} {fd : FuncData} {ps : List Str} {sp sp' : Sp} (F : FnOk P w K mg base CX k f fd ps sp)
  (h : ∀ vs H Q E, sp' vs H Q E -> sp vs H Q E) : FnOk P w K mg base CX k f fd ps sp' :=
 ⟨fun vs H Q E q => F.len vs H Q E (h _ _ _ _ q), fun A outer s H args us vs Q E hr he hb hv hs => F.run A outer s H args us vs Q E hr he hb hv (h _ _ _ _ hs)⟩
section
variable {X : Cx} {pins : List (Addr × Obj)} {σ : St} {H : Hp} {s s' : Shared}
theorem Inv.env0 (I : Inv X pins σ H s) : aLl X.prog X.w X.K X.mg X.base X.A X.stack s H :=
 ⟨I.ok.frames, I.ok.mod, I.bs, Nat.le_trans I.ok.bsz I.sz, I.stack, I.stkFree, I.hok, I.bare⟩
theorem Inv.after {Q : VK} {u : Value} (I : Inv X pins σ H s) (h : CE X.stack X.prog X.w H s Q u s') : EP X pins σ Q u s' := by
 obtain ⟨v, H', os, bare, un, hok, r, q⟩ := h
 obtain ⟨hh, g, d, t, os'⟩ := s'
 obtain rfl : os' = s.os := os
 exact ⟨v, H', I.call (h' := hh) (g' := g) (d' := d) (t' := t) (ch := []) un hok bare (fun b z => absurd z (by simp)), r, q⟩
end
def Binds (K : PySem.W.Frag) (fd : FuncData) (ps : List Str) (ds : List Value) : Prop :=
 ∀ (s : Shared) (us : List Value), K.In s.heap -> (us ++ ds).length = ps.length -> BindsTo s fd ⟨us, []⟩ (ps.zip (us ++ ds))
theorem Binds.all {K : PySem.W.Frag} {fd : FuncData} {ps : List Str} (h : ∀ us : List Value, us.length = ps.length -> bindArgs fd ⟨us, []⟩ = pure (ps.zip us)) : Binds K fd ps [] := fun s us _ hl => by
 rw [List.append_nil] at hl ⊢
 exact .of_eq (h us hl)
def aKg (CX : CXT) (X : Cx) (E : XK) : Prop := ∀ (pins : List (Addr × Obj)) (σ : St) (H : Hp) (s : Shared) (e : Value) (s' : Shared), Inv X pins σ H s -> CX X.stack H s E e s' -> X.xe e s'
section
variable {X : Cx} {CX : CXT} {k : Nat} {f C : Addr} {fd : FuncData} {ps : List Str} {sp : Sp} {dvs : List V} {ds : List Value} {E : XK} {x m : Str} {p pos apos : Pos} {e o : Expr} {es : List Expr} {ta : TE} {t : TA}
end
section
variable {X : Cx} {CX : CXT} {k : Nat} {f C : Addr} {fd : FuncData} {ps ks : List Str} {sp : Sp} {E : XK} {x m : Str} {p pos apos kpos : Pos} {e o : Expr} {es : List Expr} {kws : List Keyword} {te ta : TE} {t tk : TA} {nm : Option Str}
variable {g : List Value -> List Value -> List Value} {gV : List V -> List V -> List V}
end
structure aX (N P : List Str) (sc : Scope) : Prop where
 kind : sc.kind = .function
 co : sc.isCoroutine = false
 gen : sc.isGenerator = false
 nd : N.Nodup
 pre : N.take P.length = P
 par : ∀ x ∈ P, sc.names.lookup x = some .local \/ sc.names.lookup x = some .cell
 nofree : ∀ y ∈ sc.names, y.2 ≠ .free
theorem s8 {kindOf : Str -> Option NameKind} {x : Str} : ∀ {binds : List (Str × Value)} {m : Str -> Option Value}, (∀ v, (x, v) ∉ binds) -> bindL kindOf binds m x = m x
 | [], _, _ => rfl
 | (n, v) :: r, m, h => by
  unfold bindL
  rw [s8 fun w hw => h w (List.mem_cons_of_mem _ hw)]
  split
  ·have : x ≠ n := by rintro rfl; exact h v List.mem_cons_self
   simp [this]
  ·rfl
theorem tF {kindOf : Str -> Option NameKind} {x : Str} : ∀ {binds : List (Str × Value)} {m : Str -> Option Value}, (∀ v, (x, v) ∉ binds) -> bindC kindOf binds m x = m x
 | [], _, _ => rfl
 | (n, v) :: r, m, h => by
  unfold bindC
  rw [tF fun w hw => h w (List.mem_cons_of_mem _ hw)]
  split
  ·rfl
  ·have : x ≠ n := by rintro rfl; exact h v List.mem_cons_self
   simp [this]
theorem sX {kindOf : Str -> Option NameKind} {x : Str} {v : Value} : ∀ {P : List Str} {vs : List Value} {i : Nat} {m : Str -> Option Value}, P.Nodup -> P[i]? = some x -> vs[i]? = some v -> kindOf x = some .local ->
  bindL kindOf (P.zip vs) m x = some v
 | [], _, _, _, _, h, _, _ => by simp at h
 | _ :: _, [], _, _, _, _, h, _ => by simp at h
 | p :: P, w :: vs, 0, m, nd, h1, h2, hk => by
  simp at h1 h2; subst h1; subst h2
  show bindL kindOf ((p, w) :: P.zip vs) m p = _
  unfold bindL
  rw [s8 fun v hv => (List.nodup_cons.mp nd).1 (List.of_mem_zip hv).1, if_pos hk]
  simp
 | p :: P, w :: vs, i + 1, m, nd, h1, h2, hk => by
  show bindL kindOf ((p, w) :: P.zip vs) m x = _
  unfold bindL
  exact sX (i := i) (List.nodup_cons.mp nd).2 (by simpa using h1) (by simpa using h2) hk
theorem sW {kindOf : Str -> Option NameKind} {x : Str} {v : Value} : ∀ {P : List Str} {vs : List Value} {i : Nat} {m : Str -> Option Value}, P.Nodup -> P[i]? = some x -> vs[i]? = some v -> kindOf x ≠ some .local ->
  bindC kindOf (P.zip vs) m x = some v
 | [], _, _, _, _, h, _, _ => by simp at h
 | _ :: _, [], _, _, _, _, h, _ => by simp at h
 | p :: P, w :: vs, 0, m, nd, h1, h2, hk => by
  simp at h1 h2; subst h1; subst h2
  show bindC kindOf ((p, w) :: P.zip vs) m p = _
  unfold bindC
  rw [tF fun v hv => (List.nodup_cons.mp nd).1 (List.of_mem_zip hv).1, if_neg hk]
  simp
 | p :: P, w :: vs, i + 1, m, nd, h1, h2, hk => by
  show bindC kindOf ((p, w) :: P.zip vs) m x = _
  unfold bindC
  exact sW (i := i) (List.nodup_cons.mp nd).2 (by simpa using h1) (by simpa using h2) hk
def start (N : List Str) (vs : List V) : St := vs.map some ++ List.replicate (N.length - vs.length) none
def pJ (CX : CXT) (P : Program) (w : World) (K : PySem.W.Frag) (mg : Str -> Option Value) (base : Heap) (N : List Str) (qual : Str) (scope : Scope) (f : Addr) (cd : Value) (A : Around) (outer : List Env) (s : Shared) (H : Hp) (E : XK) : Cx where
 prog := P
 w := w
 K := K
 mg := mg
 base := base
 A := A.deeper (envOfC qual scope s.heap.objs.size f cd)
 N := N
 s₀ := s
 H₀ := H
 env := envOfC qual scope s.heap.objs.size f cd
 outer := outer
 stack := envOfC qual scope s.heap.objs.size f cd :: outer
 ex := []
 calm := true
 fn := fun _ => true
 pn := []
 xe := fun e s' => wpAny (model P w) (A.deeper (envOfC qual scope s.heap.objs.size f cd)) (leaving (envOfC qual scope s.heap.objs.size f cd) e) (fun _ s'' => CX outer H s E e s'') (fun e' s'' => CX outer H s E e' s'') s'
theorem vM {sc : Scope} {n : Nat} {x : Str} (h : sc.names.lookup x = some .cell) : ∃ c, (cellsFrom n sc.names []).lookup x = some c := by
 have q := PySem.W.cellsFrom_some sc.names n [] (.inl h)
 exact Option.isSome_iff_exists.mp q
theorem zN {CX : CXT} {P : Program} {w : World} {K : PySem.W.Frag} {mg : Str -> Option Value} {base : Heap} {N ps : List Str} {qual : Str} {scope : Scope} {f : Addr} {cd : Value} {A : Around} {outer : List Env} {s s1 : Shared} {H : Hp} {E : XK} {us : List Value} {vs : List V}
  (S : aX N ps scope) (hd : A.handled = none) (e0 : aLl P w K mg base A outer s H) (hl : vs.length = ps.length) (r : Vals vs us)
  (x : InCallC s s.heap.objs.size (bindL (envOfC qual scope s.heap.objs.size f cd).kindOf (ps.zip us) fun _ => none) (cellsFrom (s.heap.objs.size + 1) scope.names []) (bindC (envOfC qual scope s.heap.objs.size f cd).kindOf (ps.zip us) fun _ => none) s1) :
  Inv (pJ CX P w K mg base N qual scope f cd A outer s H E) [] (start N vs) H s1 := by
 have hpl : ps.length <= N.length := by have := congrArg List.length S.pre; rw [List.length_take] at this; omega
 obtain ⟨h1, tk, rfl, hk⟩ := x.done
 have noA : ∀ b : Addr, b ∉ (pJ CX P w K mg base N qual scope f cd A outer s H E).ex := fun b z => absurd (show b ∈ ([] : List Addr) from z) (by simp)
 refine ⟨⟨e0.mod, S.kind, rfl, rfl, Nat.le_refl _, fun y z c h1 h2 => ?_, fun y hy => ?_, fun y c _ h => ?_, fun _ => hd, Around.frames_deeper e0.frames, .inr ⟨rfl, rfl⟩, fun b z => absurd z (noA b), e0.bs, e0.bsz, fun b _ _ => noA b, fun b z => absurd z (noA b), e0.funs, e0.frf⟩,
  rfl, e0.bare, Un.kept hk, ⟨_, x.toInCall.ns, fun i y v h1 h2 h3 => ?_⟩, fun y c h => ⟨_, x.cell y c h⟩, e0.hok.fresh (Nat.le_refl _), fun y c h => ?_, fun p hp => absurd (show p ∈ ([] : List (Addr × Obj)) from hp) (by simp), e0.hok.kept hk, ?_⟩
 ·exact name_of_addr x.apart (PySem.mem_of_lookup h1) (PySem.mem_of_lookup h2)
 ·have hy : scope.names.lookup y = some .cell \/ scope.names.lookup y = some .free := hy
  rcases hy with hy | hy
  ·exact vM hy
  ·exact absurd rfl (S.nofree _ (PySem.mem_of_lookup hy))
 ·exact Nat.le_of_lt (x.above y c (PySem.mem_of_lookup h))
 ·have hi : i < vs.length := by
   unfold start at h2
   by_cases hi : i < vs.length
   ·exact hi
   ·rw [List.getElem?_append_right (by simpa using hi)] at h2
    rw [List.getElem?_replicate] at h2
    split at h2 <;> cases h2
  have ha : vs[i]? = some v := by
   unfold start at h2
   rw [List.getElem?_append_left (by simpa using hi), List.getElem?_map] at h2
   cases e : vs[i]? with
   | none => rw [e] at h2; cases h2
   | some a => rw [e] at h2; cases h2; rfl
  obtain ⟨u, hu, rv⟩ := r.get ha
  have hp : ps[i]? = some y := by
   rw [<- S.pre, List.getElem?_take_of_lt (by omega)]; exact h1
  have ndP : ps.Nodup := by rw [<- S.pre]; exact S.nd.sublist (List.take_sublist _ _)
  refine ⟨u, rv, ?_⟩
  rcases S.par y (List.mem_of_getElem? hp) with k | k
  ·exact .inl ⟨k, sX ndP hp hu k⟩
  ·obtain ⟨c, e⟩ := vM (n := s.heap.objs.size + 1) k
   refine .inr ⟨.inl k, c, e, ?_⟩
   have q := x.cell y c e
   rw [sW ndP hp hu (by show scope.names.lookup y ≠ _; rw [k]; decide)] at q
   exact q
 ·exact e0.hok.fresh (Nat.le_of_lt (x.above y c (PySem.mem_of_lookup h)))
 ·unfold start
  show _ = N.length
  rw [List.length_append, List.length_map, List.length_replicate]
  omega
theorem aL3 {CX : CXT} {P : Program} {w : World} {K : PySem.W.Frag} {mg : Str -> Option Value} {base : Heap} {k : Nat} {f : Addr} {name qual : Str} {params : Arguments} {body : List Stmt} {scope : Scope} {dV kV doc pm cdv ct oc : Value} {an od : Option Addr}
  {osl : Array (Option Value)} {N ps : List Str} {sp : Sp} (lk : K.lookup f = some ⟨oc, od, .func (PySem.W.fnOf name qual params body scope dV kV doc pm an cdv ct), osl⟩) (hcd : PySem.W.codeIn K cdv qual = true) (S : aX N ps scope)
  (len : ∀ vs H Q E, sp vs H Q E -> vs.length = ps.length)
  (hbody : ∀ (A : Around) (outer : List Env) (s : Shared) (H : Hp) (vs : List V) (Q : VK) (E : XK), Room k (A.deeper (envOfC qual scope s.heap.objs.size f cdv)) -> sp vs H Q E ->
   ∃ t, PSs (pJ CX P w K mg base N qual scope f cdv A outer s H E) body t /\ t { nx := fun _ H' => Q .non H', rt := Q } (start N vs) H) :
  FnOk P w K mg base CX (k + 1) f (PySem.W.fnOf name qual params body scope dV kV doc pm an cdv ct) ps sp := by
 refine ⟨len, fun A outer s H args us vs Q E hr e0 hb r hsp => ?_⟩
 have hl := len _ _ _ _ hsp
 have KX : K.In s.heap := e0.mod.kin.keeps fun b o e => (e0.bs b o e).1
 have lim : s.heap.NoLimit := e0.mod.nolimit.keeps fun b o e => (e0.bs b o e).1
 have hkind : ∀ y ∈ ps.zip us, scope.names.lookup y.1 = some .local \/ (scope.names.lookup y.1 = some .cell /\ ((cellsFrom (s.heap.objs.size + 1) scope.names []).lookup y.1).isSome = true) := fun ⟨n, v⟩ hy => by
  rcases S.par n (List.of_mem_zip hy).1 with q | q
  ·exact .inl q
  ·exact .inr ⟨q, PySem.W.cellsFrom_some _ _ _ (.inl q)⟩
 refine codeAny_call_function hr.depth (KX _ _ lk) rfl S.co S.gen rfl (PySem.W.codeRec_of KX hcd) (hb _ _ _ _ ?_)
 refine wpAny_newFunctionEnv_cells S.kind hkind fun env he s1 x => ?_
 subst he
 refine ⟨lim.keeps x.toInCall.keep, codeAny_func ?_⟩
 obtain ⟨t, ht, hq⟩ := hbody A outer s H vs Q E (hr.deeper _) hsp
 have I : Inv (pJ CX P w K mg base N qual scope f cdv A outer s H E) [] (start N vs) H s1 := zN S hr.hd e0 hl r x
 refine wpAny_mono (ht [] s1 (start N vs) H _ I hq) (fun fl s' hs => ?_) fun e s' hs => hs
 have fin : ∀ {σ' : St} {H' : Hp} {v : V} {u : Value}, Inv (pJ CX P w K mg base N qual scope f cdv A outer s H E) [] σ' H' s' -> RelV v u -> Q v H' -> CE outer P w H s Q u s' :=
  fun {σ' H' v u} J rv q => ⟨v, H', J.os, J.bare, J.base, J.hok, rv, q⟩
 cases fl with
 | ret u =>
  obtain ⟨v, σ', H', J, rv, q⟩ := hs
  exact fin J rv q
 | next =>
  obtain ⟨σ', H', J, q⟩ := hs
  exact fin (v := V.non) (u := Value.none) J rfl q
 | brk =>
  obtain ⟨_, _, _, q⟩ := hs
  exact False.elim q
 | cont =>
  obtain ⟨_, _, _, q⟩ := hs
  exact False.elim q
section
variable {X : Cx} {x : Str} {p pos : Pos} {e : Expr} {es : List Expr} {t : TA} {id T : String} {r : List V -> Hp -> VK -> Prop}
def tCB (r : List V -> Hp -> VK -> Prop) (t : TA) : TE := fun σ H Q => t σ H fun vs H1 => r vs H1 Q
theorem v9 (hc : nD X (.builtin id) r) (hg : Gl X x) (hm : X.mg x = none) (hv : bootBuiltins x = some (.builtin id)) (ha : PA X (e :: es) t) (hn : x ≠ "__name__" := by decide) (hdb : (x == ("__debug__" : Str)) = false := by decide)
  (he : starEach (e :: es) X.env = (false, eval e X.env) :: starEach es X.env := by rfl) (hpl : (backTo pos (starEach es X.env)).any (·.1) = false := by rfl) : PE X (.Call (.Name x p) (e :: es) [] pos) (tCB r t) := by
 intro pins s σ H Q I h
 refine wpAny_Call_Name_kw (l9 I hg hm hv ?_ hn hdb)
 exact PyProof.Rows.callWith_builtin1 (thn (ha pos pins s σ H _ I h) fun us s1 ⟨vs, H1, I1, r1, q1⟩ => hc pins s1 σ H1 vs us Q I1 r1 q1) he hpl
theorem aB1 (hc : nD X (.type T) r) (hg : Gl X x) (hm : X.mg x = none) (hv : bootBuiltins x = some (.type T)) (ha : PA X (e :: es) t) (hn : x ≠ "__name__" := by decide) (hdb : (x == ("__debug__" : Str)) = false := by decide)
  (he : starEach (e :: es) X.env = (false, eval e X.env) :: starEach es X.env := by rfl) (hpl : (backTo pos (starEach es X.env)).any (·.1) = false := by rfl) : PE X (.Call (.Name x p) (e :: es) [] pos) (tCB r t) := by
 intro pins s σ H Q I h
 refine wpAny_Call_Name_kw (l9 I hg hm hv ?_ hn hdb)
 exact PyProof.Rows.callWith_type1 (thn (ha pos pins s σ H _ I h) fun us s1 ⟨vs, H1, I1, r1, q1⟩ => hc pins s1 σ H1 vs us Q I1 r1 q1) he hpl
end
end L2
namespace HT
open PySem PyProof.Rows
def lexLt : List Int -> List Int -> Bool
 | [], [] => false
 | [], _ :: _ => true
 | _ :: _, [] => false
 | x :: xs, y :: ys => if x = y then lexLt xs ys else decide (x < y)
theorem j4 (x y : Int) (xs ys : List Int) : lexLt (x :: xs) (y :: ys) = if x = y then lexLt xs ys else decide (x < y) := rfl
section
open PySem.SeqAt
open PySem.AutoSeq1 (wpAny_loadPart')
open PySem.MeetsSeq PySem.MeetsSeq2 PySem.MeetsSeq3
end
section
variable {prog : Program} {w : World} {A : Around} {E : Value -> Shared -> Prop} {s : Shared}
def sIx (n d : Nat) : Option Int -> Nat
 | none => d
 | some v => if v < 0 then (v + (n : Int)).toNat else min v.toNat n
theorem aAo (n d k : Nat) : sIx n d (some (k : Int)) = min k n := by
 show (if (k : Int) < 0 then ((k : Int) + (n : Int)).toNat else min (k : Int).toNat n) = min k n
 rw [if_neg (by omega), Int.toNat_natCast]
end
end HT
namespace L2
open PySem PySem.Spec PyProof.Rows
abbrev TO := St -> Hp -> (Option Int -> Hp -> Prop) -> Prop
def PO (X : Cx) (e : Option Expr) (t : TO) : Prop :=
 ∀ (pins : List (Addr × Obj)) (s : Shared) (σ : St) (H : Hp) (Q : Option Int -> Hp -> Prop), Inv X pins σ H s -> t σ H Q ->
  wpAny (model X.prog X.w) X.A (evalPart e X.env) (fun u s' => ∃ o H', Inv X pins σ H' s' /\ IsPart u o /\ Q o H') X.xe s
def aM6 (t : TE) : TO := fun σ H Q => t σ H fun x H1 => ∃ i, x = .int i /\ Q (some i) H1
theorem intsAre_of {ns : List Int} : ∀ {us : List Value}, Vals (ns.map V.int) us -> IntsAre us ns := by
 induction ns with
 | nil => intro us r; rw [List.map_nil] at r; cases r; exact .nil
 | cons n ns ih =>
  intro us r
  rw [List.map_cons] at r
  cases r with
  | cons r1 r2 =>
   obtain ⟨t, e⟩ := r1
   subst e
   exact .cons n t (ih r2)
section
variable {X : Cx} {e : Expr} {te : TE} {lo hi : Option Expr} {tl th : TO} {pos p2 : Pos}
theorem aG1 (h : PE X e te) : PO X (some e) (aM6 te) := by
 intro pins s σ H Q I hw
 rw [evalPart_some]
 refine thn (h pins s σ H _ I hw) fun u s1 ⟨x, H1, I1, r1, q1⟩ => ?_
 obtain ⟨i, rfl, q⟩ := q1
 obtain ⟨t, rfl⟩ := r1
 exact ⟨some i, H1, I1, .int i t, q⟩
def SlR (X : Cx) (r : V -> Option Int -> Option Int -> Hp -> VK -> Prop) : Prop :=
 ∀ (pins : List (Addr × Obj)) (s : Shared) (σ : St) (H : Hp) (x : V) (v vl vu : Value) (lo hi : Option Int) (sl : Addr) (Q : VK), Inv X pins σ H s -> RelV x v -> s.heap.IsSliceOf sl vl vu .none -> IsPart vl lo -> IsPart vu hi -> r x lo hi H Q ->
  ∃ T id, typeLookup (.type T) "__getitem__" = pure (some (.builtin id)) /\ s.TypeIs v T /\ wpAny (model X.prog X.w) X.A (getItem v (.ref sl)) (EP X pins σ Q) X.xe s
def tSl (r : V -> Option Int -> Option Int -> Hp -> VK -> Prop) (te : TE) (tl th : TO) : TE := fun σ H Q => te σ H fun x H1 => tl σ H1 fun l H2 => th σ H2 fun u H3 => r x l u H3 Q
theorem aCs {r : V -> Option Int -> Option Int -> Hp -> VK -> Prop} (hr : SlR X r) (he : PE X e te) (hl : PO X lo tl) (hu : PO X hi th) : PE X (.Subscript e (.Slice lo hi none p2) pos) (tSl r te tl th) := by
 intro pins s σ H Q I h
 refine Subscript_ (thn (he pins s σ H _ I h) fun v s1 ⟨x, H1, I1, r1, q1⟩ => ?_)
 refine wpAny_Slice (thn (hl pins s1 σ H1 _ I1 q1) fun vl s2 ⟨l, H2, I2, pl, q2⟩ => thn (hu pins s2 σ H2 _ I2 q2) fun vu s3 ⟨u, H3, I3, pu, q3⟩ => ?_)
 rw [evalPart_none]
 refine wpAny_pure ?_
 have I4 : Inv X pins σ H3 { s3 with heap := s3.heap.push { cls := .type "slice", data := .fields #[vl, vu, .none] } } := I3.kept (t' := s3.toks) fun b ob q => Heap.get?_push_of_some _ q
 obtain ⟨T, id, hT, ht, hg⟩ := hr pins { s3 with heap := s3.heap.push { cls := .type "slice", data := .fields #[vl, vu, .none] } } σ H3 x v vl vu l u s3.heap.objs.size Q I4 r1 (Heap.IsSliceOf.new ..) pl pu q3
 show wpAny (model X.prog X.w) X.A (subscriptTail e (.Slice lo hi none p2) v (.ref s3.heap.objs.size)) (EP X pins σ Q) X.xe { s3 with heap := s3.heap.push { cls := .type "slice", data := .fields #[vl, vu, .none] } }
 exact tail_any (ops := [.ref s3.heap.objs.size, v]) ht hT hg (by with_unfolding_all rfl)
def aH3 (xs : List V) (lo hi : Option Int) : List V := (xs.drop (HT.sIx xs.length 0 lo)).take (HT.sIx xs.length xs.length hi - HT.sIx xs.length 0 lo)
theorem u5 (xs : List V) (lo hi : Option Int) : (aH3 xs lo hi).length <= xs.length := by
 unfold aH3
 rw [List.length_take, List.length_drop]
 omega
end
def ixN (n : Nat) (i : Int) : Option Nat := if 0 <= i then (if i < n then some i.toNat else none) else if -(n : Int) <= i then some (i + n).toNat else none
def atI {α : Type} (xs : List α) (i : Int) : Option α := (ixN xs.length i).bind fun j => xs[j]?
theorem aFr {n : Nat} {i : Int} {j : Nat} (h : ixN n i = some j) : seqIndex? i n = some j /\ j < n /\ -(n : Int) <= i /\ i < n := by
 unfold ixN at h
 by_cases h0 : 0 <= i
 ·rw [if_pos h0] at h
  by_cases h1 : i < n
  ·rw [if_pos h1] at h
   have e : i.toNat = j := Option.some.inj h
   exact ⟨by rw [seqIndex_of h0 h1, e], by omega, by omega, h1⟩
  ·rw [if_neg h1] at h; cases h
 ·rw [if_neg h0] at h
  by_cases h1 : -(n : Int) <= i
  ·rw [if_pos h1] at h
   have e : (i + n).toNat = j := Option.some.inj h
   exact ⟨by rw [seqIndex_neg (by omega) h1, e], by omega, h1, by omega⟩
  ·rw [if_neg h1] at h; cases h
theorem y6 {α : Type} {xs : List α} {i : Int} {v : α} (h : atI xs i = some v) : ∃ j, seqIndex? i xs.length = some j /\ xs[j]? = some v /\ j < xs.length /\ -(xs.length : Int) <= i /\ i < xs.length := by
 unfold atI at h
 cases e : ixN xs.length i with
 | none => rw [e] at h; cases h
 | some j =>
  rw [e] at h
  obtain ⟨h1, h2, h3, h4⟩ := aFr e
  exact ⟨j, h1, h, h2, h3, h4⟩
theorem nQ {α : Type} {xs : List α} {j : Nat} {v : α} (h : xs[j]? = some v) : atI xs (j : Int) = some v := by
 have hj : j < xs.length := (List.getElem?_eq_some_iff.mp h).1
 have e : ixN xs.length (j : Int) = some j := by
  unfold ixN
  rw [if_pos (by omega), if_pos (by omega)]; simp
 unfold atI; rw [e]; exact h
def aBu (b : Expr) : Prop := ∀ o i, subscripted b false o i = operate [o, i] (getItem o i)
def IxR (X : Cx) (r : R2) : Prop :=
 ∀ (value slice : Expr) (pins : List (Addr × Obj)) (s : Shared) (σ : St) (H : Hp) (x y : V) (v u : Value) (Q : VK), Inv X pins σ H s -> RelV x v -> RelV y u -> r x y H Q ->
  subscripted slice false v u = operate [v, u] (getItem v u) -> wpAny (model X.prog X.w) X.A (subscriptTail value slice v u) (EP X pins σ Q) X.xe s
def MtR (X : Cx) (id : String) (r : V -> List V -> Hp -> VK -> Prop) : Prop :=
 ∀ (pins : List (Addr × Obj)) (s : Shared) (σ : St) (H : Hp) (x : V) (xs : List V) (v : Value) (us : List Value) (Q : VK), Inv X pins σ H s -> RelV x v -> Vals xs us -> r x xs H Q ->
  wpAny (model X.prog X.w) X.A (call (.builtin id) (v :: us)) (EP X pins σ Q) X.xe s
section
variable {X : Cx} {a b : Expr} {ta tb : TE} {pos : Pos}
theorem IxR.or {r r' : R2} (h : IxR X r) (h' : IxR X r') : IxR X (fun x y H Q => r x y H Q \/ r' x y H Q) := by
 intro value slice pins s σ H x y v u Q I rx ry q hs
 rcases q with q | q
 ·exact h value slice pins s σ H x y v u Q I rx ry q hs
 ·exact h' value slice pins s σ H x y v u Q I rx ry q hs
theorem aEd {r : R2} (hr : IxR X r) (ha : PE X a ta) (hb : PE X b tb) (hs : aBu b) : PE X (.Subscript a b pos) (tOp r ta tb) := by
 intro pins s σ H Q I h
 exact Subscript_ (aMl ha hb I h fun v u s2 x y H2 I2 rx ry q => hr a b pins s2 σ H2 x y v u Q I2 rx ry q (hs _ _))
def aNg (K : PySem.W.Frag) : R2 := fun x y H Q => ∃ p xs i v, x = .ref p /\ y = .int i /\ SqL K H p xs /\ atI xs i = some v /\ Q v H
def aNm (K : PySem.W.Frag) : R2 := fun x y H Q => ∃ p xs i v, x = .ref p /\ y = .int i /\ SqT K H p xs /\ atI xs i = some v /\ Q v H
theorem ix_list : IxR X (aNg X.K) := by
 intro value slice pins s σ H x y v u Q I rx ry h hs
 obtain ⟨p, xs, i, z, rfl, rfl, hq, he, q⟩ := h
 cases rx
 obtain ⟨t, rfl⟩ := ry
 obtain ⟨its, r, pl, hz⟩ := I.list hq
 obtain ⟨j, h1, h2, h3, h4, h5⟩ := y6 he
 obtain ⟨w, ew, rw'⟩ := r.get h2
 have hl := r.length
 have hn := xG
 have fin : EP X pins σ Q w s := ⟨z, H, I, rw', q⟩
 by_cases h0 : 0 <= i
 ·have hj : i.toNat = j := by
   rw [seqIndex_of h0 h5] at h1
   exact Option.some.inj h1
  exact item_listR pl.isList h0 (by omega) (by rw [hj]; simpa using ew) fin hs
 ·have hj : (i + (its.toArray.size : Int)).toNat = j := by
   rw [seqIndex_neg (by omega) h4] at h1
   rw [List.size_toArray, <- hl]
   exact Option.some.inj h1
  exact subscriptTail_builtinR (x := w) pl.isList.typeIs slot_list_getitem.lookup
   (wpAny_getItem_list_neg (Q := fun r s' => r = w /\ EP X pins σ Q r s') pl.isList (by omega) (by rw [List.size_toArray] <;> omega) (by omega) (by rw [hj]; simpa using ew) ⟨rfl, fin⟩) hs
theorem aLi : IxR X (aNm X.K) := by
 intro value slice pins s σ H x y v u Q I rx ry h hs
 obtain ⟨p, xs, i, z, rfl, rfl, hq, he, q⟩ := h
 cases rx
 obtain ⟨t, rfl⟩ := ry
 obtain ⟨its, r, pl, hz⟩ := I.tuple hq
 obtain ⟨j, h1, h2, h3, h4, h5⟩ := y6 he
 obtain ⟨w, ew, rw'⟩ := r.get h2
 have hl := r.length
 have hn := xG
 have fin : EP X pins σ Q w s := ⟨z, H, I, rw', q⟩
 exact subscriptTail_builtinR (x := w) pl.typeIs slot_tuple_getitem.lookup
  (getItem_tuple (j := j) (Q := fun r s' => r = w /\ EP X pins σ Q r s') pl (by omega) (by omega) (by rw [List.size_toArray, <- hl]; exact h1) (by simpa using ew) ⟨rfl, fin⟩) hs
theorem sA (lo hi : Option Int) (n : Nat) : (sliceBounds lo hi none n).1 = ((HT.sIx n 0 lo : Nat) : Int) /\ (sliceBounds lo hi none n).2.1 = ((HT.sIx n n hi : Nat) : Int) /\ (sliceBounds lo hi none n).2.2 = 1 := by
 refine ⟨?_, ?_, rfl⟩
 ·cases lo with
  | none => simp [sliceBounds, HT.sIx]
  | some i =>
   simp only [sliceBounds, HT.sIx, Option.getD_none, show (1 : Int) > 0 by decide, if_true]
   by_cases h : i < 0
   ·simp only [h, if_true] <;> omega
   ·simp only [h, if_false] <;> omega
 ·cases hi with
  | none => simp [sliceBounds, HT.sIx]
  | some i =>
   simp only [sliceBounds, HT.sIx, Option.getD_none, show (1 : Int) > 0 by decide, if_true]
   by_cases h : i < 0
   ·simp only [h, if_true] <;> omega
   ·simp only [h, if_false] <;> omega
theorem qO (its : List Value) (lo hi : Option Int) : slicePick its.toArray lo hi none = ((its.drop (HT.sIx its.length 0 lo)).take (HT.sIx its.length its.length hi - HT.sIx its.length 0 lo)).toArray := by
 obtain ⟨h1, h2, h3⟩ := sA lo hi its.toArray.size
 unfold slicePick
 rw [h1, h2, h3]
 simp only [sliceRange_one, pick_run, List.size_toArray] <;> rfl
def aNr (K : PySem.W.Frag) : V -> Option Int -> Option Int -> Hp -> VK -> Prop := fun x lo hi H Q => ∃ a xs, x = .ref a /\ SqL K H a xs /\ ∀ p, H p = none -> Q (.ref p) (upd H p (.lst (aH3 xs lo hi)))
theorem aGp : SlR X (aNr X.K) := by
 intro pins s σ H x v vl vu lo hi sl Q I rx hs pl pu h
 obtain ⟨a, xs, rfl, hx, q⟩ := h
 cases rx
 obtain ⟨its, r, ht, hz⟩ := I.list hx
 have hlen := r.length
 refine ⟨"list", _, slot_list_getitem.lookup, ht.isList.typeIs, ?_⟩
 refine wpAny_getItem_list_slice ht.isList hs pl pu .none (by simp) ?_ (by rw [List.size_toArray] <;> omega)
 rw [qO, <- hlen]
 refine ⟨.ref s.heap.objs.size, _, I.laid (t' := s.toks) (o := .lst (aH3 xs lo hi)) (fun b ob q => Heap.get?_push_of_some _ q) (Nat.le_refl _) ?_, rfl, q _ (I.hok.fresh (Nat.le_refl _))⟩
 exact ⟨Nat.le_trans (u5 xs lo hi) hz, _, 0, (r.drop (HT.sIx xs.length 0 lo)).take (HT.sIx xs.length xs.length hi - HT.sIx xs.length 0 lo), Heap.get?_push_size _ rfl⟩
def oD : V -> Bool
 | .non => true
 | .bl _ => true
 | .int _ => true
 | .str _ => true
 | _ => false
def eqV : V -> V -> Bool
 | .non, .non => true
 | .bl a, .bl b => a == b
 | .bl a, .int b => (if a then 1 else 0) == b
 | .int a, .bl b => a == (if b then 1 else 0)
 | .int a, .int b => a == b
 | .str a, .str b => a == b
 | _, _ => false
theorem aK0 {A : Around} {s : Shared} {y x : V} {u v : Value} (ry : RelV y u) (rx : RelV x v) (fy : oD y = true) (fx : oD x = true) : SeqAt.EqAt A s u v (eqV y x) := by
 cases y with
 | non =>
  cases ry
  cases x with
  | non => cases rx; exact SeqAt.EqAt.same _
  | bl b => cases rx; exact SeqAt.EqAt.none_bool b
  | int b => obtain ⟨t, rfl⟩ := rx; exact SeqAt.EqAt.none_int b t
  | str b => obtain ⟨t, rfl⟩ := rx; exact SeqAt.EqAt.none_str b t
  | _ => exact absurd (show false = true from fx) Bool.false_ne_true
 | bl a =>
  cases ry
  cases x with
  | non => cases rx; exact SeqAt.EqAt.bool_none a
  | bl b => cases rx; exact SeqAt.EqAt.bool_bool a b
  | int b => obtain ⟨t, rfl⟩ := rx; exact SeqAt.EqAt.bool_int a b t
  | str b => obtain ⟨t, rfl⟩ := rx; exact SeqAt.EqAt.bool_str a b t
  | _ => exact absurd (show false = true from fx) Bool.false_ne_true
 | int a =>
  obtain ⟨t', rfl⟩ := ry
  cases x with
  | non => cases rx; exact SeqAt.EqAt.int_none a t'
  | bl b => cases rx; exact SeqAt.EqAt.int_bool a t' b
  | int b => obtain ⟨t, rfl⟩ := rx; exact SeqAt.EqAt.int_int a t' b t
  | str b => obtain ⟨t, rfl⟩ := rx; exact SeqAt.EqAt.int_str a t' b t
  | _ => exact absurd (show false = true from fx) Bool.false_ne_true
 | str a =>
  obtain ⟨t', rfl⟩ := ry
  cases x with
  | non => cases rx; exact SeqAt.EqAt.str_none a t'
  | bl b => cases rx; exact SeqAt.EqAt.str_bool a t' b
  | int b => obtain ⟨t, rfl⟩ := rx; exact SeqAt.EqAt.str_int a t' b t
  | str b => obtain ⟨t, rfl⟩ := rx; exact SeqAt.EqAt.str_str a t' b t
  | _ => exact absurd (show false = true from fx) Bool.false_ne_true
 | _ => exact absurd (show false = true from fy) Bool.false_ne_true
def eqU (x : V) (u : Value) : Bool := match u with
 | .none => eqV .non x
 | .bool b => eqV (.bl b) x
 | .int i _ => eqV (.int i) x
 | .str z _ => eqV (.str z) x
 | _ => false
theorem aFn {x y : V} {u : Value} (r : RelV y u) (f : oD y = true) : eqU x u = eqV y x := by
 cases y with
 | non => cases r; rfl
 | bl b => cases r; rfl
 | int i => obtain ⟨t, rfl⟩ := r; rfl
 | str z => obtain ⟨t, rfl⟩ := r; rfl
 | _ => exact absurd (show false = true from f) Bool.false_ne_true
theorem tR {x : V} : ∀ {xs : List V} {us : List Value}, Vals xs us -> xs.all oD = true -> us.any (eqU x) = xs.any fun y => eqV y x
 | _, _, .nil, _ => rfl
 | y :: xs, u :: us, .cons r t, f => by
  rw [List.all_cons, Bool.and_eq_true] at f
  rw [List.any_cons, List.any_cons, aFn r f.1, tR t f.2]
theorem rH {A : Around} {s : Shared} {x : V} {v : Value} (rx : RelV x v) (fx : oD x = true) : ∀ {xs : List V} {us : List Value}, Vals xs us -> xs.all oD = true -> ∀ u ∈ us, SeqAt.EqAt A s u v (eqU x u)
 | _, _, .nil, _ => fun u hu => by cases hu
 | y :: xs, u :: us, .cons r t, f => fun u' hu => by
  rw [List.all_cons, Bool.and_eq_true] at f
  rcases List.mem_cons.mp hu with rfl | hu
  ·rw [aFn r f.1]; exact aK0 r rx f.1 fx
  ·exact rH rx fx t f.2 u' hu
def inV (x : V) (xs : List V) : Bool := xs.any fun y => eqV y x
def rIn (K : PySem.W.Frag) (neg : Bool) : R2 := fun x y H Q => ∃ p xs, y = .ref p /\ (SqL K H p xs \/ SqT K H p xs) /\ oD x = true /\ xs.all oD = true /\ Q (.bl (if neg then !inV x xs else inV x xs)) H
theorem rV : OpR X (compareOp .NotIn) (rIn X.K true) := by
 intro pins s σ H x y v u Q I rx ry h
 obtain ⟨p, xs, rfl, hq, fx, fs, q⟩ := h
 cases ry
 rcases hq with hq | hq
 ·obtain ⟨its, r, pl, hz⟩ := I.list hq
  refine SeqAt.notIn_listAt (eqU x) pl.isList (fun w hw => rH rx fx r fs w (by simpa using hw)) ⟨.bl _, H, I, rfl, ?_⟩
  rw [show its.toArray.any (eqU x) = its.any (eqU x) by simp, tR r fs]
  exact q
 ·obtain ⟨its, r, pl, hz⟩ := I.tuple hq
  refine SeqAt.notIn_tupleAt (eqU x) pl (fun w hw => rH rx fx r fs w (by simpa using hw)) ⟨.bl _, H, I, rfl, ?_⟩
  rw [show its.toArray.any (eqU x) = its.any (eqU x) by simp, tR r fs]
  exact q
theorem a9 : nD X (.builtin "len") (fun xs H Q => ∃ p ys, xs = [.ref p] /\ (SqL X.K H p ys \/ SqT X.K H p ys) /\ Q (.int ys.length) H) := by
 intro pins s σ H xs us Q I r h
 obtain ⟨p, ys, rfl, hq, q⟩ := h
 obtain ⟨u, rfl, rx⟩ := vals1 r
 cases rx
 have hn := xG
 rcases hq with hq | hq
 ·obtain ⟨its, r', pl, hz⟩ := I.list hq
  have hlen := r'.length
  exact Calls.call_len_list pl.isList (by simp only [List.size_toArray] <;> omega) ⟨.int ys.length, H, I.tok _, ⟨s.toks + 1, by rw [List.size_toArray, hlen]⟩, q⟩
 ·obtain ⟨its, r', pl, hz⟩ := I.tuple hq
  have hlen := r'.length
  exact len_tuple pl (by simp only [List.size_toArray] <;> omega) ⟨.int ys.length, H, I.tok _, ⟨s.toks + 1, by rw [List.size_toArray, hlen]⟩, q⟩
theorem mH : nD X (.type "list") (fun xs H Q => ∃ p ys, xs = [.ref p] /\ (SqL X.K H p ys \/ SqT X.K H p ys) /\ ∀ l, H l = none -> Q (.ref l) (upd H l (.lst ys))) := by
 intro pins s σ H xs us Q I r h
 obtain ⟨p, ys, rfl, hq, q⟩ := h
 obtain ⟨u, rfl, rx⟩ := vals1 r
 cases rx
 have fin : ∀ (its : List Value), Vals ys its -> ys.length <= sizeLine -> ∀ (h' : Heap) (c' : Nat), (∀ b o', s.heap.get? b = some o' -> h'.get? b = some o') ->
   h'.get? s.heap.objs.size = some { cls := .type "list", dict := none, data := .seq its.toArray c', slots := #[] } -> EP X pins σ Q (.ref s.heap.objs.size) { s with heap := h' } := fun its r' hz h' c' kp e =>
  ⟨.ref s.heap.objs.size, _, I.laid (t' := s.toks) kp (Nat.le_refl _) (show ObjOk X.prog X.w _ h' _ (.lst ys) from ⟨hz, its, c', r', e⟩), rfl, q _ (I.hok.fresh (Nat.le_refl _))⟩
 rcases hq with hq | hq
 ·obtain ⟨its, r', pl, hz⟩ := I.list hq
  have hlen := r'.length
  obtain ⟨o, ho, hc, n, hd⟩ := pl.isList
  exact call_list_seq p (.inl rfl) ho hc hd (fun h' c' kp e => fin its r' hz h' c' kp e) (by simp only [List.size_toArray] <;> omega)
 ·obtain ⟨its, r', pl, hz⟩ := I.tuple hq
  have hlen := r'.length
  obtain ⟨o, ho, hc, n, hd⟩ := pl
  exact call_list_seq p (.inr rfl) ho hc hd (fun h' c' kp e => fin its r' hz h' c' kp e) (by simp only [List.size_toArray] <;> omega)
def tyV (K : PySem.W.Frag) (T : String) (x : V) (H : Hp) : Prop := match x with
 | .str _ => T = "str"
 | .int _ => T = "int"
 | .ref p => (T = "list" /\ ∃ xs, SqL K H p xs) \/ (T = "tuple" /\ ∃ o, K.lookup p = some o /\ o.cls = .type "tuple" /\ o.dict = none) \/
   (T = "dict" /\ ((∃ kvs, H p = some (.dK kvs)) \/ ∃ kvs, H p = some (.dT kvs))) \/ (T = "set" /\ ∃ S n, H p = some (.set S n))
 | _ => False
theorem aE5 {pins : List (Addr × Obj)} {σ : St} {H : Hp} {s : Shared} {T : String} {x : V} {v : Value} (I : Inv X pins σ H s) (r : RelV x v) (ty : tyV X.K T x H) :
  s.TypeIs v T /\ ∀ a, v = .ref a -> ∃ ob, s.heap.get? a = some ob /\ ob.dict = none := by
 cases x with
 | str z =>
  obtain ⟨t, rfl⟩ := r
  cases (show T = "str" from ty)
  exact ⟨typeIs_str s z t, fun _ e => nomatch e⟩
 | int i =>
  obtain ⟨t, rfl⟩ := r
  cases (show T = "int" from ty)
  exact ⟨typeIs_int s i t, fun _ e => nomatch e⟩
 | ref p =>
  cases r
  rcases ty with ⟨rfl, xs, hq⟩ | ⟨rfl, o, hk, hc, hd⟩ | ⟨rfl, hk⟩ | ⟨rfl, S, n, hk⟩
  ·obtain ⟨its, _, pl, _⟩ := I.list hq
   refine ⟨pl.isList.typeIs, fun a e => ?_⟩
   cases e
   obtain ⟨o, n, e, c, hd, _⟩ := pl
   exact ⟨o, e, hd⟩
  ·refine ⟨⟨o, I.kIn p o hk, hc⟩, fun a e => ?_⟩
   cases e
   exact ⟨o, I.kIn _ o hk, hd⟩
  ·have z : ∃ o, s.heap.get? p = some o /\ o.ExactDict := by
    rcases hk with ⟨kvs, hk⟩ | ⟨kvs, hk⟩
    ·obtain ⟨_, _, _, _, o, _, _, e, ex, _⟩ := I.hok p _ hk
     exact ⟨o, e, ex⟩
    ·obtain ⟨_, _, _, _, o, _, _, e, ex, _⟩ := I.hok p _ hk
     exact ⟨o, e, ex⟩
   obtain ⟨o, e, ex⟩ := z
   refine ⟨⟨o, e, ex.1⟩, fun a e2 => ?_⟩
   cases e2
   exact ⟨o, e, ex.2.1⟩
  ·obtain ⟨o, _, _, _, e, ex, _⟩ := I.hok p _ hk
   refine ⟨⟨o, e, ex.1⟩, fun a e2 => ?_⟩
   cases e2
   exact ⟨o, e, ex.2.1⟩
 | _ => exact False.elim ty
def aMx (K : PySem.W.Frag) (T : String) (r : V -> List V -> Hp -> VK -> Prop) (to : TE) : TE := fun σ H Q => to σ H fun x H1 => tyV K T x H1 /\ r x [] H1 Q
def tBM (K : PySem.W.Frag) (T : String) (r : V -> List V -> Hp -> VK -> Prop) (to : TE) (t : TA) : TE := fun σ H Q => to σ H fun x H1 => tyV K T x H1 /\ t σ H1 fun xs H2 => r x xs H2 Q
variable {o e : Expr} {es : List Expr} {to : TE} {t : TA} {name : Str} {apos cpos : Pos} {T id : String} {r : V -> List V -> Hp -> VK -> Prop}
theorem aEe (pa : PlainAttrs T) (slot : Slot T name id) (hty : typeOf (.builtin id) = pure (.type "method_descriptor")) (hm : MtR X id r) (ho : PE X o to)
  (hbase : attributeBase o name X.env (eval o X.env) = eval o X.env := by rfl) (hline : (apos.endLine == cpos.line) = true := by rfl) : PE X (.Call (.Attribute o name apos) [] [] cpos) (aMx X.K T r to) := by
 intro pins s σ H Q I h
 refine wpAny_Call_method0_late hbase hline (thn (ho pins s σ H _ I h) fun v s1 ⟨x, H1, I1, r1, ty, q1⟩ => ?_)
 obtain ⟨h1, h2⟩ := aE5 I1 r1 ty
 exact ⟨T, id, pa, slot, hty, h1, h2, Calls.callWith_builtin rfl (PySem.evalArgs_none (hm pins s1 σ H1 x [] v [] Q I1 r1 .nil q1))⟩
theorem mR (pa : PlainAttrs T) (slot : Slot T name id) (hty : typeOf (.builtin id) = pure (.type "method_descriptor")) (hm : MtR X id r) (ho : PE X o to) (ha : PA X (e :: es) t)
  (hbase : attributeBase o name X.env (eval o X.env) = eval o X.env := by rfl)
  (hfew : ((backTo cpos (starEach (e :: es) X.env)).all (fun x => !x.1) && (backToKw cpos (keywordEach [] X.env)).all (fun x => x.1.isSome)
   && decide ((e :: es).length + ([] : List Keyword).length + (if ([] : List Keyword).isEmpty then 0 else 1) < 30)) = true := by rfl)
  (hline : (apos.endLine == cpos.line) = true := by rfl) (hs : starEach (e :: es) X.env = (false, eval e X.env) :: starEach es X.env := by rfl) (hplain : (backTo cpos (starEach es X.env)).any (·.1) = false := by rfl) :
  PE X (.Call (.Attribute o name apos) (e :: es) [] cpos) (tBM X.K T r to t) := by
 intro pins s σ H Q I h
 refine wpAny_Call_method_late hbase hfew hline rfl (thn (ho pins s σ H _ I h) fun v s1 ⟨x, H1, I1, r1, ty, q1⟩ => ?_)
 obtain ⟨h1, h2⟩ := aE5 I1 r1 ty
 refine ⟨T, id, pa, slot, hty, h1, h2, ?_⟩
 have hA := ha cpos pins s1 σ H1 _ I1 q1
 rw [hs] at hA ⊢
 refine Calls.callWith_builtin (by show (false || (backTo cpos (starEach es X.env)).any (·.1)) = false; rw [hplain] <;> rfl) (Calls.evalArgs_plain ?_)
 exact thn hA fun us s2 ⟨vs, H2, I2, r2, q2⟩ => hm pins s2 σ H2 x vs v us Q I2 r1 r2 q2
end
def MtM (X : Cx) (id : String) (r : V -> List V -> Hp -> VK -> Prop) : Prop :=
 ∀ (pins : List (Addr × Obj)) (s : Shared) (σ : St) (H : Hp) (x : V) (xs : List V) (v : Value) (us : List Value) (Q : VK), Inv X pins σ H s -> RelV x v -> Vals xs us -> r x xs H Q ->
  wpAny (model X.prog X.w) X.A (call (.builtin id) (v :: us)) (EP X pins σ Q) X.xe s
theorem Vals.one : ∀ {x : V} {us : List Value}, Vals [x] us -> ∃ u, us = [u] /\ RelV x u
 | _, _, .cons r .nil => ⟨_, rfl, r⟩
theorem Vals.zero : ∀ {us : List Value}, Vals [] us -> us = []
 | _, .nil => rfl
theorem Vals.reverse {xs : List V} {us : List Value} (h : Vals xs us) : Vals xs.reverse us.reverse := by
 induction h with
 | nil => exact .nil
 | cons r t ih => rw [List.reverse_cons, List.reverse_cons]; exact Vals.append ih (.cons r .nil)
section
variable {X : Cx} {pins : List (Addr × Obj)} {σ : St} {H : Hp} {s : Shared} {l b : Addr} {xs ys zs : List V}
theorem Inv.lset {its its' : List Value} {n : Nat} {f : Array Value -> Array Value} {t' : Nat} (I : Inv X pins σ H s) (hH : H l = some (.lst xs))
  (e : s.heap.get? l = some { cls := .type "list", data := .seq its.toArray n }) (hf : f its.toArray = its'.toArray) (hv : Vals ys its') (hz : ys.length <= sizeLine) :
  Inv X pins σ (upd H l (.lst ys)) { s with heap := s.heap.update l (Obj.mapSeq f), toks := t' } := by
 have q := PySem.IsL.update e f
 rw [hf] at q
 refine I.write (x := l) (e := l) (by rw [hH]; exact trivial) (.inl rfl) (fun b' u hb hu => (Heap.get?_update_other s.heap (Obj.mapSeq f) (Ne.symm hb)).trans hu) ⟨_, q⟩ ?_
 exact ⟨hz, its', _, hv, q⟩
theorem Inv.lnew {its : List Value} {t' : Nat} (I : Inv X pins σ H s) (hv : Vals ys its) (hz : ys.length <= sizeLine) :
  Inv X pins σ (upd H s.heap.objs.size (.lst ys)) { s with heap := s.heap.push { cls := .type "list", data := .seq its.toArray }, toks := t' } :=
 I.laid (fun _ _ q => Heap.get?_push_of_some _ q) (Nat.le_refl _) ⟨hz, its, 0, hv, Heap.get?_push_size _ rfl⟩
theorem Inv.fresh (I : Inv X pins σ H s) : H s.heap.objs.size = none := I.hok.fresh (Nat.le_refl _)
theorem Inv.lstM (I : Inv X pins σ H s) (hH : H l = some (.lst xs)) : xs.length <= sizeLine /\ ∃ (its : List Value) (n : Nat), Vals xs its /\ xs.length = its.length /\ s.heap.get? l = some { cls := .type "list", data := .seq its.toArray n } := by
 obtain ⟨z, its, n, r, e⟩ := I.hok l _ hH
 exact ⟨z, its, n, r, r.length, e⟩
theorem xI {n : Nat} (h : n <= sizeLine) : Builtin.List.listTooLong n = false := by
 unfold Builtin.List.listTooLong
 exact decide_eq_false (by omega)
end
section
variable {X : Cx}
def uP : V -> List V -> Hp -> VK -> Prop := fun x vs H Q => ∃ l xs y, x = .ref l /\ vs = [y] /\ H l = some (.lst xs) /\ xs.length < sizeLine /\ Q .non (upd H l (.lst (xs ++ [y])))
theorem eS : MtM X "list.append" uP := by
 intro pins s σ H x vs v us Q I rx rv h
 obtain ⟨l, xs, y, rfl, rfl, hH, hz, q⟩ := h
 cases rx
 obtain ⟨u, rfl, ru⟩ := rv.one
 obtain ⟨z, its, n, r, hl, e⟩ := I.lstM hH
 refine call_meets F.slot_list_append ⟨_, e, rfl⟩ F.entry_list_append (F.args_list_append_2 _ _) (PySem.list_append l its.toArray n u (by rw [List.size_toArray]; omega)) ⟨e, ?_⟩
 refine ⟨.non, _, I.lset (its' := its ++ [u]) hH e (by simp) (r.append (.cons ru .nil)) ?_, rfl, q⟩
 rw [List.length_append, List.length_singleton]
 omega
def yH : V -> List V -> Hp -> VK -> Prop := fun x vs H Q => ∃ l b xs zs, x = .ref l /\ vs = [.ref b] /\ H l = some (.lst xs) /\ H b = some (.lst zs) /\ xs.length + zs.length <= sizeLine /\ Q .non (upd H l (.lst (xs ++ zs)))
theorem yW : MtM X "list.extend" yH := by
 intro pins s σ H x vs v us Q I rx rv h
 obtain ⟨l, b, xs, zs, rfl, rfl, hH, hB, hz, q⟩ := h
 cases rx
 obtain ⟨u, rfl, ru⟩ := rv.one
 cases ru
 obtain ⟨z, its, n, r, hl, e⟩ := I.lstM hH
 obtain ⟨z2, its2, n2, r2, hl2, e2⟩ := I.lstM hB
 have hsz : its.toArray.size + its2.toArray.size <= sizeLine := by rw [List.size_toArray, List.size_toArray]; omega
 have hlong : ¬ (!its.toArray.isEmpty && Builtin.List.listTooLong (its.toArray.size + its2.toArray.size)) = true := by
  rw [xI hsz, Bool.and_false]
  exact Bool.false_ne_true
 refine call_meets F.slot_list_extend ⟨_, e, rfl⟩ F.entry_list_extend (F.args_list_extend_2 _ _)
  (AutoSeq1.list_extend_list_list_0 l its.toArray n b its2.toArray n2 hlong (by rw [List.size_toArray]; omega) (by omega)) ⟨e, e2, ?_⟩
 refine ⟨.non, _, I.lset (its' := its ++ its2) hH e (by simp) (r.append r2) ?_, rfl, q⟩
 rw [List.length_append]
 omega
def wQ : V -> List V -> Hp -> VK -> Prop := fun x vs H Q => ∃ l xs, x = .ref l /\ vs = [] /\ H l = some (.lst xs) /\ Q .non (upd H l (.lst xs.reverse))
theorem xK : MtM X "list.reverse" wQ := by
 intro pins s σ H x vs v us Q I rx rv h
 obtain ⟨l, xs, rfl, rfl, hH, q⟩ := h
 cases rx
 have hus := rv.zero
 subst hus
 obtain ⟨z, its, n, r, hl, e⟩ := I.lstM hH
 refine call_meets F.slot_list_reverse ⟨_, e, rfl⟩ F.entry_list_reverse (F.args_list_reverse_1 _) (AutoSeq1.list_reverse_list_0 l its.toArray n (by rw [List.size_toArray]; omega)) ⟨e, ?_⟩
 refine ⟨.non, _, I.lset (its' := its.reverse) hH e (by simp) r.reverse ?_, rfl, q⟩
 rw [List.length_reverse]
 omega
def aE1 : V -> List V -> Hp -> VK -> Prop := fun x vs H Q => ∃ l xs, x = .ref l /\ vs = [] /\ H l = some (.lst xs) /\ Q .non (upd H l (.lst []))
theorem aCn : MtM X "list.clear" aE1 := by
 intro pins s σ H x vs v us Q I rx rv h
 obtain ⟨l, xs, rfl, rfl, hH, q⟩ := h
 cases rx
 have hus := rv.zero
 subst hus
 obtain ⟨z, its, n, r, hl, e⟩ := I.lstM hH
 refine call_meets F.slot_list_clear ⟨_, e, rfl⟩ F.entry_list_clear (F.args_list_clear_1 _) (AutoSeq1.list_clear_list_0 l its.toArray n (by rw [List.size_toArray]; omega)) ⟨e, ?_⟩
 exact ⟨.non, _, I.lset (its' := []) (ys := []) hH e rfl .nil (Nat.zero_le _), rfl, q⟩
end
section
variable {prog : Program} {w : World} {A : Around} {E : Value -> Shared -> Prop} {s : Shared}
set_option maxRecDepth 100000 in
end
section
variable {X : Cx}
end
section
variable {κ : Type} [DecidableEq κ]
end
theorem aMu {P : Program} {w : World} {k : Key} {u : Value} (r : RelV (kV k) u) : (fX P w).is k u = true := by
 cases k with
 | inl i => obtain ⟨t, e⟩ := (show ∃ t, u = Value.int i t from r); subst e; exact uI P w i t
 | inr x => obtain ⟨t, e⟩ := (show ∃ t, u = Value.str x t from r); subst e; exact uS P w x t
theorem rR {P : Program} {w : World} : ∀ {ks : List Key} {us : List Value}, Vals (ks.map kV) us -> ItemsAre (fX P w) ks us
 | [], _, r => by rw [List.map_nil] at r; cases r; exact .nil
 | k :: ks, _, r => by
  rw [List.map_cons] at r
  cases r with
  | cons h t => exact .cons (aMu h) (rR t)
section
variable {P : Program} {w : World} {H : Hp} {h : Heap} {a : Addr}
theorem aH8 {ks : List Key} (ok : HOk P w H h) (e : H a = some (.tup (ks.map kV))) : (tupleKind (fX P w)).is h ks a := by
 obtain ⟨_, its, r, o, h1, h2, n, h3⟩ := (show ObjOk P w H h a (.tup (ks.map kV)) from ok a _ e)
 exact ⟨o, its.toArray, n, h1, h2, h3, by simpa using rR r⟩
end
section
variable {X : Cx} {pins : List (Addr × Obj)} {σ : St} {H : Hp} {s : Shared} {a : Addr} {y v : V} {u r : Value} {o : Option V} {A : Around} {E : Value -> Shared -> Prop}
end
section
variable {X : Cx} {pins : List (Addr × Obj)} {σ : St} {H : Hp} {s : Shared} {a : Addr} {kvs : List (Key × V)} {k : Key} {u : Value} {A : Around} {E : Value -> Shared -> Prop}
end
section
variable {X : Cx} {o i e value : Expr} {pos pos' tpos : Pos} {td ty tv : TE}
end
section
variable {X : Cx} {pos : Pos}
end
section
variable {X : Cx} {pins : List (Addr × Obj)} {σ : St} {H : Hp} {s : Shared} {a : Addr} {y d : V} {u r : Value} {o : Option V} {A : Around} {E : Value -> Shared -> Prop}
end
section
variable {X : Cx} {o e f : Expr} {apos cpos : Pos} {td ty tx : TE}
end
section
variable {X : Cx} {pins : List (Addr × Obj)} {σ : St} {H : Hp} {s : Shared} {a : Addr} {kvs : List (Key × V)} {A : Around} {E : Value -> Shared -> Prop}
end
section
variable {X : Cx} {pins : List (Addr × Obj)} {σ : St} {H : Hp} {s : Shared} {a : Addr} {y : V} {u : Value} {A : Around} {E : Value -> Shared -> Prop}
end
end L2
namespace Att
open PySem PySem.W PySem.Calls PyProof.Rows
theorem n8 {P : Params} {h : Heap} : ∀ (ns : List Int) (vs : List Value), WellAll P h vs (ns.map WData.int) -> IntsAre vs ns := by
 intro ns
 induction ns with
 | nil =>
  intro vs w
  rw [List.map_nil] at w
  cases w
  exact .nil
 | cons n ns ih =>
  intro vs w
  rw [List.map_cons] at w
  cases w with
  | cons a b =>
   cases a
   exact .cons _ _ (ih _ b)
theorem aB9 {l : OpenLaw} {n : Nat} (hn : l.most = some n) {P : Params} {h : Heap} {args : List WData} {vals : List Value}
  (aH1 : l.row.toRowW.claim.pre args = true) (hwl : WellAll P h vals args) :
  ∃ a vs ns, vals = [Value.ref a] /\ args = [WData.list (ns.map WData.int)] /\ h.get? a = some { cls := .type "list", data := .seq vs.toArray } /\ IntsAre vs ns /\ ns.length <= n := by
 have hsh : WShape.hasAll [] args [.list .int] = true := (pre_splitW aH1).1
 have hc : l.pre.holds [] { args := args } = true := (pre_splitW aH1).2
 obtain ⟨d, r, rfl, h1, h2⟩ := hasAllW_cons hsh
 obtain rfl := hasAllW_nil h2
 obtain ⟨xs, rfl, h3⟩ := hasW_list h1
 obtain ⟨ns, rfl⟩ := items_int h3
 have hlen : ns.length <= n := by
  unfold OpenLaw.pre at hc
  have h4 : (WTm.not (.lt (.lit (.int (n : Int))) (.len (.arg 0)))).holds [] { args := [.list (ns.map .int)] } = true := by
   have h4 := (holds_andW hc).1
   rw [hn] at h4
   exact h4
  have h5 := condW_of h4 (w_not (w_lt w_lit (w_len_list (w_arg rfl))))
  rw [List.length_map] at h5
  refine Nat.le_of_not_lt fun q => ?_
  have q' : (n : Int) < ((ns.length : Nat) : Int) := by omega
  first
   | (rw [decide_eq_true q'] at h5; exact absurd h5 (by decide))
   | (simp at h5; omega)
 cases hwl with
 | cons w1 w2 =>
  cases w2
  cases w1 with
  | list ho hall => exact ⟨_, _, ns, rfl, rfl, ho, n8 ns _ hall, hlen⟩
theorem aBk (l : OpenLaw) (args : List WData) : l.row.toRowW.claim.post args (.bool true) args = true :=
 postW_of (r := l.row.toRowW) (X := (true == true))
  (show WShape.has [] (.bool true) .bool = true by first | rfl | decide | simp [WShape.has, WShape.arms, WShape.armsAll])
  (show (WTm.eq .res (.lit (.bool true))).value [] { args := args, res := some (.bool true), after := args } = some (.bool (true == true)) from w_eq_bool (w_res rfl) w_lit) rfl
theorem u7 {l : OpenLaw} {n : Nat} {q : Program} {loose : List Str} {XP : (Str -> Option Value) -> Heap -> Prop} {YP : World -> Heap -> Prop} {d : DefRec}
  (hn : l.most = some n) (hdf : d.params.defaults = [])
  (call : ∀ (w : World) (s₀ s₁ : Shared) (mg mb : Str -> Option Value) (fa : Addr) (o : Obj) (pm cd doc : Value) (a : Addr) (vs : List Value) (ns : List Int),
   Ground q loose [] XP w s₀ mg mb s₁.heap -> YP w s₁.heap ->
   s₁.heap.get? fa = some o -> o.data = .func (docDef d.name d.params d.body d.scope pm cd doc) -> s₁.heap.CodeRec cd d.name -> mg d.name = some (.ref fa) ->
   s₁.heap.get? a = some { cls := .type "list", data := .seq vs.toArray } -> IntsAre vs ns -> ns.length <= n -> s₁.gens = #[] ->
   codeAny (model l.prog w) callerA (.call (.ref fa) ⟨[.ref a], []⟩) (fun r s' => r = .ok (.ret (.bool true)) /\ OldK s₁.heap s'.heap /\ s'.os = s₁.os /\ AllBare s'.gens) s₁) :
  WalkO q loose XP YP l.row.toRowW d [] (fun f vs => PySem.call f vs) := by
 intro w s₀ s₁ mg mb G Y fa o pm cd doc dV kV ho hd hcd hD hmg hg args vals as aH1 hlay hrd hwl hlo
 obtain rfl : dV = .none := Dflts.none hD hdf
 obtain rfl : kV = .none := Dflts.noKw hD
 obtain ⟨a, vs, ns, rfl, rfl, hobj, hints, hlen⟩ := aB9 hn aH1 hwl
 refine enter_call (codeAny_mono (call w s₀ s₁ mg mb fa o pm cd doc a vs ns G Y ho (fd_plain hd) hcd hmg hobj hints hlen hg) fun r s' hq => ?_)
 obtain ⟨rfl, h2, h3, h4⟩ := hq
 exact ⟨.inl ⟨.bool true, .bool true, [], rfl, fun _ => rfl, .bool true, aBk l _, fun _ => ⟨List.Pairwise.nil, fun _ hm => (nomatch hm)⟩⟩, h2, h3, h4⟩
section
variable {prog : Program} {w : World} {A : Around} {E : Value -> Shared -> Prop} {s : Shared} {K : Frag}
end
end Att
namespace L2
open PySem PySem.Spec PyProof.Rows
theorem sF : ∀ {vs : List Value} {ns : List Int}, IntsAre vs ns -> Vals (ns.map V.int) vs
 | _, _, .nil => .nil
 | _, _, .cons n t h => .cons ⟨t, rfl⟩ (sF h)
def aMw (H : Hp) : Prop := ∀ b, H b = none \/ ∃ o xs, H b = some (.frz o (.lst xs))
theorem aDa {P : Program} {w : World} {K : PySem.W.Frag} {mg mb : Str -> Option Value} {CX : CXT} {k : Nat} {fa a : Addr} {fd : FuncData} {x : Str} {sp : Sp} {s₁ : Shared} {vs : List Value} {ns : List Int}
  (KX : K.In s₁.heap) (hns : s₁.heap.Ns mainGlobals mg) (hb : s₁.heap.Ns builtinsNs mb) (hbb : ∀ x : Str, x ≠ "__name__" -> mb x = bootBuiltins x) (hlim : s₁.heap.NoLimit) (hg : s₁.gens = #[])
  (ha : s₁.heap.get? a = some { cls := .type "list", data := .seq vs.toArray }) (hi : IntsAre vs ns) (hl : ns.length <= sizeLine) (hr : Room k callerA)
  (F : ∀ base : Heap, K.In base -> base.Ns mainGlobals mg -> FnOk P w K mg base CX k fa fd [x] sp) (hbind : ∀ (s : Shared) (u : Value), BindsTo s fd ⟨[u], []⟩ [(x, u)])
  (hsp : ∀ H : Hp, aMw H -> SqL K H a (ns.map V.int) -> sp [.ref a] H (fun v _ => v = .bl true) fun _ _ _ => False)
  (hCX : ∀ H e s', CX [] H s₁ (fun _ _ _ => False) e s' -> False) :
  codeAny (model P w) callerA (.call (.ref fa) ⟨[.ref a], []⟩) (fun r s' => r = .ok (.ret (.bool true)) /\ OldK s₁.heap s'.heap /\ s'.os = s₁.os /\ AllBare s'.gens) s₁ := by
 have rv := sF hi
 have lenV := hi.length
 have core : ∀ H : Hp, aMw H -> SqL K H a (ns.map V.int) -> HOk P w H s₁.heap -> (∀ b, H b ≠ none -> b = a) -> (H a ≠ none -> K.lookup a = none) ->
   codeAny (model P w) callerA (.call (.ref fa) ⟨[.ref a], []⟩) (fun r s' => r = .ok (.ret (.bool true)) /\ OldK s₁.heap s'.heap /\ s'.os = s₁.os /\ AllBare s'.gens) s₁ := by
  intro H hO hS hok hA hK
  have base_of : ∀ {b : Addr} {o : Obj}, s₁.heap.get? b = some o -> H b = none -> (aCv s₁.heap H).get? b = some o := fun e n => aDc e n
  have noA : ∀ {b : Addr} {o : Obj} {es : Array DictEntry} {ep : Nat}, s₁.heap.get? b = some o -> o.data = .dict es ep -> H b = none := fun {b o es ep} e d => by
   cases q : H b with
   | none => rfl
   | some u =>
    have e' : b = a := hA b (by rw [q]; simp)
    subst e'
    rw [ha] at e; cases e
    have d' : Data.seq vs.toArray _ = Data.dict es ep := d
    cases d'
  have nsK : ∀ {b : Addr} {m : Str -> Option Value}, s₁.heap.Ns b m -> (aCv s₁.heap H).Ns b m := fun {b m} ⟨o, es, ep, e, d, r⟩ => ⟨o, es, ep, base_of e (noA e d), d, r⟩
  have hKb : K.In (aCv s₁.heap H) := fun b o e => base_of (KX b o e) (by
   cases q : H b with
   | none => rfl
   | some u =>
    have e' : b = a := hA b (by rw [q]; simp)
    subst e'
    rw [hK (by rw [q]; simp)] at e; cases e)
  have hM : Mod K mg (aCv s₁.heap H) := ⟨hKb, nsK hns, ⟨mb, nsK hb, hbb⟩, let ⟨mc, h1, h2⟩ := hlim; ⟨mc, nsK h1, h2⟩⟩
  have e0 : aLl P w K mg (aCv s₁.heap H) callerA [] s₁ H := ⟨rfl, hM, fun b o e => aGj e, Nat.le_of_eq (zM _ _), trivial, fun b hb => absurd (show b ∈ ([] : List Addr) from hb) (by simp), hok, .of_eq hg⟩
  refine codeAny_mono ((F _ hKb (nsK hns)).run callerA [] s₁ H ⟨[.ref a], []⟩ [.ref a] [.ref a] _ _ hr e0 (hbind s₁ (.ref a)) (.cons rfl .nil) (hsp H hO hS)) fun r s' h => ?_
  cases r with
  | error e => exact (hCX H e s' h).elim
  | ok fl =>
   cases fl with
   | next => exact False.elim h
   | brk => exact False.elim h
   | cont => exact False.elim h
   | ret u =>
    obtain ⟨v, H', os, bare, un, hok', r', q⟩ := h
    have q' : v = .bl true := q
    subst q'
    obtain rfl : u = Value.bool true := r'
    refine ⟨rfl, OldK.of_keep fun b o e => ?_, os, bare⟩
    cases q : H b with
    | none => exact un.keep b o e q (by intro z; exact absurd (show b ∈ ([] : List Addr) from z) (by simp)) (by simp)
    | some u =>
     rcases hO b with z | ⟨ob, xs, z⟩
     ·rw [q] at z; cases z
     ·have z2 := un.frzs b ob _ z
      obtain ⟨e1, _⟩ := hok b _ z
      obtain ⟨e2, _⟩ := hok' b _ z2
      rw [e] at e1; cases e1
      exact e2
 cases hk : K.lookup a with
 | some o =>
  have e := KX a o hk
  rw [ha] at e
  cases e
  refine core (fun _ => none) (fun _ => .inl rfl) (.inr ⟨_, vs.toArray, _, hk, rfl, rfl, rfl, by rw [List.size_toArray, lenV]; exact hl, by simpa using rv⟩) (fun b u z => by have z' : (none : Option HO) = some u := z; cases z') (fun b z => absurd rfl z) fun z => absurd rfl z
 | none =>
  refine core (fun b => if b = a then some (.frz { cls := .type "list", data := .seq vs.toArray } (.lst (ns.map V.int))) else none) (fun b => ?_) (.inl (.inr ⟨{ cls := .type "list", data := .seq vs.toArray }, if_pos rfl⟩)) (fun b u z => ?_) (fun b z => ?_) fun _ => hk
  ·by_cases hb : b = a
   ·exact .inr ⟨_, _, if_pos hb⟩
   ·exact .inl (if_neg hb)
  ·by_cases hb : b = a
   ·have z' := (if_pos hb).symm.trans z
    cases z'
    subst hb
    exact ⟨ha, by rw [List.length_map]; exact hl, vs, _, rv, ha⟩
   ·have z' := (if_neg hb).symm.trans z
    cases z'
  ·by_cases hb : b = a
   ·exact hb
   ·exact absurd (if_neg hb) z
theorem aFp {l : PySem.W.OpenLaw} {n k : Nat} {q : Program} {loose : List Str} {XP : (Str -> Option Value) -> Heap -> Prop} {YP : World -> Heap -> Prop} {d : DefRec} {K : Params -> PySem.W.Frag} {CX : World -> CXT} {sp : World -> Sp} {x : Str}
  (hn : l.most = some n) (hn2 : n <= sizeLine) (hdf : d.params.defaults = []) (hr : Room k callerA)
  (hY : ∀ (w : World) (h : Heap), YP w h -> (K w.params).In h)
  (F : ∀ (w : World) (mg : Str -> Option Value) (fa : Addr) (h : Heap), (K w.params).In h -> h.Ns mainGlobals mg -> mg d.name = some (.ref fa) ->
   ∃ fd : FuncData, (∀ (s : Shared) (u : Value), BindsTo s fd ⟨[u], []⟩ [(x, u)]) /\
    ∀ base : Heap, (K w.params).In base -> base.Ns mainGlobals mg -> FnOk l.prog w (K w.params) mg base (CX w) k fa fd [x] (sp w))
  (hsp : ∀ (w : World) (H : Hp) (a : Addr) (ns : List Int), ns.length <= n -> aMw H -> SqL (K w.params) H a (ns.map V.int) -> sp w [.ref a] H (fun v _ => v = .bl true) fun _ _ _ => False)
  (hCX : ∀ (w : World) (H : Hp) (s : Shared) (e : Value) (s' : Shared), CX w [] H s (fun _ _ _ => False) e s' -> False) :
  PySem.W.WalkO q loose XP YP l.row.toRowW d [] (fun f vs => PySem.call f vs) := by
 refine Att.u7 hn hdf fun w s₀ s₁ mg mb fa o pm cd doc a vs ns G Y ho hd hcd hmg hobj hints hlen hg => ?_
 have KX := hY w _ Y
 obtain ⟨fd, hb, hF⟩ := F w mg fa _ KX G.T.g hmg
 exact aDa KX G.T.g G.T.b G.T.builtins G.T.nolimit hg hobj hints (Nat.le_trans hlen hn2) hr hF hb (fun H hO hS => hsp w H a ns hlen hO hS) fun H e s' => hCX w H s₁ e s'
def jR (s : Stmt) : Arguments := match s with
 | .FunctionDef _ a _ _ _ _ _ _ _ _ => a
 | _ => { posonlyargs := [], args := [], vararg := none, kwonlyargs := [], kw_defaults := [], kwarg := none, defaults := [] }
def fV (s : Stmt) : List Stmt := match s with
 | .FunctionDef _ _ b _ _ _ _ _ _ _ => b
 | _ => []
def aN (s : Stmt) : Scope := match s with
 | .FunctionDef _ _ _ _ _ _ sc _ _ _ => sc
 | _ => { kind := .function, names := [], isGenerator := false, isCoroutine := false }
abbrev E0 : XK := fun _ _ _ => False
structure Fun (K : PySem.W.Frag) (x qual : Str) (st : Stmt) (f : Addr) (fd : FuncData) : Prop where
 ex : ∃ (oc : Value) (od : Option Addr) (kV doc pm : Value) (an : Option Addr) (cdv ct : Value) (osl : Array (Option Value)),
  fd = PySem.W.fnOf x qual (jR st) (fV st) (aN st) .none kV doc pm an cdv ct /\ K.lookup f = some ⟨oc, od, .func fd, osl⟩ /\ PySem.W.codeIn K cdv qual = true
 kp : PySem.W.keepIn K (.ref f) = true
section
variable {P : Program} {w : World} {K : PySem.W.Frag} {mg : Str -> Option Value} {base : Heap}
theorem Fun.binds {x qual : Str} {st : Stmt} {f : Addr} {fd : FuncData} {ps : List Str} (F : Fun K x qual st f fd)
  (h : ∀ (kV doc pm : Value) (an : Option Addr) (cdv ct : Value) (us : List Value), us.length = ps.length -> bindArgs (PySem.W.fnOf x qual (jR st) (fV st) (aN st) .none kV doc pm an cdv ct) ⟨us, []⟩ = pure (ps.zip us)) : Binds K fd ps [] := by
 obtain ⟨oc, od, kV, doc, pm, an, cdv, ct, osl, rfl, lk, hcd⟩ := F.ex
 exact .all (h kV doc pm an cdv ct)
theorem aFk {x qual : Str} {st : Stmt} {f : Addr} {oc : Value} {od an : Option Addr} {osl : Array (Option Value)} {kV doc pm cdv ct : Value} (l : K.lookup f = some ⟨oc, od, .func (PySem.W.fnOf x qual (jR st) (fV st) (aN st) .none kV doc pm an cdv ct), osl⟩)
  (c : PySem.W.codeIn K cdv qual = true) (k : PySem.W.keepIn K (.ref f) = true) : Fun K x qual st f (PySem.W.fnOf x qual (jR st) (fV st) (aN st) .none kV doc pm an cdv ct) := ⟨⟨oc, od, kV, doc, pm, an, cdv, ct, osl, rfl, l, c⟩, k⟩
end
section
variable {X : Cx}
theorem pv (i : Nat) {x : Str} {pos : Pos} (hN : X.N[i]? = some x := by rfl) (hv : Vis X.env.scope x := by first | exact Or.inl rfl | exact Or.inr (Or.inl rfl) | exact Or.inr (Or.inr rfl)) (hd : (x == ("__debug__" : Str)) = false := by decide)
  (hcd : (x == ("__classdict__" : Str)) = false := by decide) : PE X (.Name x pos) (aFg i) := zP hN hv hd hcd
end
def Same (H H' : Hp) : Prop := ∀ b o, H b = some o -> H' b = some o
theorem Same.refl (H : Hp) : Same H H := fun _ _ h => h
theorem Same.trans {H H1 H2 : Hp} (a : Same H H1) (b : Same H1 H2) : Same H H2 := fun c o h => b c o (a c o h)
theorem Same.free {H H' : Hp} (e : Same H H') {l : Addr} (h : H' l = Option.none) : H l = Option.none := by
 cases q : H l with
 | none => rfl
 | some o =>
  rw [e l o q] at h
  cases h
theorem Same.seq {K : PySem.W.Frag} {H H' : Hp} {a : Addr} {xs : List V} (e : Same H H') (h : SqL K H a xs) : SqL K H' a xs := by
 rcases h with (h | ⟨o, h⟩) | h
 ·exact .inl (.inl (e _ _ h))
 ·exact .inl (.inr ⟨o, e _ _ h⟩)
 ·exact .inr h
section
variable {X : Cx}
end
section
variable {κ : Type} [DecidableEq κ]
end
end L2
set_option maxHeartbeats 4000000
namespace PySem.W
open PySem PySem.Spec PySem.Calls PyProof.Rows Builtin Builtin.ObjectAttr Builtin.Getset_descriptor
section
variable {prog : Program} {w : World} {A : Around} {E : Value -> Shared -> Prop} {K : Frag} {h : Heap} {g : Array GenState} {d : Drawn} {t : Nat} {os : OsState} {a C : Addr}
structure ExcK (K : Frag) (C : Addr) : Prop where
 ga : findIn K (.ref C) "__getattribute__" = some (some (.builtin "BaseException.__getattribute__"))
 gt : findIn K (.ref C) "__getattr__" = some none
 cl : findIn K (.ref C) "__class__" = some (some (.builtin "object.__class__"))
 mo : mroIn K C (.type "object") = some true
 mb : mroIn K C (.type "BaseException") = some true
 ic : (clsIn K C).isSome = true
def ExcAt (a : Addr) (cls : Value) (h : Heap) : Prop := ∃ o, h.get? a = some o /\ o.cls = cls /\ ∃ vs, o.data = .fields vs
theorem ExcAt.ty {cls : Value} (p : ExcAt a cls h) (M : Model) : Looks M h (typeOf (.ref a)) cls := by
 obtain ⟨o, h1, h2, _⟩ := p
 exact h2 ▸ (Looks.ld h1).andThen .now
theorem aJg {tp : Value} {R : Result -> Shared -> Prop} (X : K.In h) (T : ExcK K C) (p : ExcAt a (.ref C) h) (hq : R (.ok (.ret (.ref C))) ⟨h, g, d, t, os⟩) :
  codeAny (model prog w) A (.call (.builtin "getset_descriptor.__get__") ⟨[.builtin "object.__class__", .ref a, tp], []⟩) R ⟨h, g, d, t, os⟩ := by
 have La := p.ty (model prog w)
 have Lb := looks_mroIn (M := model prog w) X T.mo
 refine codeAny_call_builtin KF.slot_gs.plain KF.entry_gs (KF.slot_gs.check _ _ _ _ _ _ _ _ KF.type_class (KF.args_gs _ _ _) ?_)
 unfold Builtin.«getset_descriptor.__get__» descrGet
 rw [dga_obj]
 refine wpAny_bind (wpAny_pure ?_)
 unfold descrGetter descrCheckInstance descrNameAndClass isInstance
 simp only [KF.owner_class]
 repeat lk
 refine ⟨Code.quiet_builtin _ (by decide +kernel), codeAny_builtin KF.entry_class ?_⟩
 unfold Builtin.«object.__class__» shownTypeOf
 repeat lk
 exact hq
theorem aD0 {tk : Tok} {Q : Fin -> Shared -> Prop} (X : K.In h) (T : ExcK K C) (p : ExcAt a (.ref C) h) (hq : Q (.done (.ret (.ref C))) ⟨h, g, d, t, os⟩) :
  wpAny (model prog w) A (Builtin.«object.__getattribute__» ⟨[.ref a, .str "__class__" tk], []⟩) Q E ⟨h, g, d, t, os⟩ := by
 have La := p.ty (model prog w)
 have Lc := looks_findIn (M := model prog w) X T.cl
 have hT5 : (⟨h, g, d, t, os⟩ : Shared).TypeIs (.builtin "object.__class__") "getset_descriptor" := F.typeOf_object_class
 have e5 := F.typeOf_object_class
 have e6 := F.slot_gs_get.lookup
 have e7 := F.slot_gs_set.lookup
 repeat (any_goals (first | assumption | with_reducible refine Looks.at (by assumption) ?_ | wp_step))
 refine aJg X T p ?_
 repeat (any_goals (first | assumption | wp_step))
theorem aCu {M : Model} {nameV : Value} {Q : Unit -> Shared -> Prop} (X : K.In h) (T : ExcK K C) (p : ExcAt a (.ref C) h) (hq : Q () ⟨h, g, d, t, os⟩) :
  wpAny M A (checkBuiltinCall "BaseException.__getattribute__" ⟨[.ref a, nameV], []⟩) Q E ⟨h, g, d, t, os⟩ := by
 have hk : builtinKind "BaseException.__getattribute__" = some .slot := by decide +kernel
 have hsp : splitId "BaseException.__getattribute__" = some ("BaseException", "__getattribute__") := by decide +kernel
 have La := p.ty M
 have Lb := looks_mroIn (M := M) X T.mb
 have ha := F.args_bexc_ga (.ref a) nameV
 simp only [checkBuiltinCall, hk, hsp]
 refine wpAny_bind ?_
 unfold isInstance
 repeat (any_goals (first | assumption | with_reducible refine Looks.at (by assumption) ?_ | wp_step))
theorem aGn {tk : Tok} {R : Result -> Shared -> Prop} (X : K.In h) (T : ExcK K C) (p : ExcAt a (.ref C) h) (hq : R (.ok (.ret (.ref C))) ⟨h, g, d, t, os⟩) :
  codeAny (model prog w) A (.call (.builtin "BaseException.__getattribute__") ⟨[.ref a, .str "__class__" tk], []⟩) R ⟨h, g, d, t, os⟩ :=
 codeAny_call_builtin F.attr_ValueError.ga.plain F.entry_bexc_ga (aCu X T p (aD0 X T p hq))
theorem aLw {tk : Tok} {Q : Value -> Shared -> Prop} (X : K.In h) (T : ExcK K C) (p : ExcAt a (.ref C) h) (hq : Q (.ref C) ⟨h, g, d, t, os⟩) : wpAny (model prog w) A (getAttrBy (.ref a) (.str "__class__" tk) false) Q E ⟨h, g, d, t, os⟩ := by
 have La := p.ty (model prog w)
 have Lg := looks_findIn (M := model prog w) X T.ga
 have Lt := looks_findIn (M := model prog w) X T.gt
 have f3 := F.attr_ValueError.ga.bind (.ref a)
 have hx0 : (false && onTheHeap (Value.builtin "BaseException.__getattribute__")) = false := rfl
 have hx2 : (Value.builtin "BaseException.__getattribute__" == Value.builtin "object.__getattribute__") = false := by decide +kernel
 have hx1 : (onTheHeap (Value.ref C) && Value.builtin "BaseException.__getattribute__" == Value.builtin "object.__getattribute__") = false := by rw [hx2]; rfl
 repeat (any_goals (first | assumption | with_reducible refine Looks.at (by assumption) ?_ | wp_step))
 refine aGn X T p ?_
 repeat (any_goals (first | assumption | wp_step))
theorem aHg {Q : Option Value -> Shared -> Prop} (X : K.In h) (T : ExcK K C) (p : ExcAt a (.ref C) h) (hq : Q (some (.ref C)) ⟨h, g, d, t + 1, os⟩) : wpAny (model prog w) A (getAttr? (.ref a) "__class__") Q E ⟨h, g, d, t, os⟩ := by
 unfold getAttr? getAttrBy?
 repeat (any_goals (first | assumption | with_reducible apply aLw X T p | wp_step))
theorem kitx_exc (T : ExcK K C) : KitX K (.ref a) (.ref C) (ExcAt a (.ref C)) where
 ty := fun M _ _ p => p.ty M
 it := fun _ _ X _ => by
  have hs := T.ic
  unfold clsIn at hs
  split at hs
  ·rename_i ho
   intro A' Q' E' s' k q
   unfold isType loadHead
   exact wpAny_bind (wpAny_loadPart (k _ _ (X _ _ ho)) (wpAny_pure q))
  ·cases hs
 ne := fun h tp dd its n sl X htp => by
  refine Bool.eq_false_iff.mpr fun q => ?_
  have e : C = tp := Value.ref.inj (beq_iff_eq.mp q)
  have hs := T.ic
  unfold clsIn at hs
  split at hs
  ·rename_i ho
   have z := X _ _ ho
   rw [e, htp] at z
   cases z
  ·cases hs
 ca := fun {_ _ _ _ _ s} X p k => by
  obtain ⟨hh, gg, dd, tt, oo⟩ := s
  exact aHg X T p k
end
end PySem.W
namespace L2
open PySem PySem.Spec PyProof.Rows
structure aIw (P : Program) (w : World) (outer : List Env) (H : Hp) (s : Shared) (ea : Addr) (cls : Value) (H' : Hp) (B : Heap) (a0 : Value) (s' : Shared) : Prop where
 os : s'.os = s.os
 bare : AllBare s'.gens
 un : Un (frs outer) [] H H' s.heap s'.heap
 hok : HOk P w H' s'.heap
 fly : Heap.FlyingW B outer ea cls a0 s'.heap
 inB : ∀ b o, s'.heap.get? b = some o -> (H' b ≠ none \/ ((∃ u, s.heap.get? b = some u) /\ b ∉ frs outer)) -> B.get? b = some o
 new : s.heap.get? ea = none
 nt : H' ea = none
def CXr (P : Program) (w : World) : CXT := fun outer H s E e s' =>
 ∃ (ea : Addr) (cls : Value) (H' : Hp) (B : Heap) (a0 : Value), e = .ref ea /\ aIw P w outer H s ea cls H' B a0 s' /\ E cls none H'
theorem rD {P : Program} {w : World} {H : Hp} {h h' : Heap} (ok : HOk P w H h) (k : ∀ b o, H b ≠ none -> h.get? b = some o -> h'.get? b = some o) : HOk P w H h' := fun a o e =>
 (ok a o e).stay (fun b u hb q => k b u (by
  rcases hb with z | z
  ·rw [z, e]; exact fun q => nomatch q
  ·rw [z]; exact fun q => nomatch q) q) (fun _ q => q) fun _ _ q => q
theorem nP {P : Program} {w : World} {H : Hp} {h : Heap} {a : Addr} {o : HO} (x : ObjOk P w H h a o) : ∃ ob, h.get? a = some ob := by
 cases o with
 | lst xs => obtain ⟨_, _, _, _, e⟩ := x; exact ⟨_, e⟩
 | tup xs => obtain ⟨_, _, _, ob, e, _⟩ := x; exact ⟨_, e⟩
 | dK kvs => obtain ⟨_, _, _, _, o, _, _, e, _⟩ := x; exact ⟨_, e⟩
 | dT kvs => obtain ⟨_, _, _, _, o, _, _, e, _⟩ := x; exact ⟨_, e⟩
 | set S n => obtain ⟨o, _, _, _, e, _⟩ := x; exact ⟨_, e⟩
 | ins C dx fs => obtain ⟨_, _, _, e, _⟩ := x; exact ⟨_, e⟩
 | own y => exact x
 | xd fs => obtain ⟨_, ⟨_, _, _, e, _⟩, _⟩ := x; exact ⟨_, e⟩
 | rng lo hi => obtain ⟨_, _, _, e⟩ := x; exact ⟨_, e⟩
 | frz ob u => obtain ⟨e, _⟩ := x; exact ⟨_, e⟩
 | tbl ps => exact ⟨_, (show h.get? a = some _ from x)⟩
 | met f y => exact ⟨_, (show h.get? a = some _ from x)⟩
 | ext φ => obtain ⟨_, e, _⟩ := x; exact e
theorem HOk.there {P : Program} {w : World} {H : Hp} {h : Heap} {a : Addr} (x : HOk P w H h) (n : H a ≠ none) : ∃ ob, h.get? a = some ob := by
 cases q : H a with
 | none => exact absurd q n
 | some u => exact nP (x a u q)
section
variable {P : Program} {w : World} {K : PySem.W.Frag} {mg : Str -> Option Value} {base : Heap} {N : List Str} {qual : Str} {scope : Scope} {f : Addr} {cd : Value} {A : Around} {outer : List Env} {s : Shared} {H : Hp} {E : XK}
theorem qB {env : Env} {l : List Env} {L : Addr} (h : env.frame = some L) : frs (env :: l) = L :: frs l := by
 unfold frs
 rw [List.filterMap_cons, h]
theorem xF {X : Cx} {pins : List (Addr × Obj)} {σ : St} {H1 H' : Hp} {s1 : Shared} {B h'' : Heap} {ea : Addr} {cls a0 : Value} {g' : Array GenState} {d' : Drawn} {t' : Nat} {os' : OsState}
  (I : Inv X pins σ H1 s1) (hx : X.ex = []) (hs : X.env.locals ∉ frs X.outer)
  (ho : os' = X.s₀.os) (hg : AllBare g')
  (fly : Heap.FlyingW B X.outer ea cls a0 h'')
  (kp : ∀ b o, s1.heap.get? b = some o -> H1 b = none -> b ∉ frs X.outer -> b ≠ X.env.locals -> B.get? b = some o)
  (sl : ∀ b o, s1.heap.get? b = some o -> b ∈ frs X.outer -> ∃ sl, h''.get? b = some { o with slots := sl })
  (fr : ∀ b o, s1.heap.get? b = some o -> H1 b = none -> H' b = none)
  (tups : ∀ b xs, H1 b = some (.tup xs) -> H' b = some (.tup xs)) (frzs : ∀ b o u, H1 b = some (.frz o u) -> H' b = some (.frz o u)) (tbls : ∀ b ps, H1 b = some (.tbl ps) -> ∃ more, H' b = some (.tbl (ps ++ more)))
  (hok : HOk X.prog X.w H' h'') (inH : ∀ b o, h''.get? b = some o -> H' b ≠ none -> B.get? b = some o)
  (th : ∀ b o, s1.heap.get? b = some o -> H1 b ≠ none -> ∃ o', h''.get? b = some o')
  (inB : ∀ b o, s1.heap.get? b = some o -> b ∉ frs X.outer -> b ≠ X.env.locals -> ∃ o', B.get? b = some o')
  (new : s1.heap.get? ea = none) (nt : H' ea = none) :
  aIw X.prog X.w X.outer X.H₀ X.s₀ ea cls H' B a0 ⟨h'', g', d', t', os'⟩ := by
 have hxn : ∀ b : Addr, b ∉ X.ex := fun b z => by rw [hx] at z; cases z
 have neL : ∀ b o, X.s₀.heap.get? b = some o -> b ≠ X.env.locals := fun b o e => Nat.ne_of_lt (Nat.lt_of_lt_of_le (Heap.lt_size e) I.ok.above)
 have st := fly.1
 refine ⟨ho, hg, ⟨fun b o e n hb _ => ?_, fun b o e n hb _ => ?_, fun b o e n _ => ?_, fun b o e _ => ?_, fun b xs e => tups b xs (I.base.tups b xs e), fun b o u e => frzs b o u (I.base.frzs b o u e), fun b ps e => ?_⟩, hok, fly, fun b o e hb => ?_, ?_, nt⟩
 ·exact st b o (kp b o (I.base.keep b o e n hb (hxn b)) (I.base.free b o e n (hxn b)) hb (neL b o e))
 ·obtain ⟨l1, e1⟩ := I.base.slot b o e n hb (hxn b)
  obtain ⟨l2, e2⟩ := sl b _ e1 hb
  exact ⟨l2, e2⟩
 ·obtain ⟨o1, e1⟩ := I.base.there b o e (hxn b)
  exact fr b o1 e1 (I.base.free b o e n (hxn b))
 ·obtain ⟨o1, e1⟩ := I.base.there b o e (hxn b)
  by_cases hb : b ∈ frs X.outer
  ·obtain ⟨l2, e2⟩ := sl b o1 e1 hb
   exact ⟨_, e2⟩
  ·obtain ⟨o2, e2⟩ := inB b o1 e1 hb (neL b o e)
   exact ⟨o2, st b o2 e2⟩
 ·obtain ⟨m1, e1⟩ := I.base.tbls b ps e
  obtain ⟨m2, e2⟩ := tbls b _ e1
  exact ⟨m1 ++ m2, by rw [e2, Array.append_assoc]⟩
 ·rcases hb with hb | ⟨⟨u, hu⟩, hb⟩
  ·exact inH b o e hb
  ·obtain ⟨o1, e1⟩ := I.base.there b u hu (hxn b)
   obtain ⟨o2, e2⟩ := inB b o1 e1 hb (neL b u hu)
   have e3 := st b o2 e2
   have e4 : h''.get? b = some o := e
   rw [e3] at e4
   cases e4
   exact e2
 ·cases q : X.s₀.heap.get? ea with
  | none => rfl
  | some o =>
   obtain ⟨o', e'⟩ := I.base.there ea o q (hxn ea)
   rw [new] at e'
   cases e'
theorem aMs : aKg (CXr P w) (pJ (CXr P w) P w K mg base N qual scope f cd A outer s H E) E := by
 intro pins σ H1 s1 e s1' I h
 obtain ⟨ea, cls, H', B, a0, rfl, F, want⟩ := h
 have hfr : (pJ (CXr P w) P w K mg base N qual scope f cd A outer s H E).A.frames = some (envOfC qual scope s.heap.objs.size f cd :: outer) := I.ok.frames
 have hstk : frs (pJ (CXr P w) P w K mg base N qual scope f cd A outer s H E).stack = s.heap.objs.size :: frs outer := qB rfl
 have hLo : s.heap.objs.size ∉ frs outer := fun z => by
  obtain ⟨_, o, ho, _⟩ := I.ok.funs.mem z
  exact absurd (Heap.lt_size ho) (Nat.lt_irrefl _)
 have nst : ∀ {b : Addr}, b ∉ frs outer -> b ≠ s.heap.objs.size -> b ∉ frs (pJ (CXr P w) P w K mg base N qual scope f cd A outer s H E).stack := fun h1 h2 z => by
  rw [hstk] at z
  rcases List.mem_cons.mp z with z | z
  ·exact h2 z
  ·exact h1 z
 show wpAny (model P w) _ (leaving _ (.ref ea)) _ _ s1'
 refine wpAny_leaves_onW hfr rfl F.fly fun h'' fl' up => ?_
 have inB' : ∀ b o, s1'.heap.get? b = some o -> H' b ≠ none -> h''.get? b = some o := fun b o e n => fl'.1 b o (F.inB b o e (.inl n))
 refine ⟨ea, cls, H', B, a0, rfl, xF (X := pJ (CXr P w) P w K mg base N qual scope f cd A outer s H E) I rfl hLo (F.os.trans I.os) F.bare fl' (fun b o e n hb hL => ?_) (fun b o e hb => ?_) (fun b o e n => F.un.free b o e n (by simp)) F.un.tups F.un.frzs F.un.tbls
  (rD F.hok fun b o n e => inB' b o e n) (fun b o e n => ?_) (fun b o e n => ?_) (fun b o e hb hL => ?_) F.new F.nt, want⟩
 ·exact F.inB b o (F.un.keep b o e n (nst hb hL) (by simp)) (.inr ⟨⟨o, e⟩, nst hb hL⟩)
 ·have hb' : b ∈ frs outer := hb
  have n : H1 b = none := by
   have := I.stkFree b (by rw [hstk]; exact List.mem_cons_of_mem _ hb')
   exact this
  obtain ⟨l1, e1⟩ := F.un.slot b o e n (by rw [hstk]; exact List.mem_cons_of_mem _ hb') (by simp)
  obtain ⟨_, o', ho', hd'⟩ := F.fly.2.2.1.mem (b := b) (by
   have : b ∈ frs (pJ (CXr P w) P w K mg base N qual scope f cd A outer s H E).stack := by rw [hstk]; exact List.mem_cons_of_mem _ hb'
   exact this)
  rw [e1] at ho'
  cases ho'
  obtain ⟨l2, e2⟩ := up b _ e1 hd'
  exact ⟨l2, e2⟩
 ·obtain ⟨o1, e1⟩ := F.hok.there n
  have e2 := F.inB b o1 e1 (.inl n)
  have e3 := fl'.1 b o1 e2
  rw [e] at e3
  cases e3
  exact e2
 ·obtain ⟨o1, e1⟩ := F.un.there b o e (by simp)
  by_cases hb : b ∈ frs outer
  ·have hz : H1 b = none := I.stkFree b (by rw [hstk]; exact List.mem_cons_of_mem _ hb)
   exact absurd hz n
  ·by_cases hL : b = s.heap.objs.size
   ·have hz : H1 b = none := I.stkFree b (by rw [hstk, hL]; exact List.mem_cons_self)
    exact absurd hz n
   ·exact ⟨o1, fl'.1 b o1 (F.inB b o1 e1 (.inr ⟨⟨o, e⟩, nst hb hL⟩))⟩
 ·obtain ⟨o1, e1⟩ := F.un.there b o e (by simp)
  exact ⟨o1, F.inB b o1 e1 (.inr ⟨⟨o, e⟩, nst hb hL⟩)⟩
def aBz (X : Cx) (E : XK) : Prop := ∀ (pins : List (Addr × Obj)) (σ : St) (H : Hp) (s : Shared) (C : Addr) (h' : Heap) (e : Addr) (vs : List Value), Inv X pins σ H s -> Heap.MadeExcOf s.heap h' e (.ref C) vs -> E (.ref C) none H -> X.xe (.ref e) { s with heap := h' }
theorem qZ : aBz (pJ (CXr P w) P w K mg base N qual scope f cd A outer s H E) E := by
 intro pins σ H1 s1 C h' e vs I hx want
 have hstk : frs (pJ (CXr P w) P w K mg base N qual scope f cd A outer s H E).stack = s.heap.objs.size :: frs outer := qB rfl
 have hfr : (pJ (CXr P w) P w K mg base N qual scope f cd A outer s H E).A.frames = some (envOfC qual scope s.heap.objs.size f cd :: outer) := I.ok.frames
 have hLo : s.heap.objs.size ∉ frs outer := fun z => by
  obtain ⟨_, o, ho, _⟩ := I.ok.funs.mem z
  exact absurd (Heap.lt_size ho) (Nat.lt_irrefl _)
 have st : s1.heap.FunFrames base (envOfC qual scope s.heap.objs.size f cd :: outer) := I.stack
 have fin : s1.heap.FunFrames (PySem.W.hideAll s1.heap (s.heap.objs.size :: frs outer)) (envOfC qual scope s.heap.objs.size f cd :: outer) :=
  PySem.W.funFrames_hide st fun env he a ha => by
   rw [<- hstk]
   exact List.mem_filterMap.mpr ⟨env, he, ha⟩
 have nfr : ∀ {b : Addr}, H1 b ≠ none -> b ∉ s.heap.objs.size :: frs outer := fun n z => n (I.stkFree _ (by rw [hstk]; exact z))
 have nin : ∀ {b : Addr}, b ∉ frs outer -> b ≠ s.heap.objs.size -> b ∉ s.heap.objs.size :: frs outer := fun h1 h2 z => (List.mem_cons.mp z).elim h2 h1
 show wpAny (model P w) _ (leaving _ (.ref e)) _ _ { s1 with heap := h' }
 refine wpAny_leaves_madeW (base := PySem.W.hideAll s1.heap (s.heap.objs.size :: frs outer)) (h := s1.heap) hfr rfl (fun b o q => PySem.W.of_hideAll _ q) fin hx fun h'' t fl _ _ up => ?_
 refine ⟨e, .ref C, H1, _, .ref t, rfl, xF (X := pJ (CXr P w) P w K mg base N qual scope f cd A outer s H E) I rfl hLo I.os I.bare fl (fun b o q n hb hL => PySem.W.hideAll_get _ q (nin hb hL)) (fun b o q hb => ?_) (fun _ _ _ n => n) (fun _ _ q => q) (fun _ _ _ q => q)
  (fun b ps q => ⟨#[], by rw [q]; simp⟩) (rD I.hok fun b o n q => fl.1 b o (PySem.W.hideAll_get _ q (nfr n))) (fun b o q n => ?_) (fun b o q n => ⟨o, fl.1 b o (PySem.W.hideAll_get _ q (nfr n))⟩) (fun b o q hb hL => ⟨o, PySem.W.hideAll_get _ q (nin hb hL)⟩) hx.new ?_, want⟩
 ·obtain ⟨_, o', ho', hd'⟩ := st.mem (b := b) (by
   have : b ∈ frs (envOfC qual scope s.heap.objs.size f cd :: outer) := by
    rw [qB rfl]
    exact List.mem_cons_of_mem _ hb
   exact this)
  rw [q] at ho'
  cases ho'
  exact up b o (hx.keeps b o q) hd'
 ·obtain ⟨o1, e1⟩ := I.hok.there n
  have e2 := PySem.W.hideAll_get _ e1 (nfr n)
  have e3 := fl.1 b o1 e2
  rw [q] at e3
  cases e3
  exact e2
 ·cases q : H1 e with
  | none => rfl
  | some u =>
   obtain ⟨ob, eo⟩ := nP (I.hok e u q)
   rw [hx.new] at eo
   cases eo
end
section
variable {X : Cx} {E : XK}
def aH4 (C : Addr) (E : XK) (t : TA) : TS := fun _ σ H => t σ H fun vs H1 => vs.length <= sizeLine /\ E (.ref C) none H1
theorem aCw {x : Str} {e₀ : Expr} {rest : List Expr} {t : TA} {C : Addr} {bm : List Value} {B newId initId : String} {np cpos pos : Pos} (hx : aBz X E) (hc : X.calm = true) (hg : Gl X x) (O : OwnCls x C bm newId X.mg X.base)
  (FB : ExcBaseFacts B newId initId bm) (ha : PA X (e₀ :: rest) t) (hdb : (x == ("__debug__" : Str)) = false := by decide)
  (he : starEach (e₀ :: rest) X.env = (false, eval e₀ X.env) :: starEach rest X.env := by rfl) (hpl : (backTo cpos (starEach rest X.env)).any (·.1) = false := by rfl) :
  PS X (.Raise (some (.Call (.Name x np) (e₀ :: rest) [] cpos)) none pos) (aH4 C E t) := by
 intro pins s σ H D I h
 obtain ⟨tl, NN, nm, qn, bs, hdc, sn, sb, ab, cl, dd, z0, z1, z2, z3, z5, mN, hC, hN, hni, T⟩ := O.obj
 have hp : (backTo cpos (starEach (e₀ :: rest) X.env)).any (·.1) = false := by
  rw [he]
  show (false || (backTo cpos (starEach rest X.env)).any (·.1)) = false
  rw [hpl]
  all_goals rfl
 have h2 := ha cpos pins s σ H _ I h
 refine wpAny_Raise_call_subT (bm := tl) (N := NN) (nm := nm) (q := qn) (bs := bs) (hdct := hdc) (sn := sn) (sub := sb) (ab := ab) (col := cl) (dd := dd) (k0 := z0) (k1 := z1) (k2 := z2) (k3 := z3) (k5 := z5) FB (T.hasType FB.hasBase) (I.ok.hd hc) hp hni
  (uX I hg O.bound ⟨rfl, ?_⟩ hdb)
 rw [he] at h2 ⊢
 refine Calls.evalArgs_plain (thn h2 fun us s2 ⟨vs, H1, I1, r, z, w'⟩ => ?_)
 exact ⟨rfl, by rw [<- r.length]; exact z, I1.bk _ _ hC, hN.keeps I1.bk, T.keeps I1.bk, fun h' e hm => hx pins σ H1 s2 C h' e us I1 hm w'⟩
end
def lW (CX : CXT) (X : Cx) (E : St -> XK) : Prop := ∀ (pins : List (Addr × Obj)) (σ : St) (H : Hp) (s : Shared) (e : Value) (s' : Shared), Inv X pins σ H s -> CX X.stack H s (E σ) e s' -> X.xe e s'
def aK4 (sp : Sp) (E : St -> XK) (t : TA) : TE := fun σ H Q => t σ H fun vs H1 => sp vs H1 Q (E σ)
section
variable {X : Cx} {CX : CXT} {k : Nat} {f : Addr} {fd : FuncData} {ps : List Str} {sp : Sp} {E : St -> XK} {x : Str} {p pos : Pos} {e : Expr} {es : List Expr} {t : TA}
theorem xC (F : FnOk X.prog X.w X.K X.mg X.base CX k f fd ps sp) (hr : Room k X.A) (hg : Gl X x) (hm : X.mg x = some (.ref f)) (hk : PySem.W.keepIn X.K (.ref f) = true) (hb : Binds X.K fd ps []) (hx : lW CX X E)
  (ha : PA X (e :: es) t) (hdb : (x == ("__debug__" : Str)) = false := by decide) (he : starEach (e :: es) X.env = (false, eval e X.env) :: starEach es X.env := by rfl) (hpl : (backTo pos (starEach es X.env)).any (·.1) = false := by rfl) :
  PE X (.Call (.Name x p) (e :: es) [] pos) (aK4 sp E t) := by
 intro pins s σ H Q I h
 refine wpAny_Call_Name_kw (uX I hg hm ?_ hdb)
 refine PySem.W.callWith_K (h₀ := X.base) I.ok.mod.kin hk (thn (ha pos pins s σ H _ I h) fun us s1 ⟨vs, H1, I1, r, q⟩ => ⟨I1.kIn, ?_⟩) he hpl
 have hl : us.length = ps.length := by rw [<- r.length]; exact F.len _ _ _ _ q
 have hb' := hb s1 us I1.kIn (by rw [List.append_nil]; exact hl)
 rw [List.append_nil] at hb'
 refine wpAny_call (codeAny_mono (F.run X.A X.stack s1 H1 ⟨us, []⟩ us vs Q (E σ) hr I1.env0 hb' r q) fun rr s' hq => ?_)
 cases rr with
 | error e' => exact hx pins σ H1 s1 e' s' I1 hq
 | ok fl =>
  cases fl with
  | ret u => exact I1.after hq
  | next => exact False.elim hq
  | brk => exact False.elim hq
  | cont => exact False.elim hq
end
section
variable {X : Cx} {k : Nat} {f : Addr} {fd : FuncData} {ps : List Str} {sp : Sp} {x : Str} {p pos : Pos} {e : Expr} {es : List Expr} {t : TA}
end
def aH0 (e : Addr) (cls : Value) : HO := .ext fun h => ∃ o, h.get? e = some o /\ o.cls = cls /\ ∃ vs, o.data = .fields vs
abbrev bR (X : Cx) (scope : Scope) (cl : List (Str × Addr)) (C : Addr) (N : List Str) (s₀ : Shared) (H₀ : Hp) (ex : List Addr) (pn : List (Addr × Obj)) : Cx :=
 { X with env := compEnvC scope cl C X.env, N := N, s₀ := s₀, H₀ := H₀, outer := X.stack, stack := X.stack, ex := ex, fn := fun _ => false, pn := pn, xe := fun _ _ => False }
structure aFs (X : Cx) (scope : Scope) (cl : List (Str × Addr)) : Prop where
 clos : closureFor scope X.env = pure cl
 sub : ∀ y c, cl.lookup y = some c -> X.env.cells.lookup y = some c
 has : ∀ y, (relabel scope X.env).names.lookup y = some .cell \/ (relabel scope X.env).names.lookup y = some .free -> ∃ c, cl.lookup y = some c
def n4 (js : List Nat) (σ : St) : St := js.map fun j => (σ[j]?).getD none
structure lO (X : Cx) (scope : Scope) (cl : List (Str × Addr)) (ys : List Str) (js : List Nat) : Prop where
 len : ys.length = js.length
 at_ : ∀ (i : Nat) (y : Str) (j : Nat), ys[i]? = some y -> js[i]? = some j -> X.N[j]? = some y /\ (X.env.kindOf y = some .cell \/ X.env.kindOf y = some .free) /\ ((relabel scope X.env).names.lookup y = some .cell \/ (relabel scope X.env).names.lookup y = some .free) /\ (X.env.cells.lookup y).isSome = true /\ cl.lookup y = X.env.cells.lookup y
section
variable {X : Cx}
end
def Sz (n : Nat) (x : Int) : Prop := x.natAbs < 2 ^ n
theorem Sz.mono {m n : Nat} {x : Int} (h : Sz m x) (l : m <= n) : Sz n x := Nat.lt_of_lt_of_le h (Nat.pow_le_pow_right (by decide) l)
theorem Sz.mul {m n : Nat} {x y : Int} (hx : Sz m x) (hy : Sz n y) : Sz (m + n) (x * y) := by
 unfold Sz at *
 rw [Int.natAbs_mul, Nat.pow_add]
 exact Nat.mul_lt_mul'' hx hy
theorem Sz.add {n : Nat} {x y : Int} (hx : Sz n x) (hy : Sz n y) : Sz (n + 1) (x + y) := by
 unfold Sz at *
 have := Int.natAbs_add_le x y
 rw [Nat.pow_succ]
 omega
theorem Sz.neg {n : Nat} {x : Int} (hx : Sz n x) : Sz n (-x) := by
 unfold Sz at *
 rw [Int.natAbs_neg]
 exact hx
theorem Sz.sub {n : Nat} {x y : Int} (hx : Sz n x) (hy : Sz n y) : Sz (n + 1) (x - y) := by
 have := Sz.add hx hy.neg
 rwa [Int.sub_eq_add_neg]
theorem Sz.le {n : Nat} {x y : Int} (hy : Sz n y) (h : x.natAbs <= y.natAbs) : Sz n x := Nat.lt_of_le_of_lt h hy
def CMulW (i j : Int) : Prop := Sz 60000 i /\ Sz 60000 j
theorem CMulW.ok {i j : Int} (h : CMulW i j) : IntMulOk i j := .of_le (intBits_le_iff.mpr h.1) (intBits_le_iff.mpr h.2) (by decide)
def mS (i j : Int) : Prop := j ≠ 0 /\ Sz 8000 j
section
variable {X : Cx}
theorem b7 : OpR X (binaryOp .Mult) (rI CMulW fun i j => .int (i * j)) := opI fun _ _ _ _ _ _ _ hc q => mul_int q hc.ok
theorem log2_small {n : Nat} (h : n < 2 ^ 8000) : n.log2 < 9000 := by
 by_cases z : n = 0
 ·rw [z]; decide
 ·have : n.log2 < 8000 := (Nat.log2_lt z).mpr h
  omega
theorem j7 : OpR X (binaryOp .FloorDiv) (rI mS fun i j => .int (i.fdiv j)) := opI fun _ _ _ _ _ _ _ hc q => floordiv_int hc.1 q (.inl (PyProof.noPylong_of_log2 (log2_small hc.2)))
inductive TyX (K : PySem.W.Frag) (H : Hp) : V -> Value -> Prop where
 | plain {x : V} {t : Value} (h : v8 K H x t) : TyX K H x t
 | exc {a C : Addr} (e : H a = some (aH0 a (.ref C))) (T : PySem.W.ExcK K C) : TyX K H (.ref a) (.ref C)
theorem RelV.tyOrRef {y : V} {c u : Value} (h : (∃ n, y = .ty n) \/ ∃ a, y = .ref a) (r : RelV y c) (r' : RelV y u) : u = c := by
 rcases h with ⟨n, rfl⟩ | ⟨n, rfl⟩
 ·cases r; cases r'; rfl
 ·cases r; cases r'; rfl
def aJp (K : PySem.W.Frag) : List V -> Hp -> VK -> Prop := fun xs H Q => ∃ x y t c b, xs = [x, y] /\ ((∃ n, y = .ty n) \/ ∃ a, y = .ref a) /\ TyX K H x t /\ RelV y c /\ PySem.W.kitOne K t c = some b /\ Q (.bl b) H
theorem aDd : nD X (.builtin "isinstance") (aJp X.K) := by
 intro pins s σ H xs us Q I r h
 obtain ⟨x, y, t, c, b, rfl, hy, ty, rc, e, q⟩ := h
 obtain ⟨u, w', rfl, r1, r2⟩ := vals2 r
 have ec := RelV.tyOrRef hy rc r2
 subst ec
 cases ty with
 | plain ty => exact zB I r1 ty e fun tk => ⟨.bl b, H, I.tok _, rfl, q⟩
 | @exc a C ea T =>
  cases (show u = Value.ref a from r1)
  obtain ⟨p, _, _⟩ := (show ObjOk X.prog X.w H s.heap a (aH0 a (.ref C)) from I.hok a _ ea)
  exact PySem.W.kia_one (PySem.W.kitx_exc T) I.kIn p e (fun z => nomatch z) fun tk => ⟨.bl b, H, I.tok _, rfl, q⟩
end
def aN8 (K : PySem.W.Frag) (te : TE) (v : V) : TE := fun σ H Q => te σ H fun x H1 => aJp K [x, v] H1 Q
theorem aKw {X : Cx} {e c : Expr} {te : TE} {v : V} {p pos : Pos} (hg : Gl X "isinstance") (hm : X.mg "isinstance" = none) (he : PE X e te) (hc : PE X c (tC v)) (h1 : starEach [e, c] X.env = (false, eval e X.env) :: starEach [c] X.env := by rfl)
  (h2 : (backTo pos (starEach [c] X.env)).any (·.1) = false := by rfl) (h3 : starEach [c] X.env = (false, eval c X.env) :: starEach [] X.env := by rfl) : PE X (.Call (.Name "isinstance" p) [e, c] [] pos) (aN8 X.K te v) := fun pins s σ H Q I h =>
 v9 aDd hg hm (by decide +kernel) (dG he (dG hc fY h3) h1) (by decide) (by decide) h1 h2 pins s σ H Q I h
theorem Fun.okX {P : Program} {w : World} {K : PySem.W.Frag} {mg : Str -> Option Value} {base : Heap} {x qual : Str} {st : Stmt} {f : Addr} {fd : FuncData} {N ps : List Str} {k : Nat} {sp : Sp} (F : Fun K x qual st f fd) (S : aX N ps (aN st)) (len : ∀ vs H Q E, sp vs H Q E -> vs.length = ps.length)
  (hbody : ∀ (cdv : Value) (A : Around) (outer : List Env) (s : Shared) (H : Hp) (vs : List V) (Q : VK) (E : XK), Room k (A.deeper (envOfC qual (aN st) s.heap.objs.size f cdv)) -> sp vs H Q E ->
   ∃ t, PSs (pJ (CXr P w) P w K mg base N qual (aN st) f cdv A outer s H E) (fV st) t /\ t { nx := fun _ H' => Q .non H', rt := Q } (start N vs) H) : FnOk P w K mg base (CXr P w) (k + 1) f fd ps sp := by
 obtain ⟨oc, od, kV, doc, pm, an, cdv, ct, osl, rfl, lk, hcd⟩ := F.ex
 exact aL3 lk hcd S len fun A outer s H vs Q E hr hsp => hbody cdv A outer s H vs Q E hr hsp
theorem Same.upd {H H' : Hp} {p : Addr} (h : Same H H') (hp : H' p = none) (o : HO) : Same H (upd H' p o) := fun b u q => by
 have := h b u q
 rw [aU (b5 this hp)]
 exact this
end L2
namespace FR
theorem aDf {a b : Int} (ha : 0 <= a) (hb : 0 <= b) : Int.gcd b (a % b) = Int.gcd a b := by
 obtain ⟨m, rfl⟩ := Int.eq_ofNat_of_zero_le ha
 obtain ⟨n, rfl⟩ := Int.eq_ofNat_of_zero_le hb
 rw [<- Int.natCast_emod, Int.gcd_natCast_natCast, Int.gcd_natCast_natCast, Nat.gcd_comm n, <- Nat.gcd_rec, Nat.gcd_comm]
theorem y7 (a b : Int) : Int.gcd (if a < 0 then -a else a) (if b < 0 then -b else b) = Int.gcd a b := by
 split <;> split <;> simp [Int.gcd_neg, Int.neg_gcd]
theorem aGc {a : Int} (ha : 0 <= a) : ((Int.gcd a 0 : Nat) : Int) = a := by
 rw [Int.gcd_zero_right]
 omega
def sgn (b : Int) (g : Int) : Int := if b < 0 then -g else g
def mk (t b : Int) : Int × Int := (t.fdiv (sgn b (Int.gcd t b)), b.fdiv (sgn b (Int.gcd t b)))
theorem uR {t b : Int} (hb : b ≠ 0) : 0 < Int.gcd t b := Int.gcd_pos_of_ne_zero_right t hb
theorem parts (t b : Int) (hb : b ≠ 0) : ∃ t' b' : Int, t = (Int.gcd t b : Int) * t' /\ b = (Int.gcd t b : Int) * b' /\ Int.gcd t' b' = 1 := by
 obtain ⟨t', ht⟩ := Int.gcd_dvd_left t b
 obtain ⟨b', hb'⟩ := Int.gcd_dvd_right t b
 refine ⟨t', b', ht, hb', ?_⟩
 have g0 := uR (t := t) hb
 have e : Int.gcd t b = Int.gcd t b * Int.gcd t' b' := by
  have h : Int.gcd ((Int.gcd t b : Int) * t') ((Int.gcd t b : Int) * b') = (Int.gcd t b : Int).natAbs * Int.gcd t' b' := Int.gcd_mul_left ..
  rw [<- ht, <- hb'] at h
  simpa using h
 have e2 : Int.gcd t b * 1 = Int.gcd t b * Int.gcd t' b' := by omega
 exact (Nat.eq_of_mul_eq_mul_left g0 e2).symm
theorem aEc {t b g t' b' : Int} (g0 : 0 < g) (ht : t = g * t') (hb : b = g * b') : (t.fdiv (sgn b g) = (if b < 0 then -t' else t')) /\ (b.fdiv (sgn b g) = if b < 0 then -b' else b') := by
 unfold sgn
 by_cases h : b < 0
 ·rw [if_pos h, if_pos h, if_pos h]
  have e1 : t = (-g) * (-t') := by rw [ht, Int.neg_mul_neg]
  have e2 : b = (-g) * (-b') := by rw [hb, Int.neg_mul_neg]
  constructor
  ·conv => lhs; rw [e1]
   exact Int.mul_fdiv_cancel_left _ (by omega)
  ·conv => lhs; rw [e2]
   exact Int.mul_fdiv_cancel_left _ (by omega)
 ·rw [if_neg h, if_neg h, if_neg h]
  constructor
  ·conv => lhs; rw [ht]
   exact Int.mul_fdiv_cancel_left _ (by omega)
  ·conv => lhs; rw [hb]
   exact Int.mul_fdiv_cancel_left _ (by omega)
structure Fr (f : Int × Int) : Prop where
 pos : 1 <= f.2
 low : Int.gcd f.1 f.2 = 1
theorem kI {t b : Int} (hb : b ≠ 0) : Fr (mk t b) /\ (mk t b).1 * b = t * (mk t b).2 := by
 obtain ⟨t', b', e1, e2, e3⟩ := parts t b hb
 have g0 : (0 : Int) < (Int.gcd t b : Int) := by have := uR (t := t) hb; omega
 obtain ⟨p1, p2⟩ := aEc g0 e1 e2
 have q1 : (mk t b).1 = if b < 0 then -t' else t' := p1
 have q2 : (mk t b).2 = if b < 0 then -b' else b' := p2
 have hs : b < 0 ↔ b' < 0 := by
  constructor
  ·intro h
   rcases Int.lt_or_le b' 0 with z | z
   ·exact z
   ·have := Int.mul_nonneg (Int.le_of_lt g0) z
    omega
  ·intro h
   have := Int.mul_neg_of_pos_of_neg g0 h
   omega
 have hb' : b' ≠ 0 := by
  rintro rfl
  rw [Int.mul_zero] at e2
  exact hb e2
 refine ⟨⟨?_, ?_⟩, ?_⟩
 ·rw [q2]
  split
  ·rename_i h
   have := hs.mp h
   omega
  ·rename_i h
   have : ¬ b' < 0 := fun z => h (hs.mpr z)
   omega
 ·rw [q1, q2]
  split
  ·rw [Int.gcd_neg, Int.neg_gcd, e3]
  ·exact e3
 ·rw [q1, q2]
  generalize hg : (Int.gcd t b : Int) = g at *
  rw [e1, e2]
  split
  ·rw [Int.neg_mul, Int.mul_neg, Int.mul_left_comm, Int.mul_assoc]
  ·rw [Int.mul_left_comm, Int.mul_assoc]
end FR
namespace L2
open PySem PySem.Spec PyProof.Rows
section
variable {X : Cx}
end
open PySem.W (Dat kqdP kqdPs kqdOk kqd_lay kqd_eqv)
mutual
inductive HasD (H : Hp) : V -> Dat -> Prop
 | int (i : Int) : HasD H (.int i) (.int i)
 | tup {a : Addr} {xs : List V} {ds : List Dat} : H a = some (.tup xs) -> HasDs H xs ds -> HasD H (.ref a) (.tuple ds)
 | lst {a : Addr} {xs : List V} {ds : List Dat} : H a = some (.lst xs) -> HasDs H xs ds -> HasD H (.ref a) (.list ds)
inductive HasDs (H : Hp) : List V -> List Dat -> Prop
 | nil : HasDs H [] []
 | cons {x : V} {xs : List V} {d : Dat} {ds : List Dat} : HasD H x d -> HasDs H xs ds -> HasDs H (x :: xs) (d :: ds)
end
mutual
theorem HasD.keep {H H' : Hp} (k : ∀ a o, H a = some o -> H' a = some o) : ∀ {v : V} {d : Dat}, HasD H v d -> HasD H' v d
 | _, _, .int i => .int i
 | _, _, .tup h r => .tup (k _ _ h) (HasDs.keep k r)
 | _, _, .lst h r => .lst (k _ _ h) (HasDs.keep k r)
theorem HasDs.keep {H H' : Hp} (k : ∀ a o, H a = some o -> H' a = some o) : ∀ {v : List V} {d : List Dat}, HasDs H v d -> HasDs H' v d
 | _, _, .nil => .nil
 | _, _, .cons h r => .cons (HasD.keep k h) (HasDs.keep k r)
end
mutual
theorem HasD.reads {P : Program} {w : World} {H : Hp} {h : Heap} (ok : HOk P w H h) : ∀ {v : V} {d : Dat}, HasD H v d -> ∀ {u : Value}, RelV v u -> ∃ as, Reads h u (kqdP d) as
 | _, _, .int i, _, ⟨t, e⟩ => by subst e; exact ⟨_, Reads.int i t⟩
 | _, _, .tup hh r, _, e => by
  have e : _ = Value.ref _ := e
  subst e
  obtain ⟨_, its, rv, o, ho, hc, n, hd⟩ := (show ObjOk P w H h _ _ from ok _ _ hh)
  obtain ⟨as, q⟩ := HasDs.reads ok r rv
  rw [kqdP]
  exact ⟨as, reads_tuple_at ho hc hd (by simpa using q)⟩
 | _, _, .lst hh r, _, e => by
  have e : _ = Value.ref _ := e
  subst e
  obtain ⟨_, its, n, rv, ho⟩ := (show ObjOk P w H h _ _ from ok _ _ hh)
  obtain ⟨as, q⟩ := HasDs.reads ok r rv
  rw [kqdP]
  exact ⟨_, reads_list_at ho rfl rfl (by simpa using q)⟩
theorem HasDs.reads {P : Program} {w : World} {H : Hp} {h : Heap} (ok : HOk P w H h) : ∀ {vs : List V} {ds : List Dat}, HasDs H vs ds -> ∀ {us : List Value}, Vals vs us -> ∃ as, ReadsAll h us (kqdPs ds) as
 | _, _, .nil, _, .nil => ⟨_, ReadsAll.nil⟩
 | _, _, .cons hd r, _, .cons rv rt => by
  obtain ⟨as, q⟩ := HasD.reads ok hd rv
  obtain ⟨bs, p⟩ := HasDs.reads ok r rt
  rw [kqdPs]
  exact ⟨_, ReadsAll.cons q p⟩
end
section
variable {X : Cx}
end
section
variable {prog : Program} {w : World} {A : Around} {E : Value -> Shared -> Prop} {s : Shared} {d it : Addr} {es : Array DictEntry} {ep i : Nat}
end
section
variable {prog : Program} {w : World} {A : Around} {R : Result -> Shared -> Prop} {s : Shared}
abbrev aCd (ifs : List Expr) (env : Env) : Sem Bool := forIn ifs true fun c r => if r = true then do let ok <- isTrue c env (eval c env); pure (ForInStep.yield ok) else pure (ForInStep.yield r)
theorem sY {elt target iter : Expr} {ifs : List Expr} {scope : Scope} {pos : Pos} {it acc : Value} {env : Env} (I : Nat -> Shared -> Prop)
  (turn : ∀ n s, I n s -> wpAny (model prog w) A (pyNext it) (fun r s₁ => match r with
   | none => R (.ok .next) s₁
   | some v => wpAny (model prog w) A (letOwnedTupleGo target it v) (fun _ s₀ => wpAny (model prog w) A (assign target env v) (fun _ s₂ =>
     wpAny (model prog w) A (aCd ifs env) (fun ok s₃ =>
      if ok = true then wpAny (model prog w) A (eval elt env) (fun x s₄ =>
       wpAny (model prog w) A (call (.builtin "list.append") [acc, x]) (fun _ s₅ => ∃ m, m < n /\ I m s₅) (fun _ _ => False) s₄) (fun _ _ => False) s₃
      else ∃ m, m < n /\ I m s₃) (fun _ _ => False) s₂) (fun _ _ => False) s₀) (fun _ _ => False) s₁) (fun _ _ => False) s)
  (n : Nat) (h : I n s) : codeAny (model prog w) A (.compLoop (.ListComp elt [⟨target, iter, ifs, 0⟩] scope pos) 0 it acc env) R s := by
 refine codeAny_loop rfl I (fun n s hI => ?_) n h
 show wpAny _ A ((compTurn (.ListComp elt [⟨target, iter, ifs, 0⟩] scope pos) 0 it acc env).onRaise (fun x => do noteFrame x env; theTreesLotGoes x)) _ _ s
 refine wpAny_noted ?_
 rw [compTurn_list]
 refine wpAny_bind (wpAny_standAt (wpAny_bind (wpAny_mono (turn n s hI) (fun r s₁ h₁ => ?_) fun _ _ z => z.elim)))
 cases r with
 | none => exact wpAny_pure h₁
 | some v =>
  refine wpAny_bind (wpAny_mono h₁ (fun _ s₀ h₀ => ?_) fun _ _ z => z.elim)
  refine wpAny_bind (wpAny_mono h₀ (fun _ s₂ h₂ => wpAny_bind (wpAny_mono h₂ (fun ok s₃ h₃ => ?_) fun _ _ z => z.elim)) fun _ _ z => z.elim)
  cases ok with
  | false => exact wpAny_pure ⟨rfl, h₃⟩
  | true =>
   exact wpAny_bind (wpAny_bind (wpAny_mono h₃ (fun x s₄ h₄ => wpAny_bind (wpAny_mono h₄ (fun _ s₅ h₅ => wpAny_pure (wpAny_pure ⟨rfl, h₅⟩)) fun _ _ z => z.elim)) fun _ _ z => z.elim))
end
def PTs (X : Cx) (ifs : List Expr) (t : TT) : Prop :=
 ∀ (pins : List (Addr × Obj)) (s : Shared) (σ : St) (H : Hp) (Q : Bool -> Hp -> Prop), Inv X pins σ H s -> t σ H Q -> wpAny (model X.prog X.w) X.A (aCd ifs X.env) (TP X pins σ Q) X.xe s
def aNx : TT := fun _ H Q => Q true H
theorem aHh {X : Cx} : PTs X [] aNx := fun _ _ _ H _ I h => wpAny_tests_nil ⟨H, I, h⟩
theorem aFq {X : Cx} {c : Expr} {t : TT} (h : PT X c t) : PTs X [c] t := fun pins s σ H Q I hw => wpAny_tests_one (h pins s σ H Q I hw)
def nN (wi : TI) (g : TG) (tt : TT) (te : TE) (n : Nat) (js : List Nat) : TE := fun σ H Q => wi σ H fun J H1 => ∀ D, H1 D = none -> ∃ (N : Nat) (W : Nat -> List V -> Hp -> Prop), W 0 [] (upd H1 D (.lst [])) /\ ∀ i ys H2, W i ys H2 ->
 (J.stop i H2 /\ Q (.ref D) H2) \/ (i < N /\ J.go i H2 /\ ∀ v H3, J.yld i H2 v H3 -> g v (List.replicate n none ++ n4 js σ) H3 fun σ2 H4 => (σ2.length = n + js.length /\ σ2.drop n = n4 js σ) /\ tt σ2 H4 fun b H5 =>
  if b = true then te σ2 H5 fun y H6 => H6 D = some (.lst ys) /\ ys.length < sizeLine /\ W (i + 1) (ys ++ [y]) (upd H6 D (.lst (ys ++ [y]))) else W (i + 1) ys H5)
section
variable {X : Cx}
theorem Inv.but {pins : List (Addr × Obj)} {σ : St} {H : Hp} {s : Shared} {C : Addr} {h' : Heap} (I : Inv X pins σ H s) (f : aAd X pins H C) (hs : Heap.SameBut C s.heap h') : Inv X pins σ H { s with heap := h' } := by
 have ne : ∀ b, b ∉ [C] -> b ≠ C := fun b hb z => hb (by rw [z]; exact .head _)
 refine I.call' (s' := { s with heap := h' }) (ch := [C]) rfl ⟨fun b o e n hb hx => (hs.2 b (ne b hx)).trans e, fun b o e n hb hx => ⟨o.slots, (hs.2 b (ne b hx)).trans e⟩, fun b o e n hx => n, fun b o e hx => ⟨o, (hs.2 b (ne b hx)).trans e⟩, fun b xs e => e, fun b o u e => e, fun b ps e => ⟨#[], by rw [Array.append_empty]; exact e⟩⟩ (rD I.hok fun b o nn e => (hs.2 b (fun z => nn (by rw [z]; exact f.1))).trans e) I.bare fun b hb => ?_
 rw [List.mem_singleton.mp hb]
 exact ⟨f.2.2.2.1, f.2.1, f.2.2.2.2.1, f.2.2.2.2.2⟩
set_option maxHeartbeats 8000000 in
theorem sJ {elt iter tg : Expr} {pos : Pos} {scope : Scope} {ifs : List Expr} {wi : TI} {g : TG} {tt : TT} {te : TE} {xs ys : List Str} {js : List Nat} {cl : List (Str × Addr)} (hc : X.calm = true) (hi : PI X tg iter wi)
  (hcl : aFs X scope cl) (hcap : lO X scope cl ys js) (hcell : ∀ y ∈ scope.names, y.2 ≠ .cell) (hkind : scope.kind = .function) (hnames : ∀ y ∈ scope.names, y.2 = .local -> scope.names.lookup y.1 = some .local)
  (hg : ∀ C s₀ H₀ ex pn, PG (bR X scope cl C (xs ++ ys) s₀ H₀ ex pn) tg g) (ht : ∀ C s₀ H₀ ex pn, PTs (bR X scope cl C (xs ++ ys) s₀ H₀ ex pn) ifs tt) (hb : ∀ C s₀ H₀ ex pn, PE (bR X scope cl C (xs ++ ys) s₀ H₀ ex pn) elt te)
  (hs : ∀ x, foldedSetIterable iter X.env x = pure x) {use : Option (Value -> Sem Unit)} {QQ : Value -> Shared -> Prop} {Q : VK} {pins : List (Addr × Obj)} {s : Shared} {σ : St} {H : Hp} {cp : Pos} (I : Inv X pins σ H s)
  (aJe : ∀ (C D : Addr) (s' : Shared) (H' : Hp), Inv X pins σ H' s' -> aAd X pins H' C -> (∃ m, s'.heap.Ns C m) -> Q (.ref D) H' -> compPost (model X.prog X.w) X.A X.xe use QQ (.ref D) C (.ok .next) s')
  (h : nN wi g tt te xs.length js σ H Q) :
  wpAny (model X.prog X.w) X.A (comprehension (.ListComp elt [⟨tg, iter, ifs, 0⟩] scope pos) scope X.env cp (newList []) false (eval iter X.env) use) QQ X.xe s := by
 refine wpAny_comprehension_free rfl hs hcl.clos hkind hnames (thn (hi pins s σ H _ I h) fun v s1 h1 => thn h1 fun itv s2 h2 => ?_)
 obtain ⟨it, fp, tn, J, H2, e, I2, T, st2, f2, q2⟩ := h2
 subst e
 obtain ⟨n, W, w0, turn⟩ := q2 s2.heap.objs.size I2.fresh
 refine wpAny_newObj_type (wpAny_newFunctionEnv hcell (by intro y hy; simp at hy) (fun h₁ hns₁ hsb₁ => ?_) hkind)
 dsimp only at hns₁ hsb₁ ⊢
 have I3 := I2.lnew (ys := []) (its := []) (t' := s2.toks) .nil (Nat.zero_le _)
 generalize hg3 : s2.heap.push { cls := .type "list", dict := none, data := .seq ([] : List Value).toArray } = g3 at hns₁ hsb₁ I3 ⊢
 have sz3 : g3.objs.size = s2.heap.objs.size + 1 := by rw [<- hg3, Heap.size_push]
 generalize hC : g3.objs.size = C at hns₁ hsb₁ ⊢
 have old3 : ∀ b o, g3.get? b = some o -> h₁.get? b = some o := fun b o q => hsb₁.extBut b o (by rw [<- hC]; exact Nat.ne_of_lt (Heap.lt_size q)) (Heap.get?_push_of_some _ q)
 have old2 : ∀ b o, s2.heap.get? b = some o -> g3.get? b = some o := fun b o q => by rw [<- hg3]; exact Heap.get?_push_of_some _ q
 have fpl : ∀ b ∈ fp, ∃ o, s2.heap.get? b = some o /\ ∀ v, o.data ≠ .cell v := T.obj _ _ st2
 have fplt : ∀ b ∈ fp, b < s2.heap.objs.size := fun b hb => let ⟨o, q, _⟩ := fpl b hb; Heap.lt_size q
 have H3n : ∀ b, b ≠ s2.heap.objs.size -> upd H2 s2.heap.objs.size (.lst []) b = H2 b := fun b hb => aU hb
 have fp3 : ∀ b ∈ fp, upd H2 s2.heap.objs.size (.lst []) b = none := fun b hb => by rw [H3n b (Nat.ne_of_lt (fplt b hb))]; exact (f2 b hb).1
 have okX := I3.ok
 have inj : ∀ y z c, cl.lookup y = some c -> cl.lookup z = some c -> y = z := fun y z c h1 h2 => okX.inj y z c (hcl.sub y c h1) (hcl.sub z c h2)
 have cellE : ∀ y c, cl.lookup y = some c -> ∃ v, g3.IsCell c v := fun y c q => I3.cell y c (hcl.sub y c q)
 have st3 : g3.FunFrames X.base X.stack := I3.stack
 have exlt : ∀ b ∈ fp, b ≠ C := fun b hb => by rw [<- hC, sz3]; exact Nat.ne_of_lt (Nat.lt_succ_of_lt (fplt b hb))
 have frlt : ∀ b ∈ frs X.stack, b < g3.objs.size := fun b hb => let ⟨_, o, q, _⟩ := st3.mem hb; Heap.lt_size q
 have okB : (bR X scope cl C (xs ++ ys) { s2 with heap := g3 } (upd H2 s2.heap.objs.size (.lst [])) fp (X.pn ++ pins)).Ok := by
  refine ⟨okX.mod, hkind, okX.glob, okX.blt, Nat.le_of_eq hC, inj, fun y hy => hcl.has y hy, (fun y c hf _ => nomatch hf), okX.hd, okX.frames, .inl rfl, fun b hb => ⟨exlt b hb, fun y c q z => ?_⟩, I3.bs, Nat.le_trans okX.bsz I3.sz, fun b o q hb => ?_, fun b hb => ?_, st3, I3.stkFree⟩
  ·subst z
   exact (f2 c hb).2.2.2.2.1 y c (hcl.sub y c q) rfl
  ·rcases (f2 b hb).2.2.2.1 with z | z
   ·exact okX.noex b o q z
   ·have := Heap.lt_size (okX.bs b o q).1
    exact absurd (Nat.lt_of_lt_of_le this z) (Nat.lt_irrefl _)
  ·intro hz
   rcases List.mem_cons.mp (I3.stkSub b hz) with z | z
   ·exact (f2 b hb).2.1 z
   ·exact (f2 b hb).2.2.1 z
 have tot : ∀ tk : Nat, Inv (bR X scope cl C (xs ++ ys) { s2 with heap := g3 } (upd H2 s2.heap.objs.size (.lst [])) fp (X.pn ++ pins)) [] (List.replicate xs.length none ++ n4 js σ) (upd H2 s2.heap.objs.size (.lst [])) { s2 with heap := h₁, toks := tk } := fun tk => by
  refine ⟨okB, rfl, I3.bare, Un.kept old3, ⟨_, hns₁, fun i y v' e1 e2 e3 => ?_⟩, fun y c q => ?_, I3.hok.fresh (Nat.le_of_eq hC), fun y c q => ?_, fun p hp => ?_, I3.hok.kept old3, ?_⟩
  ·by_cases hix : i < xs.length
   ·rw [List.getElem?_append_left (by rw [List.length_replicate]; exact hix), List.getElem?_replicate] at e2
    split at e2 <;> cases e2
   ·have hix' : xs.length <= i := by omega
    obtain ⟨k, rfl⟩ : ∃ k, i = xs.length + k := ⟨i - xs.length, by omega⟩
    have e1' : ys[k]? = some y := by
     rw [List.getElem?_append_right (by omega)] at e1
     simpa using e1
    have e2' : (n4 js σ)[k]? = some (some v') := by
     rw [List.getElem?_append_right (by rw [List.length_replicate]; omega), List.length_replicate] at e2
     simpa using e2
    unfold n4 at e2'
    rw [List.getElem?_map] at e2'
    cases ej : js[k]? with
    | none => rw [ej] at e2'; cases e2'
    | some j =>
     rw [ej] at e2'
     have e2'' : (σ[j]?).getD none = some v' := Option.some.inj e2'
     have eσ : σ[j]? = some (some v') := by
      cases es : σ[j]? with
      | none => rw [es] at e2''; cases e2''
      | some z => rw [es] at e2''; have : z = some v' := e2''; rw [this]
     obtain ⟨c1, c2, c3, c4, c5⟩ := hcap.at_ k y j e1' ej
     obtain ⟨m0, hn0, hl0⟩ := I3.loc
     obtain ⟨u, r, l⟩ := hl0 j y v' c1 eσ (c2.elim (fun z => .inr (.inl z)) fun z => .inr (.inr z))
     refine ⟨u, r, .inr ⟨c3, ?_⟩⟩
     rcases l with ⟨l, _⟩ | ⟨_, c, hcc, z⟩
     ·rcases c2 with c2 | c2
      ·rw [c2] at l; cases l
      ·rw [c2] at l; cases l
     ·obtain ⟨o, ho, hd⟩ := z
      exact ⟨c, c5.trans hcc, o, old3 c o ho, hd⟩
  ·obtain ⟨v0, o, ho, hd⟩ := cellE y c q
   exact ⟨v0, o, old3 c o ho, hd⟩
  ·exact I3.freeC y c (hcl.sub y c q)
  ·have hp' : p ∈ X.pn ++ pins := by simpa using hp
   obtain ⟨p1, p2, p3, p4, p5⟩ := I3.pin p hp'
   refine ⟨old3 _ _ p1, p2, ?_, fun hz => ?_, p5⟩
   ·show p.1 ≠ C
    rw [<- hC]
    exact Nat.ne_of_lt (Heap.lt_size p1)
   ·rcases List.mem_cons.mp (I3.stkSub p.1 hz) with z | z
    ·exact p3 z
    ·exact p4 z
  ·show (List.replicate xs.length none ++ n4 js σ).length = (xs ++ ys).length
   unfold n4
   simp [hcap.len]
 have fpB : ∀ {H' : Hp}, (∀ b ∈ fp, H' b = none) -> ∀ b ∈ fp, aAd (bR X scope cl C (xs ++ ys) { s2 with heap := g3 } (upd H2 s2.heap.objs.size (.lst [])) fp (X.pn ++ pins)) [] H' b := fun hn b hb =>
  ⟨hn b hb, exlt b hb, okB.exfs b hb, .inl hb, (okB.exf b hb).2, fun p hp => (f2 b hb).2.2.2.2.2 p (by simpa using hp)⟩
 have fin : ∀ s' : Shared, (∃ i zs σ' H', Inv (bR X scope cl C (xs ++ ys) { s2 with heap := g3 } (upd H2 s2.heap.objs.size (.lst [])) fp (X.pn ++ pins)) [] σ' H' s' /\ W i zs H' /\ J.stop i H' /\ Q (.ref s2.heap.objs.size) H') ->
   compPost (model X.prog X.w) X.A X.xe use QQ (.ref s2.heap.objs.size) C (.ok .next) s' := by
  rintro s' ⟨i, zs, σ', H', Ib, w, stop, q⟩
  obtain ⟨m', hn', _⟩ := Ib.loc
  have ub := Ib.base
  have un : Un (frs X.stack) fp (upd H2 s2.heap.objs.size (.lst [])) H' g3 s'.heap := ub
  have IX : Inv X pins σ H' s' := I3.call' (s' := s') (ch := fp) Ib.os un Ib.hok Ib.bare fun b hb => ⟨(f2 b hb).2.2.2.1, (f2 b hb).2.1, (f2 b hb).2.2.2.2.1, (f2 b hb).2.2.2.2.2⟩
  exact aJe C _ s' H' IX (I3.fpOk (Nat.le_of_eq hC) Ib.free) ⟨m', hn'⟩ q
 have loop : ∀ s₃ : Shared, (∃ tk, s₃ = { s2 with heap := h₁, toks := tk }) ->
   codeAny (model X.prog X.w) X.A (.compLoop (.ListComp elt [⟨tg, iter, ifs, 0⟩] scope pos) 0 (.ref it) (.ref s2.heap.objs.size) (compEnvC scope cl C X.env)) (compPost (model X.prog X.w) X.A X.xe use QQ (.ref s2.heap.objs.size) C) s₃ := by
  rintro s₃ ⟨tk, rfl⟩
  refine sY (fun k s' => ∃ i zs H', k = n + 1 - i /\ i <= n /\ Inv (bR X scope cl C (xs ++ ys) { s2 with heap := g3 } (upd H2 s2.heap.objs.size (.lst [])) fp (X.pn ++ pins)) [] (List.replicate xs.length none ++ n4 js σ) H' s' /\ tn i s'.heap /\ (∀ b ∈ fp, H' b = none) /\ W i zs H')
   ?_ (n + 1) ⟨0, [], _, rfl, Nat.zero_le _, tot tk, T.keep _ _ _ st2 fun b hb o q => old3 b o (old2 b o q), fp3, w0⟩
  rintro k s' ⟨i, zs, H', rfl, hin, Ib, st, fr, w⟩
  rcases turn i zs H' w with ⟨stop, qq⟩ | ⟨hlt, go, step⟩
  ·refine wpAny_mono (T.done (bR X scope cl C (xs ++ ys) { s2 with heap := g3 } (upd H2 s2.heap.objs.size (.lst [])) fp (X.pn ++ pins)) rfl rfl rfl hc i [] s' _ H' (fun _ _ => False) Ib (fpB fr) st stop) (fun r s4 ⟨hr, I4⟩ => ?_) fun _ _ z => z.elim
   subst hr
   exact fin s4 ⟨i, zs, _, H', I4, w, stop, qq⟩
  ·refine wpAny_mono (T.item (bR X scope cl C (xs ++ ys) { s2 with heap := g3 } (upd H2 s2.heap.objs.size (.lst [])) fp (X.pn ++ pins)) rfl rfl rfl hc i [] s' _ H' (fun _ _ => False) Ib (fpB fr) st go) (fun r s4 ⟨u, hr, h4⟩ => ?_) fun _ _ z => z.elim
   subst hr
   refine wpAny_mono h4 (fun _ s5 ⟨v5, H5, I5, r5, y5, st5, fr5⟩ => ?_) fun _ _ z => z.elim
   have I5' := I5.pinned (fpB fr5) (T.obj _ _ st5)
   have hw5 := step v5 H5 y5
   refine wpAny_mono (hg C _ _ fp (X.pn ++ pins) _ s5 _ H5 v5 u _ I5' r5 hw5) (fun _ s6 ⟨σ6, H6, I6, ⟨hl6, hd6⟩, e6⟩ => ?_) fun _ _ z => z.elim
   have back : ∀ {H' : Hp} {s' : Shared} {pins' : List (Addr × Obj)}, Inv (bR X scope cl C (xs ++ ys) { s2 with heap := g3 } (upd H2 s2.heap.objs.size (.lst [])) fp (X.pn ++ pins)) pins' σ6 H' s' -> Inv (bR X scope cl C (xs ++ ys) { s2 with heap := g3 } (upd H2 s2.heap.objs.size (.lst [])) fp (X.pn ++ pins)) pins' (List.replicate xs.length none ++ n4 js σ) H' s' := fun I' => by
    refine I'.weak ?_ fun j v' e => ?_
    ·rw [hl6]; unfold n4; simp
    ·by_cases hj : j < xs.length
     ·rw [List.getElem?_append_left (by rw [List.length_replicate]; exact hj), List.getElem?_replicate] at e
      split at e <;> cases e
     ·rw [List.getElem?_append_right (by rw [List.length_replicate]; omega), List.length_replicate, <- hd6, List.getElem?_drop] at e
      rw [<- e]
      congr 1
      omega
   refine wpAny_mono (ht C _ _ fp (X.pn ++ pins) _ s6 _ _ _ I6 e6) (fun ok s6b ⟨H6b, I6b, e6b⟩ => ?_) fun _ _ z => z.elim
   cases ok with
   | false =>
    rw [if_neg Bool.false_ne_true]
    have e6c : W (i + 1) zs H6b := by simpa using e6b
    have I8 := back I6b
    refine ⟨n + 1 - (i + 1), by omega, i + 1, zs, _, rfl, hlt, I8.unpinned (pins := []), ?_, fun b hb => ?_, e6c⟩
    ·exact T.keep _ _ _ st5 fun b hb o q => (I8.pin (b, o) (List.mem_append_right _ (List.mem_append_right _ (cM hb q)))).1
    ·obtain ⟨o, q, d⟩ := T.obj _ _ st5 b hb
     exact (I8.pin (b, o) (List.mem_append_right _ (List.mem_append_right _ (cM hb q)))).2.1
   | true =>
    rw [if_pos rfl]
    have e6c := e6b
    rw [if_pos rfl] at e6c
    refine wpAny_mono (hb C _ _ fp (X.pn ++ pins) _ s6b _ _ _ I6b e6c) (fun y s7 ⟨yv, H7, I7, r7, hD, hz, w7⟩ => ?_) fun _ _ z => z.elim
    obtain ⟨z7, its, n7, rv7, hl7, e7⟩ := I7.lstM hD
    refine append_at (n := n7) (its := its.toArray) e7 (fun h₈ sb8 eD8 => ?_) (by rw [List.size_toArray, <- hl7]; exact Nat.le_of_lt hz)
    have I8 : Inv _ _ _ (upd H7 s2.heap.objs.size (.lst (zs ++ [yv]))) { s7 with heap := h₈, toks := s7.toks } := I7.write (x := s2.heap.objs.size) (e := s2.heap.objs.size) (by rw [hD]; exact trivial) (.inl rfl) (fun b u hb q => (sb8.2 b hb).trans q) ⟨_, eD8⟩
     ⟨by rw [List.length_append]; exact hz, its ++ [y], n7 + 1, rv7.append (.cons r7 .nil), by rw [eD8, List.push_toArray]⟩
    have I9 := back I8
    refine ⟨n + 1 - (i + 1), by omega, i + 1, zs ++ [yv], _, rfl, hlt, I9.unpinned (pins := []), ?_, fun b hb => ?_, w7⟩
    ·exact T.keep _ _ _ st5 fun b hb o q => (I8.pin (b, o) (List.mem_append_right _ (List.mem_append_right _ (cM hb q)))).1
    ·obtain ⟨o, q, d⟩ := T.obj _ _ st5 b hb
     exact (I8.pin (b, o) (List.mem_append_right _ (List.mem_append_right _ (cM hb q)))).2.1
 exact codeAny_compStart_list (loop _ ⟨_, rfl⟩) (T.self _ 0 _ _ _ (T.keep _ _ _ st2 fun b hb o q => old3 b o (old2 b o q)) (loop _ ⟨_, rfl⟩))
theorem aD3 {elt iter tg : Expr} {pos : Pos} {scope : Scope} {ifs : List Expr} {wi : TI} {g : TG} {tt : TT} {te : TE} {xs ys : List Str} {js : List Nat} {cl : List (Str × Addr)} (hc : X.calm = true) (hi : PI X tg iter wi)
  (hcl : aFs X scope cl) (hcap : lO X scope cl ys js) (hcell : ∀ y ∈ scope.names, y.2 ≠ .cell) (hkind : scope.kind = .function) (hnames : ∀ y ∈ scope.names, y.2 = .local -> scope.names.lookup y.1 = some .local)
  (hg : ∀ C s₀ H₀ ex pn, PG (bR X scope cl C (xs ++ ys) s₀ H₀ ex pn) tg g) (ht : ∀ C s₀ H₀ ex pn, PTs (bR X scope cl C (xs ++ ys) s₀ H₀ ex pn) ifs tt) (hb : ∀ C s₀ H₀ ex pn, PE (bR X scope cl C (xs ++ ys) s₀ H₀ ex pn) elt te)
  (hs : ∀ x, foldedSetIterable iter X.env x = pure x := by intro _; rfl) :
  PE X (.ListComp elt [⟨tg, iter, ifs, 0⟩] scope pos) (nN wi g tt te xs.length js) := by
 intro pins s σ H Q I h
 rw [eval_ListComp]
 exact sJ hc hi hcl hcap hcell hkind hnames hg ht hb hs (use := none) (QQ := EP X pins σ Q) (Q := Q) I (fun C D s' H' IX f ⟨m, hn⟩ q => ⟨m, hn, fun h' hs' => ⟨.ref D, H', IX.but f hs', rfl, q⟩⟩) h
theorem aDb {elt iter tg : Expr} {pos py spos : Pos} {scope : Scope} {ifs : List Expr} {wi : TI} {g : TG} {tt : TT} {te : TE} {xs ys : List Str} {js : List Nat} {cl : List (Str × Addr)} {i : Nat} {y : Str} (hN : X.N.Nodup) (hiN : X.N[i]? = some y) (hx : Loc X.env.scope y) (hc : X.calm = true) (hi : PI X tg iter wi)
  (hcl : aFs X scope cl) (hcap : lO X scope cl ys js) (hcell : ∀ y ∈ scope.names, y.2 ≠ .cell) (hkind : scope.kind = .function) (hnames : ∀ y ∈ scope.names, y.2 = .local -> scope.names.lookup y.1 = some .local)
  (hg : ∀ C s₀ H₀ ex pn, PG (bR X scope cl C (xs ++ ys) s₀ H₀ ex pn) tg g) (ht : ∀ C s₀ H₀ ex pn, PTs (bR X scope cl C (xs ++ ys) s₀ H₀ ex pn) ifs tt) (hb : ∀ C s₀ H₀ ex pn, PE (bR X scope cl C (xs ++ ys) s₀ H₀ ex pn) elt te)
  (hsw : swapsWith (.ListComp elt [⟨tg, iter, ifs, 0⟩] scope pos) (some (.Name y py)) spos.line X.env = pure true) (hs : ∀ x, foldedSetIterable iter X.env x = pure x := by intro _; rfl)
  (hf : X.fn y = true \/ X.env.scope.names.lookup y = some .local := by first | exact .inl rfl | exact .inr rfl | assumption) :
  PS X (.Assign [.Name y py] (.ListComp elt [⟨tg, iter, ifs, 0⟩] scope pos) spos) (aLq (nN wi g tt te xs.length js) (aC8 i)) := by
 intro pins s σ H D I h
 rw [exec_Assign_Name_used _ _ _ _ hsw]
 refine wpAny_bind (wpAny_standAt (wpAny_bind ?_))
 show wpAny _ X.A (do let _ <- comprehension (.ListComp elt [⟨tg, iter, ifs, 0⟩] scope pos) scope X.env _ (newList []) false (eval iter X.env) (some (assign (.Name y py) X.env))) _ _ s
 refine wpAny_bind (wpAny_mono (sJ hc hi hcl hcap hcell hkind hnames hg ht hb hs (use := some (assign (.Name y py) X.env)) (QQ := fun _ s' => ∃ σ' H', Inv X pins σ' H' s' /\ D.nx σ' H') I (fun C L s' H' IX f ⟨m, hn⟩ q => ?_) h) (fun _ s' hq => wpAny_pure (wpAny_pure hq)) fun _ _ e => e)
 obtain ⟨o, es, ep, ho, hd, hr⟩ := id hn
 have IP := IX.pinned (fp := [C]) (fun b hb => by rw [List.mem_singleton.mp hb]; exact f) (fun b hb => by rw [List.mem_singleton.mp hb]; exact ⟨o, ho, fun v z => by rw [hd] at z; cases z⟩)
 refine wpAny_mono (u9 (pos := py) hN hiN hx hf _ s' σ H' (.ref L) (.ref L) _ IP rfl q) (fun _ s2 ⟨σ2, H2, I2, q2⟩ => ?_) fun _ _ e => e
 have pc := I2.pin (C, o) (List.mem_append_right _ (List.mem_append_right _ (cM (.head _) ho)))
 exact ⟨m, ⟨o, es, ep, pc.1, hd, hr⟩, fun h' hs' => ⟨σ2, H2, (I2.unpinned (pins := pins)).but ⟨pc.2.1, f.2⟩ hs', q2⟩⟩
end
end L2
namespace M
open PySem PySem.Spec PyProof.Rows L2
abbrev D := PyData
inductive Res (α : Type) where
 | ok (a : α)
 | exc (C : Addr)
 | bad
def Res.bind {α β : Type} (r : Res α) (f : α -> Res β) : Res β := match r with
 | .ok a => f a
 | .exc C => .exc C
 | .bad => .bad
def wpR {α : Type} (r : Res α) (Q : α -> Prop) (E : Addr -> Prop) : Prop := match r with
 | .ok a => Q a
 | .exc C => E C
 | .bad => False
theorem bO {α β : Type} {r : Res α} {f : α -> Res β} {Q : β -> Prop} {E : Addr -> Prop} : wpR (r.bind f) Q E = wpR r (fun a => wpR (f a) Q E) E := by cases r <;> rfl
theorem a5 {α : Type} {r : Res α} {Q Q' : α -> Prop} {E E' : Addr -> Prop} (h : wpR r Q E) (hQ : ∀ a, Q a -> Q' a) (hE : ∀ C, E C -> E' C) : wpR r Q' E' := by
 cases r with
 | ok a => exact hQ a h
 | exc C => exact hE C h
 | bad => exact h
inductive L where
 | p (d : D)
 | o (d : D)
 | x (C : Addr)
 | h (a : Addr)
inductive Ev where
 | p (d : D)
 | f (d : D)
 | b (d : D)
 | x (C : Addr)
def Ev.c : Ev -> Ev
 | .f d => .p d
 | r => r
abbrev En := List (Option L)
def kD : Key -> D
 | .inl i => .int i
 | .inr x => .str x
def tkD (ks : List Key) : D := .tuple (ks.map kD)
mutual
inductive Rep (K : PySem.W.Frag) (G : Hp) : V -> D -> Prop
 | non : Rep K G .non .none
 | bl (b : Bool) : Rep K G (.bl b) (.bool b)
 | int (i : Int) : Rep K G (.int i) (.int i)
 | str (x : Str) : Rep K G (.str x) (.str x)
 | tup {a : Addr} {xs : List V} {ds : List D} : G a = some (.tup xs) -> Reps K G xs ds -> Rep K G (.ref a) (.tuple ds)
 | lst {a : Addr} {xs : List V} {ds : List D} : Rd G a (.lst xs) -> Reps K G xs ds -> Rep K G (.ref a) (.list ds)
 | dT {a : Addr} {kv : List (List Key × V)} {kvs : List (D × D)} : G a = some (.dT kv) -> RepT K G kv kvs -> Rep K G (.ref a) (.dict kvs)
 | dK {a : Addr} {kv : List (Key × V)} {kvs : List (D × D)} : G a = some (.dK kv) -> RepK K G kv kvs -> Rep K G (.ref a) (.dict ((.none, .none) :: kvs))
inductive Reps (K : PySem.W.Frag) (G : Hp) : List V -> List D -> Prop
 | nil : Reps K G [] []
 | cons {x : V} {xs : List V} {d : D} {ds : List D} : Rep K G x d -> Reps K G xs ds -> Reps K G (x :: xs) (d :: ds)
inductive RepT (K : PySem.W.Frag) (G : Hp) : List (List Key × V) -> List (D × D) -> Prop
 | nil : RepT K G [] []
 | cons {k : List Key} {x : V} {d : D} {kv : List (List Key × V)} {kvs : List (D × D)} : Rep K G x d -> RepT K G kv kvs -> RepT K G ((k, x) :: kv) ((tkD k, d) :: kvs)
inductive RepK (K : PySem.W.Frag) (G : Hp) : List (Key × V) -> List (D × D) -> Prop
 | nil : RepK K G [] []
 | cons {k : Key} {x : V} {d : D} {kv : List (Key × V)} {kvs : List (D × D)} : Rep K G x d -> RepK K G kv kvs -> RepK K G ((k, x) :: kv) ((kD k, d) :: kvs)
end
inductive Cont (K : PySem.W.Frag) (G : Hp) : HO -> D -> Prop
 | lst {xs : List V} {ds : List D} : Reps K G xs ds -> Cont K G (.lst xs) (.list ds)
 | dT {kv : List (List Key × V)} {kvs : List (D × D)} : RepT K G kv kvs -> Cont K G (.dT kv) (.dict kvs)
 | dK {kv : List (Key × V)} {kvs : List (D × D)} : RepK K G kv kvs -> Cont K G (.dK kv) (.dict ((.none, .none) :: kvs))
section
variable {K : PySem.W.Frag} {G G' H H' : Hp}
theorem dZ {a : Addr} {u : HO} (s : Same G G') (h : Rd G a u) : Rd G' a u := by
 rcases h with h | ⟨o, h⟩
 ·exact .inl (s _ _ h)
 ·exact .inr ⟨o, s _ _ h⟩
mutual
theorem Rep.mono (s : Same G G') : ∀ {v : V} {d : D}, Rep K G v d -> Rep K G' v d
 | _, _, .non => .non
 | _, _, .bl b => .bl b
 | _, _, .int i => .int i
 | _, _, .str x => .str x
 | _, _, .tup h r => .tup (s _ _ h) (Reps.mono s r)
 | _, _, .lst h r => .lst (dZ s h) (Reps.mono s r)
 | _, _, .dT h r => .dT (s _ _ h) (RepT.mono s r)
 | _, _, .dK h r => .dK (s _ _ h) (RepK.mono s r)
theorem Reps.mono (s : Same G G') : ∀ {v : List V} {d : List D}, Reps K G v d -> Reps K G' v d
 | _, _, .nil => .nil
 | _, _, .cons h r => .cons (Rep.mono s h) (Reps.mono s r)
theorem RepT.mono (s : Same G G') : ∀ {v : List (List Key × V)} {d : List (D × D)}, RepT K G v d -> RepT K G' v d
 | _, _, .nil => .nil
 | _, _, .cons h r => .cons (Rep.mono s h) (RepT.mono s r)
theorem RepK.mono (s : Same G G') : ∀ {v : List (Key × V)} {d : List (D × D)}, RepK K G v d -> RepK K G' v d
 | _, _, .nil => .nil
 | _, _, .cons h r => .cons (Rep.mono s h) (RepK.mono s r)
end
theorem Cont.mono (s : Same G G') {o : HO} {d : D} (h : Cont K G o d) : Cont K G' o d := by
 cases h with
 | lst r => exact .lst (r.mono s)
 | dT r => exact .dT (r.mono s)
 | dK r => exact .dK (r.mono s)
theorem Cont.rep {a : Addr} {o : HO} {d : D} (h : Cont K G o d) (e : G a = some o) : Rep K G (.ref a) d := by
 cases h with
 | lst r => exact .lst (.inl e) r
 | dT r => exact .dT e r
 | dK r => exact .dK e r
theorem Reps.length : ∀ {xs : List V} {ds : List D}, Reps K G xs ds -> xs.length = ds.length
 | _, _, .nil => rfl
 | _, _, .cons _ r => by rw [List.length_cons, List.length_cons, Reps.length r]
theorem Reps.get : ∀ {xs : List V} {ds : List D} {i : Nat} {x : V}, Reps K G xs ds -> xs[i]? = some x -> ∃ d, ds[i]? = some d /\ Rep K G x d
 | _, _, _, _, .nil, e => by simp at e
 | _, _, 0, _, .cons h _, e => by simp at e; subst e; exact ⟨_, rfl, h⟩
 | _, _, i + 1, _, .cons _ r, e => by
  have := Reps.get (i := i) r (by simpa using e)
  simpa using this
theorem Reps.get' : ∀ {xs : List V} {ds : List D} {i : Nat} {d : D}, Reps K G xs ds -> ds[i]? = some d -> ∃ x, xs[i]? = some x /\ Rep K G x d
 | _, _, _, _, .nil, e => by simp at e
 | _, _, 0, _, .cons h _, e => by simp at e; subst e; exact ⟨_, rfl, h⟩
 | _, _, i + 1, _, .cons _ r, e => by
  have := Reps.get' (i := i) r (by simpa using e)
  simpa using this
theorem Reps.append : ∀ {xs ys : List V} {ds es : List D}, Reps K G xs ds -> Reps K G ys es -> Reps K G (xs ++ ys) (ds ++ es)
 | _, _, _, _, .nil, r => r
 | _, _, _, _, .cons h t, r => .cons h (Reps.append t r)
theorem Reps.take : ∀ {xs : List V} {ds : List D} (n : Nat), Reps K G xs ds -> Reps K G (xs.take n) (ds.take n)
 | _, _, 0, _ => .nil
 | _, _, _ + 1, .nil => .nil
 | _, _, n + 1, .cons h t => .cons h (Reps.take n t)
theorem Reps.drop : ∀ {xs : List V} {ds : List D} (n : Nat), Reps K G xs ds -> Reps K G (xs.drop n) (ds.drop n)
 | _, _, 0, r => r
 | _, _, _ + 1, .nil => .nil
 | _, _, n + 1, .cons _ t => Reps.drop n t
end
structure Step (G H G' H' : Hp) : Prop where
 g : Same G G'
 h : Same H H'
 gh : Same G' H'
 new : ∀ b, H b ≠ none -> G b = none -> G' b = none \/ ∃ xs, H b = some (.tup xs)
theorem Step.off {G H G' H' : Hp} (s : Step G H G' H') {b : Addr} {o : HO} (h : H b = some o) (n : ∀ xs, o ≠ .tup xs) (g : G b = none) : G' b = none := by
 rcases s.new b (by rw [h]; exact fun z => nomatch z) g with z | ⟨xs, z⟩
 ·exact z
 ·rw [h] at z; exact absurd (Option.some.inj z) (n xs)
theorem yR {H H' : Hp} (s : Same H H') {b : Addr} (h : H b ≠ none) : H' b ≠ none := by
 cases e : H b with
 | none => exact absurd e h
 | some o => rw [s b o e]; exact fun z => nomatch z
theorem Step.refl {G H : Hp} (s : Same G H) : Step G H G H := ⟨Same.refl _, Same.refl _, s, fun _ _ h => .inl h⟩
theorem Step.trans {G H G1 H1 G2 H2 : Hp} (a : Step G H G1 H1) (b : Step G1 H1 G2 H2) : Step G H G2 H2 :=
 ⟨a.g.trans b.g, a.h.trans b.h, b.gh, fun c hc hg => by
  rcases a.new c hc hg with z | z
  ·rcases b.new c (yR a.h hc) z with y | ⟨xs, y⟩
   ·exact .inl y
   ·cases e : H c with
    | none => exact absurd e hc
    | some o =>
     rw [a.h _ _ e] at y
     exact .inr ⟨xs, y⟩
  ·exact .inr z⟩
theorem Step.put {G H : Hp} {a : Addr} {o : HO} (s : Same G H) (e : H a = none) : Step G H (upd G a o) (upd H a o) :=
 ⟨Same.upd (Same.refl _) (s.free e) o, Same.upd (Same.refl _) e o, fun b u q => by
  by_cases z : b = a
  ·subst z; rw [aY] at q ⊢; exact q
  ·rw [aU z] at q ⊢; exact s b u q, fun b hb hg => by
  have z : b ≠ a := fun z => hb (z ▸ e)
  rw [aU z]; exact .inl hg⟩
theorem Step.lay {G H : Hp} {a : Addr} {o : HO} (s : Same G H) (e : H a = none) : Step G H G (upd H a o) :=
 ⟨Same.refl _, Same.upd (Same.refl _) e o, Same.upd s e o, fun _ _ h => .inl h⟩
def EOk (K : PySem.W.Frag) (W : Addr -> Option Nat) (Hs G H : Hp) (v : V) : Ev -> Prop
 | .p d => Rep K G v d
 | .f d => ∃ a o, v = .ref a /\ Hs a = none /\ G a = none /\ H a = some o /\ Cont K G o d
 | .b d => ∃ a i o, v = .ref a /\ W a = some i /\ H a = some o /\ Cont K G o d
 | .x C => ∃ e, v = .ref e /\ G e = some (aH0 e (.ref C))
theorem EOk.step {K : PySem.W.Frag} {W : Addr -> Option Nat} {Hs Hs' G H G' H' : Hp} {v : V} {r : Ev} (h : EOk K W Hs G H v r.c) (s : Step G H G' H') : EOk K W Hs' G' H' v r.c := by
 cases r with
 | p d => exact Rep.mono s.g h
 | f d => exact Rep.mono s.g h
 | b d =>
  obtain ⟨a, i, o, h1, h2, h3, h4⟩ := h
  exact ⟨a, i, o, h1, h2, s.h _ _ h3, h4.mono s.g⟩
 | x C =>
  obtain ⟨e, h1, h2⟩ := h
  exact ⟨e, h1, s.g _ _ h2⟩
theorem EOk.c {K : PySem.W.Frag} {W : Addr -> Option Nat} {G H G1 H1 : Hp} {v : V} {r : Ev} (s : Step G H G1 H1) (h : EOk K W H G1 H1 v r) : ∃ G2, Step G H G2 H1 /\ EOk K W H G2 H1 v r.c := by
 cases r with
 | p d => exact ⟨G1, s, h⟩
 | b d => exact ⟨G1, s, h⟩
 | x d => exact ⟨G1, s, h⟩
 | f d =>
  obtain ⟨a, o, rfl, h1, h2, h3, h4⟩ := h
  refine ⟨upd G1 a o, ⟨s.g.trans (Same.upd (Same.refl _) h2 o), s.h, fun b u q => ?_, fun b hb hg => ?_⟩, (h4.mono (Same.upd (Same.refl _) h2 o)).rep aY⟩
  ·by_cases z : b = a
   ·subst z; rw [aY] at q; rw [h3]; exact q
   ·rw [aU z] at q; exact s.gh b u q
  ·have z : b ≠ a := fun z => hb (z ▸ h1)
   rw [aU z]; exact s.new b hb hg
structure SimH (B G0 G : Hp) (W : Addr -> Option Nat) (H : Hp) : Prop where
 gh : Same G H
 bh : Same B H
 g0 : Same G0 G
 gb : ∀ b, G b ≠ none -> G0 b ≠ none \/ B b = none \/ ∃ xs, B b = some (.tup xs)
 wf : ∀ a i, W a = some i -> G a = none /\ B a = none /\ ∃ o, H a = some o /\ ∀ xs, o ≠ .tup xs
theorem SimH.step {B G0 G H G' H' : Hp} {W : Addr -> Option Nat} (s : SimH B G0 G W H) (t : Step G H G' H') : SimH B G0 G' W H' := by
 refine ⟨t.gh, s.bh.trans t.h, s.g0.trans t.g, fun b hb => ?_, fun a i e => ?_⟩
 ·by_cases z : G b = none
  ·refine .inr ?_
   by_cases y : H b = none
   ·exact .inl (s.bh.free y)
   ·rcases t.new b y z with q | ⟨xs, q⟩
    ·exact absurd q hb
    ·cases e : B b with
     | none => exact .inl rfl
     | some o => rw [s.bh _ _ e] at q; exact .inr ⟨xs, q⟩
  ·exact s.gb b z
 ·obtain ⟨h1, h2, o, h3, h4⟩ := s.wf a i e
  exact ⟨t.off h3 h4 h1, h2, o, t.h _ _ h3, h4⟩
theorem Cont.mut {K : PySem.W.Frag} {G : Hp} {o : HO} {d : D} (h : Cont K G o d) : ∀ xs, o ≠ .tup xs := by
 intro xs z
 subst z
 cases h
def Slot (K : PySem.W.Frag) (W : Addr -> Option Nat) (G H : Hp) (i : Nat) (v : V) : L -> Prop
 | .p d => Rep K G v d
 | .o d => ∃ a o, v = .ref a /\ W a = some i /\ H a = some o /\ Cont K G o d
 | .x C => ∃ e, v = .ref e /\ G e = some (aH0 e (.ref C))
 | .h a => v = .ref a
def SimS (K : PySem.W.Frag) (W : Addr -> Option Nat) (G H : Hp) (σ : L2.St) (en : En) : Prop := σ.length = en.length /\ ∀ i l, en[i]? = some (some l) -> ∃ v, σ[i]? = some (some v) /\ Slot K W G H i v l
theorem Slot.step {K : PySem.W.Frag} {W : Addr -> Option Nat} {G H G' H' : Hp} {i : Nat} {v : V} {l : L} (h : Slot K W G H i v l) (s : Step G H G' H') : Slot K W G' H' i v l := by
 cases l with
 | p d => exact Rep.mono s.g h
 | o d =>
  obtain ⟨a, o, h1, h2, h3, h4⟩ := h
  exact ⟨a, o, h1, h2, s.h _ _ h3, h4.mono s.g⟩
 | x C =>
  obtain ⟨e, h1, h2⟩ := h
  exact ⟨e, h1, s.g _ _ h2⟩
 | h a => exact h
theorem SimS.step {K : PySem.W.Frag} {W : Addr -> Option Nat} {G H G' H' : Hp} {σ : L2.St} {en : En} (h : SimS K W G H σ en) (s : Step G H G' H') : SimS K W G' H' σ en :=
 ⟨h.1, fun i l e => let ⟨v, e1, e2⟩ := h.2 i l e; ⟨v, e1, e2.step s⟩⟩
def PostE (K : PySem.W.Frag) (W : Addr -> Option Nat) (G H : Hp) (Q : VK) (r : Ev) : Prop := ∀ G' H' v, Step G H G' H' -> EOk K W H G' H' v r -> Q v H'
def PostB (G H : Hp) (Q : Bool -> Hp -> Prop) (b : Bool) : Prop := ∀ G' H', Step G H G' H' -> Q b H'
def EOks (K : PySem.W.Frag) (W : Addr -> Option Nat) (Hs G H : Hp) : List V -> List Ev -> Prop
 | [], [] => True
 | v :: vs, r :: rs => EOk K W Hs G H v r /\ EOks K W Hs G H vs rs
 | _, _ => False
def aD9 (K : PySem.W.Frag) (W : Addr -> Option Nat) (G H : Hp) (Q : List V -> Hp -> Prop) (rs : List Ev) : Prop := ∀ G' H' vs, Step G H G' H' -> EOks K W H G' H' vs rs -> Q vs H'
def PostX (E : XK) (G H : Hp) (C : Addr) : Prop := ∀ G' H', Step G H G' H' -> E (.ref C) none H'
theorem PostE.step {K : PySem.W.Frag} {W : Addr -> Option Nat} {G H G' H' : Hp} {Q : VK} {r : Ev} (h : PostE K W G H Q r) (s : Step G H G' H') : PostE K W G' H' Q r := fun G2 H2 v s2 e => h G2 H2 v (s.trans s2) (by
 cases r with
 | p d => exact e
 | b d => exact e
 | x d => exact e
 | f d =>
  obtain ⟨a, o, h1, h2, h3, h4, h5⟩ := e
  exact ⟨a, o, h1, s.h.free h2, h3, h4, h5⟩)
theorem PostX.step {E : XK} {G H G' H' : Hp} {C : Addr} (h : PostX E G H C) (s : Step G H G' H') : PostX E G' H' C := fun G2 H2 s2 => h G2 H2 (s.trans s2)
theorem PostB.step {G H G' H' : Hp} {Q : Bool -> Hp -> Prop} {b : Bool} (h : PostB G H Q b) (s : Step G H G' H') : PostB G' H' Q b := fun G2 H2 s2 => h G2 H2 (s.trans s2)
def tE (K : PySem.W.Frag) (E : L2.St -> XK) (f : En -> Res Ev) : TE := fun σ H Q => ∃ B G0 G W en, SimH B G0 G W H /\ SimS K W G H σ en /\ wpR (f en) (PostE K W G H Q) (PostX (E σ) G H)
def DE (X : Cx) (E : L2.St -> XK) (e : Expr) (f : En -> Res Ev) : Prop := PE X e (tE X.K E f)
theorem DE.out {X : Cx} {E : L2.St -> XK} {e : Expr} {f : En -> Res Ev} (h : DE X E e f) : ∃ t, PE X e t /\ ∀ B G0 G W H σ en Q, SimH B G0 G W H -> SimS X.K W G H σ en -> wpR (f en) (PostE X.K W G H Q) (PostX (E σ) G H) -> t σ H Q :=
 ⟨_, h, fun B G0 G W H σ en Q h1 h2 h3 => ⟨B, G0, G, W, en, h1, h2, h3⟩⟩
theorem DE.in {X : Cx} {E : L2.St -> XK} {e : Expr} {f : En -> Res Ev} (h : ∃ t, PE X e t /\ ∀ B G0 G W H σ en Q, SimH B G0 G W H -> SimS X.K W G H σ en -> wpR (f en) (PostE X.K W G H Q) (PostX (E σ) G H) -> t σ H Q) : DE X E e f :=
 fun pins s σ H Q I ⟨B, G0, G, W, en, h1, h2, h3⟩ => let ⟨_, p, m⟩ := h; p pins s σ H Q I (m B G0 G W H σ en Q h1 h2 h3)
def tT (K : PySem.W.Frag) (E : L2.St -> XK) (f : En -> Res Bool) : TT := fun σ H Q => ∃ B G0 G W en, SimH B G0 G W H /\ SimS K W G H σ en /\ wpR (f en) (PostB G H Q) (PostX (E σ) G H)
def tA (K : PySem.W.Frag) (E : L2.St -> XK) (f : En -> Res (List Ev)) : TA := fun σ H Q => ∃ B G0 G W en, SimH B G0 G W H /\ SimS K W G H σ en /\ wpR (f en) (aD9 K W G H Q) (PostX (E σ) G H)
def DT (X : Cx) (E : L2.St -> XK) (e : Expr) (f : En -> Res Bool) : Prop := PT X e (tT X.K E f)
def DW (X : Cx) (E : L2.St -> XK) (e : Expr) (f : En -> Res Bool) : Prop := PW X e (tT X.K E f)
def DA (X : Cx) (E : L2.St -> XK) (es : List Expr) (f : En -> Res (List Ev)) : Prop := PA X es (tA X.K E f)
section
variable {X : Cx} {E : L2.St -> XK} {e : Expr} {es : List Expr} {f : En -> Res Bool} {fr : En -> Res (List Ev)}
theorem DT.out (h : DT X E e f) : ∃ t, PT X e t /\ ∀ B G0 G W H σ en Q, SimH B G0 G W H -> SimS X.K W G H σ en -> wpR (f en) (PostB G H Q) (PostX (E σ) G H) -> t σ H Q :=
 ⟨_, h, fun B G0 G W H σ en Q h1 h2 h3 => ⟨B, G0, G, W, en, h1, h2, h3⟩⟩
theorem DT.in (h : ∃ t, PT X e t /\ ∀ B G0 G W H σ en Q, SimH B G0 G W H -> SimS X.K W G H σ en -> wpR (f en) (PostB G H Q) (PostX (E σ) G H) -> t σ H Q) : DT X E e f :=
 fun pins s σ H Q I ⟨B, G0, G, W, en, h1, h2, h3⟩ => let ⟨_, p, m⟩ := h; p pins s σ H Q I (m B G0 G W H σ en Q h1 h2 h3)
theorem DW.out (h : DW X E e f) : ∃ t, PW X e t /\ ∀ B G0 G W H σ en Q, SimH B G0 G W H -> SimS X.K W G H σ en -> wpR (f en) (PostB G H Q) (PostX (E σ) G H) -> t σ H Q :=
 ⟨_, h, fun B G0 G W H σ en Q h1 h2 h3 => ⟨B, G0, G, W, en, h1, h2, h3⟩⟩
theorem DW.in (h : ∃ t, PW X e t /\ ∀ B G0 G W H σ en Q, SimH B G0 G W H -> SimS X.K W G H σ en -> wpR (f en) (PostB G H Q) (PostX (E σ) G H) -> t σ H Q) : DW X E e f :=
 fun wh pins s σ H Q I ⟨B, G0, G, W, en, h1, h2, h3⟩ => let ⟨_, p, m⟩ := h; p wh pins s σ H Q I (m B G0 G W H σ en Q h1 h2 h3)
theorem DA.out (h : DA X E es fr) : ∃ t, PA X es t /\ ∀ B G0 G W H σ en Q, SimH B G0 G W H -> SimS X.K W G H σ en -> wpR (fr en) (aD9 X.K W G H Q) (PostX (E σ) G H) -> t σ H Q :=
 ⟨_, h, fun B G0 G W H σ en Q h1 h2 h3 => ⟨B, G0, G, W, en, h1, h2, h3⟩⟩
theorem DA.in (h : ∃ t, PA X es t /\ ∀ B G0 G W H σ en Q, SimH B G0 G W H -> SimS X.K W G H σ en -> wpR (fr en) (aD9 X.K W G H Q) (PostX (E σ) G H) -> t σ H Q) : DA X E es fr :=
 fun pos pins s σ H Q I ⟨B, G0, G, W, en, h1, h2, h3⟩ => let ⟨_, p, m⟩ := h; p pos pins s σ H Q I (m B G0 G W H σ en Q h1 h2 h3)
end
theorem DW.t {X : Cx} {E : L2.St -> XK} {e : Expr} {f : En -> Res Bool} (h : DW X E e f) : DT X E e f := h _
section
variable {X : Cx} {E : L2.St -> XK} {a b c e : Expr} {es : List Expr} {fa fb : En -> Res Ev} {fr : En -> Res (List Ev)} {pos : Pos}
theorem DE.go {K : PySem.W.Frag} {W : Addr -> Option Nat} {G H : Hp} {EE : XK} {Q : VK} {r : Res Ev} {k : Ev -> Res Ev} {Q' : VK} (hw : wpR (r.bind k) (PostE K W G H Q) (PostX EE G H))
  (h : ∀ (x : Ev) G1 H1 v, Step G H G1 H1 -> EOk K W H G1 H1 v x.c -> wpR (k x) (PostE K W G1 H1 Q) (PostX EE G1 H1) -> Q' v H1) : wpR r (PostE K W G H Q') (PostX EE G H) := by
 rw [bO] at hw
 refine a5 hw (fun x hx G1 H1 v s e => ?_) fun C h => h
 obtain ⟨G2, s2, e2⟩ := e.c s
 exact h x G2 H1 v s2 e2 (a5 hx (fun r h => h.step s2) fun C h => h.step s2)
theorem DE.goB {K : PySem.W.Frag} {W : Addr -> Option Nat} {G H : Hp} {EE : XK} {Q : Bool -> Hp -> Prop} {r : Res Ev} {k : Ev -> Res Bool} {Q' : VK} (hw : wpR (r.bind k) (PostB G H Q) (PostX EE G H))
  (h : ∀ (x : Ev) G1 H1 v, Step G H G1 H1 -> EOk K W H G1 H1 v x.c -> wpR (k x) (PostB G1 H1 Q) (PostX EE G1 H1) -> Q' v H1) : wpR r (PostE K W G H Q') (PostX EE G H) := by
 rw [bO] at hw
 refine a5 hw (fun x hx G1 H1 v s e => ?_) fun C h => h
 obtain ⟨G2, s2, e2⟩ := e.c s
 exact h x G2 H1 v s2 e2 (a5 hx (fun r h => h.step s2) fun C h => h.step s2)
def OpM (K : PySem.W.Frag) (r : R2) (op : Ev -> Ev -> Res Ev) : Prop := ∀ (W : Addr -> Option Nat) (G H : Hp) (v u : V) (x y : Ev) (Q : VK), Same G H -> EOk K W H G H v x.c -> EOk K W H G H u y.c -> wpR (op x.c y.c) (PostE K W G H Q) (fun _ => False) -> r v u H Q
def aH (op : Ev -> Ev -> Res Ev) (fa fb : En -> Res Ev) : En -> Res Ev := fun en => (fa en).bind fun x => (fb en).bind fun y => op x.c y.c
def NoX (op : Ev -> Ev -> Res Ev) : Prop := ∀ x y C, op x y ≠ .exc C
theorem noX {α : Type} {r : Res α} {Q : α -> Prop} {E E' : Addr -> Prop} (h : wpR r Q E) (n : ∀ C, r ≠ .exc C) : wpR r Q E' := by
 cases r with
 | ok a => exact h
 | exc C => exact absurd rfl (n C)
 | bad => exact h
theorem qY {ta tb : TE} {r : R2} {op : Ev -> Ev -> Res Ev} (ma : ∀ B G0 G W H σ en Q, SimH B G0 G W H -> SimS X.K W G H σ en -> wpR (fa en) (PostE X.K W G H Q) (PostX (E σ) G H) -> ta σ H Q)
  (mb : ∀ B G0 G W H σ en Q, SimH B G0 G W H -> SimS X.K W G H σ en -> wpR (fb en) (PostE X.K W G H Q) (PostX (E σ) G H) -> tb σ H Q) (hm : OpM X.K r op) (hn : NoX op) :
  ∀ B G0 G W H σ en Q, SimH B G0 G W H -> SimS X.K W G H σ en -> wpR (aH op fa fb en) (PostE X.K W G H Q) (PostX (E σ) G H) -> tOp r ta tb σ H Q := by
 intro B G0 G W H σ en Q hh hs hw
 refine ma B G0 G W H σ en _ hh hs (DE.go hw fun x G1 H1 v s1 e1 h1 => ?_)
 refine mb B G0 G1 W H1 σ en _ (hh.step s1) (hs.step s1) (DE.go h1 fun y G2 H2 u s2 e2 h2 => ?_)
 exact hm W G2 H2 v u x y Q s2.gh (e1.step s2) (by cases y <;> exact e2) (noX h2 (hn _ _))
theorem aT {op : Operator} {r : R2} {f : Ev -> Ev -> Res Ev} (ho : OpR X (binaryOp op) r) (hm : OpM X.K r f) (hn : NoX f) (ha : DE X E a fa) (hb : DE X E b fb) : DE X E (.BinOp a op b pos) (aH f fa fb) := by
 obtain ⟨ta, pa, ma⟩ := ha.out
 obtain ⟨tb, pb, mb⟩ := hb.out
 refine DE.in ?_
 exact ⟨_, aMm ho pa pb, qY ma mb hm hn⟩
theorem v7 {op : CmpOp} {r : R2} {f : Ev -> Ev -> Res Ev} (ho : OpR X (compareOp op) r) (hm : OpM X.K r f) (hn : NoX f) (ha : DE X E a fa) (hb : DE X E b fb) (hk : behindInMarks op b = false) : DE X E (.Compare a [op] [b] pos) (aH f fa fb) := by
 obtain ⟨ta, pa, ma⟩ := ha.out
 obtain ⟨tb, pb, mb⟩ := hb.out
 refine DE.in ?_
 exact ⟨_, aG2 ho pa pb hk, qY ma mb hm hn⟩
def bT (r : Ev) : Res Bool := match r with
 | .p (.bool b) => .ok b
 | _ => .bad
def bG (f : En -> Res Ev) : En -> Res Bool := fun en => (f en).bind bT
theorem qJ {t : TE} (m : ∀ B G0 G W H σ en Q, SimH B G0 G W H -> SimS X.K W G H σ en -> wpR (fa en) (PostE X.K W G H Q) (PostX (E σ) G H) -> t σ H Q) :
  ∀ B G0 G W H σ en Q, SimH B G0 G W H -> SimS X.K W G H σ en -> wpR (bG fa en) (PostB G H Q) (PostX (E σ) G H) -> t σ H fun x H1 => ∃ k, x = .bl k /\ Q k H1 := by
 intro B G0 G W H σ en Q hh hs hw
 refine m B G0 G W H σ en _ hh hs (DE.goB hw fun x G1 H1 v s1 e1 h1 => ?_)
 cases x with
 | p d =>
  cases d with
  | bool k => cases e1; exact ⟨k, rfl, h1 G1 H1 (Step.refl s1.gh)⟩
  | _ => exact False.elim h1
 | _ => exact False.elim h1
theorem cT {op : CmpOp} {r : R2} {f : Ev -> Ev -> Res Ev} (ho : OpR X (compareOp op) r) (hm : OpM X.K r f) (hn : NoX f) (ha : DE X E a fa) (hb : DE X E b fb) (hk : behindInMarks op b = false) : DT X E (.Compare a [op] [b] pos) (bG (aH f fa fb)) := by
 obtain ⟨ta, pa, ma⟩ := ha.out
 obtain ⟨tb, pb, mb⟩ := hb.out
 refine DT.in ?_
 exact ⟨_, aHe ho pa pb hk, qJ (qY ma mb hm hn)⟩
theorem jE (h : DE X E e fa) (he : ∀ whole, isTrue e X.env whole = (do let v <- whole; standAt e.pos; holding [v] (truthy v)) := by intro _; rfl) : DT X E e (bG fa) := by
 obtain ⟨t, p, m⟩ := h.out
 refine DT.in ?_
 exact ⟨_, aIs p he, qJ m⟩
def aC (i : Nat) : En -> Res Ev := fun en => match en[i]? with
 | some (some (.p d)) => .ok (.p d)
 | some (some (.o d)) => .ok (.b d)
 | some (some (.x C)) => .ok (.x C)
 | _ => .bad
theorem aIk {i : Nat} {x : Str} (hN : X.N[i]? = some x) (hv : Vis X.env.scope x) (hd : (x == ("__debug__" : Str)) = false := by decide) (hcd : (x == ("__classdict__" : Str)) = false := by decide) : DE X E (.Name x pos) (aC i) := by
 refine DE.in ?_
 refine ⟨_, zP hN hv hd hcd, fun B G0 G W H σ en Q hh hs hw => ?_⟩
 unfold aC at hw
 split at hw
 ·rename_i d e
  obtain ⟨v, e1, e2⟩ := hs.2 i _ e
  exact ⟨v, e1, hw G H v (Step.refl hh.gh) e2⟩
 ·rename_i d e
  obtain ⟨v, e1, a, o, e2, e3, e4, e5⟩ := hs.2 i _ e
  exact ⟨v, e1, hw G H v (Step.refl hh.gh) ⟨a, i, o, e2, e3, e4, e5⟩⟩
 ·rename_i C e
  obtain ⟨v, e1, e2⟩ := hs.2 i _ e
  exact ⟨v, e1, hw G H v (Step.refl hh.gh) e2⟩
 ·exact hw.elim
def mC (d : D) : En -> Res Ev := fun _ => .ok (.p d)
theorem iP {v : V} {d : D} (h : ∀ G, Rep X.K G v d) : ∀ B G0 G W H σ en Q, SimH B G0 G W H -> SimS X.K W G H σ en -> wpR (mC d en) (PostE X.K W G H Q) (PostX (E σ) G H) -> tC v σ H Q :=
 fun B G0 G W H σ en Q hh hs hw => hw G H v (Step.refl hh.gh) (h G)
theorem aD {i j} : DE X E (.Constant (.int i) j pos) (mC (.int i)) := DE.in ⟨_, wV, iP fun _ => .int i⟩
theorem tU {b j} : DE X E (.Constant (.bool b) j pos) (mC (.bool b)) := DE.in ⟨_, aMe, iP fun _ => .bl b⟩
theorem aIf {j} : DE X E (.Constant .none j pos) (mC .none) := DE.in ⟨_, aKp, iP fun _ => .non⟩
theorem xE {x j} : DE X E (.Constant (.str x) j pos) (mC (.str x)) := DE.in ⟨_, aIz, iP fun _ => .str x⟩
theorem wZ {x : Str} {i : Int} {t : Tok} (hg : Gl X x) (hm : X.mg x = some (.int i t)) (hd : (x == ("__debug__" : Str)) = false := by decide) : DE X E (.Name x pos) (mC (.int i)) := DE.in ⟨_, aHk (v := .int i) hg hm ⟨t, rfl⟩ hd, iP fun _ => .int i⟩
variable {ga gb : En -> Res Bool} {rest : List Expr}
def aCi (f g : En -> Res Bool) : En -> Res Bool := fun en => (f en).bind fun c => if c = true then g en else .ok false
def mOr (f g : En -> Res Bool) : En -> Res Bool := fun en => (f en).bind fun c => if c = true then .ok true else g en
def jT (f : En -> Res Bool) : En -> Res Bool := fun en => (f en).bind fun c => .ok (!c)
theorem aF0 (ha : DT X E a ga) : DW X E (.BoolOp .And [a] pos) ga := let ⟨t, p, m⟩ := ha.out; DW.in ⟨t, aGy p, m⟩
theorem nG (ha : DT X E a ga) : DW X E (.BoolOp .Or [a] pos) ga := let ⟨t, p, m⟩ := ha.out; DW.in ⟨t, aI0 p, m⟩
theorem aKb (ha : DT X E a ga) (hb : DW X E (.BoolOp .And (b :: rest) pos) gb) : DW X E (.BoolOp .And (a :: b :: rest) pos) (aCi ga gb) := by
 obtain ⟨ta, pa, ma⟩ := ha.out
 obtain ⟨tb, pb, mb⟩ := hb.out
 refine DW.in ?_
 refine ⟨_, aI9 pa pb, fun B G0 G W H σ en Q hh hs hw => ma B G0 G W H σ en _ hh hs ?_⟩
 have hw : wpR ((ga en).bind _) _ _ := hw
 rw [bO] at hw
 refine a5 hw (fun c hc G1 H1 s => ?_) fun C h => h
 cases c with
 | true => exact mb B G0 G1 W H1 σ en Q (hh.step s) (hs.step s) (a5 hc (fun _ h => h.step s) fun _ h => h.step s)
 | false => exact hc G1 H1 s
theorem mP (ha : DT X E a ga) (hb : DW X E (.BoolOp .Or (b :: rest) pos) gb) : DW X E (.BoolOp .Or (a :: b :: rest) pos) (mOr ga gb) := by
 obtain ⟨ta, pa, ma⟩ := ha.out
 obtain ⟨tb, pb, mb⟩ := hb.out
 refine DW.in ?_
 refine ⟨_, aL0 pa pb, fun B G0 G W H σ en Q hh hs hw => ma B G0 G W H σ en _ hh hs ?_⟩
 have hw : wpR ((ga en).bind _) _ _ := hw
 rw [bO] at hw
 refine a5 hw (fun c hc G1 H1 s => ?_) fun C h => h
 cases c with
 | false => exact mb B G0 G1 W H1 σ en Q (hh.step s) (hs.step s) (a5 hc (fun _ h => h.step s) fun _ h => h.step s)
 | true => exact hc G1 H1 s
theorem jM (ha : DT X E a ga) : DT X E (.UnaryOp .Not a pos) (jT ga) := by
 obtain ⟨ta, pa, ma⟩ := ha.out
 refine DT.in ?_
 refine ⟨_, aLc pa, fun B G0 G W H σ en Q hh hs hw => ma B G0 G W H σ en _ hh hs ?_⟩
 have hw : wpR ((ga en).bind _) _ _ := hw
 rw [bO] at hw
 exact a5 hw (fun c hc => hc) fun C h => h
def pA (f g : En -> Res Ev) : En -> Res Ev := fun en => (f en).bind fun c => match c with
 | .p (.bool true) => g en
 | .p (.bool false) => .ok (.p (.bool false))
 | _ => .bad
def aHz (f g : En -> Res Ev) : En -> Res Ev := fun en => (f en).bind fun c => match c with
 | .p (.bool false) => g en
 | .p (.bool true) => .ok (.p (.bool true))
 | _ => .bad
def sD (f : En -> Res Ev) : En -> Res Ev := fun en => (f en).bind fun c => match c with
 | .p (.bool k) => .ok (.p (.bool (!k)))
 | _ => .bad
theorem aEj {op} (h : DE X E a fa) : DE X E (.BoolOp op [a] pos) fa := let ⟨t, p, m⟩ := h.out; DE.in ⟨t, aJk p, m⟩
theorem aE0 (ha : DE X E a fa) (hb : DE X E (.BoolOp .And (b :: rest) pos) fb) : DE X E (.BoolOp .And (a :: b :: rest) pos) (pA fa fb) := by
 obtain ⟨ta, pa, ma⟩ := ha.out
 obtain ⟨tb, pb, mb⟩ := hb.out
 refine DE.in ?_
 refine ⟨_, aJa pa pb, fun B G0 G W H σ en Q hh hs hw => ma B G0 G W H σ en _ hh hs (DE.go hw fun x G1 H1 v s1 e1 h1 => ?_)⟩
 cases x with
 | p d =>
  cases d with
  | bool k =>
   cases e1
   cases k with
   | true => exact ⟨true, rfl, mb B G0 G1 W H1 σ en Q (hh.step s1) (hs.step s1) h1⟩
   | false => exact ⟨false, rfl, h1 G1 H1 _ (Step.refl s1.gh) (.bl false)⟩
  | _ => exact False.elim h1
 | _ => exact False.elim h1
theorem aKy (ha : DE X E a fa) : DE X E (.UnaryOp .Not a pos) (sD fa) := by
 obtain ⟨ta, pa, ma⟩ := ha.out
 refine DE.in ?_
 refine ⟨_, aIb pa, fun B G0 G W H σ en Q hh hs hw => ma B G0 G W H σ en _ hh hs (DE.go hw fun x G1 H1 v s1 e1 h1 => ?_)⟩
 cases x with
 | p d =>
  cases d with
  | bool k =>
   cases e1
   exact ⟨k, rfl, h1 G1 H1 _ (Step.refl s1.gh) (.bl _)⟩
  | _ => exact False.elim h1
 | _ => exact False.elim h1
def aL : En -> Res (List Ev) := fun _ => .ok []
def aB (f : En -> Res Ev) (g : En -> Res (List Ev)) : En -> Res (List Ev) := fun en => (f en).bind fun x => (g en).bind fun xs => .ok (x.c :: xs)
theorem aE : DA X E [] aL := DA.in ⟨_, fY, fun B G0 G W H σ en Q hh hs hw => hw G H [] (Step.refl hh.gh) trivial⟩
theorem EOk.cc {K : PySem.W.Frag} {W : Addr -> Option Nat} {Hs Hs' G H : Hp} {v : V} {r : Ev} (h : EOk K W Hs G H v r.c) : EOk K W Hs' G H v r.c := by
 cases r <;> exact h
theorem aA (ha : DE X E e fa) (hr : DA X E es fr) (hst : starEach (e :: es) X.env = (false, eval e X.env) :: starEach es X.env := by rfl) : DA X E (e :: es) (aB fa fr) := by
 obtain ⟨ta, pa, ma⟩ := ha.out
 obtain ⟨tr, pr, mr⟩ := hr.out
 refine DA.in ?_
 refine ⟨_, dG pa pr hst, fun B G0 G W H σ en Q hh hs hw => ma B G0 G W H σ en _ hh hs ?_⟩
 have hw : wpR ((fa en).bind _) _ _ := hw
 rw [bO] at hw
 refine a5 hw (fun x hx G1 H1 v s e1 => ?_) fun C h => h
 obtain ⟨G2, s2, e2⟩ := e1.c s
 refine mr B G0 G2 W H1 σ en _ (hh.step s2) (hs.step s2) ?_
 rw [bO] at hx
 refine a5 hx (fun xs hxs G3 H3 vs s3 e3 => ?_) fun C h => h.step s2
 refine hxs G3 H3 (v :: vs) (s2.trans s3) ⟨e2.step s3, ?_⟩
 clear hxs hx hw
 induction xs generalizing vs with
 | nil => cases vs <;> exact e3
 | cons y ys ih =>
  cases vs with
  | nil => exact e3
  | cons u us =>
   refine ⟨?_, ih us e3.2⟩
   have z := e3.1
   cases y with
   | p d => exact z
   | b d => exact z
   | x d => exact z
   | f d =>
    obtain ⟨a, o, h1, h2, h3⟩ := z
    exact ⟨a, o, h1, s2.h.free h2, h3⟩
end
inductive Out where
 | nx (en : En)
 | rt (l : L)
 | bk (en : En)
 | ct (en : En)
 | ex (C : Addr) (en : En)
abbrev MS := En -> Option Out
def aAp (K : PySem.W.Frag) (B G H : Hp) (v : V) : L -> Prop
 | .p d => Rep K G v d
 | .o d => ∃ a o, v = .ref a /\ G a = none /\ B a = none /\ H a = some o /\ Cont K G o d
 | .x C => ∃ e, v = .ref e /\ G e = some (aH0 e (.ref C))
 | .h _ => False
def PostS (K : PySem.W.Frag) (B G0 : Hp) (E : L2.St -> XK) (Dn : Ends) : Out -> Prop
 | .nx en => ∀ G W H σ, SimH B G0 G W H -> SimS K W G H σ en -> Dn.nx σ H
 | .bk en => ∀ G W H σ, SimH B G0 G W H -> SimS K W G H σ en -> Dn.bk σ H
 | .ct en => ∀ G W H σ, SimH B G0 G W H -> SimS K W G H σ en -> Dn.ct σ H
 | .rt l => ∀ G W H v, SimH B G0 G W H -> aAp K B G H v l -> Dn.rt v H
 | .ex C en => ∀ G W H σ, SimH B G0 G W H -> SimS K W G H σ en -> E σ (.ref C) none H
def wpO (o : Option Out) (P : Out -> Prop) : Prop := match o with
 | some r => P r
 | none => False
def tS (K : PySem.W.Frag) (E : L2.St -> XK) (f : MS) : TS := fun Dn σ H => ∃ B G0 G W en, SimH B G0 G W H /\ SimS K W G H σ en /\ wpO (f en) (PostS K B G0 E Dn)
def DS (X : Cx) (E : L2.St -> XK) (st : Stmt) (f : MS) : Prop := PS X st (tS X.K E f)
def DSs (X : Cx) (E : L2.St -> XK) (st : List Stmt) (f : MS) : Prop := PSs X st (tS X.K E f)
section
variable {X : Cx} {E : L2.St -> XK} {st : Stmt} {sts : List Stmt} {f g : MS} {fe : En -> Res Ev} {fc : En -> Res Bool} {e c : Expr} {pos : Pos}
theorem DS.in (h : ∃ t, PS X st t /\ ∀ B G0 G W H σ en Dn, SimH B G0 G W H -> SimS X.K W G H σ en -> wpO (f en) (PostS X.K B G0 E Dn) -> t Dn σ H) : DS X E st f :=
 fun pins s σ H Dn I ⟨B, G0, G, W, en, h1, h2, h3⟩ => let ⟨_, p, m⟩ := h; p pins s σ H Dn I (m B G0 G W H σ en Dn h1 h2 h3)
theorem DSs.in (h : ∃ t, PSs X sts t /\ ∀ B G0 G W H σ en Dn, SimH B G0 G W H -> SimS X.K W G H σ en -> wpO (f en) (PostS X.K B G0 E Dn) -> t Dn σ H) : DSs X E sts f :=
 fun pins s σ H Dn I ⟨B, G0, G, W, en, h1, h2, h3⟩ => let ⟨_, p, m⟩ := h; p pins s σ H Dn I (m B G0 G W H σ en Dn h1 h2 h3)
theorem DS.out (h : DS X E st f) : ∃ t, PS X st t /\ ∀ B G0 G W H σ en Dn, SimH B G0 G W H -> SimS X.K W G H σ en -> wpO (f en) (PostS X.K B G0 E Dn) -> t Dn σ H :=
 ⟨_, h, fun B G0 G W H σ en Dn h1 h2 h3 => ⟨B, G0, G, W, en, h1, h2, h3⟩⟩
theorem DSs.out (h : DSs X E sts f) : ∃ t, PSs X sts t /\ ∀ B G0 G W H σ en Dn, SimH B G0 G W H -> SimS X.K W G H σ en -> wpO (f en) (PostS X.K B G0 E Dn) -> t Dn σ H :=
 ⟨_, h, fun B G0 G W H σ en Dn h1 h2 h3 => ⟨B, G0, G, W, en, h1, h2, h3⟩⟩
def fB : MS := fun en => some (.nx en)
def b8 (f g : MS) : MS := fun en => match f en with
 | some (.nx e) => g e
 | r => r
theorem cV : DSs X E [] fB := DSs.in ⟨_, uY, fun B G0 G W H σ en Dn hh hs hw => hw G W H σ hh hs⟩
theorem aK (h : DS X E st f) : DSs X E [st] f := let ⟨t, p, m⟩ := h.out; DSs.in ⟨t, zV p, m⟩
theorem aG (h1 : DS X E st f) (h2 : DSs X E sts g) : DSs X E (st :: sts) (b8 f g) := by
 obtain ⟨t, p, m⟩ := h1.out
 obtain ⟨u, q, n⟩ := h2.out
 refine DSs.in ⟨_, gR p q, fun B G0 G W H σ en Dn hh hs hw => m B G0 G W H σ en _ hh hs ?_⟩
 unfold b8 at hw
 cases ef : f en with
 | none => rw [ef] at hw; exact hw
 | some r =>
  rw [ef] at hw
  cases r with
  | nx e => exact fun G1 W1 H1 σ1 hh1 hs1 => n B G0 G1 W1 H1 σ1 e Dn hh1 hs1 hw
  | rt l => exact hw
  | bk e => exact hw
  | ct e => exact hw
  | ex C e => exact hw
theorem SimS.set {K : PySem.W.Frag} {W : Addr -> Option Nat} {G H : Hp} {σ : L2.St} {en : En} {i : Nat} {v : V} {l : L} (h : SimS K W G H σ en) (hl : Slot K W G H i v l) : SimS K W G H (σ.set i (some v)) (en.set i (some l)) := by
 refine ⟨by rw [List.length_set, List.length_set]; exact h.1, fun j m e => ?_⟩
 rw [List.getElem?_set] at e
 rw [List.getElem?_set]
 by_cases hj : i = j
 ·subst hj
  rw [if_pos rfl] at e
  split at e
  ·rename_i hlt
   cases e
   rw [if_pos rfl, if_pos (by rw [h.1]; exact hlt)]
   exact ⟨v, rfl, hl⟩
  ·cases e
 ·rw [if_neg hj] at e ⊢
  exact h.2 j m e
def owner (W : Addr -> Option Nat) (a : Addr) (i : Nat) : Addr -> Option Nat := fun b => if b = a then some i else W b
theorem aCm {K : PySem.W.Frag} {B G0 G H : Hp} {W : Addr -> Option Nat} {σ : L2.St} {en : En} {i : Nat} {a : Addr} {o : HO} {d : D} (hh : SimH B G0 G W H) (hs : SimS K W G H σ en) (hW : W a = none) (hG : G a = none) (hB : B a = none) (hH : H a = some o) (hc : Cont K G o d) :
  SimH B G0 G (owner W a i) H /\ SimS K (owner W a i) G H (σ.set i (some (.ref a))) (en.set i (some (.o d))) := by
 refine ⟨⟨hh.gh, hh.bh, hh.g0, hh.gb, fun b j e => ?_⟩, SimS.set ⟨hs.1, fun j l e => ?_⟩ ⟨a, o, rfl, if_pos rfl, hH, hc⟩⟩
 ·unfold owner at e
  split at e
  ·rename_i z
   subst z
   exact ⟨hG, hB, o, hH, hc.mut⟩
  ·exact hh.wf b j e
 ·obtain ⟨v, e1, e2⟩ := hs.2 j l e
  refine ⟨v, e1, ?_⟩
  cases l with
  | p d => exact e2
  | x C => exact e2
  | h a => exact e2
  | o d =>
   obtain ⟨b, ob, h1, h2, h3, h4⟩ := e2
   refine ⟨b, ob, h1, ?_, h3, h4⟩
   unfold owner
   rw [if_neg (fun z => by rw [z, hW] at h2; cases h2)]
   exact h2
def cX (i : Nat) (fe : En -> Res Ev) : MS := fun en => match fe en with
 | .ok (.p d) => some (.nx (en.set i (some (.p d))))
 | .ok (.f d) => some (.nx (en.set i (some (.o d))))
 | .ok (.x C) => some (.nx (en.set i (some (.x C))))
 | .ok (.b _) => none
 | .exc C => some (.ex C en)
 | .bad => none
theorem SimH.lone {B G0 G H : Hp} {W : Addr -> Option Nat} (hh : SimH B G0 G W H) {a : Addr} (h : H a = none) : W a = none := by
 cases e : W a with
 | none => rfl
 | some i =>
  obtain ⟨_, _, o, q, _⟩ := hh.wf a i e
  rw [h] at q; cases q
theorem qV {te : TE} {i : Nat} (m : ∀ B G0 G W H σ en Q, SimH B G0 G W H -> SimS X.K W G H σ en -> wpR (fe en) (PostE X.K W G H Q) (PostX (E σ) G H) -> te σ H Q) :
  ∀ B G0 G W H σ en Dn, SimH B G0 G W H -> SimS X.K W G H σ en -> wpO (cX i fe en) (PostS X.K B G0 E Dn) -> te σ H fun x H1 => Dn.nx (σ.set i (some x)) H1 := by
 intro B G0 G W H σ en Dn hh hs hw
 refine m B G0 G W H σ en _ hh hs ?_
 unfold cX at hw
 cases ef : fe en with
 | bad => rw [ef] at hw; exact hw
 | exc C => rw [ef] at hw; exact fun G1 H1 s => hw G1 W H1 σ (hh.step s) (hs.step s)
 | ok r =>
  rw [ef] at hw
  cases r with
  | b d => exact hw.elim
  | p d => exact fun G1 H1 v s e => hw G1 W H1 _ (hh.step s) ((hs.step s).set e)
  | x C => exact fun G1 H1 v s e => hw G1 W H1 _ (hh.step s) ((hs.step s).set e)
  | f d =>
   rintro G1 H1 v s ⟨a, o, rfl, h1, h2, h3, h4⟩
   obtain ⟨q1, q2⟩ := aCm (i := i) (hh.step s) (hs.step s) (hh.lone h1) h2 (hh.bh.free h1) h3 h4
   exact hw G1 _ H1 _ q1 q2
theorem aW {i : Nat} {x : Str} {pos' : Pos} (hN : X.N.Nodup) (hi : X.N[i]? = some x) (hx : Loc X.env.scope x) (he : DE X E e fe) (hs : swapsWith e (some (.Name x pos')) pos.line X.env = pure false := by rfl) (hf : X.fn x = true \/ X.env.scope.names.lookup x = some .local := by first | exact .inl rfl | exact .inr rfl | assumption) :
  DS X E (.Assign [.Name x pos'] e pos) (cX i fe) := by
 obtain ⟨t, p, m⟩ := he.out
 exact DS.in ⟨_, yE hN hi hx p hs hf, qV m⟩
def tN (fe : En -> Res Ev) : MS := fun en => match fe en with
 | .ok _ => some (.nx en)
 | .exc C => some (.ex C en)
 | .bad => none
theorem aG9 (he : DE X E e fe) (hs : swapsWith e none pos.line X.env = pure false := by rfl) : DS X E (.Expr e pos) (tN fe) := by
 obtain ⟨t, p, m⟩ := he.out
 refine DS.in ⟨_, eP p hs, fun B G0 G W H σ en Dn hh hs hw => m B G0 G W H σ en _ hh hs ?_⟩
 unfold tN at hw
 cases ef : fe en with
 | bad => rw [ef] at hw; exact hw
 | exc C => rw [ef] at hw; exact fun G1 H1 s => hw G1 W H1 σ (hh.step s) (hs.step s)
 | ok r => rw [ef] at hw; exact fun G1 H1 v s _ => hw G1 W H1 σ (hh.step s) (hs.step s)
def aEr : Ev -> L
 | .p d => .p d
 | .f d => .o d
 | .b d => .o d
 | .x C => .x C
def fP (fe : En -> Res Ev) : MS := fun en => match fe en with
 | .ok r => some (.rt (aEr r))
 | .exc C => some (.ex C en)
 | .bad => none
theorem bM (he : DE X E e fe) : DS X E (.Return (some e) pos) (fP fe) := by
 obtain ⟨t, p, m⟩ := he.out
 refine DS.in ⟨_, aEs p, fun B G0 G W H σ en Dn hh hs hw => m B G0 G W H σ en _ hh hs ?_⟩
 unfold fP at hw
 cases ef : fe en with
 | bad => rw [ef] at hw; exact hw
 | exc C => rw [ef] at hw; exact fun G1 H1 s => hw G1 W H1 σ (hh.step s) (hs.step s)
 | ok r =>
  rw [ef] at hw
  intro G1 H1 v s e
  refine hw G1 W H1 v (hh.step s) ?_
  cases r with
  | p d => exact e
  | x C => exact e
  | f d =>
   obtain ⟨a, o, h0, h1, h2, h3, h4⟩ := e
   exact ⟨a, o, h0, h2, hh.bh.free h1, h3, h4⟩
  | b d =>
   obtain ⟨a, i, o, h0, h1, h3, h4⟩ := e
   have z := (hh.step s).wf a i h1
   exact ⟨a, o, h0, z.1, z.2.1, h3, h4⟩
def kF (c : En -> Res Bool) (f g : MS) : MS := fun en => match c en with
 | .ok k => if k = true then f en else g en
 | .exc C => some (.ex C en)
 | .bad => none
theorem iV {A B : List Stmt} (hc : DT X E c fc) (ha : DSs X E A f) (hb : DSs X E B g) : DS X E (.If c A B pos) (kF fc f g) := by
 obtain ⟨tc, pc, mc⟩ := hc.out
 obtain ⟨t, p, m⟩ := ha.out
 obtain ⟨u, q, n⟩ := hb.out
 refine DS.in ⟨_, aGk pc p q, fun B G0 G W H σ en Dn hh hs hw => mc B G0 G W H σ en _ hh hs ?_⟩
 unfold kF at hw
 cases ef : fc en with
 | bad => rw [ef] at hw; exact hw
 | exc C => rw [ef] at hw; exact fun G1 H1 s => hw G1 W H1 σ (hh.step s) (hs.step s)
 | ok k =>
  rw [ef] at hw
  intro G1 H1 s
  cases k with
  | true => exact m B G0 G1 W H1 σ en Dn (hh.step s) (hs.step s) hw
  | false => exact n B G0 G1 W H1 σ en Dn (hh.step s) (hs.step s) hw
def frz (i : Nat) (en : En) : En := match en[i]? with
 | some (some (.o d)) => en.set i (some (.p d))
 | _ => en
theorem aAc {K : PySem.W.Frag} {B G0 G H : Hp} {W : Addr -> Option Nat} {σ : L2.St} {en : En} (i : Nat) (hh : SimH B G0 G W H) (hs : SimS K W G H σ en) : ∃ G' W', SimH B G0 G' W' H /\ SimS K W' G' H σ (frz i en) := by
 unfold frz
 split
 ·rename_i d e
  obtain ⟨v, e1, a, o, rfl, e2, e3, e4⟩ := hs.2 i _ e
  obtain ⟨w1, w2, w3⟩ := hh.wf a i e2
  have sg : Same G (upd G a o) := Same.upd (Same.refl _) w1 o
  refine ⟨upd G a o, fun b => if b = a then none else W b, ⟨fun b u q => ?_, hh.bh, hh.g0.trans sg, fun b hb => ?_, fun b j e => ?_⟩, by rw [List.length_set]; exact hs.1, fun j l e5 => ?_⟩
  ·by_cases z : b = a
   ·subst z; rw [aY] at q; rw [e3]; exact q
   ·rw [aU z] at q; exact hh.gh b u q
  ·by_cases z : b = a
   ·subst z; exact .inr (.inl w2)
   ·rw [aU z] at hb; exact hh.gb b hb
  ·split at e
   ·cases e
   ·rename_i z
    rw [aU z]; exact hh.wf b j e
  ·rw [List.getElem?_set] at e5
   by_cases hj : i = j
   ·subst hj
    rw [if_pos rfl] at e5
    split at e5
    ·cases e5
     exact ⟨_, e1, (e4.mono sg).rep aY⟩
    ·cases e5
   ·rw [if_neg hj] at e5
    obtain ⟨v, f1, f2⟩ := hs.2 j l e5
    refine ⟨v, f1, ?_⟩
    cases l with
    | p d => exact f2.mono sg
    | x C => obtain ⟨ea, g1, g2⟩ := f2; exact ⟨ea, g1, sg _ _ g2⟩
    | h a => exact f2
    | o d =>
     obtain ⟨b, ob, g1, g2, g3, g4⟩ := f2
     refine ⟨b, ob, g1, ?_, g3, g4.mono sg⟩
     show (if b = a then none else W b) = some j
     rw [if_neg (fun z => by rw [z, e2] at g2; exact hj (Option.some.inj g2))]
     exact g2
 ·exact ⟨G, W, hh, hs⟩
theorem eQ (i : Nat) (h : DSs X E sts f) : DSs X E sts (fun en => f (frz i en)) := by
 obtain ⟨t, p, m⟩ := h.out
 refine DSs.in ⟨t, p, fun B G0 G W H σ en Dn hh hs hw => ?_⟩
 obtain ⟨G', W', h1, h2⟩ := aAc i hh hs
 exact m B G0 G' W' H σ _ Dn h1 h2 hw
end
def mWh (c : En -> Res Bool) (f : MS) : Nat -> MS
 | 0, _ => none
 | n + 1, en => match c en with
  | .bad => none
  | .exc C => some (.ex C en)
  | .ok false => some (.nx en)
  | .ok true => match f en with
   | some (.nx e) => mWh c f n e
   | some (.ct e) => mWh c f n e
   | some (.bk e) => some (.nx e)
   | r => r
theorem rA {c : En -> Res Bool} {f : MS} : ∀ {n : Nat} {en : En} {r : Out}, mWh c f n en = some r -> mWh c f (n + 1) en = some r
 | 0, _, _, h => by cases h
 | n + 1, en, r, h => by
  unfold mWh at h ⊢
  cases ec : c en with
  | bad => rw [ec] at h; exact h
  | exc C => rw [ec] at h; exact h
  | ok k =>
   rw [ec] at h
   cases k with
   | false => exact h
   | true =>
    dsimp only at h ⊢
    cases ef : f en with
    | none => rw [ef] at h; exact h
    | some o =>
     rw [ef] at h
     cases o with
     | nx e => exact rA (n := n) h
     | ct e => exact rA (n := n) h
     | bk e => exact h
     | rt l => exact h
     | ex C e => exact h
theorem aEk {c : En -> Res Bool} {f : MS} {n m : Nat} {en : En} {r : Out} (h : mWh c f n en = some r) (l : n <= m) : mWh c f m en = some r := by
 induction l with
 | refl => exact h
 | step _ ih => exact rA ih
open Classical in
noncomputable def mD (c : En -> Res Bool) (f : MS) : MS := fun en => if h : ∃ n r, mWh c f n en = some r then mWh c f h.choose en else none
theorem sV {c : En -> Res Bool} {f : MS} {n : Nat} {en : En} {r : Out} (h : mWh c f n en = some r) : mD c f en = some r := by
 unfold mD
 have hx : ∃ n r, mWh c f n en = some r := ⟨n, r, h⟩
 rw [dif_pos hx]
 obtain ⟨r', h'⟩ := hx.choose_spec
 rcases Nat.le_total n hx.choose with l | l
 ·exact aEk h l
 ·have := aEk h' l
  rw [h] at this
  rw [h']; exact this.symm
theorem vC {c : En -> Res Bool} {f : MS} {en : En} {P : Out -> Prop} (h : wpO (mD c f en) P) : ∃ n, wpO (mWh c f n en) P := by
 unfold mD at h
 split at h
 ·exact ⟨_, h⟩
 ·exact h.elim
section
variable {X : Cx} {E : L2.St -> XK} {st : Stmt} {sts : List Stmt} {f g : MS} {fe : En -> Res Ev} {fc : En -> Res Bool} {e c : Expr} {pos : Pos}
theorem wD (hp : PassesOwn (model X.prog X.w) X.A X.env X.xe) (hc : DT X E c fc) (hb : DSs X E sts f) : DS X E (.While c sts [] pos) (mD fc f) := by
 obtain ⟨tc, pc, mc⟩ := hc.out
 obtain ⟨t, p, m⟩ := hb.out
 refine DS.in ⟨_, aCx hp pc p, fun B G0 G W H σ en Dn hh hs hw => ?_⟩
 obtain ⟨n0, hw⟩ := vC hw
 refine ⟨fun n σ H => ∃ G W en, SimH B G0 G W H /\ SimS X.K W G H σ en /\ wpO (mWh fc f n en) (PostS X.K B G0 E Dn), ⟨n0, G, W, en, hh, hs, hw⟩, ?_⟩
 rintro n σ H ⟨G, W, en, hh, hs, hw⟩
 cases n with
 | zero => exact hw.elim
 | succ n =>
  refine mc B G0 G W H σ en _ hh hs ?_
  unfold mWh at hw
  cases ec : fc en with
  | bad => rw [ec] at hw; exact hw
  | exc C => rw [ec] at hw; exact fun G1 H1 s => hw G1 W H1 σ (hh.step s) (hs.step s)
  | ok k =>
   rw [ec] at hw
   intro G1 H1 s
   cases k with
   | false => exact hw G1 W H1 σ (hh.step s) (hs.step s)
   | true =>
    refine ⟨fun σ' H' => ∃ G W en, SimH B G0 G W H' /\ SimS X.K W G H' σ' en /\ wpO (mWh fc f n en) (PostS X.K B G0 E Dn), fun σ' H' q => ⟨n, Nat.lt_succ_self n, q⟩, ?_⟩
    refine m B G0 G1 W H1 σ en _ (hh.step s) (hs.step s) ?_
    dsimp only at hw
    cases ef : f en with
    | none => rw [ef] at hw; exact hw
    | some o =>
     rw [ef] at hw
     cases o with
     | nx e => exact fun G2 W2 H2 σ2 h2 s2 => ⟨G2, W2, e, h2, s2, hw⟩
     | ct e => exact fun G2 W2 H2 σ2 h2 s2 => ⟨G2, W2, e, h2, s2, hw⟩
     | bk e => exact hw
     | rt l => exact hw
     | ex C e => exact hw
end
def aA9 (K : PySem.W.Frag) (ds : List D) (G1 : Hp) (J : It) : Prop := ∀ G H, Same G1 G -> Same G H ->
 (∀ i d, ds[i]? = some d -> J.go i H /\ ∀ v H', J.yld i H v H' -> ∃ G', Step G H G' H' /\ Rep K G' v d) /\ J.stop ds.length H
def tI (K : PySem.W.Frag) (E : L2.St -> XK) (f : En -> Res (List D)) : TI := fun σ H R => ∃ B G0 G W en, SimH B G0 G W H /\ SimS K W G H σ en /\ wpR (f en) (fun ds => ∀ G' H' J, Step G H G' H' -> aA9 K ds G' J -> R J H') (PostX (E σ) G H)
def DI (X : Cx) (E : L2.St -> XK) (tg e : Expr) (f : En -> Res (List D)) : Prop := PI X tg e (tI X.K E f)
def Kept (ks : List Nat) (σ σ' : L2.St) : Prop := σ'.length = σ.length /\ ∀ j, j ∉ ks -> σ'[j]? = σ[j]?
def tG (K : PySem.W.Frag) (ks : List Nat) (f : D -> En -> Option En) : TG := fun v σ H Q => ∃ G W en d en', Same G H /\ SimS K W G H σ en /\ Rep K G v d /\ f d en = some en' /\ ∀ σ', SimS K W G H σ' en' -> Kept ks σ σ' -> Q σ' H
def tGs (K : PySem.W.Frag) (ks : List Nat) (f : List D -> En -> Option En) : TGs := fun vs σ H Q => ∃ G W en ds en', Same G H /\ SimS K W G H σ en /\ Reps K G vs ds /\ f ds en = some en' /\ ∀ σ', SimS K W G H σ' en' -> Kept ks σ σ' -> Q σ' H
def DG (X : Cx) (tg : Expr) (ks : List Nat) (f : D -> En -> Option En) : Prop := PG X tg (tG X.K ks f)
def DGs (X : Cx) (tg : List Expr) (ks : List Nat) (f : List D -> En -> Option En) : Prop := PGs X tg (tGs X.K ks f)
theorem Kept.trans {ks ls : List Nat} {σ σ1 σ2 : L2.St} (a : Kept ks σ σ1) (b : Kept ls σ1 σ2) : Kept (ks ++ ls) σ σ2 :=
 ⟨b.1.trans a.1, fun j hj => (b.2 j fun z => hj (List.mem_append_right _ z)).trans (a.2 j fun z => hj (List.mem_append_left _ z))⟩
def aI (i : Nat) : D -> En -> Option En := fun d en => some (en.set i (some (.p d)))
def kK : List D -> En -> Option En := fun ds en => match ds with
 | [] => some en
 | _ => none
def dA (f : D -> En -> Option En) (g : List D -> En -> Option En) : List D -> En -> Option En := fun ds en => match ds with
 | [] => none
 | d :: r => match f d en with
  | none => none
  | some e => g r e
def kG (n : Nat) (f : List D -> En -> Option En) : D -> En -> Option En := fun d en => match d with
 | .tuple ds => if ds.length = n then f ds en else none
 | _ => none
section
variable {X : Cx} {E : L2.St -> XK} {pos : Pos}
theorem DI.in {tg e : Expr} {f : En -> Res (List D)} (h : ∃ t, PI X tg e t /\ ∀ B G0 G W H σ en R, SimH B G0 G W H -> SimS X.K W G H σ en -> wpR (f en) (fun ds => ∀ G' H' J, Step G H G' H' -> aA9 X.K ds G' J -> R J H') (PostX (E σ) G H) -> t σ H R) : DI X E tg e f :=
 fun pins s σ H R I ⟨B, G0, G, W, en, h1, h2, h3⟩ => let ⟨_, p, m⟩ := h; p pins s σ H R I (m B G0 G W H σ en R h1 h2 h3)
theorem bB {i : Nat} {x : Str} (hN : X.N.Nodup) (hi : X.N[i]? = some x) (hx : Loc X.env.scope x) (hf : X.fn x = true \/ X.env.scope.names.lookup x = some .local := by first | exact .inl rfl | exact .inr rfl | assumption) : DG X (.Name x pos) [i] (aI i) := by
 intro pins s σ H v u Q I r ⟨G, W, en, d, en', h1, h2, h3, h4, h5⟩
 refine u9 hN hi hx hf pins s σ H v u Q I r ?_
 cases h4
 exact h5 _ (h2.set h3) ⟨List.length_set .., fun j hj => List.getElem?_set_ne (fun z => hj (by rw [z]; exact .head _))⟩
theorem nL : DGs X [] [] kK := by
 intro pins s σ H vs us Q I r ⟨G, W, en, ds, en', h1, h2, h3, h4, h5⟩
 refine aF9 pins s σ H vs us Q I r ?_
 unfold kK at h4
 split at h4
 ·cases h4; cases h3; exact ⟨rfl, h5 _ h2 ⟨rfl, fun _ _ => rfl⟩⟩
 ·cases h4
theorem fJ {e : Expr} {es : List Expr} {ks ls : List Nat} {f : D -> En -> Option En} {g : List D -> En -> Option En} (h1 : DG X e ks f) (h2 : DGs X es ls g)
  (hs : (assignEach (e :: es) X.env).map (·.2) = assign e X.env :: (assignEach es X.env).map (·.2) := by rfl) : DGs X (e :: es) (ks ++ ls) (dA f g) := by
 intro pins s σ H vs us Q I r ⟨G, W, en, ds, en', k1, k2, k3, k4, k5⟩
 refine aC7 h1 h2 hs pins s σ H vs us Q I r ?_
 unfold dA at k4
 cases k3 with
 | nil => cases k4
 | @cons x xs d ds hx hr =>
  dsimp only at k4
  split at k4
  ·cases k4
  ·rename_i e1 q1
   exact ⟨x, xs, rfl, G, W, en, d, e1, k1, k2, hx, q1, fun σ' hσ hk => ⟨G, W, e1, ds, en', k1, hσ, hr, k4, fun σ2 q1 q2 => k5 σ2 q1 (hk.trans q2)⟩⟩
theorem sN {es : List Expr} {k : Nat} {ks : List Nat} {f : List D -> En -> Option En} {n : Nat} (hc : X.calm = true) (h : DGs X es ks f) (hn : (assignEach es X.env).length = n := by rfl) (hst : (assignEach es X.env).findIdx? (·.1) = none := by rfl) : DG X (.Tuple es k pos) ks (kG n f) := by
 intro pins s σ H v u Q I r ⟨G, W, en, d, en', k1, k2, k3, k4, k5⟩
 refine aJt hc h hn hst pins s σ H v u Q I r ?_
 unfold kG at k4
 split at k4
 ·rename_i ds
  split at k4
  ·rename_i hl
   cases k3 with
   | @tup a xs _ ha hr => exact ⟨a, xs, rfl, SqT.of (k1 _ _ ha), by rw [hr.length]; exact hl, G, W, en, ds, en', k1, k2, hr, k4, k5⟩
  ·cases k4
 ·cases k4
def e9 (tg : D -> En -> Option En) (f : MS) : List D -> MS
 | [], en => some (.nx en)
 | d :: ds, en => match tg d en with
  | none => none
  | some e1 => match f e1 with
   | some (.nx e2) => e9 tg f ds e2
   | some (.ct e2) => e9 tg f ds e2
   | some (.bk e2) => some (.nx e2)
   | r => r
def pD (fi : En -> Res (List D)) (tg : D -> En -> Option En) (f : MS) : MS := fun en => match fi en with
 | .ok ds => e9 tg f ds en
 | .exc C => some (.ex C en)
 | .bad => none
theorem SimH.lower {B G0 G1 G H H1 : Hp} {W W1 : Addr -> Option Nat} (h : SimH B G1 G W H) (h1 : SimH B G0 G1 W1 H1) : SimH B G0 G W H :=
 ⟨h.gh, h.bh, h1.g0.trans h.g0, fun b hb => (h.gb b hb).elim (fun z => h1.gb b z) .inr, h.wf⟩
theorem SimH.raise {B G0 G H : Hp} {W : Addr -> Option Nat} (h : SimH B G0 G W H) : SimH B G G W H := ⟨h.gh, h.bh, Same.refl _, fun _ hb => .inl hb, h.wf⟩
theorem PostS.lower {K : PySem.W.Frag} {B G0 G1 H1 : Hp} {W1 : Addr -> Option Nat} {Dn : Ends} {r : Out} (h : PostS K B G0 E Dn r) (h1 : SimH B G0 G1 W1 H1) : PostS K B G1 E Dn r := by
 cases r with
 | nx en => exact fun G W H σ a b => h G W H σ (a.lower h1) b
 | bk en => exact fun G W H σ a b => h G W H σ (a.lower h1) b
 | ct en => exact fun G W H σ a b => h G W H σ (a.lower h1) b
 | rt l => exact fun G W H σ a b => h G W H σ (a.lower h1) b
 | ex C en => exact fun G W H σ a b => h G W H σ (a.lower h1) b
theorem gB {tg iter : Expr} {body : List Stmt} {fi : En -> Res (List D)} {ks : List Nat} {g : D -> En -> Option En} {f : MS} (hp : PassesOwn (model X.prog X.w) X.A X.env X.xe) (hc : X.calm = true) (hi : DI X E tg iter fi) (hg : DG X tg ks g) (hb : DSs X E body f)
  (hs : ∀ x, foldedSetIterable iter X.env x = pure x := by intro _; rfl) : DS X E (.For tg iter body [] pos) (pD fi g f) := by
 obtain ⟨t, p, m⟩ := hb.out
 refine DS.in ⟨_, aKh hp hc hi hg p hs, fun B G0 G W H σ en Dn hh hs hw => ⟨B, G0, G, W, en, hh, hs, ?_⟩⟩
 unfold pD at hw
 cases ef : fi en with
 | bad => rw [ef] at hw; exact hw
 | exc C => rw [ef] at hw; exact fun G1 H1 s => hw G1 W H1 σ (hh.step s) (hs.step s)
 | ok ds =>
  rw [ef] at hw
  intro G1 H1 J s1 hJ
  have hh1 := hh.step s1
  refine ⟨fun i n σ H => n = ds.length - i /\ i <= ds.length /\ ∃ G W en, SimH B G1 G W H /\ SimS X.K W G H σ en /\ wpO (e9 g f (ds.drop i) en) (PostS X.K B G0 E Dn),
   ⟨ds.length, rfl, Nat.zero_le _, G1, W, en, hh1.raise, hs.step s1, hw⟩, ?_⟩
  rintro i n σ H ⟨rfl, hi, G, W, en, hh, hs, hw⟩
  obtain ⟨j1, j2⟩ := hJ G H hh.g0 hh.gh
  by_cases hlt : i < ds.length
  ·refine .inr ?_
   obtain ⟨jg, jy⟩ := j1 i ds[i] (List.getElem?_eq_getElem hlt)
   rw [List.drop_eq_getElem_cons hlt] at hw
   unfold e9 at hw
   refine ⟨jg, fun σ' H' => ∃ G W en, SimH B G1 G W H' /\ SimS X.K W G H' σ' en /\ wpO (e9 g f (ds.drop (i + 1)) en) (PostS X.K B G0 E Dn), fun σ' H' q => ⟨ds.length - (i + 1), by omega, rfl, hlt, q⟩, fun v H' hy => ?_⟩
   obtain ⟨G2, s2, rv⟩ := jy v H' hy
   cases eg : g ds[i] en with
   | none => rw [eg] at hw; exact hw.elim
   | some e1 =>
    rw [eg] at hw
    dsimp only at hw
    refine ⟨G2, W, en, ds[i], e1, s2.gh, hs.step s2, rv, eg, fun σ' hσ _ => ?_⟩
    refine m B G1 G2 W H' σ' e1 _ (hh.step s2) hσ ?_
    cases ef2 : f e1 with
    | none => rw [ef2] at hw; exact hw
    | some o =>
     rw [ef2] at hw
     cases o with
     | nx e => exact fun G2 W2 H2 σ2 h2 s2 => ⟨G2, W2, e, h2, s2, hw⟩
     | ct e => exact fun G2 W2 H2 σ2 h2 s2 => ⟨G2, W2, e, h2, s2, hw⟩
     | bk e => exact PostS.lower (E := E) (Dn := Dn) (r := .nx e) hw hh1
     | rt l => exact PostS.lower (E := E) (Dn := Dn) (r := .rt l) hw hh1
     | ex C e => exact PostS.lower (E := E) (Dn := Dn) (r := .ex C e) hw hh1
  ·have e : i = ds.length := by omega
   subst e
   rw [List.drop_length] at hw
   exact .inl ⟨j2, hw G W H σ (hh.lower hh1) hs⟩
def aIc (r : Ev) : Res (List D) := match r with
 | .p (.list ds) => .ok ds
 | _ => .bad
def lH (fe : En -> Res Ev) : En -> Res (List D) := fun en => (fe en).bind fun r => aIc r.c
theorem dI {tg e : Expr} {fe : En -> Res Ev} (he : DE X E e fe) : DI X E tg e (lH fe) := by
 obtain ⟨t, p, m⟩ := he.out
 refine DI.in ⟨_, aHn p, fun B G0 G W H σ en R hh hs hw => m B G0 G W H σ en _ hh hs ?_⟩
 have hw : wpR ((fe en).bind _) _ _ := hw
 rw [bO] at hw
 refine a5 hw (fun r hr G1 H1 v s e => ?_) fun C h => h
 obtain ⟨G2, s2, e2⟩ := e.c s
 cases er : r.c with
 | p d =>
  rw [er] at hr e2
  cases d with
  | list ds =>
   cases e2 with
   | @lst a xs _ ha hrs =>
    refine ⟨a, rfl, ⟨xs, s2.gh.seq (.inl ha)⟩, hr G2 H1 _ s2 fun G3 H3 k1 k2 => ⟨fun i d ed => ?_, xs, (k1.trans k2).seq (.inl ha), Nat.le_of_eq hrs.length⟩⟩
    obtain ⟨x, ex, rx⟩ := hrs.get' ed
    refine ⟨⟨xs, x, (k1.trans k2).seq (.inl ha), ex⟩, fun v H' hy => ?_⟩
    obtain ⟨rfl, hy⟩ := hy
    have := hy xs ((k1.trans k2).seq (.inl ha))
    rw [ex] at this
    cases this
    exact ⟨G3, Step.refl k2, rx.mono k1⟩
  | _ => exact False.elim hr
 | f d => rw [er] at hr; exact False.elim hr
 | b d => rw [er] at hr; exact False.elim hr
 | x C => rw [er] at hr; exact False.elim hr
def aGe (lo : Int) (n : Nat) : List D := (List.range n).map fun (k : Nat) => PyData.int (lo + (k : Int))
def iR (rs : List Ev) : Res (List D) := match rs with
 | [.p (.int j)] => if -(2 ^ 62) <= j /\ j < 2 ^ 62 then .ok (aGe 0 j.toNat) else .bad
 | _ => .bad
theorem x6 (K : PySem.W.Frag) (lo : Int) (n : Nat) (G1 : Hp) : aA9 K (aGe lo n) G1 (Itr lo n) := fun G H _ k2 => by
 refine ⟨fun i d ed => ?_, by show n <= _; unfold aGe; rw [List.length_map, List.length_range]; exact Nat.le_refl _⟩
 unfold aGe at ed
 rw [List.getElem?_map] at ed
 by_cases hi : i < n
 ·rw [List.getElem?_range hi] at ed
  cases ed
  refine ⟨hi, fun v H' hy => ?_⟩
  obtain ⟨rfl, rfl⟩ := hy
  exact ⟨G, Step.refl k2, .int _⟩
 ·rw [List.getElem?_eq_none (by rw [List.length_range]; omega)] at ed
  cases ed
def k7 (r : List Ev -> Res (List D)) (fr : En -> Res (List Ev)) : En -> Res (List D) := fun en => (fr en).bind r
theorem fU {tg a : Expr} {fr : En -> Res (List Ev)} {p : Pos} (hg : Gl X "range") (hm : X.mg "range" = none) (ha : DA X E [a] fr) (hs : starEach [a] X.env = [(false, eval a X.env)] := by rfl) : DI X E tg (.Call (.Name "range" p) [a] [] pos) (k7 iR fr) := by
 obtain ⟨t, q, m⟩ := ha.out
 refine DI.in ⟨_, aBt hg hm q hs, fun B G0 G W H σ en R hh hs hw => m B G0 G W H σ en _ hh hs ?_⟩
 have hw : wpR ((fr en).bind _) _ _ := hw
 rw [bO] at hw
 refine a5 hw (fun rs hr G1 H1 vs s e => ?_) fun C h => h
 unfold iR at hr
 split at hr
 ·rename_i j
  split at hr
  ·rename_i hj
   match vs, e with
   | [v], ⟨e1, _⟩ =>
    cases e1
    exact ⟨j, rfl, hj.1, hj.2, hr G1 H1 _ s (x6 _ _ _ _)⟩
  ·exact False.elim hr
 ·exact False.elim hr
end
def iS : Ev -> Option L
 | .p d => some (.p d)
 | .x C => some (.x C)
 | .b _ => none
 | .f _ => none
def zY : Ev -> Option L
 | .p d => some (.p d)
 | .b d => some (.p d)
 | .x _ => none
 | .f _ => none
def cG (g : Ev -> Option L) : List Ev -> Option (List L)
 | [] => some []
 | r :: rs => match g r with
  | none => none
  | some l => match cG g rs with
   | none => none
   | some ls => some (l :: ls)
def jC : L -> Ev
 | .p d => .p d
 | .o d => .f d
 | .x C => .x C
 | .h a => .x a
mutual
def lfD : D -> Bool
 | .list _ => false
 | .dict _ => false
 | .tuple ds => lfA ds
 | _ => true
def lfA : List D -> Bool
 | [] => true
 | d :: ds => lfD d && lfA ds
end
def lfP : List (D × D) -> Bool
 | [] => true
 | p :: r => lfD p.2 && lfP r
def zS : L -> Bool
 | .p d => lfD d
 | .o (.list ds) => lfA ds
 | .o (.dict kvs) => lfP kvs
 | _ => false
def dE (n : Nat) (m : List L -> Res L) (rs : List Ev) : Res Ev := match cG iS rs with
 | some ls => if ls.length = n then (m ls).bind fun l => .ok (jC l) else .bad
 | none => match cG zY rs with
  | some ls => if ls.length = n then (m ls).bind fun l => if zS l = true then .ok (jC l) else .bad else .bad
  | none => .bad
def aP (n : Nat) (m : List L -> Res L) (fr : En -> Res (List Ev)) : En -> Res Ev := fun en => (fr en).bind (dE n m)
def aL7 (K : PySem.W.Frag) (G : Hp) (v : V) : L -> Prop
 | .p d => Rep K G v d
 | .o _ => False
 | .x C => ∃ e, v = .ref e /\ G e = some (aH0 e (.ref C))
 | .h _ => False
def ArgsOk (K : PySem.W.Frag) (G : Hp) : List V -> List L -> Prop
 | [], [] => True
 | v :: vs, l :: ls => aL7 K G v l /\ ArgsOk K G vs ls
 | _, _ => False
theorem ArgsOk.length {K : PySem.W.Frag} {G : Hp} : ∀ {vs : List V} {ls : List L}, ArgsOk K G vs ls -> vs.length = ls.length
 | [], [], _ => rfl
 | _ :: _, _ :: _, h => by rw [List.length_cons, List.length_cons, ArgsOk.length h.2]
def spM (K : PySem.W.Frag) (n : Nat) (m : List L -> Res L) : Sp := fun vs H Q E => vs.length = n /\ ∃ G ls, Same G H /\ ArgsOk K G vs ls /\
 wpR (m ls) (fun l => ∀ G' H' v, Step G H G' H' -> aAp K H G' H' v l -> Q v H') (fun C => ∀ G' H', Step G H G' H' -> E (.ref C) none H')
theorem vN {K : PySem.W.Frag} {W : Addr -> Option Nat} {Hs G H : Hp} : ∀ {rs : List Ev} {ls : List L} {vs : List V}, cG iS rs = some ls -> EOks K W Hs G H vs rs -> ArgsOk K G vs ls
 | [], _, [], h, _ => by cases h; exact trivial
 | [], _, _ :: _, _, e => e.elim
 | _ :: _, _, [], _, e => e.elim
 | r :: rs, ls, v :: vs, h, e => by
  unfold cG at h
  cases r with
  | p d =>
   cases er : cG iS rs with
   | none => rw [er] at h; cases h
   | some ls' => rw [er] at h; cases h; exact ⟨e.1, vN er e.2⟩
  | x C =>
   cases er : cG iS rs with
   | none => rw [er] at h; cases h
   | some ls' => rw [er] at h; cases h; exact ⟨e.1, vN er e.2⟩
  | b d => cases h
  | f d => cases h
def both (W : Addr -> Option Nat) (G H : Hp) : Hp := fun b => match W b with
 | some _ => H b
 | none => G b
theorem oA {W : Addr -> Option Nat} {B G0 G H : Hp} (hh : SimH B G0 G W H) : Same G (both W G H) /\ Same (both W G H) H := by
 refine ⟨fun b o e => ?_, fun b o e => ?_⟩
 ·unfold both
  cases ew : W b with
  | none => exact e
  | some i => rw [(hh.wf b i ew).1] at e; cases e
 ·unfold both at e
  cases ew : W b with
  | none => rw [ew] at e; exact hh.gh b o e
  | some i => rw [ew] at e; exact e
theorem zF {K : PySem.W.Frag} {W : Addr -> Option Nat} {Hs B G0 G H : Hp} (hh : SimH B G0 G W H) : ∀ {rs : List Ev} {ls : List L} {vs : List V}, cG zY rs = some ls -> EOks K W Hs G H vs rs -> ArgsOk K (both W G H) vs ls
 | [], _, [], h, _ => by cases h; exact trivial
 | [], _, _ :: _, _, e => e.elim
 | _ :: _, _, [], _, e => e.elim
 | r :: rs, ls, v :: vs, h, e => by
  unfold cG at h
  cases r with
  | p d =>
   cases er : cG zY rs with
   | none => rw [er] at h; cases h
   | some ls' => rw [er] at h; cases h; exact ⟨Rep.mono (oA hh).1 e.1, zF hh er e.2⟩
  | b d =>
   cases er : cG zY rs with
   | none => rw [er] at h; cases h
   | some ls' =>
    rw [er] at h; cases h
    refine ⟨?_, zF hh er e.2⟩
    obtain ⟨a, i, o, rfl, h1, h2, h3⟩ := e.1
    exact (h3.mono (oA hh).1).rep (by unfold both; rw [h1]; exact h2)
  | x d => cases h
  | f d => cases h
mutual
theorem vS {K : PySem.W.Frag} {G G' : Hp} (k : ∀ b xs, G b = some (.tup xs) -> G' b = some (.tup xs)) : ∀ {v : V} {d : D}, lfD d = true -> Rep K G v d -> Rep K G' v d
 | _, _, _, .non => .non
 | _, _, _, .bl b => .bl b
 | _, _, _, .int i => .int i
 | _, _, _, .str x => .str x
 | _, _, hf, .tup h r => .tup (k _ _ h) (kX k (by unfold lfD at hf; exact hf) r)
 | _, _, hf, .lst _ _ => by unfold lfD at hf; cases hf
 | _, _, hf, .dT _ _ => by unfold lfD at hf; cases hf
 | _, _, hf, .dK _ _ => by unfold lfD at hf; cases hf
theorem kX {K : PySem.W.Frag} {G G' : Hp} (k : ∀ b xs, G b = some (.tup xs) -> G' b = some (.tup xs)) : ∀ {vs : List V} {ds : List D}, lfA ds = true -> Reps K G vs ds -> Reps K G' vs ds
 | _, _, _, .nil => .nil
 | _, _, hf, .cons h r => by
  unfold lfA at hf
  have hf := Bool.and_eq_true_iff.mp hf
  exact .cons (vS k hf.1 h) (kX k hf.2 r)
end
theorem aAz {K : PySem.W.Frag} {G G' : Hp} (k : ∀ b xs, G b = some (.tup xs) -> G' b = some (.tup xs)) : ∀ {kv : List (List Key × V)} {kvs : List (D × D)}, lfP kvs = true -> RepT K G kv kvs -> RepT K G' kv kvs
 | _, _, _, .nil => .nil
 | _, _, hf, .cons h r => by
  unfold lfP at hf
  have hf := Bool.and_eq_true_iff.mp hf
  exact .cons (vS k hf.1 h) (aAz k hf.2 r)
theorem aB5 {K : PySem.W.Frag} {G G' : Hp} (k : ∀ b xs, G b = some (.tup xs) -> G' b = some (.tup xs)) : ∀ {kv : List (Key × V)} {kvs : List (D × D)}, lfP kvs = true -> RepK K G kv kvs -> RepK K G' kv kvs
 | _, _, _, .nil => .nil
 | _, _, hf, .cons h r => by
  unfold lfP at hf
  have hf := Bool.and_eq_true_iff.mp hf
  exact .cons (vS k hf.1 h) (aB5 k hf.2 r)
def oR (W : Addr -> Option Nat) (G : Hp) : Hp := fun b => match W b with
 | some _ => none
 | none => G b
theorem aDr {K : PySem.W.Frag} {W : Addr -> Option Nat} {H1 G H Hs : Hp} {v : V} {l : L} (hf : zS l = true) (hH : Hs = Hs) (hs : ∀ b, H1 b = none -> Hs b = none) (k : ∀ b xs, G b = some (.tup xs) -> oR W G b = some (.tup xs)) (h : aAp K H1 G H v l) : EOk K W Hs (oR W G) H v (jC l) := by
 have n0 : ∀ b, G b = none -> oR W G b = none := fun b e => by
  unfold oR
  cases W b with
  | none => exact e
  | some _ => rfl
 cases l with
 | x C => cases hf
 | h a => cases hf
 | p d => exact vS k hf h
 | o d =>
  obtain ⟨a, o, rfl, h1, h2, h3, h4⟩ := h
  refine ⟨a, o, rfl, hs _ h2, n0 _ h1, h3, ?_⟩
  cases h4 with
  | lst r => exact .lst (kX k hf r)
  | dT r => exact .dT (aAz k hf r)
  | dK r => exact .dK (aB5 k (by unfold zS at hf; unfold lfP at hf; exact (Bool.and_eq_true_iff.mp hf).2) r)
theorem aA7 {K : PySem.W.Frag} {W : Addr -> Option Nat} {B G0 G H G1 H1 : Hp} {n : Nat} {m : List L -> Res L} {rs : List Ev} {vs : List V} {Q : VK} {EE : XK} (hh : SimH B G0 G W H) (s : Step G H G1 H1) (e : EOks K W H G1 H1 vs rs)
  (hr : wpR (dE n m rs) (PostE K W G H Q) (PostX EE G H)) : spM K n m vs H1 Q EE := by
 unfold dE at hr
 split at hr
 ·rename_i ls el
  split at hr
  ·rename_i hn
   have ha := vN el e
   refine ⟨by rw [ha.length]; exact hn, G1, ls, s.gh, ha, ?_⟩
   rw [bO] at hr
   refine a5 hr (fun l hl G2 H2 v s2 rv => hl G2 H2 v (s.trans s2) ?_) fun C h G2 H2 s2 => h G2 H2 (s.trans s2)
   cases l with
   | p d => exact rv
   | x C => exact rv
   | h a => exact rv.elim
   | o d =>
    obtain ⟨a, o, h1, h2, h3, h4, h5⟩ := rv
    exact ⟨a, o, h1, s.h.free h3, h2, h4, h5⟩
  ·exact hr.elim
 ·split at hr
  ·rename_i ls el
   split at hr
   ·rename_i hn
    have hh1 := hh.step s
    have ha := zF hh1 el e
    obtain ⟨k1, k2⟩ := oA hh1
    refine ⟨by rw [ha.length]; exact hn, both W G1 H1, ls, k2, ha, ?_⟩
    rw [bO] at hr
    refine a5 hr (fun l hl G2 H2 v s2 rv => ?_) fun C h G2 H2 s2 => h G1 H2 (s.trans ⟨Same.refl _, s2.h, s.gh.trans s2.h, fun _ _ q => .inl q⟩)
    split at hl
    ·rename_i hf
     have kt : ∀ b xs, G2 b = some (.tup xs) -> oR W G2 b = some (.tup xs) := fun b xs eb => by
      unfold oR
      cases ew : W b with
      | none => exact eb
      | some i =>
       obtain ⟨_, _, o, e1, e2⟩ := hh1.wf b i ew
       have e3 := s2.gh _ _ eb
       rw [s2.h _ _ e1] at e3
       exact absurd (Option.some.inj e3) (e2 xs)
     refine hl (oR W G2) H2 v ⟨fun b o eb => ?_, s.h.trans s2.h, fun b o eb => ?_, fun b hb hg => ?_⟩ (aDr hf rfl (fun b e => s.h.free e) kt rv)
     ·have e1 := s.g _ _ eb
      unfold oR
      cases ew : W b with
      | none => exact s2.g _ _ (k1 _ _ e1)
      | some i => rw [(hh1.wf b i ew).1] at e1; cases e1
     ·unfold oR at eb
      cases ew : W b with
      | none => rw [ew] at eb; exact s2.gh _ _ eb
      | some i => rw [ew] at eb; cases eb
     ·unfold oR
      cases ew : W b with
      | some i => exact .inl rfl
      | none =>
       rcases s.new b hb hg with z | z
       ·have z2 : both W G1 H1 b = none := by unfold both; rw [ew]; exact z
        rcases s2.new b (yR s.h hb) z2 with y | ⟨xs, y⟩
        ·exact .inl y
        ·cases e : H b with
         | none => exact absurd e hb
         | some o => rw [s.h _ _ e] at y; exact .inr ⟨xs, y⟩
       ·exact .inr z
    ·exact hl.elim
   ·exact hr.elim
  ·exact hr.elim
section
variable {X : Cx} {E : L2.St -> XK} {k : Nat} {f : Addr} {fd : FuncData} {ps : List Str} {x : Str} {p pos : Pos} {e : Expr} {es : List Expr} {fr : En -> Res (List Ev)} {n : Nat} {m : List L -> Res L}
theorem aGh (F : FnOk X.prog X.w X.K X.mg X.base (CXr X.prog X.w) k f fd ps (spM X.K n m)) (hr : Room k X.A) (hg : Gl X x) (hm : X.mg x = some (.ref f)) (hk : PySem.W.keepIn X.K (.ref f) = true) (hb : Binds X.K fd ps []) (hx : lW (CXr X.prog X.w) X E)
  (ha : DA X E (e :: es) fr) (hdb : (x == ("__debug__" : Str)) = false := by decide) (he : starEach (e :: es) X.env = (false, eval e X.env) :: starEach es X.env := by rfl) (hpl : (backTo pos (starEach es X.env)).any (·.1) = false := by rfl) :
  DE X E (.Call (.Name x p) (e :: es) [] pos) (aP n m fr) := by
 obtain ⟨t, q, mm⟩ := ha.out
 refine DE.in ⟨_, xC F hr hg hm hk hb hx q hdb he hpl, fun B G0 G W H σ en Q hh hs hw => mm B G0 G W H σ en _ hh hs ?_⟩
 have hw : wpR ((fr en).bind _) _ _ := hw
 rw [bO] at hw
 exact a5 hw (fun rs hr G1 H1 vs s e => aA7 hh s e hr) fun C h => h
def pU (K : PySem.W.Frag) (r : List V -> Hp -> VK -> Prop) (f : List Ev -> Res Ev) : Prop := ∀ (W : Addr -> Option Nat) (Hs G H : Hp) (vs : List V) (rs : List Ev) (Q : VK), Same G H -> EOks K W Hs G H vs rs -> wpR (f rs) (PostE K W G H Q) (fun _ => False) -> r vs H Q
def aCo (f : List Ev -> Res Ev) : Prop := ∀ rs C, f rs ≠ .exc C
def aF (f : List Ev -> Res Ev) (fr : En -> Res (List Ev)) : En -> Res Ev := fun en => (fr en).bind f
theorem pQ {r : List V -> Hp -> VK -> Prop} {f : List Ev -> Res Ev} {t : TA} (hm : pU X.K r f) (hn : aCo f) (mm : ∀ B G0 G W H σ en Q, SimH B G0 G W H -> SimS X.K W G H σ en -> wpR (fr en) (aD9 X.K W G H Q) (PostX (E σ) G H) -> t σ H Q) :
  ∀ B G0 G W H σ en Q, SimH B G0 G W H -> SimS X.K W G H σ en -> wpR (aF f fr en) (PostE X.K W G H Q) (PostX (E σ) G H) -> tCB r t σ H Q := by
 intro B G0 G W H σ en Q hh hs hw
 refine mm B G0 G W H σ en _ hh hs ?_
 have hw : wpR ((fr en).bind _) _ _ := hw
 rw [bO] at hw
 exact a5 hw (fun rs hr G1 H1 vs s e => hm W H G1 H1 vs rs Q s.gh e (noX (a5 hr (fun _ h => h.step s) fun _ h => h) (hn rs))) fun C h => h
theorem bJ {id : String} {r : List V -> Hp -> VK -> Prop} {f : List Ev -> Res Ev} (hc : nD X (.builtin id) r) (hM : pU X.K r f) (hn : aCo f) (hg : Gl X x) (hm : X.mg x = none) (hv : bootBuiltins x = some (.builtin id)) (ha : DA X E (e :: es) fr) (hnn : x ≠ "__name__" := by decide) (hdb : (x == ("__debug__" : Str)) = false := by decide)
  (he : starEach (e :: es) X.env = (false, eval e X.env) :: starEach es X.env := by rfl) (hpl : (backTo pos (starEach es X.env)).any (·.1) = false := by rfl) : DE X E (.Call (.Name x p) (e :: es) [] pos) (aF f fr) := by
 obtain ⟨t, q, mm⟩ := ha.out
 exact DE.in ⟨_, v9 hc hg hm hv q hnn hdb he hpl, pQ hM hn mm⟩
theorem sP {T : String} {r : List V -> Hp -> VK -> Prop} {f : List Ev -> Res Ev} (hc : nD X (.type T) r) (hM : pU X.K r f) (hn : aCo f) (hg : Gl X x) (hm : X.mg x = none) (hv : bootBuiltins x = some (.type T)) (ha : DA X E (e :: es) fr) (hnn : x ≠ "__name__" := by decide) (hdb : (x == ("__debug__" : Str)) = false := by decide)
  (he : starEach (e :: es) X.env = (false, eval e X.env) :: starEach es X.env := by rfl) (hpl : (backTo pos (starEach es X.env)).any (·.1) = false := by rfl) : DE X E (.Call (.Name x p) (e :: es) [] pos) (aF f fr) := by
 obtain ⟨t, q, mm⟩ := ha.out
 exact DE.in ⟨_, aB1 hc hg hm hv q hnn hdb he hpl, pQ hM hn mm⟩
end
def bE (n : Nat) (ls : List L) : En := ls.map some ++ List.replicate (n - ls.length) none
def eO (n : Nat) (f : MS) (ls : List L) : Res L := match f (bE n ls) with
 | some (.nx _) => .ok (.p .none)
 | some (.rt l) => .ok l
 | some (.ex C _) => .exc C
 | _ => .bad
theorem pK {K : PySem.W.Frag} {W : Addr -> Option Nat} {G H : Hp} : ∀ {vs : List V} {ls : List L} (i : Nat) (l : L), ArgsOk K G vs ls -> ls[i]? = some l -> ∃ v, vs[i]? = some v /\ ∀ j, Slot K W G H j v l
 | [], [], _, _, _, e => by simp at e
 | v :: vs, l :: ls, 0, m, h, e => by
  simp at e; subst e
  refine ⟨v, rfl, fun j => ?_⟩
  have z := h.1
  cases l with
  | p d => exact z
  | x C => exact z
  | h a => exact z.elim
  | o d => exact z.elim
 | v :: vs, l :: ls, i + 1, m, h, e => by
  have := pK (W := W) (H := H) i m h.2 (by simpa using e)
  simpa using this
theorem rQ {K : PySem.W.Frag} {W : Addr -> Option Nat} {G H : Hp} {N : List Str} {vs : List V} {ls : List L} (h : ArgsOk K G vs ls) : SimS K W G H (L2.start N vs) (bE N.length ls) := by
 have hl := h.length
 refine ⟨by unfold L2.start bE; simp [hl], fun i l e => ?_⟩
 unfold bE at e
 by_cases hi : i < ls.length
 ·rw [List.getElem?_append_left (by rw [List.length_map]; exact hi), List.getElem?_map] at e
  cases e2 : ls[i]? with
  | none => rw [e2] at e; cases e
  | some l' =>
   rw [e2] at e
   cases e
   obtain ⟨v, e3, e4⟩ := pK (W := W) (H := H) i l h e2
   refine ⟨v, ?_, e4 i⟩
   unfold L2.start
   rw [List.getElem?_append_left (by rw [List.length_map, hl]; exact hi), List.getElem?_map, e3]
   rfl
 ·rw [List.getElem?_append_right (by rw [List.length_map]; omega), List.getElem?_replicate] at e
  split at e <;> cases e
theorem nO {G H G' H' : Hp} {W : Addr -> Option Nat} (h : SimH H G G' W H') : Step G H G' H' := ⟨h.g0, h.bh, h.gh, fun b hb hg => by
 cases e : G' b with
 | none => exact .inl rfl
 | some o =>
  rcases h.gb b (by rw [e]; exact fun z => nomatch z) with z | z | z
  ·exact absurd hg z
  ·exact absurd z hb
  ·exact .inr z⟩
theorem aA2 {K : PySem.W.Frag} {N : List Str} {n : Nat} {m : List L -> Res L} {fm : MS} {vs : List V} {H : Hp} {Q : VK} {E : XK} (h : spM K n m vs H Q E) (hm : ∀ ls, m ls = .bad \/ eO N.length fm ls = m ls) :
  tS K (fun _ => E) fm { nx := fun _ H' => Q .non H', rt := Q } (L2.start N vs) H := by
 obtain ⟨hl, G, ls, gh, ha, hw⟩ := h
 refine ⟨H, G, G, fun _ => none, bE N.length ls, ⟨gh, Same.refl _, Same.refl _, fun _ hb => .inl hb, fun a i e => nomatch e⟩, rQ ha, ?_⟩
 rcases hm ls with e | e
 ·rw [e] at hw; exact hw.elim
 ·rw [<- e] at hw
  unfold eO at hw
  cases ef : fm (bE N.length ls) with
  | none => rw [ef] at hw; exact hw
  | some o =>
   rw [ef] at hw
   cases o with
   | nx en => exact fun G' W' H' σ' h1 _ => hw G' H' .non (nO h1) .non
   | rt l => exact fun G' W' H' v h1 h2 => hw G' H' v (nO h1) h2
   | bk en => exact hw.elim
   | ct en => exact hw.elim
   | ex C en => exact fun G' W' H' σ' h1 _ => hw G' H' (nO h1)
section
variable {P : Program} {w : World} {K : PySem.W.Frag} {mg : Str -> Option Value} {base : Heap}
theorem cI {N : List Str} {qual : Str} {scope : Scope} {f : Addr} {cd : Value} {A : Around} {outer : List Env} {s : Shared} {H : Hp} {E : XK} : lW (CXr P w) (pJ (CXr P w) P w K mg base N qual scope f cd A outer s H E) (fun _ => E) :=
 fun pins σ H s e s' I h => aMs pins σ H s e s' I h
theorem mL {X : Cx} : lW (CXr P w) X (fun _ => E0) := fun _ _ _ _ _ _ _ ⟨_, _, _, _, _, _, _, z⟩ => z.elim
theorem fnM {x qual : Str} {st : Stmt} {f : Addr} {fd : FuncData} {N ps : List Str} {k n : Nat} {m : List L -> Res L} (F : Fun K x qual st f fd) (S : aX N ps (aN st)) (hn : n = ps.length)
  (hbody : ∀ (cdv : Value) (A : Around) (outer : List Env) (s : Shared) (H : Hp) (E : XK), Room k (A.deeper (envOfC qual (aN st) s.heap.objs.size f cdv)) ->
   ∃ fm, DSs (pJ (CXr P w) P w K mg base N qual (aN st) f cdv A outer s H E) (fun _ => E) (fV st) fm /\ ∀ ls, m ls = .bad \/ eO N.length fm ls = m ls) : FnOk P w K mg base (CXr P w) (k + 1) f fd ps (spM K n m) := by
 refine F.okX S (fun vs H Q E h => ?_) (fun cdv A outer s H vs Q E hr h => ?_)
 ·rw [<- hn]; exact h.1
 ·obtain ⟨fm, hd, hm⟩ := hbody cdv A outer s H E hr
  exact ⟨_, hd, aA2 h hm⟩
end
def jH (C : Addr) (fr : En -> Res (List Ev)) : MS := fun en => match fr en with
 | .ok rs => if rs.length <= 1000 then some (.ex C en) else none
 | .exc C => some (.ex C en)
 | .bad => none
theorem EOks.length {K : PySem.W.Frag} {W : Addr -> Option Nat} {Hs G H : Hp} : ∀ {vs : List V} {rs : List Ev}, EOks K W Hs G H vs rs -> vs.length = rs.length
 | [], [], _ => rfl
 | [], _ :: _, h => h.elim
 | _ :: _, [], h => h.elim
 | _ :: _, _ :: _, h => by rw [List.length_cons, List.length_cons, EOks.length h.2]
section
variable {X : Cx}
theorem nA {E : XK} {x : Str} {e₀ : Expr} {rest : List Expr} {fr : En -> Res (List Ev)} {C : Addr} {bm : List Value} {B newId initId : String} {np cpos pos : Pos} (hx : aBz X E) (hc : X.calm = true) (hg : Gl X x) (O : OwnCls x C bm newId X.mg X.base)
  (FB : ExcBaseFacts B newId initId bm) (ha : DA X (fun _ => E) (e₀ :: rest) fr) (hdb : (x == ("__debug__" : Str)) = false := by decide)
  (he : starEach (e₀ :: rest) X.env = (false, eval e₀ X.env) :: starEach rest X.env := by rfl) (hpl : (backTo cpos (starEach rest X.env)).any (·.1) = false := by rfl) :
  DS X (fun _ => E) (.Raise (some (.Call (.Name x np) (e₀ :: rest) [] cpos)) none pos) (jH C fr) := by
 obtain ⟨t, q, m⟩ := ha.out
 refine DS.in ⟨_, aCw hx hc hg O FB q hdb he hpl, fun B G0 G W H σ en Dn hh hs hw => m B G0 G W H σ en _ hh hs ?_⟩
 unfold jH at hw
 cases ef : fr en with
 | bad => rw [ef] at hw; exact hw
 | exc C => rw [ef] at hw; exact fun G1 H1 s => hw G1 W H1 σ (hh.step s) (hs.step s)
 | ok rs =>
  rw [ef] at hw
  intro G1 H1 vs s e
  dsimp only at hw
  split at hw
  ·rename_i hl
   exact ⟨by rw [e.length]; exact Nat.le_trans hl (by decide), hw G1 W H1 σ (hh.step s) (hs.step s)⟩
  ·exact hw.elim
end
def hX : List Ev -> Option (List D)
 | [] => some []
 | r :: rs => match r with
  | .p d => match hX rs with
   | some ds => some (d :: ds)
   | none => none
  | _ => none
theorem oG {K : PySem.W.Frag} {W : Addr -> Option Nat} {Hs G H : Hp} : ∀ {rs : List Ev} {ds : List D} {vs : List V}, hX rs = some ds -> EOks K W Hs G H vs rs -> Reps K G vs ds
 | [], _, [], h, _ => by cases h; exact .nil
 | [], _, _ :: _, _, e => e.elim
 | _ :: _, _, [], _, e => e.elim
 | r :: rs, ds, v :: vs, h, e => by
  unfold hX at h
  cases r with
  | p d =>
   dsimp only at h
   cases er : hX rs with
   | none => rw [er] at h; cases h
   | some ds' => rw [er] at h; cases h; exact .cons e.1 (oG er e.2)
  | x C => cases h
  | b d => cases h
  | f d => cases h
def bV (rs : List Ev) : Res Ev := match hX rs with
 | some ds => if ds.length <= 1000 then .ok (.p (.tuple ds)) else .bad
 | none => .bad
def fE (rs : List Ev) : Res Ev := match hX rs with
 | some ds => if ds.length <= 1000 then .ok (.f (.list ds)) else .bad
 | none => .bad
section
variable {X : Cx} {E : L2.St -> XK} {es : List Expr} {fr : En -> Res (List Ev)} {pos : Pos}
theorem cW {x1} (h : DA X E es fr) : DE X E (.Tuple es x1 pos) (aF bV fr) := by
 obtain ⟨t, q, m⟩ := h.out
 refine DE.in ⟨_, aA3 q, fun B G0 G W H σ en Q hh hs hw => m B G0 G W H σ en _ hh hs ?_⟩
 have hw : wpR ((fr en).bind _) _ _ := hw
 rw [bO] at hw
 refine a5 hw (fun rs hr G1 H1 vs s e => ?_) fun C h => h
 unfold bV at hr
 split at hr
 ·rename_i ds el
  have rp := oG el e
  split at hr
  ·rename_i hl
   refine ⟨by rw [rp.length]; exact Nat.le_trans hl (by decide), fun p hp => ?_⟩
   have st := Step.put (o := .tup vs) s.gh hp
   exact hr _ _ _ (s.trans st) (.tup aY (rp.mono st.g))
  ·exact False.elim hr
 ·exact False.elim hr
theorem gA (h : DA X E es fr) : DE X E (.List es pos) (aF fE fr) := by
 obtain ⟨t, q, m⟩ := h.out
 refine DE.in ⟨_, aH7 q, fun B G0 G W H σ en Q hh hs hw => m B G0 G W H σ en _ hh hs ?_⟩
 have hw : wpR ((fr en).bind _) _ _ := hw
 rw [bO] at hw
 refine a5 hw (fun rs hr G1 H1 vs s e => ?_) fun C h => h
 unfold fE at hr
 split at hr
 ·rename_i ds el
  have rp := oG el e
  split at hr
  ·rename_i hl
   refine ⟨by rw [rp.length]; exact Nat.le_trans hl (by decide), fun p hp => ?_⟩
   have st := Step.lay (o := .lst vs) s.gh hp
   exact hr _ _ _ (s.trans st) ⟨p, _, rfl, s.h.free hp, s.gh.free hp, aY, .lst rp⟩
  ·exact False.elim hr
 ·exact False.elim hr
end
def lR (g : D -> Option (Option D)) : List D -> Option (List D)
 | [] => some []
 | d :: ds => match g d with
  | none => none
  | some o => match lR g ds with
   | none => none
   | some r => some (match o with
    | some y => y :: r
    | none => r)
def vE (o : Option (Option L)) : Option L := match o with
 | some (some (.p d)) => some (.p d)
 | some (some (.x C)) => some (.x C)
 | _ => none
def qW (js : List Nat) (en : En) : En := js.map fun j => vE en[j]?
def iO : En -> Res Bool := fun _ => .ok true
def aQ (n : Nat) (js : List Nat) (tg : D -> En -> Option En) (ft : En -> Res Bool) (fe : En -> Res Ev) (en : En) (d : D) : Option (Option D) := match tg d (List.replicate n none ++ qW js en) with
 | none => none
 | some e => match ft e with
  | .ok true => match fe e with
   | .ok r => match r.c with
    | .p y => some (some y)
    | _ => none
   | _ => none
  | .ok false => some none
  | _ => none
def aDj (g : D -> Option (Option D)) (ds : List D) : Res Ev := if ds.length <= 100000 then match lR g ds with
  | some r => .ok (.f (.list r))
  | none => .bad
 else .bad
def gO (n : Nat) (js : List Nat) (fi : En -> Res (List D)) (tg : D -> En -> Option En) (ft : En -> Res Bool) (fe : En -> Res Ev) : En -> Res Ev := fun en => (fi en).bind fun ds => aDj (aQ n js tg ft fe en) ds
def DTs (X : Cx) (ifs : List Expr) (f : En -> Res Bool) : Prop := PTs X ifs (tT X.K (fun _ => E0) f)
theorem aDs {G H : Hp} (h : Same G H) : SimH H G G (fun _ => none) H := ⟨h, Same.refl _, Same.refl _, fun _ hb => .inl hb, fun a i e => nomatch e⟩
theorem wA {K : PySem.W.Frag} {W : Addr -> Option Nat} {G H : Hp} {σ : L2.St} {en : En} (n : Nat) (js : List Nat) (h : SimS K W G H σ en) : SimS K (fun _ => none) G H (List.replicate n none ++ n4 js σ) (List.replicate n none ++ qW js en) := by
 refine ⟨by unfold n4 qW; simp, fun i l e => ?_⟩
 by_cases hi : i < n
 ·rw [List.getElem?_append_left (by rw [List.length_replicate]; exact hi), List.getElem?_replicate] at e
  split at e <;> cases e
 ·rw [List.getElem?_append_right (by rw [List.length_replicate]; omega), List.length_replicate] at e ⊢
  unfold qW at e
  unfold n4
  rw [List.getElem?_map] at e ⊢
  cases ej : js[i - n]? with
  | none => rw [ej] at e; cases e
  | some j =>
   rw [ej] at e
   have e' : vE en[j]? = some l := Option.some.inj e
   unfold vE at e'
   split at e'
   ·rename_i d q
    cases e'
    obtain ⟨v, h1, h2⟩ := h.2 j _ q
    exact ⟨v, by show some ((σ[j]?).getD none) = _; rw [h1]; rfl, h2⟩
   ·rename_i d q
    cases e'
    obtain ⟨v, h1, h2⟩ := h.2 j _ q
    exact ⟨v, by show some ((σ[j]?).getD none) = _; rw [h1]; rfl, h2⟩
   ·cases e'
section
variable {X : Cx} {E : L2.St -> XK} {pos : Pos}
theorem gY : DTs X [] iO := fun pins s σ H Q I ⟨B, G0, G, W, en, h1, h2, h3⟩ => aHh pins s σ H Q I (h3 G H (Step.refl h1.gh))
theorem pX {c : Expr} {f : En -> Res Bool} (h : DT X (fun _ => E0) c f) : DTs X [c] f := aFq h
theorem wC {elt iter tg : Expr} {scope : Scope} {ifs : List Expr} {n : Nat} {js ks : List Nat} {fi : En -> Res (List D)} {g : D -> En -> Option En} {ft : En -> Res Bool} {fe : En -> Res Ev} {xs ys : List Str} {cl : List (Str × Addr)} (hc : X.calm = true) (hi : DI X E tg iter fi)
  (hcl : aFs X scope cl) (hcap : lO X scope cl ys js) (hcell : ∀ y ∈ scope.names, y.2 ≠ .cell) (hkind : scope.kind = .function) (hnames : ∀ y ∈ scope.names, y.2 = .local -> scope.names.lookup y.1 = some .local) (hn : xs.length = n) (hks : ∀ j ∈ ks, j < n)
  (hg : ∀ C s₀ H₀ ex pn, DG (bR X scope cl C (xs ++ ys) s₀ H₀ ex pn) tg ks g) (ht : ∀ C s₀ H₀ ex pn, DTs (bR X scope cl C (xs ++ ys) s₀ H₀ ex pn) ifs ft) (hb : ∀ C s₀ H₀ ex pn, DE (bR X scope cl C (xs ++ ys) s₀ H₀ ex pn) (fun _ => E0) elt fe)
  : ∀ B G0 G W H σ en Q, SimH B G0 G W H -> SimS X.K W G H σ en -> wpR (gO n js fi g ft fe en) (PostE X.K W G H Q) (PostX (E σ) G H) -> nN (tI X.K E fi) (tG X.K ks g) (tT X.K (fun _ => E0) ft) (tE X.K (fun _ => E0) fe) xs.length js σ H Q := by
 subst hn
 refine fun B G0 G W H σ en Q hh hs hw => ⟨B, G0, G, W, en, hh, hs, ?_⟩
 have hw : wpR ((fi en).bind _) _ _ := hw
 rw [bO] at hw
 refine a5 hw (fun ds hds G1 H1 J s1 hJ D hD => ?_) fun C h => h
 unfold aDj at hds
 split at hds
 case isFalse => exact hds.elim
 rename_i hlen
 split at hds
 case h_2 => exact hds.elim
 rename_i r em
 have gD : G1 D = none := s1.gh.free hD
 have aIp : ∀ {G2 H2 : Hp} {y : List V}, Step G1 H1 G2 H2 -> G2 D = none -> Step G1 H1 G2 (upd H2 D (.lst y)) := fun st hg2 => by
  refine ⟨st.g, fun b o e => ?_, fun b o e => ?_, st.new⟩
  ·rw [aU (b5 e hD)]; exact st.h b o e
  ·rw [aU (b5 e hg2)]; exact st.gh b o e
 refine ⟨ds.length, fun i ys H2 => i <= ds.length /\ ys.length <= i /\ ∃ G2 rs rest, Step G1 H1 G2 H2 /\ G2 D = none /\ H2 D = some (.lst ys) /\ Reps X.K G2 ys rs /\ lR (aQ xs.length js g ft fe en) (ds.drop i) = some rest /\ rs ++ rest = r,
  ⟨Nat.zero_le _, Nat.zero_le _, G1, [], r, Step.lay s1.gh hD, gD, aY, .nil, em, rfl⟩, ?_⟩
 rintro i zs H2 ⟨hi, hzl, G2, rs, rest, st, g2, h2, rp, em2, er⟩
 obtain ⟨j1, j2⟩ := hJ G2 H2 st.g st.gh
 by_cases hlt : i < ds.length
 ·refine .inr ⟨hlt, ?_⟩
  obtain ⟨jg, jy⟩ := j1 i ds[i] (List.getElem?_eq_getElem hlt)
  refine ⟨jg, fun v H3 hy => ?_⟩
  obtain ⟨G3, s3, rv⟩ := jy v H3 hy
  rw [List.drop_eq_getElem_cons hlt] at em2
  unfold lR at em2
  cases ec : aQ xs.length js g ft fe en ds[i] with
  | none => rw [ec] at em2; cases em2
  | some o =>
   rw [ec] at em2
   dsimp only at em2
   cases em3 : lR (aQ xs.length js g ft fe en) (ds.drop (i + 1)) with
   | none => rw [em3] at em2; cases em2
   | some rest' =>
    rw [em3] at em2
    have em2 := Option.some.inj em2
    unfold aQ at ec
    split at ec
    ·cases ec
    ·rename_i e eg
     have in3 := wA xs.length js (hs.step ((s1.trans st).trans s3))
     refine ⟨G3, fun _ => none, _, ds[i], e, s3.gh, in3, rv, eg, fun σ' hσ hk => ⟨⟨?_, ?_⟩, ?_⟩⟩
     ·rw [hk.1]; unfold n4; simp
     ·refine List.ext_getElem? fun j => ?_
      rw [List.getElem?_drop, hk.2 (xs.length + j) fun z => absurd (hks _ z) (by omega), List.getElem?_append_right (by rw [List.length_replicate]; omega), List.length_replicate]
      congr 1
      omega
     ·refine ⟨_, _, G3, fun _ => none, e, aDs s3.gh, hσ, ?_⟩
      cases et : ft e with
      | bad => rw [et] at ec; cases ec
      | exc C => rw [et] at ec; cases ec
      | ok k =>
       rw [et] at ec
       intro G5 H5 s5
       cases k with
       | false =>
        cases ec
        rw [if_neg Bool.false_ne_true]
        have s25 := s3.trans s5
        exact ⟨hlt, Nat.le_succ_of_le hzl, G5, rs, rest', st.trans s25, s25.off h2 (fun xs z => nomatch z) g2, s25.h _ _ h2, rp.mono s25.g, em3, by rw [<- er, <- em2]⟩
       | true =>
        rw [if_pos rfl]
        refine ⟨_, _, G5, fun _ => none, e, aDs s5.gh, hσ.step s5, ?_⟩
        dsimp only at ec
        cases ee : fe e with
        | bad => rw [ee] at ec; cases ec
        | exc C => rw [ee] at ec; cases ec
        | ok q =>
         rw [ee] at ec
         intro G6 H6 y s6 ey
         obtain ⟨G7, s7, e7⟩ := EOk.c s6 ey
         dsimp only at ec
         split at ec
         ·rename_i y' eq
          cases ec
          rw [eq] at e7
          have s27 := (s3.trans s5).trans s7
          have g7 := s27.off h2 (fun xs z => nomatch z) g2
          refine ⟨s27.h _ _ h2, Nat.lt_of_le_of_lt (Nat.le_trans hzl (Nat.le_trans hi hlen)) (by decide), hlt, by rw [List.length_append]; exact Nat.succ_le_succ hzl, G7, rs ++ [y'], rest', aIp (st.trans s27) g7, g7, aY, (rp.mono s27.g).append (.cons e7 .nil), em3, ?_⟩
          rw [<- er, <- em2, List.append_assoc]
          rfl
         ·cases ec
 ·have e : i = ds.length := by omega
  subst e
  rw [List.drop_length] at em2
  cases em2
  rw [List.append_nil] at er
  subst er
  exact .inl ⟨j2, hds G2 H2 _ (s1.trans st) ⟨D, _, rfl, s1.h.free hD, g2, h2, .lst rp⟩⟩
theorem iZ {elt iter tg : Expr} {scope : Scope} {ifs : List Expr} {n : Nat} {js ks : List Nat} {fi : En -> Res (List D)} {g : D -> En -> Option En} {ft : En -> Res Bool} {fe : En -> Res Ev} {xs ys : List Str} {cl : List (Str × Addr)} (hc : X.calm = true) (hi : DI X E tg iter fi)
  (hcl : aFs X scope cl) (hcap : lO X scope cl ys js) (hcell : ∀ y ∈ scope.names, y.2 ≠ .cell) (hkind : scope.kind = .function) (hnames : ∀ y ∈ scope.names, y.2 = .local -> scope.names.lookup y.1 = some .local) (hn : xs.length = n) (hks : ∀ j ∈ ks, j < n)
  (hg : ∀ C s₀ H₀ ex pn, DG (bR X scope cl C (xs ++ ys) s₀ H₀ ex pn) tg ks g) (ht : ∀ C s₀ H₀ ex pn, DTs (bR X scope cl C (xs ++ ys) s₀ H₀ ex pn) ifs ft) (hb : ∀ C s₀ H₀ ex pn, DE (bR X scope cl C (xs ++ ys) s₀ H₀ ex pn) (fun _ => E0) elt fe)
  (hs : ∀ x, foldedSetIterable iter X.env x = pure x := by intro _; rfl) : DE X E (.ListComp elt [⟨tg, iter, ifs, 0⟩] scope pos) (gO n js fi g ft fe) :=
 DE.in ⟨_, aD3 (xs := xs) (g := tG X.K ks g) (tt := tT X.K (fun _ => E0) ft) (te := tE X.K (fun _ => E0) fe) hc hi hcl hcap hcell hkind hnames hg ht hb hs, wC hc hi hcl hcap hcell hkind hnames hn hks hg ht hb⟩
theorem nZ {i : Nat} {y : Str} {py spos : Pos} (hN : X.N.Nodup) (hiN : X.N[i]? = some y) (hx : Loc X.env.scope y) {elt iter tg : Expr} {scope : Scope} {ifs : List Expr} {n : Nat} {js ks : List Nat} {fi : En -> Res (List D)} {g : D -> En -> Option En} {ft : En -> Res Bool} {fe : En -> Res Ev} {xs ys : List Str} {cl : List (Str × Addr)} (hc : X.calm = true) (hi : DI X E tg iter fi)
  (hcl : aFs X scope cl) (hcap : lO X scope cl ys js) (hcell : ∀ y ∈ scope.names, y.2 ≠ .cell) (hkind : scope.kind = .function) (hnames : ∀ y ∈ scope.names, y.2 = .local -> scope.names.lookup y.1 = some .local) (hn : xs.length = n) (hks : ∀ j ∈ ks, j < n)
  (hg : ∀ C s₀ H₀ ex pn, DG (bR X scope cl C (xs ++ ys) s₀ H₀ ex pn) tg ks g) (ht : ∀ C s₀ H₀ ex pn, DTs (bR X scope cl C (xs ++ ys) s₀ H₀ ex pn) ifs ft) (hb : ∀ C s₀ H₀ ex pn, DE (bR X scope cl C (xs ++ ys) s₀ H₀ ex pn) (fun _ => E0) elt fe)
  (hsw : swapsWith (.ListComp elt [⟨tg, iter, ifs, 0⟩] scope pos) (some (.Name y py)) spos.line X.env = pure true := by rfl) (hs : ∀ x, foldedSetIterable iter X.env x = pure x := by intro _; rfl)
  (hf : X.fn y = true \/ X.env.scope.names.lookup y = some .local := by first | exact .inl rfl | exact .inr rfl | assumption) : DS X E (.Assign [.Name y py] (.ListComp elt [⟨tg, iter, ifs, 0⟩] scope pos) spos) (cX i (gO n js fi g ft fe)) :=
 DS.in ⟨_, aDb (xs := xs) (g := tG X.K ks g) (tt := tT X.K (fun _ => E0) ft) (te := tE X.K (fun _ => E0) fe) hN hiN hx hc hi hcl hcap hcell hkind hnames hg ht hb hsw hs hf, qV (wC hc hi hcl hcap hcell hkind hnames hn hks hg ht hb)⟩
end
section
variable {X : Cx} {K : PySem.W.Frag}
def rOr (r r' : R2) : R2 := fun x y H Q => r x y H Q \/ r' x y H Q
theorem OpR.or' {f : Value -> Value -> Sem Value} {r r' : R2} (h : OpR X f r) (h' : OpR X f r') : OpR X f (rOr r r') := OpR.or h h'
def aK3 : R2 := fun x y H Q => ∃ l b xs zs, x = .ref l /\ y = .ref b /\ Rd H l (.lst xs) /\ Rd H b (.lst zs) /\ xs.length + zs.length <= sizeLine /\ ∀ p, H p = none -> Q (.ref p) (upd H p (.lst (xs ++ zs)))
theorem aHl : OpR X (binaryOp .Add) aK3 := by
 intro pins s σ H x y v u Q I rx ry h
 obtain ⟨l, b, xs, zs, rfl, rfl, hH, hB, hz, q⟩ := h
 cases rx
 cases ry
 obtain ⟨z, its, n, r, e⟩ := hH.ok I.hok
 obtain ⟨z2, its2, n2, r2, e2⟩ := hB.ok I.hok
 have hl := r.length
 have hl2 := r2.length
 refine PySem.P.add_list e e2 ?_ (by rw [List.size_toArray, List.size_toArray]; omega)
 have ea : its.toArray ++ its2.toArray = (its ++ its2).toArray := by simp
 rw [ea]
 exact ⟨.ref _, _, I.lnew (t' := s.toks) (r.append r2) (by rw [List.length_append]; omega), rfl, q _ I.fresh⟩
def aG5 : R2 := fun x y H Q => ∃ i j, x = .str i /\ y = .str j /\ i.length + j.length <= sizeLine /\ Q (.str (i ++ j)) H
def e8 : Ev -> Option (List D)
 | .p (.list ds) => some ds
 | .b (.list ds) => some ds
 | _ => none
theorem kM {W : Addr -> Option Nat} {Hs G H : Hp} {v : V} {r : Ev} {ds : List D} (gh : Same G H) (h : EOk K W Hs G H v r) (e : e8 r = some ds) : ∃ a xs, v = .ref a /\ Rd H a (.lst xs) /\ Reps K G xs ds := by
 cases r with
 | p d =>
  cases d with
  | list es =>
   cases e
   cases h with
   | @lst a xs _ h1 h2 => exact ⟨a, xs, rfl, dZ gh h1, h2⟩
  | _ => cases e
 | b d =>
  cases d with
  | list es =>
   cases e
   obtain ⟨a, i, o, rfl, h1, h2, h3⟩ := h
   cases h3 with
   | @lst xs _ h4 => exact ⟨a, xs, rfl, .inl h2, h4⟩
  | _ => cases e
 | f d => cases e
 | x C => cases e
def dat : Ev -> Option D
 | .p d => some d
 | .b d => some d
 | _ => none
theorem EOk.read {W : Addr -> Option Nat} {Hs G H : Hp} {v : V} {r : Ev} {d : D} (gh : Same G H) (h : EOk K W Hs G H v r) (e : dat r = some d) : Rep K H v d := by
 cases r with
 | p d => cases e; exact Rep.mono gh h
 | b d =>
  cases e
  obtain ⟨a, i, o, rfl, h1, h2, h3⟩ := h
  exact (h3.mono gh).rep h2
 | f d => cases e
 | x C => cases e
open Classical in
noncomputable def vP (C : Int -> Int -> Prop) (g : Int -> Int -> D) (x y : Ev) : Res Ev := match x, y with
 | .p (.int i), .p (.int j) => if C i j then .ok (.p (g i j)) else .bad
 | _, _ => .bad
def fQ (g : Int -> Int -> D) (x y : Ev) : Res Ev := match x, y with
 | .p (.int i), .p (.int j) => .ok (.p (g i j))
 | _, _ => .bad
theorem aM {C : Int -> Int -> Prop} {g : Int -> Int -> D} : NoX (vP C g) := by
 intro x y A h
 unfold vP at h
 split at h
 ·split at h <;> cases h
 ·cases h
theorem bQ {g : Int -> Int -> D} : NoX (fQ g) := by
 intro x y A h
 unfold fQ at h
 split at h <;> cases h
theorem sM {C : Int -> Int -> Prop} {g : Int -> Int -> D} {gv : Int -> Int -> V} (hg : ∀ G i j, Rep K G (gv i j) (g i j)) : OpM K (rI C gv) (vP C g) := by
 intro W G H v u x y Q gh hx hy hw
 unfold vP at hw
 split at hw
 ·rename_i i j e1 e2
  rw [e1] at hx; rw [e2] at hy
  cases hx; cases hy
  split at hw
  ·rename_i hc
   exact ⟨i, j, rfl, rfl, hc, hw G H _ (Step.refl gh) (hg G i j)⟩
  ·exact hw.elim
 ·exact hw.elim
theorem yI {g : Int -> Int -> D} {gv : Int -> Int -> V} (hg : ∀ G i j, Rep K G (gv i j) (g i j)) : OpM K (rI0 gv) (fQ g) := by
 intro W G H v u x y Q gh hx hy hw
 unfold fQ at hw
 split at hw
 ·rename_i i j e1 e2
  rw [e1] at hx; rw [e2] at hy
  cases hx; cases hy
  exact ⟨i, j, rfl, rfl, hw G H _ (Step.refl gh) (hg G i j)⟩
 ·exact hw.elim
noncomputable abbrev lE : Ev -> Ev -> Res Ev := vP CMulW fun i j => .int (i * j)
noncomputable abbrev qC : Ev -> Ev -> Res Ev := vP mS fun i j => .int (i.fdiv j)
noncomputable abbrev mK : Ev -> Ev -> Res Ev := vP (fun _ j => j ≠ 0) fun i j => .int (i.fmod j)
noncomputable abbrev aH2 : Ev -> Ev -> Res Ev := vP aHx fun i j => .int (i ^ j.toNat)
abbrev xX : Ev -> Ev -> Res Ev := fQ fun i j => .int (i - j)
abbrev ltE : Ev -> Ev -> Res Ev := fQ fun i j => .bool (decide (i < j))
abbrev gtE : Ev -> Ev -> Res Ev := fQ fun i j => .bool (decide (j < i))
theorem dH : OpM K (rI CMulW fun i j => .int (i * j)) lE := sM fun _ _ _ => .int _
theorem lT : OpM K (rI mS fun i j => .int (i.fdiv j)) qC := sM fun _ _ _ => .int _
theorem fO : OpM K (rI (fun _ j => j ≠ 0) fun i j => .int (i.fmod j)) mK := sM fun _ _ _ => .int _
theorem yY : OpM K (rI aHx fun i j => .int (i ^ j.toNat)) aH2 := sM fun _ _ _ => .int _
theorem mF : OpM K (rI0 fun i j => .int (i - j)) xX := yI fun _ _ _ => .int _
def iF (x y : Ev) : Res Ev := match x, y with
 | .p (.int i), .p (.int j) => .ok (.p (.int (i + j)))
 | .p (.str i), .p (.str j) => if i.length + j.length <= 100000 then .ok (.p (.str (i ++ j))) else .bad
 | x, y => match e8 x, e8 y with
  | some ds, some es => if ds.length + es.length <= 100000 then .ok (.f (.list (ds ++ es))) else .bad
  | _, _ => .bad
theorem cA : NoX iF := by
 intro x y A h
 unfold iF at h
 split at h
 ·cases h
 ·split at h <;> cases h
 ·split at h
  ·split at h <;> cases h
  ·cases h
abbrev aIa : R2 := rOr (rI0 fun i j => .int (i + j)) (rOr aG5 aK3)
theorem b9 : OpR X (binaryOp .Add) aIa := OpR.or' aJb (OpR.or' xN aHl)
theorem dP : OpM K aIa iF := by
 intro W G H v u x y Q gh hx hy hw
 unfold iF at hw
 split at hw
 ·rename_i i j e1 e2
  rw [e1] at hx; rw [e2] at hy
  cases hx; cases hy
  exact .inl ⟨i, j, rfl, rfl, hw G H _ (Step.refl gh) (.int _)⟩
 ·rename_i i j e1 e2
  rw [e1] at hx; rw [e2] at hy
  cases hx; cases hy
  split at hw
  ·rename_i hl
   exact .inr (.inl ⟨i, j, rfl, rfl, Nat.le_trans hl (by decide), hw G H _ (Step.refl gh) (.str _)⟩)
  ·exact hw.elim
 ·split at hw
  ·rename_i ds es e1 e2
   obtain ⟨a, xs, rfl, h1, h2⟩ := kM gh hx e1
   obtain ⟨b, ys, rfl, h3, h4⟩ := kM gh hy e2
   split at hw
   ·rename_i hl
    refine .inr (.inr ⟨a, b, xs, ys, rfl, rfl, h1, h3, by rw [h2.length, h4.length]; exact Nat.le_trans hl (by decide), fun p hp => ?_⟩)
    exact hw _ _ _ (Step.lay gh hp) ⟨p, _, rfl, hp, gh.free hp, aY, .lst (h2.append h4)⟩
   ·exact hw.elim
  ·exact hw.elim
theorem kL {p : Int -> Int -> Bool} : OpM K (rI0 fun i j => .bl (p i j)) (fQ fun i j => .bool (p i j)) := yI fun _ _ _ => .bl _
mutual
theorem Rep.reads {P : Program} {w : World} {H : Hp} {h : Heap} (ok : HOk P w H h) : ∀ {v : V} {d : D}, Rep K H v d -> d.canLay0 = true -> ∀ {u : Value}, RelV v u -> ∃ as, Reads h u d as
 | _, _, .non, _, _, e => by cases e; exact ⟨_, Reads.none⟩
 | _, _, .bl b, _, _, e => by cases e; exact ⟨_, Reads.bool b⟩
 | _, _, .int i, _, _, ⟨t, e⟩ => by subst e; exact ⟨_, Reads.int i t⟩
 | _, _, .str i, _, _, ⟨t, e⟩ => by subst e; exact ⟨_, Reads.str i t⟩
 | _, _, .tup hh r, hc, _, e => by
  have e : _ = Value.ref _ := e
  subst e
  obtain ⟨_, its, rv, o, ho, hcl, n, hd⟩ := (show ObjOk P w H h _ _ from ok _ _ hh)
  obtain ⟨as, q⟩ := Reps.reads ok r (by simpa [PyData.canLay0] using hc) rv
  exact ⟨as, reads_tuple_at ho hcl hd (by simpa using q)⟩
 | _, _, .lst hh r, hc, _, e => by
  have e : _ = Value.ref _ := e
  subst e
  obtain ⟨_, its, n, rv, ho⟩ := hh.ok ok
  obtain ⟨as, q⟩ := Reps.reads ok r (by simpa [PyData.canLay0] using hc) rv
  exact ⟨_, reads_list_at ho rfl rfl (by simpa using q)⟩
 | _, _, .dT _ _, hc, _, _ => by simp [PyData.canLay0] at hc
 | _, _, .dK _ _, hc, _, _ => by simp [PyData.canLay0] at hc
theorem Reps.reads {P : Program} {w : World} {H : Hp} {h : Heap} (ok : HOk P w H h) : ∀ {vs : List V} {ds : List D}, Reps K H vs ds -> PyData.canLayAll0 ds = true -> ∀ {us : List Value}, Vals vs us -> ∃ as, ReadsAll h us ds as
 | _, _, .nil, _, _, .nil => ⟨_, ReadsAll.nil⟩
 | _, _, .cons hd r, hc, _, .cons rv rt => by
  simp only [PyData.canLayAll0, Bool.and_eq_true] at hc
  obtain ⟨as, q⟩ := Rep.reads ok hd hc.1 rv
  obtain ⟨bs, p⟩ := Reps.reads ok r hc.2 rt
  exact ⟨_, ReadsAll.cons q p⟩
end
def aLr (K : PySem.W.Frag) (ng : Bool) : R2 := fun x y H Q => ∃ d e, Rep K H x d /\ Rep K H y e /\ SeqAt.shaped d = true /\ SeqAt.shaped e = true /\ Q (.bl (if ng then !PyData.eqv d e else PyData.eqv d e)) H
theorem oJ {K : PySem.W.Frag} (hu : X.A.units + 64 < cLine) : OpR X (compareOp .Eq) (aLr K false) := by
 intro pins s σ H x y v u Q I rx ry h
 obtain ⟨d, e, h1, h2, o1, o2, q⟩ := h
 obtain ⟨as, r1⟩ := h1.reads I.hok (Bool.and_eq_true_iff.mp o1).1 rx
 obtain ⟨bs, r2⟩ := h2.reads I.hok (Bool.and_eq_true_iff.mp o2).1 ry
 exact eq_dataH r1 r2 o1 o2 hu ⟨.bl _, H, I, rfl, q⟩
theorem jU {K : PySem.W.Frag} (hu : X.A.units + 64 < cLine) : OpR X (compareOp .NotEq) (aLr K true) := by
 intro pins s σ H x y v u Q I rx ry h
 obtain ⟨d, e, h1, h2, o1, o2, q⟩ := h
 obtain ⟨as, r1⟩ := h1.reads I.hok (Bool.and_eq_true_iff.mp o1).1 rx
 obtain ⟨bs, r2⟩ := h2.reads I.hok (Bool.and_eq_true_iff.mp o2).1 ry
 exact ne_dataH r1 r2 o1 o2 hu ⟨.bl _, H, I, rfl, q⟩
def eqE (ng : Bool) (x y : Ev) : Res Ev := match dat x, dat y with
 | some d, some e => if SeqAt.shaped d = true /\ SeqAt.shaped e = true then .ok (.p (.bool (if ng then !PyData.eqv d e else PyData.eqv d e))) else .bad
 | _, _ => .bad
theorem fD {ng : Bool} : NoX (eqE ng) := by
 intro x y A h
 unfold eqE at h
 split at h
 ·split at h <;> cases h
 ·cases h
theorem jJ {ng : Bool} : OpM K (aLr K ng) (eqE ng) := by
 intro W G H v u x y Q gh hx hy hw
 unfold eqE at hw
 split at hw
 ·rename_i d e e1 e2
  split at hw
  ·rename_i hs
   exact ⟨d, e, hx.read gh e1, hy.read gh e2, hs.1, hs.2, hw G H _ (Step.refl gh) (.bl _)⟩
  ·exact hw.elim
 ·exact hw.elim
def aCg (ng : Bool) (x : Ev) : Res Ev := match x with
 | .p .none => .ok (.p (.bool (!ng)))
 | .p _ => .ok (.p (.bool ng))
 | .b _ => .ok (.p (.bool ng))
 | _ => .bad
def mUn (op : Ev -> Res Ev) (fa : En -> Res Ev) : En -> Res Ev := fun en => (fa en).bind fun x => op x.c
variable {E : L2.St -> XK} {a b : Expr} {fa fb : En -> Res Ev} {pos : Pos}
theorem wH {ng : Bool} {W : Addr -> Option Nat} {G H : Hp} {v : V} {x : Ev} {Q : VK} (gh : Same G H) (hx : EOk K W H G H v x.c) {EE : XK} (hw : wpR (aCg ng x.c) (PostE K W G H Q) (PostX EE G H)) : Q (.bl (if ng then !decide (v = .non) else decide (v = .non))) H := by
 unfold aCg at hw
 split at hw
 ·rename_i e
  rw [e] at hx
  cases hx
  have z := hw G H _ (Step.refl gh) (.bl _)
  cases ng <;> exact z
 ·rename_i d e e2
  rw [e2] at hx
  have nv : v ≠ .non := by
   intro z
   subst z
   have hx : Rep K G V.non d := hx
   cases hx
   exact e rfl
  have z := hw G H _ (Step.refl gh) (.bl _)
  rw [decide_eq_false nv]
  cases ng <;> exact z
 ·rename_i d e
  rw [e] at hx
  obtain ⟨a, i, o, rfl, h1⟩ := hx
  have z := hw G H _ (Step.refl gh) (.bl _)
  cases ng <;> exact z
 ·exact hw.elim
theorem aJ4 {j pos'} (ha : DE X E a fa) : DE X E (.Compare a [.Is] [.Constant .none j pos'] pos) (mUn (aCg false) fa) := by
 obtain ⟨t, p, m⟩ := ha.out
 refine DE.in ⟨_, aJs (aEm p), fun B G0 G W H σ en Q hh hs hw => m B G0 G W H σ en _ hh hs (DE.go hw fun x G1 H1 v s1 e1 h1 => ?_)⟩
 exact wH (ng := false) s1.gh e1.cc h1
theorem aIo {j pos'} (ha : DE X E a fa) : DT X E (.Compare a [.Is] [.Constant .none j pos'] pos) (bG (mUn (aCg false) fa)) := by
 obtain ⟨t, p, m⟩ := ha.out
 refine DT.in ⟨_, aJz (aEm p), fun B G0 G W H σ en Q hh hs hw => ?_⟩
 have k := (aJ4 (pos := pos) (j := j) (pos' := pos') ha)
 refine qJ (t := aNc t) (fa := mUn (aCg false) fa) (E := E) (X := X) (fun B G0 G W H σ en Q hh hs hw => m B G0 G W H σ en _ hh hs (DE.go hw fun x G1 H1 v s1 e1 h1 => wH (ng := false) s1.gh e1.cc h1)) B G0 G W H σ en Q hh hs hw
def xP (x : Ev) : Res Ev := match x with
 | .p (.int i) => .ok (.p (.int (-i)))
 | _ => .bad
theorem aBr (ha : DE X E a fa) : DE X E (.UnaryOp .USub a pos) (mUn xP fa) := by
 obtain ⟨t, p, m⟩ := ha.out
 refine DE.in ⟨_, aLx aJx p, fun B G0 G W H σ en Q hh hs hw => m B G0 G W H σ en _ hh hs (DE.go hw fun x G1 H1 v s1 e1 h1 => ?_)⟩
 unfold xP at h1
 split at h1
 ·rename_i i e
  rw [e] at e1
  cases e1
  exact ⟨i, rfl, h1 G1 H1 _ (Step.refl s1.gh) (.int _)⟩
 ·exact h1.elim
def hV : Ev -> Option (List D)
 | .p (.list ds) => some ds
 | .b (.list ds) => some ds
 | .p (.tuple ds) => some ds
 | _ => none
def ixE (x y : Ev) : Res Ev := match y with
 | .p (.int i) => match hV x with
  | some ds => match atI ds i with
   | some d => .ok (.p d)
   | none => .bad
  | none => .bad
 | _ => .bad
theorem aKj : NoX ixE := by
 intro x y A h
 unfold ixE at h
 split at h
 ·split at h
  ·split at h <;> cases h
  ·cases h
 ·cases h
theorem uZ {G : Hp} {xs : List V} {ds : List D} {i : Int} {d : D} (r : Reps K G xs ds) (h : atI ds i = some d) : ∃ x, atI xs i = some x /\ Rep K G x d := by
 unfold atI at h ⊢
 rw [r.length]
 cases e : ixN ds.length i with
 | none => rw [e] at h; cases h
 | some j =>
  rw [e] at h
  exact r.get' h
def aK6 (K : PySem.W.Frag) : R2 := fun x y H Q => aNg K x y H Q \/ aNm K x y H Q
theorem aLk : IxR X (aK6 X.K) := ix_list.or aLi
theorem aLz : OpM K (aK6 K) ixE := by
 intro W G H v u x y Q gh hx hy hw
 unfold ixE at hw
 split at hw
 ·rename_i i ey
  rw [ey] at hy
  cases hy
  split at hw
  ·rename_i ds ed
   split at hw
   ·rename_i d ea
    cases ex : x.c with
    | p dd =>
     rw [ex] at ed hx
     cases dd with
     | list es =>
      cases ed
      cases hx with
      | @lst a xs _ h1 h2 =>
       obtain ⟨z, h3, h4⟩ := uZ h2 ea
       exact .inl ⟨a, xs, i, z, rfl, rfl, .inl (dZ gh h1), h3, hw G H _ (Step.refl gh) h4⟩
     | tuple es =>
      cases ed
      cases hx with
      | @tup a xs _ h1 h2 =>
       obtain ⟨z, h3, h4⟩ := uZ h2 ea
       exact .inr ⟨a, xs, i, z, rfl, rfl, SqT.of (gh _ _ h1), h3, hw G H _ (Step.refl gh) h4⟩
     | _ => cases ed
    | b dd =>
     rw [ex] at ed hx
     cases dd with
     | list es =>
      cases ed
      obtain ⟨a, k, o, rfl, h1, h2, h3⟩ := hx
      cases h3 with
      | @lst xs _ h4 =>
       obtain ⟨z, h5, h6⟩ := uZ h4 ea
       exact .inl ⟨a, xs, i, z, rfl, rfl, .inl (.inl h2), h5, hw G H _ (Step.refl gh) h6⟩
     | _ => cases ed
    | f dd => rw [ex] at ed; cases ed
    | x C => rw [ex] at ed; cases ed
   ·exact hw.elim
  ·exact hw.elim
 ·exact hw.elim
theorem aR (ha : DE X E a fa) (hb : DE X E b fb) (hs : aBu b) : DE X E (.Subscript a b pos) (aH ixE fa fb) := by
 obtain ⟨ta, pa, ma⟩ := ha.out
 obtain ⟨tb, pb, mb⟩ := hb.out
 exact DE.in ⟨_, aEd aLk pa pb hs, qY ma mb aLz aKj⟩
def eM (rs : List Ev) : Res Ev := match rs with
 | [x] => match hV x with
  | some ds => .ok (.p (.int ds.length))
  | none => .bad
 | _ => .bad
theorem d0 : aCo eM := by
 intro rs C h
 unfold eM at h
 split at h
 ·split at h <;> cases h
 ·cases h
theorem fZ : pU K (fun xs H Q => ∃ p ys, xs = [.ref p] /\ (SqL K H p ys \/ SqT K H p ys) /\ Q (.int ys.length) H) eM := by
 intro W Hs G H vs rs Q gh he hw
 unfold eM at hw
 split at hw
 ·rename_i x
  match vs, he with
  | [v], ⟨h1, _⟩ =>
   split at hw
   ·rename_i ds ed
    cases x with
    | p dd =>
     cases dd with
     | list es =>
      cases ed
      cases h1 with
      | @lst a xs _ k1 k2 => exact ⟨a, xs, rfl, .inl (.inl (dZ gh k1)), by rw [k2.length]; exact hw G H _ (Step.refl gh) (.int _)⟩
     | tuple es =>
      cases ed
      cases h1 with
      | @tup a xs _ k1 k2 => exact ⟨a, xs, rfl, .inr (SqT.of (gh _ _ k1)), by rw [k2.length]; exact hw G H _ (Step.refl gh) (.int _)⟩
     | _ => cases ed
    | b dd =>
     cases dd with
     | list es =>
      cases ed
      obtain ⟨a, k, o, rfl, k1, k2, k3⟩ := h1
      cases k3 with
      | @lst xs _ k4 => exact ⟨a, xs, rfl, .inl (.inl (.inl k2)), by rw [k4.length]; exact hw G H _ (Step.refl gh) (.int _)⟩
     | _ => cases ed
    | f dd => cases ed
    | x C => cases ed
   ·exact hw.elim
 ·exact hw.elim
def aEp (rs : List Ev) : Res Ev := match rs with
 | [.p (.int i)] => .ok (.p (.int (if i < 0 then -i else i)))
 | _ => .bad
theorem qA : aCo aEp := by
 intro rs C h
 unfold aEp at h
 split at h <;> cases h
theorem vU : pU K (fun xs H Q => ∃ i, xs = [.int i] /\ Q (.int (if i < 0 then -i else i)) H) aEp := by
 intro W Hs G H vs rs Q gh he hw
 unfold aEp at hw
 split at hw
 ·rename_i i
  match vs, he with
  | [v], ⟨h1, _⟩ => cases h1; exact ⟨i, rfl, hw G H _ (Step.refl gh) (.int _)⟩
 ·exact hw.elim
def listE (rs : List Ev) : Res Ev := match rs with
 | [x] => match hV x with
  | some ds => .ok (.f (.list ds))
  | none => .bad
 | _ => .bad
theorem xH : aCo listE := by
 intro rs C h
 unfold listE at h
 split at h
 ·split at h <;> cases h
 ·cases h
theorem aB2 : pU K (fun xs H Q => ∃ p ys, xs = [.ref p] /\ (SqL K H p ys \/ SqT K H p ys) /\ ∀ l, H l = none -> Q (.ref l) (upd H l (.lst ys))) listE := by
 intro W Hs G H vs rs Q gh he hw
 unfold listE at hw
 split at hw
 ·rename_i x
  match vs, he with
  | [v], ⟨h1, _⟩ =>
   split at hw
   ·rename_i ds ed
    have fin : ∀ {xs : List V}, Reps K G xs ds -> ∀ l, H l = none -> Q (.ref l) (upd H l (.lst xs)) := fun r l hl =>
     hw _ _ _ (Step.lay gh hl) ⟨l, _, rfl, hl, gh.free hl, aY, .lst r⟩
    cases x with
    | p dd =>
     cases dd with
     | list es =>
      cases ed
      cases h1 with
      | @lst a xs _ k1 k2 => exact ⟨a, xs, rfl, .inl (.inl (dZ gh k1)), fin k2⟩
     | tuple es =>
      cases ed
      cases h1 with
      | @tup a xs _ k1 k2 => exact ⟨a, xs, rfl, .inr (SqT.of (gh _ _ k1)), fin k2⟩
     | _ => cases ed
    | b dd =>
     cases dd with
     | list es =>
      cases ed
      obtain ⟨a, k, o, rfl, k1, k2, k3⟩ := h1
      cases k3 with
      | @lst xs _ k4 => exact ⟨a, xs, rfl, .inl (.inl (.inl k2)), fin k4⟩
     | _ => cases ed
    | f dd => cases ed
    | x C => cases ed
   ·exact hw.elim
 ·exact hw.elim
def tyD : D -> String
 | .none => "NoneType"
 | .bool _ => "bool"
 | .int _ => "int"
 | .str _ => "str"
 | .list _ => "list"
 | .tuple _ => "tuple"
 | .dict _ => "dict"
def oN (K : PySem.W.Frag) (c : Value) (x : Ev) : Res Ev := match dat x with
 | some d => match PySem.W.kitOne K (.type (tyD d)) c with
  | some b => .ok (.p (.bool b))
  | none => .bad
 | none => .bad
theorem aJm {H : Hp} {v : V} {d : D} (h : Rep K H v d) : v8 K H v (.type (tyD d)) := by
 cases h with
 | non => exact .non
 | bl b => exact .bl b
 | int i => exact .int i
 | str i => exact .str i
 | tup h _ => exact .tup h
 | lst h _ =>
  rcases h with h | ⟨o, h⟩
  ·exact .lst h
  ·exact .frz h
 | dT h _ => exact .dT h
 | dK h _ => exact .dK h
theorem nW {e c : Expr} {v : V} {cv : Value} {p : Pos} (hg : Gl X "isinstance") (hm : X.mg "isinstance" = none) (hv : (∃ n, v = .ty n) \/ ∃ a, v = .ref a) (hr : RelV v cv) (he : DE X E e fa) (hc : PE X c (tC v))
  (h1 : starEach [e, c] X.env = (false, eval e X.env) :: starEach [c] X.env := by rfl) (h2 : (backTo pos (starEach [c] X.env)).any (·.1) = false := by rfl) (h3 : starEach [c] X.env = (false, eval c X.env) :: starEach [] X.env := by rfl) :
  DE X E (.Call (.Name "isinstance" p) [e, c] [] pos) (mUn (oN X.K cv) fa) := by
 obtain ⟨t, q, m⟩ := he.out
 refine DE.in ⟨_, aKw hg hm q hc h1 h2 h3, fun B G0 G W H σ en Q hh hs hw => m B G0 G W H σ en _ hh hs (DE.go hw fun x G1 H1 u s1 e1 k1 => ?_)⟩
 unfold oN at k1
 split at k1
 ·rename_i d ed
  split at k1
  ·rename_i b eb
   exact ⟨u, v, .type (tyD d), cv, b, rfl, hv, .plain (aJm (EOk.read s1.gh e1 ed)), hr, eb, k1 G1 H1 _ (Step.refl s1.gh) (.bl _)⟩
  ·exact k1.elim
 ·exact k1.elim
end
section
variable {P : Program} {w : World} {K : PySem.W.Frag} {mg : Str -> Option Value} {base : Heap}
structure Def (K : PySem.W.Frag) (mg : Str -> Option Value) (x : Str) (ps : List Str) (st : Stmt) : Prop where
 ex : ∃ f fd, Fun K x x st f fd /\ Binds K fd ps [] /\ PySem.W.keepIn K (.ref f) = true /\ mg x = some (.ref f)
structure Cal (P : Program) (w : World) (K : PySem.W.Frag) (mg : Str -> Option Value) (base : Heap) (k : Nat) (x : Str) (n : Nat) (m : List L -> Res L) : Prop where
 ex : ∃ f fd ps, FnOk P w K mg base (CXr P w) k f fd ps (spM K n m) /\ Binds K fd ps [] /\ PySem.W.keepIn K (.ref f) = true /\ mg x = some (.ref f)
theorem kW {x : Str} {st : Stmt} {N ps : List Str} {k n : Nat} {m : List L -> Res L} (Df : Def K mg x ps st) (S : aX N ps (aN st)) (hn : n = ps.length)
  (hbody : ∀ (f : Addr) (cdv : Value) (A : Around) (outer : List Env) (s : Shared) (H : Hp) (E : XK), Room k (A.deeper (envOfC x (aN st) s.heap.objs.size f cdv)) ->
   ∃ fm, DSs (pJ (CXr P w) P w K mg base N x (aN st) f cdv A outer s H E) (fun _ => E) (fV st) fm /\ ∀ ls, m ls = .bad \/ eO N.length fm ls = m ls) : Cal P w K mg base (k + 1) x n m := by
 obtain ⟨f, fd, F, b, kp, h⟩ := Df.ex
 exact ⟨f, fd, ps, fnM F S hn fun cdv A outer s H E hr => hbody f cdv A outer s H E hr, b, kp, h⟩
end
section
variable {X : Cx} {E : L2.St -> XK} {k j : Nat} {x : Str} {p pos : Pos} {e : Expr} {es : List Expr} {fr : En -> Res (List Ev)} {n : Nat} {m : List L -> Res L}
theorem aJ (c : Cal X.prog X.w X.K X.mg X.base j x n m) (hr : Room k X.A) (hx : lW (CXr X.prog X.w) X E) (ha : DA X E (e :: es) fr) (hg : Gl X x := by rfl) (hjk : j <= k := by decide) (hdb : (x == ("__debug__" : Str)) = false := by decide)
  (he : starEach (e :: es) X.env = (false, eval e X.env) :: starEach es X.env := by rfl) (hpl : (backTo pos (starEach es X.env)).any (·.1) = false := by rfl) :
  DE X E (.Call (.Name x p) (e :: es) [] pos) (aP n m fr) := by
 obtain ⟨f, fd, ps, F, b, kp, h⟩ := c.ex
 exact aGh (F.mono hjk) hr hg h kp b hx ha hdb he hpl
theorem dv (i : Nat) (hN : X.N[i]? = some x := by rfl) (hv : Vis X.env.scope x := by first | exact Or.inl rfl | exact Or.inr (Or.inl rfl) | exact Or.inr (Or.inr rfl)) (hd : (x == ("__debug__" : Str)) = false := by decide) (hcd : (x == ("__classdict__" : Str)) = false := by decide) :
  DE X E (.Name x pos) (aC i) := aIk hN hv hd hcd
theorem u64 {A : Around} (hr : Room k A) : A.units + 64 < cLine := by have := hr.un; omega
theorem bL {scope : Scope} {cl : List (Str × Addr)} : lO X scope cl [] [] := ⟨rfl, fun i y j h _ => by simp at h⟩
theorem bF {scope : Scope} {cl : List (Str × Addr)} {y : Str} {ys : List Str} {j : Nat} {js : List Nat} (h : X.N[j]? = some y /\ (X.env.kindOf y = some .cell \/ X.env.kindOf y = some .free) /\ ((relabel scope X.env).names.lookup y = some .cell \/ (relabel scope X.env).names.lookup y = some .free) /\ (X.env.cells.lookup y).isSome = true /\ cl.lookup y = X.env.cells.lookup y)
  (t : lO X scope cl ys js) : lO X scope cl (y :: ys) (j :: js) :=
 ⟨by rw [List.length_cons, List.length_cons, t.len], fun i z q e1 e2 => by
  cases i with
  | zero => simp at e1 e2; subst e1 e2; exact h
  | succ i => exact t.at_ i z q (by simpa using e1) (by simpa using e2)⟩
theorem lM {scope : Scope} {cl : List (Str × Addr)} {ys : List Str} {js : List Nat} (clos : closureFor scope X.env = pure cl) (sub : ∀ q ∈ cl, X.env.cells.lookup q.1 = some q.2) (cap : lO X scope cl ys js) (hcell : ∀ y ∈ scope.names, y.2 ≠ .cell) (hfree : ∀ q ∈ scope.names, q.2 = .free -> q.1 ∈ ys) : aFs X scope cl := by
 refine ⟨clos, fun y c h => sub _ (PySem.mem_of_lookup h), fun y hy => ?_⟩
 have hm : y ∈ ys := by
  rcases hy with hy | hy
  ·have m := PySem.mem_of_lookup hy
   obtain ⟨⟨n0, k0⟩, m0, e0⟩ := List.mem_map.mp m
   dsimp only at e0
   split at e0
   ·rename_i z
    injection e0 with e1 e2
    subst e1
    have : k0 = .free := by
     cases k0 <;> simp at z ⊢
    exact hfree _ m0 this
   ·injection e0 with e1 e2
    exact absurd e2 (hcell _ m0)
  ·have m := PySem.mem_of_lookup hy
   obtain ⟨⟨n0, k0⟩, m0, e0⟩ := List.mem_map.mp m
   dsimp only at e0
   split at e0
   ·injection e0 with e1 e2
    cases e2
   ·injection e0 with e1 e2
    subst e1
    exact hfree _ m0 e2
 obtain ⟨i, hi, e⟩ := List.mem_iff_getElem.mp hm
 have hj : i < js.length := by rw [<- cap.len]; exact hi
 obtain ⟨_, _, _, h4, h5⟩ := cap.at_ i y js[i] (by rw [List.getElem?_eq_getElem hi, e]) (List.getElem?_eq_getElem hj)
 rw [h5]
 exact Option.isSome_iff_exists.mp h4
theorem pV {K : PySem.W.Frag} {B G0 G H : Hp} {W : Addr -> Option Nat} {σ : L2.St} {en : En} {i : Nat} {a : Addr} {o' : HO} {d' : D} (hh : SimH B G0 G W H) (hs : SimS K W G H σ en) (hW : W a = some i) (hv : σ[i]? = some (some (.ref a))) (hc : Cont K G o' d') :
  SimH B G0 G W (upd H a o') /\ SimS K W G (upd H a o') σ (en.set i (some (.o d'))) := by
 obtain ⟨g1, g2, g3⟩ := hh.wf a i hW
 refine ⟨⟨fun b o e => ?_, fun b o e => ?_, hh.g0, hh.gb, fun b j e => ?_⟩, by rw [List.length_set]; exact hs.1, fun j l e => ?_⟩
 ·rw [aU (b5 e g1)]; exact hh.gh b o e
 ·rw [aU (b5 e g2)]; exact hh.bh b o e
 ·obtain ⟨k1, k2, o, k3, k4⟩ := hh.wf b j e
  refine ⟨k1, k2, ?_⟩
  by_cases z : b = a
  ·rw [z, aY]; exact ⟨_, rfl, hc.mut⟩
  ·rw [aU z]; exact ⟨o, k3, k4⟩
 ·rw [List.getElem?_set] at e
  by_cases hj : i = j
  ·subst hj
   rw [if_pos rfl] at e
   split at e
   ·cases e
    exact ⟨_, hv, a, o', rfl, hW, aY, hc⟩
   ·cases e
  ·rw [if_neg hj] at e
   obtain ⟨v, e1, e2⟩ := hs.2 j l e
   refine ⟨v, e1, ?_⟩
   cases l with
   | p d => exact e2
   | x C => exact e2
   | h a => exact e2
   | o d =>
    obtain ⟨b, ob, h1, h2, h3, h4⟩ := e2
    refine ⟨b, ob, h1, h2, ?_, h4⟩
    rw [aU (fun z => by rw [z, hW] at h2; exact hj (Option.some.inj h2))]
    exact h3
def fF (i : Nat) (fe : En -> Res Ev) : MS := fun en => match en[i]? with
 | some (some (.o (.list ds))) => match fe en with
  | .ok r => match r.c with
   | .p d => if ds.length <= 100000 then some (.nx (en.set i (some (.o (.list (ds ++ [d])))))) else none
   | _ => none
  | .exc C => some (.ex C en)
  | .bad => none
 | _ => none
theorem fT {i : Nat} {fe : En -> Res Ev} {st : Stmt} (he : DE X E e fe) (hp : ∀ t, PE X e t -> PS X st (vG (tBM X.K "list" uP (aFg i) (aBa t aI5)))) : DS X E st (fF i fe) := by
 obtain ⟨t, q, mm⟩ := he.out
 refine DS.in ⟨_, hp t q, fun B G0 G W H σ en Dn hh hs hw => ?_⟩
 unfold fF at hw
 split at hw
 ·rename_i ds ei
  obtain ⟨v, e1, a, o, rfl, e2, e3, e4⟩ := hs.2 i _ ei
  cases e4 with
  | @lst xs _ rp =>
  refine ⟨_, e1, .inl ⟨rfl, _, SqL.of e3⟩, mm B G0 G W H σ en _ hh hs ?_⟩
  cases ef : fe en with
  | bad => rw [ef] at hw; exact hw
  | exc C => rw [ef] at hw; exact fun G1 H1 s => hw G1 W H1 σ (hh.step s) (hs.step s)
  | ok r =>
   rw [ef] at hw
   intro G1 H1 y s ey
   obtain ⟨G2, s2, ey2⟩ := ey.c s
   dsimp only at hw
   cases er : r.c with
   | p d =>
    rw [er] at hw ey2
    dsimp only at hw
    split at hw
    ·rename_i hl
     have hx := s2.h _ _ e3
     refine ⟨a, xs, y, rfl, rfl, hx, Nat.lt_of_le_of_lt (by rw [rp.length]; exact hl) (by decide), ?_⟩
     obtain ⟨w1, w2⟩ := pV (o' := .lst (xs ++ [y])) (d' := .list (ds ++ [d])) (hh.step s2) (hs.step s2) e2 e1 (.lst ((rp.mono s2.g).append (.cons ey2 .nil)))
     exact hw _ _ _ _ w1 w2
    ·exact hw.elim
   | f d => rw [er] at hw; exact hw.elim
   | b d => rw [er] at hw; exact hw.elim
   | x C => rw [er] at hw; exact hw.elim
 ·exact hw.elim
end
section
variable {X : Cx} {K : PySem.W.Frag} {E : L2.St -> XK} {a b : Expr} {fa fb : En -> Res Ev} {pos : Pos}
def s9 : D -> Bool
 | .none => true
 | .bool _ => true
 | .int _ => true
 | .str _ => true
 | _ => false
theorem vY {G : Hp} {v : V} {d : D} (h : Rep K G v d) (f : s9 d = true) : oD v = true := by
 cases h <;> first | rfl | exact absurd f Bool.false_ne_true
theorem aHr {G : Hp} {v u : V} {d e : D} (h : Rep K G v d) (h2 : Rep K G u e) (f : s9 d = true) (f2 : s9 e = true) : eqV v u = PyData.eqv d e := by
 cases h <;> cases h2 <;> first | rfl | exact absurd f Bool.false_ne_true | exact absurd f2 Bool.false_ne_true | simp only [eqV, PyData.eqv]
def inE (ng : Bool) (x y : Ev) : Res Ev := match x with
 | .p d => match hV y with
  | some ds => if s9 d = true /\ ds.all s9 = true then .ok (.p (.bool (if ng then !ds.any (fun e => PyData.eqv e d) else ds.any fun e => PyData.eqv e d))) else .bad
  | none => .bad
 | _ => .bad
theorem aE2 {ng : Bool} : NoX (inE ng) := by
 intro x y A h
 unfold inE at h
 split at h
 ·split at h
  ·split at h <;> cases h
  ·cases h
 ·cases h
theorem aCe {G : Hp} {v : V} {d : D} (h : Rep K G v d) (f : s9 d = true) : ∀ {xs : List V} {ds : List D}, Reps K G xs ds -> ds.all s9 = true -> xs.all oD = true /\ inV v xs = ds.any (fun e => PyData.eqv e d)
 | _, _, .nil, _ => ⟨rfl, rfl⟩
 | _, _, .cons r t, hf => by
  rw [List.all_cons, Bool.and_eq_true] at hf
  obtain ⟨i1, i2⟩ := aCe h f t hf.2
  unfold inV at i2 ⊢
  rw [List.all_cons, List.any_cons, List.any_cons, vY r hf.1, i1, i2, aHr r h hf.1 f]
  exact ⟨rfl, rfl⟩
theorem aBv {K : PySem.W.Frag} (h : X.K = K) : OpR X (compareOp .NotIn) (rIn K true) := h ▸ rV
theorem aIi {ng : Bool} : OpM K (rIn K ng) (inE ng) := by
 intro W G H v u x y Q gh hx hy hw
 unfold inE at hw
 split at hw
 ·rename_i d ex
  rw [ex] at hx
  split at hw
  ·rename_i ds ed
   split at hw
   ·rename_i hf
    have hx : Rep K G v d := hx
    have fin : ∀ {xs : List V}, Reps K G xs ds -> xs.all oD = true /\ Q (.bl (if ng then !inV v xs else inV v xs)) H := fun r => by
     obtain ⟨i1, i2⟩ := aCe hx hf.1 r hf.2
     rw [i2]
     exact ⟨i1, hw G H _ (Step.refl gh) (.bl _)⟩
    cases ey : y.c with
    | p dd =>
     rw [ey] at ed hy
     cases dd with
     | list es =>
      cases ed
      cases hy with
      | @lst a xs _ h1 h2 => exact ⟨a, xs, rfl, .inl (.inl (dZ gh h1)), vY hx hf.1, fin h2⟩
     | tuple es =>
      cases ed
      cases hy with
      | @tup a xs _ h1 h2 => exact ⟨a, xs, rfl, .inr (SqT.of (gh _ _ h1)), vY hx hf.1, fin h2⟩
     | _ => cases ed
    | b dd =>
     rw [ey] at ed hy
     cases dd with
     | list es =>
      cases ed
      obtain ⟨a, k, o, rfl, h1, h2, h3⟩ := hy
      cases h3 with
      | @lst xs _ h4 => exact ⟨a, xs, rfl, .inl (.inl (.inl h2)), vY hx hf.1, fin h4⟩
     | _ => cases ed
    | f dd => rw [ey] at ed; cases ed
    | x C => rw [ey] at ed; cases ed
   ·exact hw.elim
  ·exact hw.elim
 ·exact hw.elim
end
end M
namespace SRT
open PySem PySem.W PyProof.Rows
structure Ord (lt : Nat -> Nat -> Bool) : Prop where
 as : ∀ i j, lt i j = true -> lt j i = false
 tr : ∀ i j k, lt j i = false -> lt k j = false -> lt k i = false
section
variable {lt : Nat -> Nat -> Bool} {n : Nat} {cmp : Nat -> Nat -> (Bool -> Shared -> Prop) -> Shared -> Prop} {s : Shared}
def le (lt : Nat -> Nat -> Bool) (a b : Nat) : Prop := lt b a = false
theorem Ord.rf (o : Ord lt) (i : Nat) : le lt i i := by
 cases e : lt i i with
 | false => exact e
 | true => have := o.as i i e; rw [e] at this; cases this
theorem Ord.tot (o : Ord lt) {i j : Nat} (h : lt i j = true) : le lt i j := o.as i j h
def Pt (p : Array Nat) (i : Nat) : Nat := p.getD i 0
def Sd (lt : Nat -> Nat -> Bool) (p : Array Nat) (m : Nat) : Prop := ∀ i j, i <= j -> j < m -> le lt (Pt p i) (Pt p j)
def NI (lt : Nat -> Nat -> Bool) (p : Array Nat) (m : Nat) : Prop := ∀ i j, i <= j -> j < m -> le lt (Pt p j) (Pt p i)
def Pm (n : Nat) (p : Array Nat) : Prop := p.Perm (List.range n).toArray
theorem Pm.size {p : Array Nat} (h : Pm n p) : p.size = n := by
 have := h.size_eq
 simpa using this
theorem Pm.bd {p : Array Nat} (h : Pm n p) (hn : 0 < n) (i : Nat) : Pt p i < n := by
 unfold Pt
 by_cases hi : i < p.size
 ·have e : p.getD i 0 = p[i] := by simp [Array.getD, hi]
  rw [e]
  have : p[i] ∈ (List.range n).toArray := h.mem_iff.mp (Array.getElem_mem hi)
  simpa using this
 ·have e : p.getD i 0 = 0 := by simp [Array.getD, hi]
  rw [e]; exact hn
theorem zD {p q : Array Nat} {i j : Nat} (h : p[i]? = q[j]?) : Pt p i = Pt q j := by
 unfold Pt
 rw [Array.getD_eq_getD_getElem?, Array.getD_eq_getD_getElem?, h]
theorem tD {p : Array Nat} (h : Pm n p) (i j : Nat) : Pm n (kas_rev p i j) := (mirror_perm _ _ _ _).trans h
theorem sS {p : Array Nat} {i j : Nat} (hj : j <= p.size) (k : Nat) : Pt (kas_rev p i j) k = if i <= k /\ k < j then Pt p (i + j - 1 - k) else Pt p k := by
 have e := getElem?_mirror_all (xs := p) (i := i) hj k
 split
 ·rename_i h
  rw [if_pos h] at e
  exact zD e
 ·rename_i h
  rw [if_neg h] at e
  exact zD e
variable (hc : ∀ i j C, i < n -> j < n -> C (lt i j) s -> cmp i j C s) (hn : 0 < n) (o : Ord lt)
include hc hn
theorem aCa {Q : Nat -> Shared -> Prop} {p : Array Nat} (hp : Pm n p) : ∀ (f a : Nat), (∀ m, a <= m -> m <= a + f -> (∀ k, a <= k -> k < m -> le lt (Pt p (k - 1)) (Pt p k)) -> (m < a + f -> lt (Pt p m) (Pt p (m - 1)) = true) -> Q m s) ->
  (kas_asc p f a).kasWp cmp Q s
 | 0, a, h => h a (Nat.le_refl _) (Nat.le_refl _) (fun k h1 h2 => absurd h2 (by omega)) (fun h => absurd h (by omega))
 | f + 1, a, h => by
  refine hc _ _ _ (hp.bd hn _) (hp.bd hn _) ?_
  show KasT.kasWp cmp (if lt (Pt p a) (Pt p (a - 1)) = true then .ret a else kas_asc p f (a + 1)) Q s
  cases e : lt (Pt p a) (Pt p (a - 1)) with
  | true =>
   rw [if_pos rfl]
   exact h a (Nat.le_refl _) (by omega) (fun k h1 h2 => absurd h2 (by omega)) fun _ => e
  | false =>
   rw [if_neg Bool.false_ne_true]
   refine aCa hp f (a + 1) fun m h1 h2 h3 h4 => h m (by omega) (by omega) (fun k k1 k2 => ?_) fun z => h4 (by omega)
   by_cases ek : k = a
   ·subst ek; exact e
   ·exact h3 k (by omega) k2
include o
omit hc hn in
theorem aI1 {p : Array Nat} {a m : Nat} (h1 : 1 <= a) (hs : Sd lt p a) (hk : ∀ k, a <= k -> k < m -> le lt (Pt p (k - 1)) (Pt p k)) : Sd lt p m := by
 intro i j hij hj
 induction j with
 | zero =>
  have : i = 0 := by omega
  subst this
  exact o.rf _
 | succ j ih =>
  by_cases e : i = j + 1
  ·subst e; exact o.rf _
  ·have ih := ih (by omega) (by omega)
   by_cases hja : j + 1 < a
   ·exact hs i (j + 1) hij hja
   ·have := hk (j + 1) (by omega) hj
    exact o.tr _ _ _ ih this
omit hc hn in
theorem aKc {p : Array Nat} {m : Nat} (hm : m <= p.size) (h : NI lt p m) : Sd lt (kas_rev p 0 m) m := by
 intro i j hij hj
 rw [sS hm, sS hm, if_pos ⟨Nat.zero_le _, by omega⟩, if_pos ⟨Nat.zero_le _, hj⟩]
 exact h _ _ (by omega) (by omega)
theorem zH {Q : Nat × Array Nat -> Shared -> Prop} {p : Array Nat} {a r : Nat} (hp : Pm n p) (h1 : 1 <= a) (ha : a <= r) (hr : r <= n) (hni : NI lt p a) (h : ∀ m q, 1 <= m -> m <= r -> Pm n q -> Sd lt q m -> Q (m, q) s) : (kas_tail3 a r p).kasWp cmp Q s := by
 unfold kas_tail3
 rw [KasT.kasWp_bind]
 have hz : a <= p.size := by rw [hp.size]; omega
 refine aCa hc hn (tD hp 0 a) _ _ fun m h2 h3 h4 _ => ?_
 exact h m _ (by omega) (by omega) (tD hp 0 a) (aI1 o h1 (aKc o hz hni) h4)
omit hc hn in
theorem rev_eq {p : Array Nat} {i j : Nat} (hj : j <= p.size) (he : ∀ a b, i <= a -> a < j -> i <= b -> b < j -> le lt (Pt p a) (Pt p b)) (k : Nat) : le lt (Pt (kas_rev p i j) k) (Pt p k) /\ le lt (Pt p k) (Pt (kas_rev p i j) k) := by
 rw [sS hj]
 split
 ·rename_i h
  exact ⟨he _ _ (by omega) (by omega) h.1 h.2, he _ _ h.1 h.2 (by omega) (by omega)⟩
 ·exact ⟨o.rf _, o.rf _⟩
omit hc hn in
theorem nH {p : Array Nat} {i j m : Nat} (hj : j <= p.size) (he : ∀ a b, i <= a -> a < j -> i <= b -> b < j -> le lt (Pt p a) (Pt p b)) (h : NI lt p m) : NI lt (kas_rev p i j) m := fun a b hab hb =>
 o.tr _ _ _ (rev_eq o hj he b).1 (o.tr _ _ _ (h a b hab hb) (rev_eq o hj he a).2)
theorem qD {Q : Array Nat × Nat × Nat -> Shared -> Prop} {r : Nat} (hr : r <= n) : ∀ (f : Nat) (p : Array Nat) (a q : Nat), Pm n p -> a + f <= r -> q + 1 <= a -> NI lt p a -> (∀ x y, a - (q + 1) <= x -> x < a -> a - (q + 1) <= y -> y < a -> le lt (Pt p x) (Pt p y)) ->
  (∀ p' a' q', Pm n p' -> a <= a' -> a' <= r -> q' + 1 <= a' -> NI lt p' a' -> (∀ x y, a' - (q' + 1) <= x -> x < a' -> a' - (q' + 1) <= y -> y < a' -> le lt (Pt p' x) (Pt p' y)) -> Q (p', a', q') s) -> (kas_desc f p a q).kasWp cmp Q s
 | 0, p, a, q, hp, hf, hq, hni, he, h => h p a q hp (Nat.le_refl _) (by omega) hq hni he
 | f + 1, p, a, q, hp, hf, hq, hni, he, h => by
  have hz : a <= p.size := by rw [hp.size]; omega
  refine hc _ _ _ (hp.bd hn _) (hp.bd hn _) ?_
  show KasT.kasWp cmp (if lt (Pt p a) (Pt p (a - 1)) = true then (if q > 0 then kas_desc f (kas_rev p (a - (q + 1)) a) (a + 1) 0 else kas_desc f p (a + 1) 0)
   else .ask (Pt p (a - 1)) (Pt p a) fun d => if d = true then .ret (p, a, q) else kas_desc f p (a + 1) (q + 1)) Q s
  have grow : ∀ {p' : Array Nat}, NI lt p' a -> le lt (Pt p' a) (Pt p' (a - 1)) -> NI lt p' (a + 1) := fun {p'} h1 h2 i j hij hj => by
   by_cases e : j = a
   ·subst e
    by_cases e2 : i = j
    ·subst e2; exact o.rf _
    ·exact o.tr _ _ _ h2 (h1 i (j - 1) (by omega) (by omega))
   ·exact h1 i j hij (by omega)
  cases e : lt (Pt p a) (Pt p (a - 1)) with
  | true =>
   rw [if_pos rfl]
   by_cases hq0 : q > 0
   ·rw [if_pos hq0]
    have n1 := nH o hz he hni
    have e1 : Pt (kas_rev p (a - (q + 1)) a) a = Pt p a := by rw [sS hz, if_neg (by omega)]
    have le1 : le lt (Pt (kas_rev p (a - (q + 1)) a) a) (Pt (kas_rev p (a - (q + 1)) a) (a - 1)) := by
     rw [e1]
     exact o.tr _ _ _ (o.tot e) (rev_eq o hz he (a - 1)).2
    refine qD hr f _ (a + 1) 0 (tD hp _ _) (by omega) (by omega) (grow n1 le1) (fun x y h1 h2 h3 h4 => ?_) fun p' a' q' k1 k2 k3 k4 k5 k6 => h p' a' q' k1 (by omega) k3 k4 k5 k6
    have : x = y := by omega
    subst this; exact o.rf _
   ·rw [if_neg hq0]
    refine qD hr f _ (a + 1) 0 hp (by omega) (by omega) (grow hni (o.tot e)) (fun x y h1 h2 h3 h4 => ?_) fun p' a' q' k1 k2 k3 k4 k5 k6 => h p' a' q' k1 (by omega) k3 k4 k5 k6
    have : x = y := by omega
    subst this; exact o.rf _
  | false =>
   rw [if_neg Bool.false_ne_true]
   refine hc _ _ _ (hp.bd hn _) (hp.bd hn _) ?_
   show KasT.kasWp cmp (if lt (Pt p (a - 1)) (Pt p a) = true then .ret (p, a, q) else kas_desc f p (a + 1) (q + 1)) Q s
   cases e2 : lt (Pt p (a - 1)) (Pt p a) with
   | true =>
    rw [if_pos rfl]
    exact h p a q hp (Nat.le_refl _) (by omega) hq hni he
   | false =>
    rw [if_neg Bool.false_ne_true]
    have eq1 : le lt (Pt p (a - 1)) (Pt p a) := e
    have eq2 : le lt (Pt p a) (Pt p (a - 1)) := e2
    refine qD hr f p (a + 1) (q + 1) hp (by omega) (by omega) (grow hni eq2) (fun x y h1 h2 h3 h4 => ?_) fun p' a' q' k1 k2 k3 k4 k5 k6 => h p' a' q' k1 (by omega) k3 k4 k5 k6
    by_cases hx : x = a
    ·subst hx
     by_cases hy : y = x
     ·subst hy; exact o.rf _
     ·exact o.tr _ _ _ eq2 (he _ _ (by omega) (by omega) (by omega) (by omega))
    ·by_cases hy : y = a
     ·subst hy
      exact o.tr _ _ _ (he _ (y - 1) (by omega) (by omega) (by omega) (by omega)) eq1
     ·exact he _ _ (by omega) (by omega) (by omega) (by omega)
theorem nJ {Q : Nat × Array Nat -> Shared -> Prop} {p : Array Nat} {a r : Nat} (hp : Pm n p) (h1 : 1 <= a) (ha : a + 1 <= r) (hr : r <= n) (hni : NI lt p (a + 1)) (h : ∀ m q, 1 <= m -> m <= r -> Pm n q -> Sd lt q m -> Q (m, q) s) : (kas_descPart a r p).kasWp cmp Q s := by
 unfold kas_descPart
 rw [KasT.kasWp_bind]
 refine qD hc hn o hr _ p (a + 1) 0 hp (by omega) (by omega) hni (fun x y h1 h2 h3 h4 => ?_) fun p' a' q' k1 k2 k3 k4 k5 k6 => ?_
 ·have : x = y := by omega
  subst this; exact o.rf _
 ·have hz : a' <= p'.size := by rw [k1.size]; omega
  show KasT.kasWp cmp (if q' > 0 then kas_tail3 a' r (kas_rev p' (a' - (q' + 1)) a') else kas_tail3 a' r p') Q s
  by_cases hq : q' > 0
  ·rw [if_pos hq]
   exact zH hc hn o (tD k1 _ _) (by omega) k3 hr (nH o hz k6 k5) h
  ·rw [if_neg hq]
   exact zH hc hn o k1 (by omega) k3 hr k5 h
theorem aD6 {Q : Nat × Array Nat -> Shared -> Prop} {p : Array Nat} {r : Nat} (hp : Pm n p) (h1 : 1 <= r) (hr : r <= n) (h : ∀ m q, 1 <= m -> m <= r -> Pm n q -> Sd lt q m -> Q (m, q) s) : (kas_count r p).kasWp cmp Q s := by
 unfold kas_count
 rw [KasT.kasWp_bind]
 have s1 : Sd lt p 1 := fun i j hij hj => by
  have : i = j := by omega
  subst this; exact o.rf _
 refine aCa hc hn hp _ _ fun m h2 h3 h4 h5 => ?_
 have sm := aI1 o (Nat.le_refl 1) s1 h4
 show KasT.kasWp cmp (if (m == r) = true then .ret (m, p) else if m > 1 then .ask (Pt p 0) (Pt p (m - 1)) fun c => if c = true then .ret (m, p) else kas_descPart m r (kas_rev p 0 m) else kas_descPart m r p) Q s
 by_cases em : m = r
 ·rw [if_pos (by simp [em])]
  exact h m p h2 (by omega) hp sm
 ·rw [if_neg (by simp [em])]
  have hlt := h5 (by omega)
  have hz : m <= p.size := by rw [hp.size]; omega
  by_cases hm : m > 1
  ·rw [if_pos hm]
   refine hc _ _ _ (hp.bd hn _) (hp.bd hn _) ?_
   show KasT.kasWp cmp (if lt (Pt p 0) (Pt p (m - 1)) = true then .ret (m, p) else kas_descPart m r (kas_rev p 0 m)) Q s
   cases e : lt (Pt p 0) (Pt p (m - 1)) with
   | true => rw [if_pos rfl]; exact h m p h2 (by omega) hp sm
   | false =>
    rw [if_neg Bool.false_ne_true]
    have e : le lt (Pt p (m - 1)) (Pt p 0) := e
    have he : ∀ a b, 0 <= a -> a < m -> 0 <= b -> b < m -> le lt (Pt p a) (Pt p b) := fun a b _ ha _ hb =>
     o.tr _ _ _ (sm a (m - 1) (by omega) (by omega)) (o.tr _ _ _ e (sm 0 b (by omega) hb))
    have nm : NI lt p m := fun i j hij hj => he j i (by omega) hj (by omega) (by omega)
    have n2 := nH o hz he nm
    have em1 : Pt (kas_rev p 0 m) m = Pt p m := by rw [sS hz, if_neg (by omega)]
    refine nJ hc hn o (tD hp 0 m) (by omega) (by omega) hr (fun i j hij hj => ?_) h
    by_cases ej : j = m
    ·subst ej
     by_cases ei : i = j
     ·subst ei; exact o.rf _
     ·rw [em1]
      refine o.tr _ _ _ (o.tot hlt) (o.tr _ _ _ (rev_eq o hz he (j - 1)).2 ?_)
      exact n2 i (j - 1) (by omega) (by omega)
    ·exact n2 i j hij (by omega)
  ·rw [if_neg hm]
   have e1 : m = 1 := by omega
   subst e1
   refine nJ hc hn o hp (Nat.le_refl 1) (by omega) hr (fun i j hij hj => ?_) h
   by_cases ei : i = j
   ·subst ei; exact o.rf _
   ·have : i = 0 /\ j = 1 := by omega
    obtain ⟨rfl, rfl⟩ := this
    exact o.tot hlt
theorem pS {Q : Nat -> Shared -> Prop} {p : Array Nat} {k : Nat} (hp : Pm n p) (hs : Sd lt p k) : ∀ (f l r : Nat), l <= r -> r <= k -> r - l <= f -> (∀ i, i < l -> le lt (Pt p i) (Pt p k)) -> (∀ i, r <= i -> i < k -> lt (Pt p k) (Pt p i) = true) ->
  (∀ m, m <= k -> (∀ i, i < m -> le lt (Pt p i) (Pt p k)) -> (∀ i, m <= i -> i < k -> lt (Pt p k) (Pt p i) = true) -> Q m s) -> (kas_place p k f l r).kasWp cmp Q s
 | 0, l, r, h1, h2, h3, h4, h5, h => by
  have : l = r := by omega
  subst this
  exact h l h2 h4 h5
 | f + 1, l, r, h1, h2, h3, h4, h5, h => by
  unfold kas_place
  by_cases e : l ≥ r
  ·rw [if_pos e]
   have : l = r := by omega
   subst this
   exact h l h2 h4 h5
  ·rw [if_neg e]
   refine hc _ _ _ (hp.bd hn _) (hp.bd hn _) ?_
   show KasT.kasWp cmp (if lt (Pt p k) (Pt p ((l + r) / 2)) = true then kas_place p k f l ((l + r) / 2) else kas_place p k f ((l + r) / 2 + 1) r) Q s
   cases ec : lt (Pt p k) (Pt p ((l + r) / 2)) with
   | true =>
    rw [if_pos rfl]
    refine pS hp hs f l ((l + r) / 2) (by omega) (by omega) (by omega) h4 (fun i i1 i2 => ?_) h
    cases ei : lt (Pt p k) (Pt p i) with
    | true => rfl
    | false =>
     have := o.tr _ _ _ (hs ((l + r) / 2) i i1 i2) ei
     rw [ec] at this; cases this
   | false =>
    rw [if_neg Bool.false_ne_true]
    refine pS hp hs f ((l + r) / 2 + 1) r (by omega) h2 (by omega) (fun i i1 => ?_) h5 h
    exact o.tr _ _ _ (hs i ((l + r) / 2) (by omega) (by omega)) ec
omit hc hn in
theorem aFi {p : Array Nat} {k l : Nat} (hk : k < p.size) (hl : l <= k) (i : Nat) : Pt (bubble p k (k - l)) i = if i = l then Pt p k else if l < i /\ i <= k then Pt p (i - 1) else Pt p i := by
 have e := getElem?_bubble hk (k - l) (by omega) i
 have e1 : k - (k - l) = l := by omega
 rw [e1] at e
 repeat' split
 ·rename_i h; rw [if_pos h] at e; exact zD e
 ·rename_i h h2; rw [if_neg h, if_pos h2] at e; exact zD e
 ·rename_i h h2; rw [if_neg h, if_neg h2] at e; exact zD e
theorem aEn {Q : Array Nat -> Shared -> Prop} : ∀ (f : Nat) (p : Array Nat) (k : Nat), Pm n p -> k + f <= n -> Sd lt p k -> (∀ q, Pm n q -> Sd lt q (k + f) -> Q q s) -> (kas_bin f p k).kasWp cmp Q s
 | 0, p, k, hp, _, hs, h => h p hp hs
 | f + 1, p, k, hp, hk, hs, h => by
  unfold kas_bin
  rw [KasT.kasWp_bind]
  have hz : k < p.size := by rw [hp.size]; omega
  refine pS hc hn o hp hs k 0 k (Nat.zero_le _) (Nat.le_refl _) (by omega) (fun i h => absurd h (by omega)) (fun i h1 h2 => absurd h2 (by omega)) fun l hl h1 h2 => ?_
  refine aEn f _ (k + 1) ((bubble_perm _ _ _).trans hp) (by omega) (fun i j hij hj => ?_) fun q q1 q2 => h q q1 (by rw [show k + (f + 1) = k + 1 + f by omega]; exact q2)
  rw [aFi o hz hl, aFi o hz hl]
  by_cases ei : i = l
  ·rw [if_pos ei]
   by_cases ej : j = l
   ·rw [if_pos ej]; exact o.rf _
   ·rw [if_neg ej, if_pos ⟨by omega, by omega⟩]
    exact o.tot (h2 (j - 1) (by omega) (by omega))
  ·rw [if_neg ei]
   by_cases ej : j = l
   ·rw [if_pos ej, if_neg (by omega)]
    exact h1 i (by omega)
   ·rw [if_neg ej]
    by_cases hi : l < i /\ i <= k
    ·rw [if_pos hi, if_pos ⟨by omega, by omega⟩]
     exact hs _ _ (by omega) (by omega)
    ·rw [if_neg hi]
     by_cases hj2 : l < j /\ j <= k
     ·rw [if_pos hj2]
      exact hs _ _ (by omega) (by omega)
     ·rw [if_neg hj2]
      exact hs _ _ (by omega) (by omega)
theorem aFy {Q : Array Nat -> Shared -> Prop} (h : ∀ q, Pm n q -> Sd lt q n -> Q q s) : (kas_sort n).kasWp cmp Q s := by
 unfold kas_sort
 rw [KasT.kasWp_bind]
 refine aD6 hc hn o (Array.Perm.refl _) hn (Nat.le_refl n) fun m q h1 h2 h3 h4 => ?_
 show KasT.kasWp cmp (if m < n then kas_bin (n - max m 1) q (max m 1) else .ret q) Q s
 have em : max m 1 = m := by omega
 by_cases e : m < n
 ·rw [if_pos e, em]
  refine aEn hc hn o _ _ _ h3 (by omega) h4 fun q' k1 k2 => h q' k1 (by rw [show m + (n - m) = n by omega] at k2; exact k2)
 ·rw [if_neg e]
  have : m = n := by omega
  subst this
  exact h q h3 h4
end
end SRT
namespace SRT
open PySem PySem.W PyProof.Rows L2
def TupI (h : Heap) (v : Value) (ns : List Int) : Prop := ∃ t o xs c, v = .ref t /\ h.get? t = some o /\ o.cls = .type "tuple" /\ o.data = .seq xs c /\ IntsAre xs.toList ns
theorem TupI.at {h h' : Heap} {v : Value} {ns : List Int} (x : TupI h v ns) (k : ∀ t o, v = .ref t -> h.get? t = some o -> h'.get? t = some o) : TupI h' v ns :=
 let ⟨t, o, xs, c, e, ho, r⟩ := x; ⟨t, o, xs, c, e, k t o e ho, r⟩
theorem qN : ∀ {vs : List Value} {ns : List Int}, IntsAre vs ns -> vs.length = ns.length
 | _, _, .nil => rfl
 | _, _, .cons _ _ r => by rw [List.length_cons, List.length_cons, qN r]
theorem yK : ∀ a b : List Int, HT.lexLt a b = true -> HT.lexLt b a = false
 | [], [], h => by cases h
 | [], _ :: _, _ => rfl
 | _ :: _, [], h => by cases h
 | x :: a, y :: b, h => by
  rw [HT.j4] at h ⊢
  by_cases e : x = y
  ·rw [if_pos e] at h; rw [if_pos e.symm]; exact yK a b h
  ·rw [if_neg e] at h; rw [if_neg (Ne.symm e)]
   have := of_decide_eq_true h
   exact decide_eq_false (by omega)
theorem aCf : ∀ a b c : List Int, HT.lexLt b a = false -> HT.lexLt c b = false -> HT.lexLt c a = false
 | [], _, [], _, _ => rfl
 | [], b, _ :: _, _, _ => rfl
 | _ :: _, [], _, h, _ => by cases h
 | x :: a, y :: b, [], _, h => by cases h
 | x :: a, y :: b, z :: c, h1, h2 => by
  rw [HT.j4] at h1 h2 ⊢
  by_cases e1 : y = x
  ·subst e1
   rw [if_pos rfl] at h1
   by_cases e2 : z = y
   ·subst e2
    rw [if_pos rfl] at h2 ⊢
    exact aCf a b c h1 h2
   ·rw [if_neg e2] at h2 ⊢
    exact h2
  ·rw [if_neg e1] at h1
   have q1 := of_decide_eq_false h1
   by_cases e2 : z = y
   ·subst e2
    rw [if_neg e1]
    exact h1
   ·rw [if_neg e2] at h2
    have q2 := of_decide_eq_false h2
    have e3 : z ≠ x := by omega
    rw [if_neg e3]
    exact decide_eq_false (by omega)
theorem aEv : ∀ a b : List Int, HT.lexLt a b = false -> HT.lexLt b a = false -> a = b
 | [], [], _, _ => rfl
 | [], _ :: _, h, _ => by cases h
 | _ :: _, [], _, h => by cases h
 | x :: a, y :: b, h1, h2 => by
  rw [HT.j4] at h1 h2
  by_cases e : x = y
  ·subst e
   rw [if_pos rfl] at h1 h2
   rw [aEv a b h1 h2]
  ·rw [if_neg e] at h1; rw [if_neg (Ne.symm e)] at h2
   have q1 := of_decide_eq_false h1
   have q2 := of_decide_eq_false h2
   omega
theorem aAf (ks : List (List Int)) : Ord fun i j => HT.lexLt (ks.getD i []) (ks.getD j []) := ⟨fun _ _ => yK _ _, fun _ _ _ => aCf _ _ _⟩
section
variable {prog : Program} {w : World} {A : Around} {E : Value -> Shared -> Prop} {s : Shared}
theorem aEh {b fin : Bool} {Q : Bool -> Shared -> Prop} : ∀ {us ws : List Value} {ns ms : List Int} (i : Nat), IntsAre us ns -> IntsAre ws ms -> (fin = decide (ns.length < ms.length)) -> Q (HT.lexLt ns ms) s -> KatLex prog w A b fin Q (us.zip ws) i s
 | _, _, [], [], i, .nil, .nil, hf, q => by
  rw [hf]; exact q
 | _, _, [], m :: ms, i, .nil, .cons _ _ _, hf, q => by
  rw [hf]
  show Q (decide (0 < ms.length + 1)) s
  rw [decide_eq_true (Nat.succ_pos _)]
  exact q
 | _, _, n :: ns, [], i, .cons _ _ _, .nil, hf, q => by
  rw [hf]
  show Q (decide (ns.length + 1 < 0)) s
  rw [decide_eq_false (Nat.not_lt_zero _)]
  exact q
 | _, _, n :: ns, m :: ms, i, .cons _ t hi, .cons _ u hj, hf, q => by
  rw [HT.j4] at q
  refine kat_cons (wpAny_eqBool_int ?_)
  by_cases e : n = m
  ·rw [if_pos e] at q
   rw [show (n == m) = true by simp [e]]
   exact kat_yes (aEh (i + 1) hi hj (by rw [hf]; simp) q)
  ·rw [if_neg e] at q
   rw [show (n == m) = false by simp [e]]
   refine kat_no ?_
   cases eb : (b && i == 0) with
   | true => exact oneLt_int q
   | false => exact kat_one _ _ (lt_int q)
theorem aC1 {x y : Value} {ns ms : List Int} {Q : Bool -> Shared -> Prop} (b : Bool) (hx : TupI s.heap x ns) (hy : TupI s.heap y ms) (q : Q (HT.lexLt ns ms) s) : wpAny (model prog w) A (keyLt' (tuples' b) x y) Q E s := by
 obtain ⟨t, o, xs, c, rfl, ho, hc, hd, hi⟩ := hx
 obtain ⟨t2, o2, xs2, c2, rfl, ho2, hc2, hd2, hi2⟩ := hy
 refine kat_lt ho hd ho2 hd2 (aEh 0 hi hi2 ?_ q)
 have e1 := qN hi
 have e2 := qN hi2
 rw [Array.length_toList] at e1 e2
 rw [e1, e2]
def TupsI (h : Heap) (vs : List Value) (ks : List (List Int)) : Prop := vs.length = ks.length /\ ∀ (i : Nat) (v : Value) (k : List Int), vs[i]? = some v -> ks[i]? = some k -> TupI h v k /\ k ≠ []
theorem TupsI.cons {h : Heap} {v : Value} {vs : List Value} {ks : List (List Int)} (x : TupsI h (v :: vs) ks) : ∃ k r, ks = k :: r /\ TupI h v k /\ k ≠ [] /\ TupsI h vs r := by
 obtain ⟨hl, ha⟩ := x
 cases ks with
 | nil => simp at hl
 | cons k r =>
  obtain ⟨h1, h2⟩ := ha 0 v k rfl rfl
  exact ⟨k, r, rfl, h1, h2, by simpa using hl, fun i v k e1 e2 => ha (i + 1) v k (by simpa using e1) (by simpa using e2)⟩
theorem aNk {h : Heap} : ∀ {vs : List Value} {ks : List (List Int)}, TupsI h vs ks -> ∃ fs, KatTups h vs fs /\ fs.length = vs.length /\ ∀ f ∈ fs, ∃ i t, f = Value.int i t
 | [], _, _ => ⟨[], KatTups.nil, rfl, fun _ z => nomatch z⟩
 | v :: vs, ks, x => by
  obtain ⟨k, r, rfl, ⟨t, o, xs, c, rfl, ho, hc, hd, hi⟩, hk, hr⟩ := x.cons
  obtain ⟨fs, h1, h2, h3⟩ := aNk hr
  cases k with
  | nil => exact absurd rfl hk
  | cons n k =>
   cases hx : xs.toList with
   | nil => rw [hx] at hi; cases hi
   | cons y ys =>
    rw [hx] at hi
    cases hi with
    | cons _ tt _ =>
     refine ⟨.int n tt :: fs, KatTups.cons ho hc hd ?_ h1, by simp [h2], fun f hf => ?_⟩
     ·have : xs.toList[0]? = some (Value.int n tt) := by rw [hx]; rfl
      simpa using this
     ·rcases List.mem_cons.mp hf with rfl | hf
      ·exact ⟨n, tt, rfl⟩
      ·exact h3 f hf
theorem range_getD (vs : List Value) : ((List.range vs.length).map fun i => vs.getD i Value.none) = vs := by
 refine List.ext_getElem? fun i => ?_
 rw [List.getElem?_map]
 by_cases hi : i < vs.length
 ·rw [List.getElem?_range hi]
  simp [hi]
 ·rw [List.getElem?_eq_none (by rw [List.length_range]; omega), List.getElem?_eq_none (by omega)]
  rfl
theorem pT {a : Addr} {vs : List Value} {n : Nat} {ks : List (List Int)} {P : PySem.Fin -> Shared -> Prop} (ho : s.heap.get? a = some (seqObj "list" vs.toArray n)) (ht : TupsI s.heap vs ks) (hna : ∀ v ∈ vs, v ≠ .ref a) (h64 : vs.length < 64)
  (h : ∀ q : Array Nat, Pm vs.length q -> Sd (fun i j => HT.lexLt (ks.getD i []) (ks.getD j [])) q vs.length -> P (.done (.ret .none)) { s with heap := sortedHeap s.heap a vs (q.toList.map fun i => vs.getD i Value.none).toArray }) :
  wpAny (model prog w) A (Builtin.«list.sort» ⟨[.ref a], []⟩) P E s := by
 rw [list_sort_plain]
 have ha : a < s.heap.objs.size := Heap.lt_size ho
 refine wpAny_bind (listItems_at ho rfl ?_)
 refine wpAny_bind (listUpdate_at ho rfl ?_ (by rw [List.size_toArray, sizeLine_eq]; omega) (Nat.zero_le _))
 obtain ⟨e1, ho1⟩ : ∃ e1, (s.heap.update a (Obj.mapSeq fun _ => (#[] : Array Value))).get? a = some (seqObj "list" #[] e1) := ⟨_, get?_update_seq ho (fun _ => #[])⟩
 refine wpAny_bind (seqEpoch_at ho1 rfl ?_)
 refine wpAny_bind (wpAny_newTuple ?_ (by show vs.length <= _; rw [sizeLine_eq]; omega))
 refine wpAny_bind (wpAny_newList ?_ (Nat.zero_le _))
 refine wpAny_holding ?_
 have keep : ∀ b o, b ≠ a -> s.heap.get? b = some o -> (((s.heap.update a (Obj.mapSeq fun _ => (#[] : Array Value))).push (seqObj "tuple" vs.toArray 0)).push (seqObj "list" #[] 0)).get? b = some o := fun b o hb e => by
  refine Heap.get?_push_of_some _ (Heap.get?_push_of_some _ ?_)
  rw [Heap.get?_update_ne _ _ _ _ hb]
  exact e
 have ho6 : (((s.heap.update a (Obj.mapSeq fun _ => (#[] : Array Value))).push (seqObj "tuple" vs.toArray 0)).push (seqObj "list" #[] 0)).get? a = some (seqObj "list" #[] e1) := Heap.get?_push_of_some _ (Heap.get?_push_of_some _ ho1)
 show wpAny (model prog w) A _ P E { s with heap := ((s.heap.update a (Obj.mapSeq fun _ => (#[] : Array Value))).push (seqObj "tuple" vs.toArray 0)).push (seqObj "list" #[] 0) }
 dsimp only
 by_cases h2 : vs.toArray.size < 2
 ·rw [if_pos h2, if_pos h2]
  refine wpAny_bind (wpAny_pure ?_)
  rw [StateT.run_pure]
  refine wpAny_bind (wpAny_pure ?_)
  dsimp only
  have e0 : (arrOf (SortSt.mk' general' (vs.toArray.zip vs.toArray) #[] 7 none)).map (·.2) = ((List.range vs.length).toArray.toList.map fun i => vs.getD i Value.none).toArray := by
   show (vs.toArray.zip vs.toArray).map (·.2) = _
   rw [List.toList_toArray, range_getD]
   apply Array.toList_inj.mp
   simp [List.map_snd_zip]
  rw [e0]
  refine wpAny_bind (seqEpoch_at ho6 rfl ?_)
  refine wpAny_bind (listUpdate_at ho6 rfl ?_ (Nat.zero_le _) (by rw [List.toList_toArray, range_getD, List.size_toArray, sizeLine_eq]; omega))
  simp only [bne_self_eq_false, Bool.false_eq_true, if_false]
  refine wpAny_pure (h (List.range vs.length).toArray (Array.Perm.refl _) fun i j hij hj => ?_)
  have : i = j := by rw [List.size_toArray] at h2; omega
  subst this
  exact (aAf ks).rf _
 ·rw [if_neg h2, if_neg h2]
  have h2' : 2 <= vs.length := by rw [List.size_toArray] at h2; omega
  have ht6 : TupsI (((s.heap.update a (Obj.mapSeq fun _ => (#[] : Array Value))).push (seqObj "tuple" vs.toArray 0)).push (seqObj "list" #[] 0)) vs ks := ⟨ht.1, fun i v k q1 q2 => by
   obtain ⟨z1, z2⟩ := ht.2 i v k q1 q2
   exact ⟨z1.at fun t o ev et => keep t o (fun z => hna v (List.mem_of_getElem? q1) (by rw [ev, z])) et, z2⟩⟩
  obtain ⟨fs, f1, f2, f3⟩ := aNk ht6
  refine wpAny_bind (kat_kind (T := .type "int") f1 (by rw [f2]; omega) (fun v hv => ?_) rfl ?_)
  ·obtain ⟨i, t, rfl⟩ := f3 v hv
   exact .now
  refine wpAny_bind (wpAny_mono (kat_run (κ := tuples' (Value.type "int" != Value.type "tuple")) (ks := vs) (Q := fun st' s' => ∃ p : Array Nat, s' = { s with heap := ((s.heap.update a (Obj.mapSeq fun _ => (#[] : Array Value))).push (seqObj "tuple" vs.toArray 0)).push (seqObj "list" #[] 0) } /\ p.size = vs.length /\ arrOf st' = p.map (kas_item (vs.toArray.zip vs.toArray)) /\ failedOf st' = none /\ Pm vs.length p /\ Sd (fun i j => HT.lexLt (ks.getD i []) (ks.getD j [])) p vs.length)
   (G := fun p s' => s' = { s with heap := ((s.heap.update a (Obj.mapSeq fun _ => (#[] : Array Value))).push (seqObj "tuple" vs.toArray 0)).push (seqObj "list" #[] 0) } /\ Pm vs.length p /\ Sd (fun i j => HT.lexLt (ks.getD i []) (ks.getD j [])) p vs.length)
   rfl h2' h64 (fun p st' s' a1 a2 a3 a4 => ⟨p, a4.1, a1, a2, a3, a4.2⟩) (aFy (n := vs.length) (lt := fun i j => HT.lexLt (ks.getD i []) (ks.getD j [])) (fun i j C hi hj hC => ?_) (by omega) (aAf ks) fun q q1 q2 => ⟨rfl, q1, q2⟩)) ?_ fun _ _ e => e)
  ·unfold kas_ask
   have hi' : vs[i]? = some vs[i] := List.getElem?_eq_getElem hi
   have hj' : vs[j]? = some vs[j] := List.getElem?_eq_getElem hj
   have ki : i < ks.length := by rw [<- ht.1]; exact hi
   have kj : j < ks.length := by rw [<- ht.1]; exact hj
   have di : vs.getD i Value.none = vs[i] := by simp [hi]
   have dj : vs.getD j Value.none = vs[j] := by simp [hj]
   have ei : ks.getD i [] = ks[i] := by simp [ki]
   have ej : ks.getD j [] = ks[j] := by simp [kj]
   rw [di, dj]
   rw [ei, ej] at hC
   exact aC1 _ (ht6.2 i _ _ hi' (List.getElem?_eq_getElem ki)).1 (ht6.2 j _ _ hj' (List.getElem?_eq_getElem kj)).1 hC
  ·rintro ⟨⟨⟩, st'⟩ s' ⟨p, rfl, hp, har, hf, hpm, hsd⟩
   dsimp only
   have hout := kat_snds (ks := vs) (vs := vs) rfl har
   have hsz : (List.toArray (p.toList.map fun i => vs.getD i Value.none)).size = vs.length := by rw [List.size_toArray, List.length_map, Array.length_toList, hp]
   rw [hout]
   refine wpAny_bind (seqEpoch_at ho6 rfl ?_)
   refine wpAny_bind (listUpdate_at ho6 rfl ?_ (Nat.zero_le _) (Nat.le_trans (Nat.le_of_eq hsz) (by rw [sizeLine_eq]; omega)))
   rw [hf]
   simp only [bne_self_eq_false, Bool.false_eq_true, if_false]
   exact wpAny_pure (h p hpm hsd)
theorem tV {h : Heap} {a : Addr} {vs : List Value} {out : Array Value} {b : Addr} {o : Obj} (hb : b ≠ a) (e : h.get? b = some o) : (sortedHeap h a vs out).get? b = some o := by
 unfold sortedHeap
 rw [Heap.get?_update_ne _ _ _ _ hb]
 refine Heap.get?_push_of_some _ (Heap.get?_push_of_some _ ?_)
 rw [Heap.get?_update_ne _ _ _ _ hb]
 exact e
theorem t9 {h : Heap} {a : Addr} {vs : List Value} {n : Nat} {out : Array Value} (e : h.get? a = some (seqObj "list" vs.toArray n)) : ∃ c, (sortedHeap h a vs out).get? a = some (seqObj "list" out c) := by
 obtain ⟨e1, ho1⟩ : ∃ e1, (h.update a (Obj.mapSeq fun _ => (#[] : Array Value))).get? a = some (seqObj "list" #[] e1) := ⟨_, get?_update_seq e (fun _ => #[])⟩
 exact ⟨_, get?_update_seq (Heap.get?_push_of_some _ (Heap.get?_push_of_some _ ho1)) fun _ => out⟩
theorem x4 {r : Addr} {Q : Value -> Shared -> Prop} {Ok : List Value -> Prop} (hcol : ∀ R : List Value -> Shared -> Prop, (∀ h' tk vs, (∀ b o, s.heap.get? b = some o -> h'.get? b = some o) -> Ok vs -> R vs { s with heap := h', toks := tk }) -> wpAny (model prog w) A.in1 (collect (.ref r)) R E s)
  (ks : List (List Int)) (hok : ∀ vs, Ok vs -> TupsI s.heap vs ks /\ vs.length < 64)
  (h : ∀ (h' hf : Heap) (tk c : Nat) (vs : List Value) (q : Array Nat), (∀ b o, s.heap.get? b = some o -> h'.get? b = some o) -> (∀ b o, h'.get? b = some o -> hf.get? b = some o) -> Ok vs -> Pm vs.length q -> Sd (fun i j => HT.lexLt (ks.getD i []) (ks.getD j [])) q vs.length ->
   hf.get? h'.objs.size = some (seqObj "list" (q.toList.map fun i => vs.getD i Value.none).toArray c) -> Q (.ref h'.objs.size) { s with heap := hf, toks := tk }) :
  wpAny (model prog w) A (call (.builtin "sorted") [.ref r]) Q E s := by
 refine Calls.call_function_entry kind_sorted plain_sorted entry_sorted (args_sorted1 _) ?_
 unfold Builtin.«sorted»
 refine wpAny_bind (m := checkCount "sorted" 1 1 _) (wpAny_pure ?_)
 refine wpAny_bind (hcol _ fun h' tk vs keep ov => ?_)
 obtain ⟨ht, h64⟩ := hok vs ov
 refine wpAny_bind (wpAny_newList ?_ (by rw [sizeLine_eq]; omega))
 have hoL : (h'.push (seqObj "list" vs.toArray 0)).get? h'.objs.size = some (seqObj "list" vs.toArray 0) := Heap.get?_push_size _ rfl
 have keep2 : ∀ b o, s.heap.get? b = some o -> (h'.push (seqObj "list" vs.toArray 0)).get? b = some o := fun b o e => Heap.get?_push_of_some _ (keep b o e)
 have lt : ∀ b o, s.heap.get? b = some o -> b ≠ h'.objs.size := fun b o e => Nat.ne_of_lt (Heap.lt_size (keep b o e))
 have tat : ∀ v ∈ vs, ∃ t o, v = .ref t /\ s.heap.get? t = some o := fun v hv => by
  obtain ⟨i, hi, e⟩ := List.mem_iff_getElem.mp hv
  have ki : i < ks.length := by rw [<- ht.1]; exact hi
  obtain ⟨⟨t, o, _, _, e1, e2, _⟩, _⟩ := ht.2 i v ks[i] (by rw [List.getElem?_eq_getElem hi, e]) (List.getElem?_eq_getElem ki)
  exact ⟨t, o, e1, e2⟩
 have ht2 : TupsI (h'.push (seqObj "list" vs.toArray 0)) vs ks := ⟨ht.1, fun i v k q1 q2 => let ⟨z1, z2⟩ := ht.2 i v k q1 q2; ⟨z1.at fun t o _ et => keep2 t o et, z2⟩⟩
 refine wpAny_bind (wpAny_holding (wpAny_call_entry slot_list_sort ⟨_, hoL, rfl⟩ entry_list_sort (pT (s := { s with heap := h'.push (seqObj "list" vs.toArray 0), toks := tk }) hoL ht2 (fun v hv z => ?_) h64 fun q a1 a2 => ⟨_, rfl, ?_⟩) (args_list_sort _)))
 ·obtain ⟨t, o, e1, e2⟩ := tat v hv
  rw [e1] at z
  injection z with z
  exact lt t o e2 z
 ·obtain ⟨c, hc⟩ := t9 (out := (q.toList.map fun i => vs.getD i Value.none).toArray) hoL
  exact wpAny_pure ⟨_, rfl, h h' _ tk c vs q keep (fun b o e => tV (Nat.ne_of_lt (Heap.lt_size e)) (Heap.get?_push_of_some _ e)) ov a1 a2 hc⟩
def aMa (H : Hp) (ts : List V) (ks : List (List Int)) : Prop := ts.length = ks.length /\ ∀ (i : Nat) (t : V) (k : List Int), ts[i]? = some t -> ks[i]? = some k -> (∃ b, t = .ref b /\ H b = some (.tup (k.map V.int))) /\ k ≠ []
end
theorem aBh {P : Program} {w : World} {H : Hp} {h : Heap} {ts : List V} {ks : List (List Int)} {vs : List Value} (ok : HOk P w H h) (r : aMa H ts ks) (v : Vals ts vs) : TupsI h vs ks := by
 have hl := v.length
 refine ⟨by rw [<- hl]; exact r.1, fun i u k e1 e2 => ?_⟩
 have hi : i < ts.length := by
  have := (List.getElem?_eq_some_iff.mp e1).1
  omega
 obtain ⟨⟨b, eb, hb⟩, hk⟩ := r.2 i ts[i] k (List.getElem?_eq_getElem hi) e2
 obtain ⟨u', e3, ru⟩ := v.get (i := i) (x := ts[i]) (List.getElem?_eq_getElem hi)
 rw [e1] at e3
 cases e3
 rw [eb] at ru
 cases (show u = Value.ref b from ru)
 obtain ⟨_, its, rv, o, ho, hc, n, hd⟩ := (show ObjOk P w H h b (.tup (k.map V.int)) from ok b _ hb)
 exact ⟨⟨b, o, _, n, rfl, ho, hc, hd, by rw [List.toList_toArray]; exact intsAre_of rv⟩, hk⟩
def aG4 (ks : List (List Int)) : Nat -> Nat -> Bool := fun i j => HT.lexLt (ks.getD i []) (ks.getD j [])
theorem tH {ts : List V} {vs : List Value} (v : Vals ts vs) : ∀ (l : List Nat), (∀ i ∈ l, i < ts.length) -> Vals (l.map fun i => ts.getD i .non) (l.map fun i => vs.getD i Value.none)
 | [], _ => .nil
 | i :: l, h => by
  have hi := h i (.head _)
  obtain ⟨u, e, r⟩ := v.get (i := i) (x := ts[i]) (List.getElem?_eq_getElem hi)
  have e1 : ts.getD i .non = ts[i] := by simp [hi]
  have e2 : vs.getD i Value.none = u := by simp [e]
  refine .cons ?_ (tH v l fun j hj => h j (.tail _ hj))
  show RelV (ts.getD i .non) (vs.getD i Value.none)
  rw [e1, e2]; exact r
section
variable {X : Cx}
theorem aC9 {pins : List (Addr × Obj)} {σ : L2.St} {H : Hp} {s : Shared} {Q : VK} {ts : List V} {vs : List Value} {h' hf : Heap} {tk c : Nat} {q : Array Nat} (I : Inv X pins σ H s) (v : Vals ts vs) (h64 : vs.length < 64) (k1 : ∀ b o, s.heap.get? b = some o -> h'.get? b = some o) (k2 : ∀ b o, h'.get? b = some o -> hf.get? b = some o) (hp : Pm vs.length q)
  (hc : hf.get? h'.objs.size = some (seqObj "list" (q.toList.map fun i => vs.getD i Value.none).toArray c)) (hq : ∀ D, H D = none -> Q (.ref D) (upd H D (.lst (q.toList.map fun i => ts.getD i .non)))) : EP X pins σ Q (.ref h'.objs.size) { s with heap := hf, toks := tk } := by
 have I1 : Inv X pins σ H { s with heap := h', toks := tk } := I.kept (t' := tk) k1
 have hb : ∀ i ∈ q.toList, i < ts.length := fun i hi => by
  have : i ∈ (List.range vs.length).toArray := hp.mem_iff.mp (Array.mem_toList_iff.mp hi)
  rw [v.length]
  simpa using this
 have hl : q.toList.length = vs.length := by rw [Array.length_toList]; exact hp.size
 refine ⟨.ref h'.objs.size, _, I1.laid (a := h'.objs.size) (o := .lst (q.toList.map fun i => ts.getD i .non)) (t' := tk) k2 (Nat.le_refl _) ⟨?_, _, c, tH v _ hb, hc⟩, rfl, hq _ (I1.hok.fresh (Nat.le_refl _))⟩
 rw [List.length_map, hl, sizeLine_eq]
 omega
def aFe : List V -> Hp -> VK -> Prop := fun xs H Q => ∃ a ts ks, xs = [.ref a] /\ Rd H a (.lst ts) /\ aMa H ts ks /\ ts.length < 64 /\ ∀ D q, H D = none -> Pm ts.length q -> Sd (aG4 ks) q ts.length -> Q (.ref D) (upd H D (.lst (q.toList.map fun i => ts.getD i .non)))
theorem pP (hcm : X.calm = true) : nD X (.builtin "sorted") aFe := by
 intro pins s σ H xs us Q I r h
 obtain ⟨a, ts, ks, rfl, ha, hr, h64, q⟩ := h
 obtain ⟨u, rfl, ru⟩ := vals1 r
 cases (show u = Value.ref a from ru)
 obtain ⟨_, its, n, rv, ho⟩ := ha.ok I.hok
 have hlen := rv.length
 have tup := aBh I.hok hr rv
 refine x4 (Ok := fun vs => vs = its) (fun R hR => ?_) ks (fun vs e => ⟨e ▸ tup, by rw [e]; omega⟩) fun h' hf tk c vs q' k1 k2 e p1 p2 hc => ?_
 ·refine collect_list (⟨_, ho, rfl, n, rfl⟩ : s.heap.IsList a its.toArray) (hR _ _ _ (fun b o e => ?_) rfl) (by rw [sizeLine_eq]; omega)
  rw [Heap.get?_update_ne _ _ _ _ (Nat.ne_of_lt (Heap.lt_size e))]
  exact Heap.get?_push_of_some _ e
 ·subst e
  exact aC9 I rv (by omega) k1 k2 p1 hc fun D hD => q D q' hD (hlen ▸ p1) (hlen ▸ p2)
end
end SRT
namespace M
open PySem PySem.Spec PyProof.Rows L2 SRT
def uO (k : List Int) : D := .tuple (k.map .int)
def uW : List D -> Option (List Int)
 | [] => some []
 | .int i :: ds => match uW ds with
  | some r => some (i :: r)
  | none => none
 | _ => none
def aAu : D -> Option (List Int)
 | .tuple ds => uW ds
 | _ => none
def qX : List D -> Option (List (List Int))
 | [] => some []
 | d :: ds => match aAu d with
  | none => none
  | some k => match qX ds with
   | none => none
   | some ks => some (k :: ks)
theorem wR : ∀ {ds : List D} {k : List Int}, uW ds = some k -> ds = k.map .int
 | [], _, h => by cases h; rfl
 | d :: ds, k, h => by
  cases d with
  | int i =>
   unfold uW at h
   cases e : uW ds with
   | none => rw [e] at h; cases h
   | some r => rw [e] at h; cases h; rw [wR e]; rfl
  | _ => cases h
theorem rM : ∀ k : List Int, uW (k.map .int) = some k
 | [] => rfl
 | i :: k => by
  show (match uW (k.map .int) with | some r => some (i :: r) | none => none) = _
  rw [rM k]
theorem aA0 (k : List Int) : aAu (uO k) = some k := rM k
theorem aDk {d : D} {k : List Int} (h : aAu d = some k) : d = uO k := by
 cases d with
 | tuple ds => unfold uO; rw [<- wR h]
 | _ => cases h
theorem rJ : ∀ {ds : List D} {ks : List (List Int)}, qX ds = some ks -> ds = ks.map uO
 | [], _, h => by cases h; rfl
 | d :: ds, ks, h => by
  unfold qX at h
  cases e : aAu d with
  | none => rw [e] at h; cases h
  | some k =>
   rw [e] at h
   cases e2 : qX ds with
   | none => rw [e2] at h; cases h
   | some ks' => rw [e2] at h; cases h; rw [aDk e, rJ e2]; rfl
theorem nM : ∀ ks : List (List Int), qX (ks.map uO) = some ks
 | [] => rfl
 | k :: ks => by
  show (match aAu (uO k) with | none => none | some k => match qX (ks.map uO) with | none => none | some ks => some (k :: ks)) = _
  rw [aA0, nM ks]
def aF4 (k : List Int) : List (List Int) -> List (List Int)
 | [] => [k]
 | x :: r => if HT.lexLt k x = true then k :: x :: r else x :: aF4 k r
def uQ : List (List Int) -> List (List Int)
 | [] => []
 | k :: ks => aF4 k (uQ ks)
def leK (a b : List Int) : Prop := HT.lexLt b a = false
theorem oK (k : List Int) : ∀ l, (aF4 k l).Perm (k :: l)
 | [] => .refl _
 | x :: r => by
  unfold aF4
  split
  ·exact .refl _
  ·exact ((oK k r).cons x).trans (List.Perm.swap k x r)
theorem gT : ∀ l, (uQ l).Perm l
 | [] => .refl _
 | k :: ks => (oK k _).trans ((gT ks).cons k)
theorem aDp {k y : List Int} {l : List (List Int)} (h : y ∈ aF4 k l) : y = k \/ y ∈ l := by
 have := (oK k l).mem_iff.mp h
 exact List.mem_cons.mp this
theorem oE (k : List Int) : ∀ l, l.Pairwise leK -> (aF4 k l).Pairwise leK
 | [], _ => List.pairwise_singleton _ _
 | x :: r, h => by
  unfold aF4
  obtain ⟨h1, h2⟩ := List.pairwise_cons.mp h
  split
  ·rename_i e
   have e1 := yK _ _ e
   exact List.pairwise_cons.mpr ⟨fun y hy => by
    rcases List.mem_cons.mp hy with rfl | hy
    ·exact e1
    ·exact aCf _ _ _ e1 (h1 y hy), h⟩
  ·rename_i e
   refine List.pairwise_cons.mpr ⟨fun y hy => ?_, oE k r h2⟩
   rcases aDp hy with rfl | hy
   ·exact Bool.eq_false_iff.mpr e
   ·exact h1 y hy
theorem iE : ∀ l, (uQ l).Pairwise leK
 | [] => .nil
 | k :: ks => oE k _ (iE ks)
theorem kZ : ∀ {a b : List (List Int)}, a.Perm b -> a.Pairwise leK -> b.Pairwise leK -> a = b
 | [], b, p, _, _ => (List.Perm.nil_eq p)
 | x :: a, [], p, _, _ => absurd p.length_eq (by simp)
 | x :: a, y :: b, p, ha, hb => by
  obtain ⟨a1, a2⟩ := List.pairwise_cons.mp ha
  obtain ⟨b1, b2⟩ := List.pairwise_cons.mp hb
  have hx : x ∈ y :: b := p.mem_iff.mp (.head _)
  have hy : y ∈ x :: a := p.mem_iff.mpr (.head _)
  have e : x = y := by
   rcases List.mem_cons.mp hx with e | hx
   ·exact e
   ·rcases List.mem_cons.mp hy with e | hy
    ·exact e.symm
    ·exact aEv _ _ (b1 x hx) (a1 y hy)
  subst e
  rw [kZ (List.Perm.cons_inv p) a2 b2]
theorem picked {ks : List (List Int)} {q : Array Nat} {n : Nat} (hn : n = ks.length) (hp : Pm n q) (hs : Sd (aG4 ks) q n) : (q.toList.map fun i => ks.getD i []) = uQ ks := by
 subst hn
 have e0 : ((List.range ks.length).map fun i => ks.getD i []) = ks := by
  refine List.ext_getElem? fun i => ?_
  rw [List.getElem?_map]
  by_cases hi : i < ks.length
  ·rw [List.getElem?_range hi]; simp [hi]
  ·rw [List.getElem?_eq_none (by rw [List.length_range]; omega), List.getElem?_eq_none (by omega)]; rfl
 have p1 : q.toList.Perm (List.range ks.length) := by
  have := hp.toList
  simpa using this
 have p2 : (q.toList.map fun i => ks.getD i []).Perm ks := by
  have := p1.map (fun i => ks.getD i [])
  rwa [e0] at this
 refine kZ (p2.trans (gT ks).symm) ?_ (iE ks)
 rw [List.pairwise_iff_getElem]
 intro i j hi hj hij
 rw [List.length_map] at hi hj
 rw [List.getElem_map, List.getElem_map]
 have sz : q.toList.length = ks.length := by rw [Array.length_toList]; exact hp.size
 have := hs i j (Nat.le_of_lt hij) (by omega)
 unfold SRT.le aG4 Pt at this
 have e1 : q.getD i 0 = q.toList[i] := by
  have : i < q.size := by rw [<- Array.length_toList]; exact hi
  simp [Array.getD, this]
 have e2 : q.getD j 0 = q.toList[j] := by
  have : j < q.size := by rw [<- Array.length_toList]; exact hj
  simp [Array.getD, this]
 rw [e1, e2] at this
 exact this
section
variable {X : Cx} {K : PySem.W.Frag}
theorem aCr {G : Hp} {v : V} {k : List Int} (h : Rep K G v (uO k)) : ∃ b, v = .ref b /\ G b = some (.tup (k.map V.int)) := by
 cases h with
 | @tup b xs _ h1 h2 =>
  refine ⟨b, rfl, ?_⟩
  have : xs = k.map V.int := by
   clear h1
   induction k generalizing xs with
   | nil => cases h2; rfl
   | cons i k ih =>
    cases h2 with
    | cons r t => cases r; rw [ih t]; rfl
  rw [<- this]; exact h1
theorem aAn {G H : Hp} (gh : Same G H) : ∀ {ts : List V} {ks : List (List Int)}, Reps K G ts (ks.map uO) -> (∀ k ∈ ks, k ≠ []) -> aMa H ts ks := by
 intro ts ks r hne
 refine ⟨by rw [r.length, List.length_map], fun i t k e1 e2 => ?_⟩
 obtain ⟨d, e3, rd⟩ := r.get e1
 rw [List.getElem?_map, e2] at e3
 cases e3
 obtain ⟨b, rfl, hb⟩ := aCr rd
 exact ⟨⟨b, rfl, gh _ _ hb⟩, hne k (List.mem_of_getElem? e2)⟩
theorem sC {G : Hp} {ts : List V} {ks : List (List Int)} (h : ∀ (i : Nat), i < ks.length -> Rep K G (ts.getD i .non) (uO (ks.getD i []))) : ∀ l : List Nat, (∀ i ∈ l, i < ks.length) -> Reps K G (l.map fun i => ts.getD i .non) ((l.map fun i => ks.getD i []).map uO)
 | [], _ => .nil
 | i :: l, hl => .cons (h i (hl i (.head _))) (sC h l fun j hj => hl j (.tail _ hj))
theorem aM5 {n : Nat} {q : Array Nat} (hp : Pm n q) : ∀ i ∈ q.toList, i < n := fun i hi => by
 have : i ∈ (List.range n).toArray := hp.mem_iff.mp (Array.mem_toList_iff.mp hi)
 simpa using this
def iK (rs : List Ev) : Res Ev := match rs with
 | [x] => match e8 x with
  | some ds => match qX ds with
   | some ks => if (ks.all fun k => !k.isEmpty) = true /\ ks.length < 64 then .ok (.f (.list ((uQ ks).map uO))) else .bad
   | none => .bad
  | none => .bad
 | _ => .bad
theorem pR : aCo iK := by
 intro rs C h
 unfold iK at h
 split at h
 ·split at h
  ·split at h
   ·split at h <;> cases h
   ·cases h
  ·cases h
 ·cases h
theorem aAb {ks : List (List Int)} (h : (ks.all fun k => !k.isEmpty) = true) : ∀ k ∈ ks, k ≠ [] := fun k hk z => by
 have := List.all_eq_true.mp h k hk
 rw [z] at this
 cases this
theorem sI : pU K aFe iK := by
 intro W Hs G H vs rs Q gh he hw
 unfold iK at hw
 split at hw
 ·rename_i x
  match vs, he with
  | [v], ⟨h1, _⟩ =>
   split at hw
   ·rename_i ds ed
    obtain ⟨a, xs, rfl, k1, k2⟩ := kM gh h1 ed
    split at hw
    ·rename_i ks ek
     split at hw
     ·rename_i hz
      have := rJ ek
      subst this
      have hne := aAb hz.1
      have rI := aAn gh k2 hne
      have hl : xs.length = ks.length := rI.1
      refine ⟨a, xs, ks, rfl, k1, rI, by omega, fun D q hD hp hs => ?_⟩
      have ep := picked hl hp hs
      refine hw _ _ _ (Step.lay gh hD) ⟨D, _, rfl, ?_, gh.free hD, aY, .lst ?_⟩
      ·exact hD
      ·rw [<- ep]
       refine sC (fun i hi => ?_) _ fun i hi => by rw [<- hl]; exact aM5 hp i hi
       have hi' : i < xs.length := by omega
       obtain ⟨d, e3, rd⟩ := k2.get (List.getElem?_eq_getElem hi')
       rw [List.getElem?_map, List.getElem?_eq_getElem hi] at e3
       cases e3
       have e1 : xs.getD i .non = xs[i] := by simp [hi']
       have e2 : ks.getD i [] = ks[i] := by simp [hi]
       rw [e1, e2]; exact rd
     ·exact hw.elim
    ·exact hw.elim
   ·exact hw.elim
 ·exact hw.elim
def wt (G H : Hp) : Hp := fun b => match G b with
 | some o => some o
 | none => match H b with
  | some (.tup xs) => some (.tup xs)
  | _ => none
end
end M
namespace L2
open PySem PySem.Spec PyProof.Rows
def Ite (K : PySem.W.Frag) (a : Addr) : It :=
 ⟨fun i H => ∃ xs x, SqL K H a xs /\ xs[i]? = some x, fun i H v H' => ∃ p x, H p = none /\ v = .ref p /\ (∀ xs, SqL K H a xs -> xs[i]? = some x) /\ H' = upd H p (.tup [.int i, x]), fun i H => ∃ xs, SqL K H a xs /\ xs.length <= i⟩
theorem yQ {P : Program} {w : World} {K : PySem.W.Frag} {elts : List Expr} {x1} {tp : Pos} (a e it : Addr) (hne : e ≠ it) : Turn P w K (.Tuple elts x1 tp) (Ite K a) [e, it] e (fun i h => (∃ old, IsEnum h e it ((i : Nat) : Int) old) /\ h.IsListIter it a i) where
 mem := by simp
 obj := fun i h st b hb => by
  rcases List.mem_cons.mp hb with rfl | hb
  ·obtain ⟨⟨old, q⟩, _⟩ := st
   exact ⟨_, q, fun v z => nomatch z⟩
  ·have : b = it := by simpa using hb
   subst this
   obtain ⟨_, o, q, c, d⟩ := st
   exact ⟨o, q, fun v z => by rw [d] at z; cases z⟩
 keep := fun i h h' st k => ⟨let ⟨old, q⟩ := st.1; ⟨old, k e (by simp) _ q⟩, st.2.at fun o q => k it (by simp) o q⟩
 item := by
  intro X hP hw hK hc i pins s σ H E I hf st hg
  subst hP hw hK
  obtain ⟨⟨old, he⟩, hit⟩ := st
  obtain ⟨xs, x, hq, hx⟩ := hg
  obtain ⟨its, rv, p, hz⟩ := I.list hq
  obtain ⟨u, hu, ru⟩ := rv.get hx
  obtain ⟨f0, f1, f2, f3, f4, f5⟩ := hf e (by simp)
  obtain ⟨g0, g1, g2, g3, g4, g5⟩ := hf it (by simp)
  refine wpAny_pyNext_enum_item he hit p.isList (x := u) (by simpa using hu) hne fun h₁ heo hit₁ ht₁ hz₁ hk₁ => ?_
  refine ⟨_, rfl, wpAny_letOwnedTupleGo_enum heo fun h₂ he₂ hs₂ => ?_⟩
  have hs₂ : Heap.SameBut e h₁ h₂ := hs₂
  have hn : H s.heap.objs.size = none := I.fresh
  have nn : ∀ b o, H b = some o -> b ≠ s.heap.objs.size := fun b o q => b5 q hn
  have eE : e < s.heap.objs.size := Heap.lt_size he
  have keep : ∀ b o, b ∉ [e, it] -> s.heap.get? b = some o -> h₂.get? b = some o := fun b o hb q => by
   have b1 : b ≠ e := fun z => hb (by simp [z])
   have b2 : b ≠ it := fun z => hb (by simp [z])
   exact (hs₂.2 b b1).trans (hk₁ b o b1 b2 q)
  have trk : ∀ b o, H b = some o -> b ∉ [e, it] := fun b o q hb => by
   rcases List.mem_cons.mp hb with z | hb
   ·rw [z, f0] at q; cases q
   ·rw [List.mem_singleton.mp hb, g0] at q; cases q
  refine ⟨.ref s.heap.objs.size, upd H s.heap.objs.size (.tup [.int i, x]), ?_, rfl, ⟨_, x, hn, rfl, fun ys hy => by rw [I.list_inj hy hq]; exact hx, rfl⟩, ⟨⟨u, ?_⟩, ?_⟩, fun b hb => ?_⟩
  ·refine Inv.step (X := X) (pins := pins) (σ := σ) (H := H) (s := s) (H' := upd H s.heap.objs.size (.tup [.int i, x])) (h' := h₂) (g' := s.gens) (d' := s.drawn) (t' := s.toks + 1) (ch := [e, it]) I (fun b hb => ?_) (fun b o _ _ hb q _ => keep b o hb q) (fun b o _ _ hb q _ => ⟨o.slots, keep b o hb q⟩) (fun b o _ q n => ?_) (fun b o hb q => ⟨o, keep b o hb q⟩)
    (fun b ys q => ?_) (fun b o v q => ?_) (fun b ps q => ⟨#[], ?_⟩) (fun m hm => ?_) (fun b v q => ?_) I.bare
   ·rcases List.mem_cons.mp hb with z | hb
    ·subst z; exact ⟨f3, f1, f4, f5⟩
    ·have z := List.mem_singleton.mp hb
     subst z; exact ⟨g3, g1, g4, g5⟩
   ·rw [aU (Nat.ne_of_lt (Heap.lt_size q))]; exact n
   ·rw [aU (nn b _ q)]; exact q
   ·rw [aU (nn b _ q)]; exact q
   ·rw [aU (nn b _ q), q]; simp
   ·obtain ⟨o, es, ep, ho, r⟩ := hm
    exact ⟨o, es, ep, keep _ o (fun z => by
     rcases List.mem_cons.mp z with y | y
     ·exact f1 y.symm
     ·exact g1 (List.mem_singleton.mp y).symm) ho, r⟩
   ·by_cases hb : b = s.heap.objs.size
    ·subst hb
     rw [aY] at q
     cases q
     refine ⟨by show 2 <= sizeLine; decide, [.int i s.toks, u], .cons ⟨_, rfl⟩ (.cons ru .nil), _, (hs₂.2 _ (Nat.ne_of_gt eE)).trans ht₁, rfl, _, rfl⟩
    ·rw [aU hb] at q
     refine (I.hok b v q).stay (fun c w' hc q' => keep c w' ?_ q') (fun c q' => ?_) fun c ys q' => ?_
     ·rcases hc with z | z
      ·rw [z]; exact trk b v q
      ·exact trk c _ z
     ·rw [aU (nn c _ q')]; exact q'
     ·rw [aU (nn c _ q')]; exact q'
  ·have : (((i + 1 : Nat)) : Int) = (i : Int) + 1 := by push_cast; rfl
   rw [this]; exact he₂
  ·exact hit₁.at fun o q => (hs₂.2 it (Ne.symm hne)).trans q
  ·have hb' := (hf b hb).1
   have : b ≠ s.heap.objs.size := by
    rcases List.mem_cons.mp hb with z | z
    ·rw [z]; exact Nat.ne_of_lt eE
    ·rw [List.mem_singleton.mp z]
     obtain ⟨o, q, _⟩ := id hit
     exact Nat.ne_of_lt (Heap.lt_size q)
   rw [aU this]; exact hb'
 done := by
  intro X hP hw hK hc i pins s σ H E I hf st hg
  subst hP hw hK
  obtain ⟨⟨old, he⟩, hit⟩ := st
  obtain ⟨xs, hq, hx⟩ := hg
  obtain ⟨its, rv, p, hz⟩ := I.list hq
  obtain ⟨g0, g1, g2, g3, g4, g5⟩ := hf it (by simp)
  have hl := rv.length
  exact wpAny_pyNext_enum_end (I.ok.hd hc) he hit p.isList (by simp; omega) fun h' eb => ⟨rfl, I.turned (t' := s.toks) (fun b o hb q => eb b o hb q) g0 g1 g3 g4 g5⟩
 self := fun _ _ _ _ _ st h => let ⟨_, q⟩ := st.1; wpAny_pyIter_enum q h
section
variable {X : Cx}
def aMq (K : PySem.W.Frag) (ta : TA) : TI := fun σ H R => ta σ H fun vs H1 => ∃ a xs, vs = [.ref a] /\ Rd H1 a (.lst xs) /\ R (Ite K a) H1
theorem aAs : bootBuiltins "enumerate" = some (.type "enumerate") := by decide +kernel
theorem aG3 {a : Expr} {ta : TA} {p pos tp : Pos} {elts : List Expr} {x1} (hg : Gl X "enumerate") (hm : X.mg "enumerate" = none) (ha : PA X [a] ta) (hs : starEach [a] X.env = [(false, eval a X.env)] := by rfl) : PI X (.Tuple elts x1 tp) (.Call (.Name "enumerate" p) [a] [] pos) (aMq X.K ta) := by
 intro pins s σ H R I h
 refine Call_ (l9 I hg hm aAs (PyProof.Rows.callWith_type1 (thn (ha pos pins s σ H _ I h) fun us s1 ⟨vs, H1, I1, r1, q1⟩ => ?_) hs rfl))
 obtain ⟨a, xs, rfl, hr, q⟩ := q1
 obtain ⟨u, rfl, ru⟩ := vals1 r1
 cases (show u = Value.ref a from ru)
 obtain ⟨_, its, n, rv, ho⟩ := hr.ok I1.hok
 refine call_enumerate_1 ho fun h' he hit hz hk => ?_
 refine wpAny_pyIter_enum (s := { s1 with heap := h' }) he ?_
 refine ⟨s1.heap.objs.size + 1, [s1.heap.objs.size + 1, s1.heap.objs.size], _, _, H1, rfl, I1.kept (t' := s1.toks) hk, yQ a _ _ (Nat.ne_of_gt (Nat.lt_succ_self _)), ⟨⟨_, he⟩, hit⟩, fun b hb => ?_, q⟩
 have hle : s1.heap.objs.size <= b := by
  rcases List.mem_cons.mp hb with z | z
  ·rw [z]; exact Nat.le_succ _
  ·rw [List.mem_singleton.mp z]; exact Nat.le_refl _
 exact I1.fpOk hle (I1.hok.fresh hle)
end
end L2
namespace M
open PySem PySem.Spec PyProof.Rows L2
def kY (k : Nat) : List D -> List D
 | [] => []
 | d :: ds => .tuple [.int (k : Int), d] :: kY (k + 1) ds
theorem lD : ∀ (ds : List D) (k : Nat), (kY k ds).length = ds.length
 | [], _ => rfl
 | _ :: ds, k => by unfold kY; rw [List.length_cons, List.length_cons, lD ds]
theorem rK : ∀ (ds : List D) (k i : Nat), (kY k ds)[i]? = (ds[i]?).map fun d => .tuple [.int ((k + i : Nat) : Int), d]
 | [], _, _ => by simp [kY]
 | d :: ds, k, 0 => by simp [kY]
 | d :: ds, k, i + 1 => by
  unfold kY
  rw [List.getElem?_cons_succ, List.getElem?_cons_succ, rK ds (k + 1) i]
  have : k + 1 + i = k + (i + 1) := by omega
  rw [this]
def aDi (rs : List Ev) : Res (List D) := match rs with
 | [.p (.list ds)] => .ok (kY 0 ds)
 | _ => .bad
theorem aBw {X : Cx} {E : L2.St -> XK} {a : Expr} {fr : En -> Res (List Ev)} {p pos tp : Pos} {elts : List Expr} {x1} (hg : Gl X "enumerate") (hm : X.mg "enumerate" = none) (ha : DA X E [a] fr) (hs : starEach [a] X.env = [(false, eval a X.env)] := by rfl) :
  DI X E (.Tuple elts x1 tp) (.Call (.Name "enumerate" p) [a] [] pos) (k7 aDi fr) := by
 obtain ⟨t, q, m⟩ := ha.out
 refine DI.in ⟨_, aG3 hg hm q hs, fun B G0 G W H σ en R hh hs hw => m B G0 G W H σ en _ hh hs ?_⟩
 have hw : wpR ((fr en).bind _) _ _ := hw
 rw [bO] at hw
 refine a5 hw (fun rs hr G1 H1 vs s e => ?_) fun C h => h
 unfold aDi at hr
 split at hr
 ·rename_i ds
  match vs, e with
  | [v], ⟨e1, _⟩ =>
   cases e1 with
   | @lst a xs _ h1 h2 =>
    refine ⟨a, xs, rfl, dZ s.gh h1, hr G1 H1 _ s fun G3 H3 k1 k2 => ⟨fun i d ed => ?_, ?_⟩⟩
    ·rw [rK, Option.map_eq_some_iff] at ed
     obtain ⟨d', ed, rfl⟩ := ed
     obtain ⟨x, ex, rx⟩ := h2.get' ed
     have sq : SqL X.K H3 a xs := .inl (dZ (k1.trans k2) h1)
     refine ⟨⟨xs, x, sq, ex⟩, fun v H' hy => ?_⟩
     obtain ⟨p, x', hp, rfl, hy, rfl⟩ := hy
     have := hy xs sq
     rw [ex] at this
     cases this
     have st := Step.put (o := .tup [.int i, x]) k2 hp
     refine ⟨_, st, .tup aY (.cons ?_ (.cons (rx.mono (k1.trans st.g)) .nil))⟩
     have : ((0 + i : Nat) : Int) = (i : Int) := by simp
     rw [this]
     exact .int _
    ·refine ⟨xs, .inl (dZ (k1.trans k2) h1), ?_⟩
     rw [lD, h2.length]
     exact Nat.le_refl _
 ·exact hr.elim
section
variable {X : Cx} {E : L2.St -> XK}
theorem Reps.rev {K : PySem.W.Frag} {G : Hp} : ∀ {xs : List V} {ds : List D}, Reps K G xs ds -> Reps K G xs.reverse ds.reverse
 | _, _, .nil => .nil
 | _, _, .cons h r => by
  rw [List.reverse_cons, List.reverse_cons]
  exact (Reps.rev r).append (.cons h .nil)
def cutD (ds : List D) (lo hi : Option Int) : List D := (ds.drop (HT.sIx ds.length 0 lo)).take (HT.sIx ds.length ds.length hi - HT.sIx ds.length 0 lo)
theorem Reps.cut {K : PySem.W.Frag} {G : Hp} {xs : List V} {ds : List D} (r : Reps K G xs ds) (lo hi : Option Int) : Reps K G (aH3 xs lo hi) (cutD ds lo hi) := by
 unfold aH3 cutD
 rw [r.length]
 exact (r.drop _).take _
def mPt (fe : En -> Res Ev) : En -> Res (Option Int) := fun en => (fe en).bind fun x => match x.c with
 | .p (.int i) => .ok (some i)
 | _ => .bad
def tP (K : PySem.W.Frag) (E : L2.St -> XK) (f : En -> Res (Option Int)) : TO := fun σ H R => ∃ B G0 G W en, SimH B G0 G W H /\ SimS K W G H σ en /\ wpR (f en) (fun k => ∀ G' H', Step G H G' H' -> R k H') (PostX (E σ) G H)
def DP (X : Cx) (E : L2.St -> XK) (o : Option Expr) (f : En -> Res (Option Int)) : Prop := PO X o (tP X.K E f)
theorem zC {e : Expr} {fe : En -> Res Ev} (he : DE X E e fe) : DP X E (some e) (mPt fe) := fun pins s σ H R I ⟨B, G0, G, W, en, hh, hs, hw⟩ => by
 obtain ⟨t, p, m⟩ := he.out
 refine aG1 p pins s σ H R I (m B G0 G W H σ en _ hh hs ?_)
 unfold mPt at hw
 rw [bO] at hw
 refine a5 hw (fun x hx G1 H1 v s1 e1 => ?_) fun C h => h
 obtain ⟨G2, s2, e2⟩ := e1.c s1
 cases ex : x.c with
 | p d =>
  rw [ex] at hx e2
  cases d with
  | int i => cases e2; exact ⟨i, rfl, hx G2 H1 s2⟩
  | _ => exact hx.elim
 | f d => rw [ex] at hx; exact hx.elim
 | b d => rw [ex] at hx; exact hx.elim
 | x C => rw [ex] at hx; exact hx.elim
def mSl (fe : En -> Res Ev) (fl fh : En -> Res (Option Int)) : En -> Res Ev := fun en => (fe en).bind fun x => (fl en).bind fun l => (fh en).bind fun u => match e8 x.c with
 | some ds => .ok (.f (.list (cutD ds l u)))
 | none => .bad
theorem aLy {e : Expr} {lo hi : Option Expr} {fe : En -> Res Ev} {fl fh : En -> Res (Option Int)} {p2 pos : Pos} (he : DE X E e fe) (hl : DP X E lo fl) (hu : DP X E hi fh) : DE X E (.Subscript e (.Slice lo hi none p2) pos) (mSl fe fl fh) := by
 obtain ⟨t, p, m⟩ := he.out
 refine DE.in ⟨_, aCs aGp p hl hu, fun B G0 G W H σ en Q hh hs hw => ?_⟩
 unfold mSl at hw
 refine m B G0 G W H σ en _ hh hs (DE.go hw fun x G1 H1 v s1 e1 h1 => ?_)
 refine ⟨B, G0, G1, W, en, hh.step s1, hs.step s1, ?_⟩
 rw [bO] at h1
 refine a5 h1 (fun l hx G2 H2 s2 => ?_) fun C h => h
 refine ⟨B, G0, G2, W, en, (hh.step s1).step s2, (hs.step s1).step s2, ?_⟩
 have hx' := a5 hx (fun r h => h.step s2) (fun C h => h.step s2)
 rw [bO] at hx'
 refine a5 hx' (fun u hy G3 H3 s3 => ?_) fun C h => h
 cases ex : e8 x.c with
 | none => rw [ex] at hy; exact hy.elim
 | some ds =>
  rw [ex] at hy
  obtain ⟨a, xs, rfl, rd, rp⟩ := kM (Hs := H) s3.gh (e1.step (s2.trans s3)) ex
  exact ⟨a, xs, rfl, .inl rd, fun p hp => hy _ _ _ (s3.trans (Step.lay s3.gh hp)) ⟨p, _, rfl, s3.h.free hp, s3.gh.free hp, aY, .lst (rp.cut l u)⟩⟩
end
end M
namespace L2
open PySem PySem.Spec PyProof.Rows
def Itz (K : PySem.W.Frag) (a b : Addr) : It :=
 ⟨fun i H => ∃ xs ys x y, SqL K H a xs /\ xs[i]? = some x /\ SqL K H b ys /\ ys[i]? = some y,
   fun i H v H' => ∃ p x y, H p = none /\ v = .ref p /\ (∀ xs, SqL K H a xs -> xs[i]? = some x) /\ (∀ ys, SqL K H b ys -> ys[i]? = some y) /\ H' = upd H p (.tup [x, y]),
   fun i H => ∃ xs ys, SqL K H a xs /\ SqL K H b ys /\ (xs.length <= i \/ ys.length <= i)⟩
theorem aCq {P : Program} {w : World} {K : PySem.W.Frag} {elts : List Expr} {x1} {tp : Pos} {l1 l2 z TI TO i1 i2 : Addr} (D : ZipApart z TI TO i1 i2 l1 l2) : Turn P w K (.Tuple elts x1 tp) (Itz K l1 l2) [z, TI, TO, i1, i2] z
  (fun i h => IsZip h z TI TO Value.none /\ IsPair h TI (.ref i1) (.ref i2) /\ (∃ a b, IsPair h TO a b) /\ h.IsListIter i1 l1 i /\ h.IsListIter i2 l2 i) where
 mem := by simp
 obj := fun i h st b hb => by
  obtain ⟨s1, s2, ⟨_, _, s3⟩, ⟨o4, q4, _, d4⟩, ⟨o5, q5, _, d5⟩⟩ := st
  simp only [List.mem_cons, List.not_mem_nil, or_false] at hb
  rcases hb with rfl | rfl | rfl | rfl | rfl
  ·exact ⟨_, s1, fun v z => nomatch z⟩
  ·exact ⟨_, s2, fun v z => nomatch z⟩
  ·exact ⟨_, s3, fun v z => nomatch z⟩
  ·exact ⟨o4, q4, fun v z => by rw [d4] at z; cases z⟩
  ·exact ⟨o5, q5, fun v z => by rw [d5] at z; cases z⟩
 keep := fun i h h' st k => by
  obtain ⟨s1, s2, ⟨a, b, s3⟩, s4, s5⟩ := st
  exact ⟨k _ (by simp) _ s1, k _ (by simp) _ s2, ⟨a, b, k _ (by simp) _ s3⟩, s4.at fun o q => k _ (by simp) o q, s5.at fun o q => k _ (by simp) o q⟩
 item := by
  intro X hP hw hK hc i pins s σ H E I hf st hg
  subst hP hw hK
  obtain ⟨s1, s2, ⟨a0, b0, s3⟩, s4, s5⟩ := st
  obtain ⟨xs, ys, x, y, hq, hx, hq2, hy⟩ := hg
  obtain ⟨its, rv, p, hz⟩ := I.list hq
  obtain ⟨its2, rv2, p2, hz2⟩ := I.list hq2
  obtain ⟨u, hu, ru⟩ := rv.get hx
  obtain ⟨u2, hu2, ru2⟩ := rv2.get hy
  have hfz := hf z (by simp)
  have hfT := hf TO (by simp)
  have hf1 := hf i1 (by simp)
  have hf2 := hf i2 (by simp)
  refine wpAny_pyNext_zip_item D s1 s2 s3 s4 s5 p.isList p2.isList (x := u) (y := u2) (by simpa using hu) (by simpa using hu2) fun h₁ z1 to1 it1 it2 tt1 hz₁ hk₁ => ?_
  refine ⟨_, rfl, wpAny_letOwnedTupleGo_zip z1 fun h₂ z2 hs₂ => ?_⟩
  have hs₂ : Heap.SameBut z h₁ h₂ := hs₂
  have hn : H s.heap.objs.size = none := I.fresh
  have nn : ∀ b o, H b = some o -> b ≠ s.heap.objs.size := fun b o q => b5 q hn
  have eE : z < s.heap.objs.size := Heap.lt_size s1
  have keep : ∀ b o, b ∉ [z, TO, i1, i2] -> s.heap.get? b = some o -> h₂.get? b = some o := fun b o hb q => by
   simp only [List.mem_cons, List.not_mem_nil, or_false, not_or] at hb
   exact (hs₂.2 b hb.1).trans (hk₁ b o hb.1 hb.2.1 hb.2.2.1 hb.2.2.2 q)
  have trk : ∀ b o, H b = some o -> b ∉ [z, TO, i1, i2] := fun b o q hb => by
   have hm : b ∈ [z, TI, TO, i1, i2] := by
    simp only [List.mem_cons, List.not_mem_nil, or_false] at hb ⊢
    rcases hb with h | h | h | h <;> simp [h]
   rw [(hf b hm).1] at q; cases q
  refine ⟨.ref s.heap.objs.size, upd H s.heap.objs.size (.tup [x, y]), ?_, rfl, ⟨_, x, y, hn, rfl, fun zs hz' => by rw [I.list_inj hz' hq]; exact hx, fun zs hz' => by rw [I.list_inj hz' hq2]; exact hy, rfl⟩, ⟨z2, keep _ _ ?_ s2, ⟨_, _, (hs₂.2 _ D.TOz).trans to1⟩, it1.at fun o q => (hs₂.2 _ D.i1z).trans q, it2.at fun o q => (hs₂.2 _ D.i2z).trans q⟩, fun b hb => ?_⟩
  ·refine Inv.step (X := X) (pins := pins) (σ := σ) (H := H) (s := s) (H' := upd H s.heap.objs.size (.tup [x, y])) (h' := h₂) (g' := s.gens) (d' := s.drawn) (t' := s.toks) (ch := [z, TO, i1, i2]) I (fun b hb => ?_) (fun b o _ _ hb q _ => keep b o hb q) (fun b o _ _ hb q _ => ⟨o.slots, keep b o hb q⟩) (fun b o _ q n => ?_) (fun b o hb q => ⟨o, keep b o hb q⟩)
    (fun b ys q => ?_) (fun b o v q => ?_) (fun b ps q => ⟨#[], ?_⟩) (fun m hm => ?_) (fun b v q => ?_) I.bare
   ·have hm : b ∈ [z, TI, TO, i1, i2] := by
     simp only [List.mem_cons, List.not_mem_nil, or_false] at hb ⊢
     rcases hb with h | h | h | h <;> simp [h]
    obtain ⟨f0, f1, f2, f3, f4, f5⟩ := hf b hm
    exact ⟨f3, f1, f4, f5⟩
   ·rw [aU (Nat.ne_of_lt (Heap.lt_size q))]; exact n
   ·rw [aU (nn b _ q)]; exact q
   ·rw [aU (nn b _ q)]; exact q
   ·rw [aU (nn b _ q), q]; simp
   ·obtain ⟨o, es, ep, ho, r⟩ := hm
    refine ⟨o, es, ep, keep _ o (fun zz => ?_) ho, r⟩
    simp only [List.mem_cons, List.not_mem_nil, or_false] at zz
    rcases zz with h | h | h | h
    ·exact hfz.2.1 h.symm
    ·exact hfT.2.1 h.symm
    ·exact hf1.2.1 h.symm
    ·exact hf2.2.1 h.symm
   ·by_cases hb : b = s.heap.objs.size
    ·subst hb
     rw [aY] at q
     cases q
     refine ⟨by show 2 <= sizeLine; decide, [u, u2], .cons ru (.cons ru2 .nil), _, (hs₂.2 _ (Nat.ne_of_gt eE)).trans tt1, rfl, _, rfl⟩
    ·rw [aU hb] at q
     refine (I.hok b v q).stay (fun c w' hc q' => keep c w' ?_ q') (fun c q' => ?_) fun c ys q' => ?_
     ·rcases hc with zz | zz
      ·rw [zz]; exact trk b v q
      ·exact trk c _ zz
     ·rw [aU (nn c _ q')]; exact q'
     ·rw [aU (nn c _ q')]; exact q'
  ·simp only [List.mem_cons, List.not_mem_nil, or_false, not_or]
   exact ⟨D.TIz, D.TITO, D.TIi1, D.TIi2⟩
  ·have hb' := (hf b hb).1
   have : b ≠ s.heap.objs.size := by
    simp only [List.mem_cons, List.not_mem_nil, or_false] at hb
    obtain ⟨o4, q4, _⟩ := id s4
    obtain ⟨o5, q5, _⟩ := id s5
    rcases hb with h | h | h | h | h <;> rw [h]
    ·exact Nat.ne_of_lt eE
    ·exact Nat.ne_of_lt (Heap.lt_size s2)
    ·exact Nat.ne_of_lt (Heap.lt_size s3)
    ·exact Nat.ne_of_lt (Heap.lt_size q4)
    ·exact Nat.ne_of_lt (Heap.lt_size q5)
   rw [aU this]; exact hb'
 done := by
  intro X hP hw hK hc i pins s σ H E I hf st hg
  subst hP hw hK
  obtain ⟨s1, s2, ⟨a0, b0, s3⟩, s4, s5⟩ := st
  obtain ⟨xs, ys, hq, hq2, hx⟩ := hg
  obtain ⟨its, rv, p, hz⟩ := I.list hq
  obtain ⟨its2, rv2, p2, hz2⟩ := I.list hq2
  have hl := rv.length
  have hl2 := rv2.length
  refine wpAny_pyNext_zip_end (I.ok.hd hc) D s1 s2 s3 s4 s5 p.isList p2.isList (hx.imp (fun h => by simp; omega) fun h => by simp; omega) fun h' hk => ⟨rfl, ?_⟩
  have keep : ∀ b o, b ∉ [z, TO, i1, i2] -> s.heap.get? b = some o -> h'.get? b = some o := fun b o hb q => by
   simp only [List.mem_cons, List.not_mem_nil, or_false, not_or] at hb
   exact hk b o hb.1 hb.2.1 hb.2.2.1 hb.2.2.2 q
  have hin : ∀ b, b ∈ [z, TO, i1, i2] -> b ∈ [z, TI, TO, i1, i2] := fun b hb => by
   simp only [List.mem_cons, List.not_mem_nil, or_false] at hb ⊢
   rcases hb with h | h | h | h <;> simp [h]
  have trk : ∀ b o, H b = some o -> b ∉ [z, TO, i1, i2] := fun b o q hb => by rw [(hf b (hin b hb)).1] at q; cases q
  refine Inv.step (X := X) (pins := pins) (σ := σ) (H := H) (s := s) (H' := H) (h' := h') (g' := s.gens) (d' := s.drawn) (t' := s.toks) (ch := [z, TO, i1, i2]) I (fun b hb => ?_) (fun b o _ _ hb q _ => keep b o hb q) (fun b o _ _ hb q _ => ⟨o.slots, keep b o hb q⟩) (fun b o _ q n => n) (fun b o hb q => ⟨o, keep b o hb q⟩)
   (fun _ _ q => q) (fun _ _ _ q => q) (fun b ps q => ⟨#[], by rw [q]; simp⟩) (fun m hm => ?_) (fun b v q => ?_) I.bare
  ·obtain ⟨f0, f1, f2, f3, f4, f5⟩ := hf b (hin b hb)
   exact ⟨f3, f1, f4, f5⟩
  ·obtain ⟨o, es, ep, ho, r⟩ := hm
   exact ⟨o, es, ep, keep _ o (fun zz => (hf _ (hin _ zz)).2.1 rfl) ho, r⟩
  ·refine (I.hok b v q).stay (fun c w' hc q' => keep c w' ?_ q') (fun _ q' => q') fun _ _ q' => q'
   rcases hc with zz | zz
   ·rw [zz]; exact trk b v q
   ·exact trk c _ zz
 self := fun _ _ _ _ _ st h => wpAny_pyIter_zip st.1 h
section
variable {X : Cx}
def aNs (K : PySem.W.Frag) (ta : TA) : TI := fun σ H R => ta σ H fun vs H1 => ∃ a b xs ys, vs = [.ref a, .ref b] /\ Rd H1 a (.lst xs) /\ Rd H1 b (.lst ys) /\ R (Itz K a b) H1
theorem aGb : bootBuiltins "zip" = some (.type "zip") := by decide +kernel
theorem aK5 {a b : Expr} {ta : TA} {p pos tp : Pos} {elts : List Expr} {x1} (hg : Gl X "zip") (hm : X.mg "zip" = none) (ha : PA X [a, b] ta) (hs : starEach [a, b] X.env = [(false, eval a X.env), (false, eval b X.env)] := by rfl) (hs2 : starEach [b] X.env = [(false, eval b X.env)] := by rfl) : PI X (.Tuple elts x1 tp) (.Call (.Name "zip" p) [a, b] [] pos) (aNs X.K ta) := by
 intro pins s σ H R I h
 refine Call_ (l9 I hg hm aGb (PyProof.Rows.callWith_type1 (thn (ha pos pins s σ H _ I h) fun us s1 ⟨vs, H1, I1, r1, q1⟩ => ?_) (by rw [hs, hs2]) (by rw [hs2]; rfl)))
 obtain ⟨a, b, xs, ys, rfl, hr, hr2, q⟩ := q1
 obtain ⟨u, u2, rfl, ru, ru2⟩ := vals2 r1
 cases (show u = Value.ref a from ru)
 cases (show u2 = Value.ref b from ru2)
 obtain ⟨_, its, n, rv, ho⟩ := hr.ok I1.hok
 obtain ⟨_, its2, n2, rv2, ho2⟩ := hr2.ok I1.hok
 refine call_zip_2 ⟨_, ho, rfl, _, rfl⟩ ⟨_, ho2, rfl, _, rfl⟩ fun h' he hp1 hp2 hit hit2 hz hk => ?_
 refine wpAny_pyIter_zip (s := { s1 with heap := h' }) he ?_
 refine ⟨s1.heap.objs.size + 4, [s1.heap.objs.size + 4, s1.heap.objs.size + 2, s1.heap.objs.size + 3, s1.heap.objs.size, s1.heap.objs.size + 1], _, _, H1, rfl, I1.kept (t' := s1.toks) hk, aCq (zipApart_new (Heap.lt_size ho) (Heap.lt_size ho2)), ⟨he, hp1, ⟨_, _, hp2⟩, hit, hit2⟩, fun b hb => ?_, q⟩
 have hle : s1.heap.objs.size <= b := by
  simp only [List.mem_cons, List.not_mem_nil, or_false] at hb
  rcases hb with h | h | h | h | h <;> rw [h]
  ·exact Nat.le_add_right _ _
  ·exact Nat.le_add_right _ _
  ·exact Nat.le_add_right _ _
  ·exact Nat.le_refl _
  ·exact Nat.le_add_right _ _
 exact I1.fpOk hle (I1.hok.fresh hle)
end
end L2
namespace M
open PySem PySem.Spec PyProof.Rows L2
def uJ : List D -> List D -> List D
 | x :: xs, y :: ys => .tuple [x, y] :: uJ xs ys
 | _, _ => []
theorem xJ : ∀ (xs ys : List D) (i : Nat), (uJ xs ys)[i]? = match xs[i]?, ys[i]? with
  | some x, some y => some (.tuple [x, y])
  | _, _ => none
 | [], _, i => by simp [uJ]
 | _ :: _, [], i => by cases i <;> simp [uJ]
 | x :: xs, y :: ys, 0 => by simp [uJ]
 | x :: xs, y :: ys, i + 1 => by
  unfold uJ
  rw [List.getElem?_cons_succ, List.getElem?_cons_succ, List.getElem?_cons_succ, xJ xs ys i]
theorem vV : ∀ (xs ys : List D), xs.length <= (uJ xs ys).length \/ ys.length <= (uJ xs ys).length
 | [], _ => .inl (Nat.zero_le _)
 | _ :: _, [] => .inr (Nat.zero_le _)
 | x :: xs, y :: ys => by
  unfold uJ
  rcases vV xs ys with h | h
  ·exact .inl (Nat.succ_le_succ h)
  ·exact .inr (Nat.succ_le_succ h)
def aEa (rs : List Ev) : Res (List D) := match rs with
 | [.p (.list xs), .p (.list ys)] => .ok (uJ xs ys)
 | _ => .bad
theorem aAe {X : Cx} {E : L2.St -> XK} {a b : Expr} {fr : En -> Res (List Ev)} {p pos tp : Pos} {elts : List Expr} {x1} (hg : Gl X "zip") (hm : X.mg "zip" = none) (ha : DA X E [a, b] fr) (hs : starEach [a, b] X.env = [(false, eval a X.env), (false, eval b X.env)] := by rfl) (hs2 : starEach [b] X.env = [(false, eval b X.env)] := by rfl) :
  DI X E (.Tuple elts x1 tp) (.Call (.Name "zip" p) [a, b] [] pos) (k7 aEa fr) := by
 obtain ⟨t, q, m⟩ := ha.out
 refine DI.in ⟨_, aK5 hg hm q hs hs2, fun B G0 G W H σ en R hh hs hw => m B G0 G W H σ en _ hh hs ?_⟩
 have hw : wpR ((fr en).bind _) _ _ := hw
 rw [bO] at hw
 refine a5 hw (fun rs hr G1 H1 vs s e => ?_) fun C h => h
 unfold aEa at hr
 split at hr
 ·rename_i ds es
  match vs, e with
  | [v, v2], ⟨e1, e2, _⟩ =>
   cases e1 with
   | @lst a xs _ h1 h2 =>
    cases e2 with
    | @lst b ys _ g1 g2 =>
     refine ⟨a, b, xs, ys, rfl, dZ s.gh h1, dZ s.gh g1, hr G1 H1 _ s fun G3 H3 k1 k2 => ⟨fun i d ed => ?_, ?_⟩⟩
     ·rw [xJ] at ed
      cases ex0 : ds[i]? with
      | none => rw [ex0] at ed; cases ed
      | some d1 =>
       cases ey0 : es[i]? with
       | none => rw [ex0, ey0] at ed; cases ed
       | some d2 =>
        rw [ex0, ey0] at ed
        cases ed
        obtain ⟨x, ex, rx⟩ := h2.get' ex0
        obtain ⟨y, ey, ry⟩ := g2.get' ey0
        have sq : SqL X.K H3 a xs := .inl (dZ (k1.trans k2) h1)
        have sq2 : SqL X.K H3 b ys := .inl (dZ (k1.trans k2) g1)
        refine ⟨⟨xs, ys, x, y, sq, ex, sq2, ey⟩, fun v H' hy => ?_⟩
        obtain ⟨p, x', y', hp, rfl, hx', hy', rfl⟩ := hy
        have e1 := hx' xs sq
        have e2 := hy' ys sq2
        rw [ex] at e1
        rw [ey] at e2
        cases e1
        cases e2
        have st := Step.put (o := .tup [x, y]) k2 hp
        exact ⟨_, st, .tup aY (.cons (rx.mono (k1.trans st.g)) (.cons (ry.mono (k1.trans st.g)) .nil))⟩
     ·refine ⟨xs, ys, .inl (dZ (k1.trans k2) h1), .inl (dZ (k1.trans k2) g1), ?_⟩
      rw [h2.length, g2.length]
      exact vV ds es
 ·exact hr.elim
section
variable {X : Cx} {E : L2.St -> XK} {e : Expr}
def oH (i : Nat) (fe : En -> Res Ev) : MS := fun en => match en[i]? with
 | some (some (.o (.list ds))) => match fe en with
  | .ok (.f (.list es)) => if ds.length + es.length <= 100000 then some (.nx (en.set i (some (.o (.list (ds ++ es)))))) else none
  | .exc C => some (.ex C en)
  | _ => none
 | _ => none
theorem aAq {i : Nat} {fe : En -> Res Ev} {st : Stmt} (he : DE X E e fe) (hp : ∀ t, PE X e t -> PS X st (vG (tBM X.K "list" yH (aFg i) (aBa t aI5)))) : DS X E st (oH i fe) := by
 obtain ⟨t, q, mm⟩ := he.out
 refine DS.in ⟨_, hp t q, fun B G0 G W H σ en Dn hh hs hw => ?_⟩
 unfold oH at hw
 split at hw
 ·rename_i ds ei
  obtain ⟨v, e1, a, o, rfl, e2, e3, e4⟩ := hs.2 i _ ei
  cases e4 with
  | @lst xs _ rp =>
  refine ⟨_, e1, .inl ⟨rfl, _, SqL.of e3⟩, mm B G0 G W H σ en _ hh hs ?_⟩
  cases ef : fe en with
  | bad => rw [ef] at hw; exact hw
  | exc C => rw [ef] at hw; exact fun G1 H1 s => hw G1 W H1 σ (hh.step s) (hs.step s)
  | ok r =>
   rw [ef] at hw
   cases r with
   | p d => exact hw.elim
   | b d => exact hw.elim
   | x C => exact hw.elim
   | f d =>
    cases d with
    | list es =>
     dsimp only at hw
     split at hw
     ·rename_i hl
      rintro G1 H1 y s ⟨b, ob, rfl, k1, k2, k3, k4⟩
      cases k4 with
      | @lst zs _ rz =>
      have hx := s.h _ _ e3
      refine ⟨a, b, xs, zs, rfl, rfl, hx, k3, Nat.le_trans (by rw [rp.length, rz.length]; exact hl) (by decide), ?_⟩
      obtain ⟨w1, w2⟩ := pV (o' := .lst (xs ++ zs)) (d' := .list (ds ++ es)) (hh.step s) (hs.step s) e2 e1 (.lst ((rp.mono s.g).append rz))
      exact hw _ _ _ _ w1 w2
     ·exact hw.elim
    | _ => exact hw.elim
 ·exact hw.elim
end
section
variable {X : Cx} {K : PySem.W.Frag}
def aNi (K : PySem.W.Frag) (ng : Bool) : R2 := fun x y H Q => ∃ d ds, Rep K H x d /\ Rep K H y (.list ds) /\ SeqAt.shaped d = true /\ SeqAt.shaped (.list ds) = true /\ (∀ z ∈ ds, SeqAt.noMix z d = true) /\ Q (.bl (if ng then !decide (countIn d ds ≠ 0) else decide (countIn d ds ≠ 0))) H
theorem zG {K : PySem.W.Frag} (hu : X.A.units + 65 < cLine) : OpR X (compareOp .NotIn) (aNi K true) := by
 intro pins s σ H x y v u Q I rx ry h
 obtain ⟨d, ds, h1, h2, o1, o2, hm, q⟩ := h
 obtain ⟨as, r1⟩ := h1.reads I.hok (Bool.and_eq_true_iff.mp o1).1 rx
 obtain ⟨bs, r2⟩ := h2.reads I.hok (Bool.and_eq_true_iff.mp o2).1 ry
 exact notIn_list_dataH r2 r1 o2 o1 hu hm ⟨.bl _, H, I, rfl, q⟩
open Classical in
noncomputable def aAr (ng : Bool) (x y : Ev) : Res Ev := match dat x, dat y with
 | some d, some (.list ds) => if SeqAt.shaped d = true /\ SeqAt.shaped (.list ds) = true /\ ∀ z ∈ ds, SeqAt.noMix z d = true then .ok (.p (.bool (if ng then !decide (countIn d ds ≠ 0) else decide (countIn d ds ≠ 0)))) else .bad
 | _, _ => .bad
theorem aAx {ng : Bool} : NoX (aAr ng) := by
 intro x y A h
 unfold aAr at h
 split at h
 ·split at h <;> cases h
 ·cases h
theorem aEx {ng : Bool} : OpM K (aNi K ng) (aAr ng) := by
 intro W G H v u x y Q gh hx hy hw
 unfold aAr at hw
 split at hw
 ·rename_i d ds e1 e2
  split at hw
  ·rename_i hs
   exact ⟨d, ds, hx.read gh e1, hy.read gh e2, hs.1, hs.2.1, hs.2.2, hw G H _ (Step.refl gh) (.bl _)⟩
  ·exact hw.elim
 ·exact hw.elim
end
theorem u65 {k : Nat} {A : Around} (hr : Room k A) : A.units + 65 < cLine := by have := hr.un; omega
end M
namespace L2
open PySem PySem.Spec PyProof.Rows
section
variable {X : Cx}
def aCh (i : Int) (is : List Int) : Int := is.foldl (fun a b => if a < b then b else a) i
def aK1 (K : PySem.W.Frag) : List V -> Hp -> VK -> Prop := fun xs H Q => ∃ a i is, xs = [.ref a] /\ SqL K H a ((i :: is).map V.int) /\ Q (.int (aCh i is)) H
theorem lZ : ∀ {is : List Int} {us : List Value}, Vals (is.map V.int) us -> ∃ ts : List (Int × Tok), us = ts.map (fun p => Value.int p.1 p.2) /\ ts.map (·.1) = is
 | [], _, .nil => ⟨[], rfl, rfl⟩
 | i :: is, _, .cons r t => by
  obtain ⟨tk, e⟩ := r
  obtain ⟨ts, e1, e2⟩ := lZ t
  refine ⟨(i, tk) :: ts, ?_, ?_⟩
  ·rw [e, e1]; rfl
  ·rw [List.map_cons, e2]
theorem mG (f : Nat -> Int) : ∀ k, f (argBest (fun i j => decide (f i > f j)) k) = aCh (f 0) ((List.range k).map fun j => f (j + 1))
 | 0 => rfl
 | k + 1 => by
  have ih := mG f k
  unfold aCh at ih ⊢
  rw [List.range_succ, List.map_append, List.foldl_append, <- ih]
  show f (if decide (f (k + 1) > f (argBest (fun i j => decide (f i > f j)) k)) = true then k + 1 else argBest (fun i j => decide (f i > f j)) k) = if f (argBest (fun i j => decide (f i > f j)) k) < f (k + 1) then f (k + 1) else f (argBest (fun i j => decide (f i > f j)) k)
  by_cases h : f (argBest (fun i j => decide (f i > f j)) k) < f (k + 1)
  ·rw [if_pos h, if_pos (decide_eq_true h)]
  ·rw [if_neg h, if_neg (by simpa using h)]
theorem yV (hc : X.calm = true) {K : PySem.W.Frag} (hK : X.K = K) : nD X (.builtin "max") (aK1 K) := by
 subst hK
 intro pins s σ H xs us Q I r h
 obtain ⟨a, i, is, rfl, hq, q⟩ := h
 obtain ⟨u, rfl, ru⟩ := vals1 r
 cases ru
 obtain ⟨its, rv, p, hz⟩ := I.list hq
 obtain ⟨ts, e1, e2⟩ := lZ rv
 have hn : ts.length = is.length + 1 := by
  have := congrArg List.length e2
  rw [List.length_map, List.length_cons] at this
  exact this
 have hl : s.heap.IsList a (intItems ts.toArray) := by
  have h := p.isList
  rw [e1] at h
  simpa [intItems] using h
 have num : ∀ j, numAt ts.toArray j = ((i :: is)[j]?).getD 0 := fun j => by
  rw [<- e2]
  simp [numAt]
 refine max_intList (A := X.A) (I.ok.hd hc) hl (by simp; omega) fun v h' tk hP hk => ⟨.int (aCh i is), H, I.kept hk, ?_, q⟩
 obtain ⟨t, rfl⟩ := intItems_at hP
 refine ⟨t, ?_⟩
 rw [mG (numAt ts.toArray)]
 have e0 : numAt ts.toArray 0 = i := by rw [num]; rfl
 have e3 : ((List.range (ts.toArray.size - 1)).map fun j => numAt ts.toArray (j + 1)) = is := by
  rw [List.size_toArray, hn, Nat.add_sub_cancel]
  apply List.ext_getElem
  ·simp
  ·intro j h1 h2
   simp [num, h2]
 rw [e0, e3]
end
end L2
namespace M
open PySem PySem.Spec PyProof.Rows L2
variable {K : PySem.W.Frag}
def intsOf : List D -> Option (List Int)
 | [] => some []
 | .int b :: ds => match intsOf ds with
  | some bs => some (b :: bs)
  | none => none
 | _ => none
theorem iU : ∀ is : List Int, intsOf (is.map .int) = some is
 | [] => rfl
 | i :: is => by
  show (match intsOf (is.map .int) with | some bs => some (i :: bs) | none => none) = _
  rw [iU is]
theorem jX {G : Hp} : ∀ {ds : List D} {bs : List Int} {xs : List V}, intsOf ds = some bs -> Reps K G xs ds -> xs = bs.map V.int
 | [], _, _, h, .nil => by cases h; rfl
 | d :: ds, bs, _, h, .cons r t => by
  cases d with
  | int b =>
   unfold intsOf at h
   cases e : intsOf ds with
   | none => rw [e] at h; cases h
   | some bs' =>
    rw [e] at h
    cases h
    cases r
    rw [jX e t]
    rfl
  | _ => cases h
def aFh (rs : List Ev) : Res Ev := match rs with
 | [x] => match e8 x with
  | some ds => match intsOf ds with
   | some (i :: is) => .ok (.p (.int (aCh i is)))
   | _ => .bad
  | none => .bad
 | _ => .bad
theorem aHc : aCo aFh := by
 intro rs C h
 unfold aFh at h
 split at h
 ·split at h
  ·split at h <;> cases h
  ·cases h
 ·cases h
theorem aGg : pU K (aK1 K) aFh := by
 intro W Hs G H vs rs Q gh he hw
 unfold aFh at hw
 split at hw
 ·rename_i x
  match vs, he with
  | [v], ⟨h1, _⟩ =>
   split at hw
   ·rename_i ds ed
    obtain ⟨a, xs, rfl, k1, k2⟩ := kM gh h1 ed
    split at hw
    ·rename_i i is eb
     have := jX eb k2
     subst this
     exact ⟨a, i, is, rfl, .inl k1, hw G H _ (Step.refl gh) (.int _)⟩
    ·exact hw.elim
   ·exact hw.elim
 ·exact hw.elim
end M
namespace L2
open PySem PySem.Spec PyProof.Rows
def aDz (i j : Int) : Prop := CMulW i j \/ CMul i j
theorem aBq {X : Cx} : OpR X (binaryOp .Mult) (rI aDz fun i j => .int (i * j)) := opI fun _ _ _ _ _ _ _ hc q => mul_int q (hc.elim CMulW.ok CMul.ok)
end L2
namespace M
open PySem PySem.Spec PyProof.Rows L2
variable {K : PySem.W.Frag}
noncomputable abbrev u0 : Ev -> Ev -> Res Ev := vP aDz fun i j => .int (i * j)
theorem zR : OpM K (rI aDz fun i j => .int (i * j)) u0 := sM fun _ _ _ => .int _
theorem aA5 {i j : Int} (h : aDz i j) : u0 (.p (.int i)) (.p (.int j)) = .ok (.p (.int (i * j))) := by simp [vP, h]
theorem aKi {i j : Int} (h1 : -(2 ^ 64) < j) (h2 : j < 2 ^ 64) : u0 (.p (.int i)) (.p (.int j)) = .ok (.p (.int (i * j))) := aA5 (.inr (.inr ⟨h1, h2⟩))
end M
namespace L2
open PySem PySem.Spec PyProof.Rows
section
variable {X : Cx}
def aNl (K : PySem.W.Frag) : List V -> Hp -> VK -> Prop := fun xs H Q => ∃ (a : Addr) (is : List Int), xs = [.ref a] /\ SqL K H a (is.map V.int) /\ Q (.int is.sum) H
theorem xW (f : Nat -> Int) : ∀ (is : List Int), (∀ j, j < is.length -> f j = (is[j]?).getD 0) -> preSum f is.length = is.sum := by
 have gen : ∀ (n : Nat) (is : List Int), is.length = n -> (∀ j, j < is.length -> f j = (is[j]?).getD 0) -> preSum f n = is.sum := by
  intro n
  induction n with
  | zero =>
   intro is h _
   rw [List.length_eq_zero_iff.mp h]
   rfl
  | succ n ih =>
   intro is h hj
   have hne : is ≠ [] := fun z => by rw [z] at h; cases h
   have e : is = is.dropLast ++ [is.getLast hne] := (List.dropLast_concat_getLast hne).symm
   have hl : is.dropLast.length = n := by rw [List.length_dropLast]; omega
   have h1 := ih is.dropLast hl fun j hj' => by
    rw [hj j (by omega)]
    conv => lhs; rw [e]
    rw [List.getElem?_append_left hj']
   show preSum f n + f n = is.sum
   rw [h1, hj n (by omega)]
   conv => rhs; rw [e, List.sum_append]
   conv => lhs; rw [e]
   rw [List.getElem?_append_right (by omega), hl]
   simp
 exact fun is hj => gen _ is rfl hj
theorem zQ (hc : X.calm = true) {K : PySem.W.Frag} (hK : X.K = K) : nD X (.builtin "sum") (aNl K) := by
 subst hK
 intro pins s σ H xs us Q I r h
 obtain ⟨a, is, rfl, hq, q⟩ := h
 obtain ⟨u, rfl, ru⟩ := vals1 r
 cases ru
 obtain ⟨its, rv, p, hz⟩ := I.list hq
 obtain ⟨ts, e1, e2⟩ := lZ rv
 have hl : s.heap.IsList a (intItems ts.toArray) := by
  have h := p.isList
  rw [e1] at h
  simpa [intItems] using h
 have hn : ts.length = is.length := by
  have := congrArg List.length e2
  rw [List.length_map] at this
  exact this
 have num : ∀ j, numAt ts.toArray j = (is[j]?).getD 0 := fun j => by
  rw [<- e2]
  simp [numAt]
 refine sum_intListG (A := X.A) (I.ok.hd hc) hl fun h' tk t' hk => ⟨.int is.sum, H, I.kept hk, ?_, q⟩
 refine ⟨t', ?_⟩
 rw [List.size_toArray, hn, xW _ is fun j _ => num j]
theorem jO : ∀ {is : List Int} {us : List Value}, Vals (is.map V.int) us -> IntsAre us is
 | [], _, .nil => .nil
 | i :: is, _, .cons r t => by
  obtain ⟨tk, e⟩ := r
  rw [e]
  exact .cons i tk (jO t)
def aFa (K : PySem.W.Frag) : V -> List V -> Hp -> VK -> Prop := fun x vs H Q => ∃ (a : Addr) (k : Int) (is : List Int), x = .ref a /\ vs = [.int k] /\ SqL K H a (is.map V.int) /\ Q (.int (is.count k : Nat)) H
theorem aC0 {K : PySem.W.Frag} (hK : X.K = K) : MtR X "list.count" (aFa K) := by
 subst hK
 intro pins s σ H x vs v us Q I rx rv h
 obtain ⟨a, k, is, rfl, rfl, hq, q⟩ := h
 cases rx
 obtain ⟨u, rfl, t, rfl⟩ := vals1 rv
 obtain ⟨its, r', p, hz⟩ := I.list hq
 exact count_list_ints p.isList (jO r') ⟨.int (is.count k : Nat), H, I.tok _, ⟨_, rfl⟩, q⟩
def aEu (K : PySem.W.Frag) : V -> List V -> Hp -> VK -> Prop := fun x vs H Q => ∃ (a : Addr) (k : Int) (is : List Int), x = .ref a /\ vs = [.int k] /\ SqL K H a (is.map V.int) /\ k ∈ is /\ Q (.int (is.idxOf k : Nat)) H
theorem aCl {K : PySem.W.Frag} (hK : X.K = K) : MtR X "list.index" (aEu K) := by
 subst hK
 intro pins s σ H x vs v us Q I rx rv h
 obtain ⟨a, k, is, rfl, rfl, hq, hk, q⟩ := h
 cases rx
 obtain ⟨u, rfl, t, rfl⟩ := vals1 rv
 obtain ⟨its, r', p, hz⟩ := I.list hq
 have hi := jO r'
 obtain ⟨⟨cls, dd, data, sl⟩, ho, hc, n, hd⟩ := p.isList
 simp only at hc hd
 subst hc hd
 have hlen := hi.length
 have hj : is.idxOf k < is.length := List.idxOf_lt_length_iff.mpr hk
 have hz' : is.length <= sizeLine := by simpa using hz
 have hn := xG
 refine call_meets PySem.F.slot_list_index ⟨_, ho, rfl⟩ PySem.F.entry_list_index (PySem.F.args_list_index_2 _ _)
  (SeqAt.list_indexAt a its.toArray n dd sl (.int k t) (isInt k) (is.idxOf k) (by simpa [hlen] using hj) (by omega) ?_ ?_) ⟨ho, fun y hy => (eq_isInt k t hi y (by simpa using hy)).at _ _, ⟨.int (is.idxOf k : Nat), H, I.tok _, ⟨_, rfl⟩, q⟩⟩
 ·show isInt k its[is.idxOf k] = true
  rw [isInt_at k hi _ (by omega) hj]
  simpa using List.getElem_idxOf hj
 ·intro j hjs hlt
  show isInt k its[j] = false
  rw [isInt_at k hi j (by simpa using hjs) (by omega)]
  exact ne_of_lt_idxOf hlt _
end
end L2
namespace M
open PySem PySem.Spec PyProof.Rows L2
section
variable {K : PySem.W.Frag}
def aGo (rs : List Ev) : Res Ev := match rs with
 | [x] => match e8 x with
  | some ds => match intsOf ds with
   | some is => .ok (.p (.int is.sum))
   | none => .bad
  | none => .bad
 | _ => .bad
theorem aF6 : aCo aGo := by
 intro rs C h
 unfold aGo at h
 split at h
 ·split at h
  ·split at h <;> cases h
  ·cases h
 ·cases h
theorem aKv : pU K (aNl K) aGo := by
 intro W Hs G H vs rs Q gh he hw
 unfold aGo at hw
 split at hw
 ·rename_i x
  match vs, he with
  | [v], ⟨h1, _⟩ =>
   split at hw
   ·rename_i ds ed
    obtain ⟨a, xs, rfl, k1, k2⟩ := kM gh h1 ed
    split at hw
    ·rename_i is eb
     have := jX eb k2
     subst this
     exact ⟨a, is, rfl, .inl k1, hw G H _ (Step.refl gh) (.int _)⟩
    ·exact hw.elim
   ·exact hw.elim
 ·exact hw.elim
def nE (x y : Ev) : Res Ev := match y with
 | .p (.int k) => match e8 x with
  | some ds => match intsOf ds with
   | some is => .ok (.p (.int (is.count k : Nat)))
   | none => .bad
  | none => .bad
 | _ => .bad
def n9 (x y : Ev) : Res Ev := match y with
 | .p (.int k) => match e8 x with
  | some ds => match intsOf ds with
   | some is => if k ∈ is then .ok (.p (.int (is.idxOf k : Nat))) else .bad
   | none => .bad
  | none => .bad
 | _ => .bad
theorem aAw : NoX nE := by
 intro x y C h
 unfold nE at h
 split at h
 ·split at h
  ·split at h <;> cases h
  ·cases h
 ·cases h
theorem aAa : NoX n9 := by
 intro x y C h
 unfold n9 at h
 split at h
 ·split at h
  ·split at h
   ·split at h <;> cases h
   ·cases h
  ·cases h
 ·cases h
theorem aDm : OpM K (fun v u H Q => aFa K v [u] H Q) nE := by
 intro W G H v u x y Q gh hx hy hw
 unfold nE at hw
 split at hw
 ·rename_i k ey
  rw [ey] at hy
  cases hy
  split at hw
  ·rename_i ds ed
   obtain ⟨a, xs, rfl, k1, k2⟩ := kM gh hx ed
   split at hw
   ·rename_i is eb
    have := jX eb k2
    subst this
    exact ⟨a, k, is, rfl, rfl, .inl k1, hw G H _ (Step.refl gh) (.int _)⟩
   ·exact hw.elim
  ·exact hw.elim
 ·exact hw.elim
theorem aCy : OpM K (fun v u H Q => aEu K v [u] H Q) n9 := by
 intro W G H v u x y Q gh hx hy hw
 unfold n9 at hw
 split at hw
 ·rename_i k ey
  rw [ey] at hy
  cases hy
  split at hw
  ·rename_i ds ed
   obtain ⟨a, xs, rfl, k1, k2⟩ := kM gh hx ed
   split at hw
   ·rename_i is eb
    split at hw
    ·rename_i hk
     have := jX eb k2
     subst this
     exact ⟨a, k, is, rfl, rfl, .inl k1, hk, hw G H _ (Step.refl gh) (.int _)⟩
    ·exact hw.elim
   ·exact hw.elim
  ·exact hw.elim
 ·exact hw.elim
end
def mMt (op : Ev -> Ev -> Res Ev) (fo fe : En -> Res Ev) : En -> Res Ev := fun en => (fo en).bind fun x => if (e8 x.c).isSome = true then (fe en).bind fun y => op x.c y.c else .bad
theorem aJ3 {X : Cx} {E : L2.St -> XK} {o e : Expr} {fo fe : En -> Res Ev} {name : Str} {id : String} {apos cpos : Pos} {r : V -> List V -> Hp -> VK -> Prop} {f : Ev -> Ev -> Res Ev} (slot : PySem.Slot "list" name id) (hty : typeOf (.builtin id) = pure (.type "method_descriptor")) (hm : MtR X id r) (hM : OpM X.K (fun v u H Q => r v [u] H Q) f) (hn : NoX f) (ho : DE X E o fo) (ha : DE X E e fe)
  (hbase : attributeBase o name X.env (eval o X.env) = eval o X.env := by rfl)
  (hfew : ((backTo cpos (starEach [e] X.env)).all (fun x => !x.1) && (backToKw cpos (keywordEach [] X.env)).all (fun x => x.1.isSome)
   && decide ([e].length + ([] : List Keyword).length + (if ([] : List Keyword).isEmpty then 0 else 1) < 30)) = true := by rfl)
  (hline : (apos.endLine == cpos.line) = true := by rfl) (hs : starEach [e] X.env = (false, eval e X.env) :: starEach [] X.env := by rfl) (hplain : (backTo cpos (starEach [] X.env)).any (·.1) = false := by rfl) :
  DE X E (.Call (.Attribute o name apos) [e] [] cpos) (mMt f fo fe) := by
 obtain ⟨to, po, mo⟩ := ho.out
 obtain ⟨te, pe, me⟩ := ha.out
 refine DE.in ⟨_, mR PySem.F.plainAttrs_list slot hty hm po (dG pe fY hs) hbase hfew hline hs hplain, fun B G0 G W H σ en Q hh hs' hw => ?_⟩
 refine mo B G0 G W H σ en _ hh hs' (DE.go hw fun x G1 H1 v s1 e1 h1 => ?_)
 split at h1
 ·rename_i hx
  obtain ⟨ds, ed⟩ := Option.isSome_iff_exists.mp hx
  obtain ⟨a, xs, rfl, k1, k2⟩ := kM s1.gh e1 ed
  refine ⟨.inl ⟨rfl, xs, .inl k1⟩, ?_⟩
  refine me B G0 G1 W H1 σ en _ (hh.step s1) (hs'.step s1) (DE.go h1 fun y G2 H2 u s2 e2 h2 => ?_)
  exact hM W G2 H2 (.ref a) u x y Q s2.gh (e1.step s2) (by cases y <;> exact e2) (noX h2 (hn _ _))
 ·exact h1.elim
end M
namespace L2
open PySem PySem.Spec PyProof.Rows
section
variable {X : Cx}
def aJ7 : V -> List V -> Hp -> VK -> Prop := fun x vs H Q => ∃ l b xs zs, x = .ref l /\ vs = [.ref b] /\ H l = some (.lst xs) /\ Rd H b (.lst zs) /\ xs.length + zs.length <= sizeLine /\ Q .non (upd H l (.lst (xs ++ zs)))
theorem aF8 : MtM X "list.extend" aJ7 := by
 intro pins s σ H x vs v us Q I rx rv h
 obtain ⟨l, b, xs, zs, rfl, rfl, hH, hB, hz, q⟩ := h
 cases rx
 obtain ⟨u, rfl, ru⟩ := rv.one
 cases ru
 obtain ⟨z, its, n, r, hl, e⟩ := I.lstM hH
 obtain ⟨z2, its2, n2, r2, e2⟩ := hB.ok I.hok
 have hl2 := r2.length
 have hsz : its.toArray.size + its2.toArray.size <= sizeLine := by rw [List.size_toArray, List.size_toArray]; omega
 have hlong : ¬ (!its.toArray.isEmpty && Builtin.List.listTooLong (its.toArray.size + its2.toArray.size)) = true := by
  rw [xI hsz, Bool.and_false]
  exact Bool.false_ne_true
 refine call_meets F.slot_list_extend ⟨_, e, rfl⟩ F.entry_list_extend (F.args_list_extend_2 _ _)
  (AutoSeq1.list_extend_list_list_0 l its.toArray n b its2.toArray n2 hlong (by rw [List.size_toArray]; omega) (by omega)) ⟨e, e2, ?_⟩
 refine ⟨.non, _, I.lset (its' := its ++ its2) hH e (by simp) (r.append r2) ?_, rfl, q⟩
 rw [List.length_append]
 omega
end
end L2
namespace M
open PySem PySem.Spec PyProof.Rows L2
def aB4 (i : Nat) (fe : En -> Res Ev) : MS := fun en => match en[i]? with
 | some (some (.o (.list ds))) => match fe en with
  | .ok (.p (.list es)) => if ds.length + es.length <= 100000 then some (.nx (en.set i (some (.o (.list (ds ++ es)))))) else none
  | .exc C => some (.ex C en)
  | _ => none
 | _ => none
theorem aFv {X : Cx} {E : L2.St -> XK} {e : Expr} {i : Nat} {fe : En -> Res Ev} {st : Stmt} (he : DE X E e fe) (hp : ∀ t, PE X e t -> PS X st (vG (tBM X.K "list" aJ7 (aFg i) (aBa t aI5)))) : DS X E st (aB4 i fe) := by
 obtain ⟨t, q, mm⟩ := he.out
 refine DS.in ⟨_, hp t q, fun B G0 G W H σ en Dn hh hs hw => ?_⟩
 unfold aB4 at hw
 split at hw
 ·rename_i ds ei
  obtain ⟨v, e1, a, o, rfl, e2, e3, e4⟩ := hs.2 i _ ei
  cases e4 with
  | @lst xs _ rp =>
  refine ⟨_, e1, .inl ⟨rfl, _, SqL.of e3⟩, mm B G0 G W H σ en _ hh hs ?_⟩
  cases ef : fe en with
  | bad => rw [ef] at hw; exact hw
  | exc C => rw [ef] at hw; exact fun G1 H1 s => hw G1 W H1 σ (hh.step s) (hs.step s)
  | ok r =>
   rw [ef] at hw
   cases r with
   | f d => exact hw.elim
   | b d => exact hw.elim
   | x C => exact hw.elim
   | p d =>
    cases d with
    | list es =>
     dsimp only at hw
     split at hw
     ·rename_i hl
      intro G1 H1 y s ey
      cases ey with
      | @lst b zs _ k3 rz =>
      have hx := s.h _ _ e3
      refine ⟨a, b, xs, zs, rfl, rfl, hx, dZ s.gh k3, Nat.le_trans (by rw [rp.length, rz.length]; exact hl) (by decide), ?_⟩
      obtain ⟨w1, w2⟩ := pV (o' := .lst (xs ++ zs)) (d' := .list (ds ++ es)) (hh.step s) (hs.step s) e2 e1 (.lst ((rp.mono s.g).append rz))
      exact hw _ _ _ _ w1 w2
     ·exact hw.elim
    | _ => exact hw.elim
 ·exact hw.elim
end M
namespace L2
open PySem PySem.Spec PyProof.Rows
section
variable {prog : Program} {w : World} {A : Around} {E : Value -> Shared -> Prop} {s : Shared}
end
def hIJ (i j : Int) : Int := reduceHash (Builtin.Tuple.tupleHashOf [hashInt i, hashInt j])
theorem aKl : ((List.range 81).map fun n : Nat => hIJ ((n / 9 : Nat) : Int) ((n % 9 : Nat) : Int)).Nodup := by decide +kernel
theorem aM1 {α : Type} {f : Nat -> α} {n : Nat} (h : ((List.range n).map f).Nodup) {a b : Nat} (ha : a < n) (hb : b < n) (e : f a = f b) : a = b := by
 have p := List.pairwise_iff_getElem.mp h
 rcases Nat.lt_trichotomy a b with z | z | z
 ·have := p a b (by simpa using ha) (by simpa using hb) z
  simp at this
  exact absurd e this
 ·exact z
 ·have := p b a (by simpa using hb) (by simpa using ha) z
  simp at this
  exact absurd e.symm this
theorem aGz {i j k l : Int} (hi : 0 <= i /\ i <= 8) (hj : 0 <= j /\ j <= 8) (hk : 0 <= k /\ k <= 8) (hl : 0 <= l /\ l <= 8) (e : hIJ i j = hIJ k l) : i = k /\ j = l := by
 have q : ∀ {a b : Int}, (0 <= a /\ a <= 8) -> (0 <= b /\ b <= 8) -> (((9 * a + b).toNat / 9 : Nat) : Int) = a /\ (((9 * a + b).toNat % 9 : Nat) : Int) = b := fun h1 h2 => by omega
 have e1 := q hi hj
 have e2 := q hk hl
 have := aM1 aKl (a := (9 * i + j).toNat) (b := (9 * k + l).toNat) (by omega) (by omega) (by
  show hIJ _ _ = hIJ _ _
  rw [e1.1, e1.2, e2.1, e2.2]
  exact e)
 omega
theorem aBy (P : Program) (w : World) (i j : Int) : tupleKeyHash (fX P w) [Sum.inl i, Sum.inl j] = hIJ i j := congrArg (fun l => reduceHash (Builtin.Tuple.tupleHashOf l)) (show ([Sum.inl i, Sum.inl j] : List Key).map (fX P w).hash = [hashInt i, hashInt j] from rfl)
theorem aJ2 (P : Program) (w : World) {i j k l : Int} (hi : 0 <= i /\ i <= 8) (hj : 0 <= j /\ j <= 8) (hk : 0 <= k /\ k <= 8) (hl : 0 <= l /\ l <= 8) (e : tupleKeyHash (fX P w) [Sum.inl i, Sum.inl j] = tupleKeyHash (fX P w) [Sum.inl k, Sum.inl l]) : i = k /\ j = l := aGz hi hj hk hl ((aBy P w i j).symm.trans (e.trans (aBy P w k l)))
section
variable {X : Cx}
end
end L2
namespace M
open PySem PySem.Spec PyProof.Rows L2
section
variable {K : PySem.W.Frag}
def w6 : List Int -> Bool
 | [i, j] => decide (0 <= i /\ i <= 8) && decide (0 <= j /\ j <= 8)
 | _ => false
end
end M
namespace L2
open PySem PySem.Spec PyProof.Rows
section
variable {X : Cx}
end
end L2
namespace M
open PySem PySem.Spec PyProof.Rows L2
section
variable {X : Cx} {E : L2.St -> XK} {sts rest A : List Stmt} {st : Stmt} {fA g : MS} {fe : En -> Res Ev} {fc : En -> Res Bool} {e c : Expr} {pos pos2 : Pos}
def aMp (i : Nat) (fe : En -> Res Ev) : MS := fun en => match en[i]? with
 | some (some (.p (.int a))) => match fe en with
  | .ok (.p (.int b)) => some (.nx (en.set i (some (.p (.int (a + b))))))
  | _ => none
 | _ => none
theorem aIh {i : Nat} {x : Str} {pos' : Pos} (hN : X.N.Nodup) (hi : X.N[i]? = some x) (hx : Loc X.env.scope x) (he : DE X E e fe) (hf : X.fn x = true \/ X.env.scope.names.lookup x = some .local := by first | exact .inl rfl | exact .inr rfl | assumption) : DS X E (.AugAssign (.Name x pos') .Add e pos) (aMp i fe) := by
 obtain ⟨te, pe, me⟩ := he.out
 refine DS.in ⟨_, aJw hN hi hx pe aI2 hf, fun B G0 G W H σ en Dn hh hs hw => ?_⟩
 unfold aMp at hw
 split at hw
 ·rename_i a ei
  obtain ⟨v, e1, e2⟩ := hs.2 i _ ei
  cases e2
  refine ⟨_, e1, me B G0 G W H σ en _ hh hs ?_⟩
  cases ef : fe en with
  | bad => rw [ef] at hw; exact hw
  | exc C => rw [ef] at hw; exact hw.elim
  | ok r =>
   rw [ef] at hw
   cases r with
   | f d => exact hw.elim
   | b d => exact hw.elim
   | x d => exact hw.elim
   | p d =>
    cases d with
    | int b =>
     intro G1 H1 y s1 ey
     cases ey
     exact ⟨a, b, rfl, rfl, hw G1 W H1 _ (hh.step s1) ((hs.step s1).set (.int _))⟩
    | _ => exact hw.elim
 ·exact hw.elim
end
end M
namespace L2
open PySem
def lpN (mask : Nat) (i p : Nat) : Nat -> Nat × Nat
 | 0 => (i, p)
 | m + 1 => lpN mask (SetTable.leap mask i p).1 (SetTable.leap mask i p).2 m
theorem aB8 (mask : Nat) : ∀ (a b i p : Nat), lpN mask i p (a + b) = lpN mask (lpN mask i p a).1 (lpN mask i p a).2 b
 | 0, b, i, p => by rw [Nat.zero_add]; rfl
 | a + 1, b, i, p => by
  rw [Nat.succ_add]
  show lpN mask _ _ (a + b) = _
  rw [aB8 mask a b]
  rfl
theorem aKm (mask : Nat) : ∀ (m i p : Nat), (lpN mask i p m).2 = p / 32 ^ m
 | 0, i, p => by simp [lpN]
 | m + 1, i, p => by
  show (lpN mask _ (p / 32) m).2 = _
  rw [aKm mask m, Nat.div_div_eq_div_mul, Nat.pow_succ, Nat.mul_comm]
theorem aKz (mask : Nat) : ∀ (m i p : Nat), i <= mask -> (lpN mask i p m).1 <= mask
 | 0, i, p, h => h
 | m + 1, i, p, _ => by
  show (lpN mask ((i * 5 + 1 + p / 32) % (mask + 1)) (p / 32) m).1 <= mask
  exact aKz mask m _ _ (Nat.le_of_lt_succ (Nat.mod_lt _ (Nat.succ_pos _)))
def orb (mask : Nat) : Nat -> Nat -> List Nat
 | 0, _ => []
 | n + 1, i => i :: orb mask n ((i * 5 + 1) % (mask + 1))
theorem aEi (mask : Nat) : ∀ (n i q : Nat), q ∈ orb mask n i -> ∃ m, m < n /\ (lpN mask i 0 m).1 = q
 | n + 1, i, q, h => by
  rcases List.mem_cons.mp h with z | z
  ·exact ⟨0, Nat.succ_pos _, z.symm⟩
  ·obtain ⟨m, hm, e⟩ := aEi mask n _ q z
   exact ⟨m + 1, Nat.succ_lt_succ hm, e⟩
def k9 (mask : Nat) : Prop := mask = 7 \/ mask = 31
theorem aGf {mask : Nat} (hm : k9 mask) {i q : Nat} (hi : i <= mask) (hq : q <= mask) : q ∈ orb mask (mask + 1) i := by
 have key : ∀ mask, k9 mask -> (List.range (mask + 1)).all (fun i => (List.range (mask + 1)).all fun q => (orb mask (mask + 1) i).contains q) = true := by
  rintro _ (rfl | rfl) <;> decide +kernel
 have a := List.all_eq_true.mp (key mask hm) i (List.mem_range.mpr (Nat.lt_succ_of_le hi))
 have b := List.all_eq_true.mp a q (List.mem_range.mpr (Nat.lt_succ_of_le hq))
 exact List.contains_iff_mem.mp b
theorem vK {mask : Nat} (hm : k9 mask) {i p q : Nat} (hi : i <= mask) (hp : p < 2 ^ 64) (hq : q <= mask) : ∃ m, m <= 13 + mask /\ (lpN mask i p m).1 = q := by
 have e2 : (lpN mask i p 13).2 = 0 := by
  rw [aKm]
  exact Nat.div_eq_of_lt (Nat.lt_of_lt_of_le hp (by decide))
 obtain ⟨m, h1, h2⟩ := aEi mask _ _ _ (aGf hm (aKz mask 13 i p hi) hq)
 refine ⟨13 + m, by omega, ?_⟩
 rw [aB8, e2]
 exact h2
theorem aEt {α : Type} [DecidableEq α] : ∀ {l m : List α}, l.Nodup -> (∀ x ∈ l, x ∈ m) -> l.length <= m.length
 | [], m, _, _ => Nat.zero_le _
 | x :: l, m, h, s => by
  obtain ⟨h1, h2⟩ := List.nodup_cons.mp h
  have hx := s x (.head _)
  have q := aEt (m := m.erase x) h2 fun y hy => (List.mem_erase_of_ne (show y ≠ x from fun z => h1 (by rw [<- z]; exact hy))).mpr (s y (.tail _ hy))
  rw [List.length_erase_of_mem hx] at q
  have := List.length_pos_of_mem hx
  rw [List.length_cons]
  omega
theorem miss {mask : Nat} {l : List Nat} (h : l.length <= mask) : ∃ q, q <= mask /\ q ∉ l := by
 by_cases z : ∀ q ∈ List.range (mask + 1), q ∈ l
 ·have := aEt List.nodup_range z
  rw [List.length_range] at this
  omega
 ·obtain ⟨q, hq⟩ := Classical.not_forall.mp z
  obtain ⟨h1, h2⟩ := Classical.not_imp.mp hq
  exact ⟨q, Nat.le_of_lt_succ (List.mem_range.mp h1), h2⟩
theorem zT {t : SetTable} (hd : t.dummies = #[]) {j : Nat} (h : j ∉ t.place.toList) : t.slot j = .empty := by
 unfold SetTable.slot SetTable.has
 rw [hd]
 dsimp only
 have : (t.place[SetTable.below t.place j]? == some j) = false := by
  rw [beq_eq_false_iff_ne]
  exact fun z => h (Array.mem_toList_iff.mpr (Array.mem_of_getElem? z))
 rw [this]
 simp
theorem aAv {t : SetTable} (hd : t.dummies = #[]) {j : Nat} : t.slot j = .empty \/ ∃ i, i < t.place.size /\ t.slot j = .live i := by
 unfold SetTable.slot SetTable.has
 rw [hd]
 dsimp only
 by_cases z : (t.place[SetTable.below t.place j]? == some j) = true
 ·right
  refine ⟨SetTable.below t.place j, ?_, by rw [if_pos z]⟩
  rw [beq_iff_eq] at z
  exact (Array.getElem?_eq_some_iff.mp z).1
 ·left
  rw [if_neg z]
  simp
def aCj (t : SetTable) : Nat -> SetTable.Probe -> SetTable.Probe
 | 0, p => p
 | k + 1, p => aCj t k (t.advance p)
theorem xB (t : SetTable) : ∀ (a b : Nat) (p : SetTable.Probe), aCj t (a + b) p = aCj t b (aCj t a p)
 | 0, b, p => by rw [Nat.zero_add]; rfl
 | a + 1, b, p => by
  rw [Nat.succ_add]
  exact xB t a b _
theorem zK (t : SetTable) (p : SetTable.Probe) : (t.advance p).dummy = p.dummy := by
 unfold SetTable.advance
 split <;> rfl
theorem yF {t : SetTable} {f : Nat -> Int} {h : Int} (hl : ∀ j, t.slot j = .empty \/ ∃ i, t.slot j = .live i /\ f i ≠ h) : ∀ (k fuel : Nat) (p : SetTable.Probe), k < fuel -> p.dummy = none -> t.slot (aCj t k p).j = .empty -> ∃ j, SetTable.probe.go t f h fuel p = some (.empty j none)
 | k, fuel + 1, p, hk, hd, he => by
  unfold SetTable.probe.go
  rcases hl p.j with z | ⟨i, z, n⟩
  ·rw [z]
   exact ⟨p.j, by rw [hd]⟩
  ·rw [z]
   dsimp only
   rw [if_neg (by simpa using n)]
   cases k with
   | zero =>
    have he : t.slot p.j = .empty := he
    rw [z] at he
    cases he
   | succ k => exact yF hl k fuel _ (by omega) (by rw [zK]; exact hd) he
def aLj (t : SetTable) (i p : Nat) : SetTable.Probe := { j := i, more := SetTable.runEnd t.mask i - i, i, perturb := p, dummy := none }
theorem y9 (t : SetTable) : ∀ (r j i p : Nat), aCj t (r + 1) { j, more := r, i, perturb := p, dummy := none } = aLj t (SetTable.leap t.mask i p).1 (SetTable.leap t.mask i p).2
 | 0, j, i, p => rfl
 | r + 1, j, i, p => y9 t r (j + 1) i p
theorem vO (t : SetTable) : ∀ (m i p : Nat), ∃ k, k <= 10 * m /\ aCj t k (aLj t i p) = aLj t (lpN t.mask i p m).1 (lpN t.mask i p m).2
 | 0, i, p => ⟨0, Nat.le_refl _, rfl⟩
 | m + 1, i, p => by
  have r9 : SetTable.runEnd t.mask i - i <= 9 := by unfold SetTable.runEnd; split <;> omega
  obtain ⟨k, h1, h2⟩ := vO t m (SetTable.leap t.mask i p).1 (SetTable.leap t.mask i p).2
  refine ⟨(SetTable.runEnd t.mask i - i) + 1 + k, by omega, ?_⟩
  rw [xB]
  show aCj t k (aCj t _ { j := i, more := SetTable.runEnd t.mask i - i, i := i, perturb := p, dummy := none }) = _
  rw [y9 t]
  exact h2
theorem zU (h : Int) : SetTable.bits h < 2 ^ 64 := by
 unfold SetTable.bits
 omega
theorem xZ {t : SetTable} (hm : k9 t.mask) (hd : t.dummies = #[]) (hs : t.place.size <= t.mask) {f : Nat -> Int} {h : Int} (hf : ∀ i, i < t.place.size -> f i ≠ h) : ∃ j, t.probe f h (t.probeStart h) = some (.empty j none) := by
 obtain ⟨q, q1, q2⟩ := miss (mask := t.mask) (l := t.place.toList) (by rw [Array.length_toList]; exact hs)
 have i0 : SetTable.bits h % (t.mask + 1) <= t.mask := Nat.le_of_lt_succ (Nat.mod_lt _ (Nat.succ_pos _))
 obtain ⟨m, m1, m2⟩ := vK hm i0 (zU h) q1
 obtain ⟨k, k1, k2⟩ := vO t m (SetTable.bits h % (t.mask + 1)) (SetTable.bits h)
 unfold SetTable.probe
 refine yF (fun j => ?_) k _ _ ?_ rfl ?_
 ·rcases aAv hd (j := j) with z | ⟨i, hi, z⟩
  ·exact .inl z
  ·exact .inr ⟨i, z, hf i hi⟩
 ·unfold SetTable.turns
  omega
 ·show t.slot (aCj t k (aLj t (SetTable.bits h % (t.mask + 1)) (SetTable.bits h))).j = .empty
  rw [k2]
  show t.slot (lpN t.mask _ _ m).1 = .empty
  rw [m2]
  exact zT hd q2
def aEz (l : List (Option Nat)) : Nat := (l.filterMap id).length
theorem zO : ∀ (l : List (Option Nat)) (j k : Nat), l[j]? = some none -> aEz (l.set j (some k)) = aEz l + 1
 | none :: l, 0, k, _ => by simp [aEz]
 | x :: l, j + 1, k, h => by
  have ih := zO l j k h
  cases x <;> simp_all [aEz]
theorem sL {mask : Nat} {ow : Array (Option Nat)} : ∀ (m fuel i p : Nat), m < fuel -> i <= mask -> ow[(lpN mask i p m).1]? = some none -> ∃ j, SetTable.layClean.free mask ow fuel i p = some j /\ ow[j]? = some none
 | m, fuel + 1, i, p, hk, hi, he => by
  unfold SetTable.layClean.free
  have gd : ∀ j, (ow.getD j (some 0)).isNone = true -> ow[j]? = some none := fun j z => by
   cases q : ow[j]? with
   | none => rw [Array.getD_eq_getD_getElem?, q] at z; cases z
   | some x => rw [Array.getD_eq_getD_getElem?, q] at z; cases x with
    | none => rfl
    | some y => cases z
  cases q : (List.range (SetTable.runEnd mask i + 1 - i)).find? fun k => (ow.getD (i + k) (some 0)).isNone with
  | some k => exact ⟨i + k, rfl, gd _ (List.find?_some (p := fun k => (ow.getD (i + k) (some 0)).isNone) q)⟩
  | none =>
   dsimp only
   cases m with
   | zero =>
    have he : ow[i]? = some none := he
    have := List.find?_eq_none.mp q 0 (List.mem_range.mpr (by unfold SetTable.runEnd; split <;> omega))
    rw [Nat.add_zero, Array.getD_eq_getD_getElem?, he] at this
    simp at this
   | succ m => exact sL m fuel _ _ (by omega) (Nat.le_of_lt_succ (Nat.mod_lt _ (Nat.succ_pos _))) he
theorem aE6 : ∀ l : List (Option Nat), aEz l < l.length -> ∃ q : Nat, l[q]? = some none
 | none :: l, _ => ⟨0, rfl⟩
 | some x :: l, h => by
  have h : aEz l + 1 < l.length + 1 := h
  obtain ⟨q, hq⟩ := aE6 l (by omega)
  exact ⟨q + 1, hq⟩
theorem aA4 : ∀ n : Nat, aEz (List.replicate n none) = 0
 | 0 => rfl
 | n + 1 => aA4 n
structure Own (mask : Nat) (ow : Array (Option Nat)) (k : Nat) : Prop where
 s : ow.size = mask + 1
 c : aEz ow.toList = k
 v : ∀ (j x : Nat), ow[j]? = some (some x) -> x < k
theorem aDn {mask : Nat} (hm : k9 mask) {ow : Array (Option Nat)} {k : Nat} (o : Own mask ow k) (hk : k <= mask) (h : Int) : ∃ j, SetTable.layClean.free mask ow (SetTable.turns mask) (SetTable.bits h % (mask + 1)) (SetTable.bits h) = some j /\ Own mask (ow.setIfInBounds j (some k)) (k + 1) := by
 obtain ⟨q, hq⟩ := aE6 ow.toList (by rw [o.c, Array.length_toList, o.s]; omega)
 rw [Array.getElem?_toList] at hq
 have q1 : q <= mask := by
  have := (Array.getElem?_eq_some_iff.mp hq).1
  rw [o.s] at this
  omega
 have i0 : SetTable.bits h % (mask + 1) <= mask := Nat.le_of_lt_succ (Nat.mod_lt _ (Nat.succ_pos _))
 obtain ⟨m, m1, m2⟩ := vK hm i0 (zU h) q1
 obtain ⟨j, j1, j2⟩ := sL (mask := mask) (ow := ow) m (SetTable.turns mask) _ (SetTable.bits h) (by unfold SetTable.turns; omega) i0 (by rw [m2]; exact hq)
 have jl := (Array.getElem?_eq_some_iff.mp j2).1
 refine ⟨j, j1, by simp [o.s], ?_, fun a x z => ?_⟩
 ·rw [Array.toList_setIfInBounds, zO _ _ _ (by rw [Array.getElem?_toList]; exact j2), o.c]
 ·rw [Array.getElem?_setIfInBounds] at z
  split at z
  ·cases z; omega
  ·have := o.v a x z; omega
theorem wX {mask : Nat} (hm : k9 mask) : ∀ (hs : List Int) (ow : Array (Option Nat)) (k : Nat), Own mask ow k -> k + hs.length <= mask -> ∃ ow', hs.foldl (fun acc h => do
  let (owner, k) <- acc
  let j <- SetTable.layClean.free mask owner (SetTable.turns mask) (SetTable.bits h % (mask + 1)) (SetTable.bits h)
  pure (owner.setIfInBounds j (some k), k + 1)) (some (ow, k)) = some (ow', k + hs.length) /\ Own mask ow' (k + hs.length)
 | [], ow, k, o, _ => ⟨ow, rfl, o⟩
 | h :: hs, ow, k, o, hk => by
  rw [List.length_cons] at hk
  obtain ⟨j, j1, j2⟩ := aDn hm o (by omega) h
  obtain ⟨ow', e, o'⟩ := wX hm hs _ _ j2 (by omega)
  rw [show k + 1 + hs.length = k + (h :: hs).length by rw [List.length_cons]; omega] at e o'
  refine ⟨ow', ?_, o'⟩
  rw [List.foldl_cons, <- e]
  congr 1
  show (SetTable.layClean.free mask ow _ _ _).bind _ = _
  rw [j1]
  rfl
theorem aIm {mask : Nat} (hm : k9 mask) (hs : Array Int) (hk : hs.size <= mask) : ∃ ow, SetTable.layClean mask hs = some ow /\ Own mask ow hs.size := by
 have o0 : Own mask (Array.replicate (mask + 1) none) 0 := ⟨by simp, by rw [Array.toList_replicate]; exact aA4 _, fun j x z => by
  rw [Array.getElem?_replicate] at z
  split at z <;> cases z⟩
 obtain ⟨ow, e, o⟩ := wX hm hs.toList _ 0 o0 (by rw [Array.length_toList]; omega)
 rw [Array.length_toList, Nat.zero_add] at e o
 refine ⟨ow, ?_, o⟩
 unfold SetTable.layClean
 rw [<- Array.foldl_toList]
 exact (congrArg (Option.map Prod.fst) e).trans rfl
theorem aE3 {α β : Type} {f : α -> Option β} : ∀ {l : List α}, (∀ x ∈ l, (f x).isSome = true) -> (l.filterMap f).length = l.length
 | [], _ => rfl
 | x :: l, h => by
  obtain ⟨y, hy⟩ := Option.isSome_iff_exists.mp (h x (.head _))
  rw [List.filterMap_cons, hy]
  dsimp only
  rw [List.length_cons, aE3 fun z hz => h z (.tail _ hz), List.length_cons]
theorem uB {α : Type} (g : Nat -> Option α) : ∀ l : List Nat, (l.filterMap fun j => (g j).map fun x => (j, x)).length = ((l.map g).filterMap id).length
 | [] => rfl
 | x :: l => by
  rw [List.filterMap_cons, List.map_cons, List.filterMap_cons]
  cases g x with
  | none => exact uB g l
  | some y => exact congrArg Nat.succ (uB g l)
theorem aB7 (ow : Array (Option Nat)) : (List.range ow.size).map (fun j => ow.getD j none) = ow.toList := by
 apply List.ext_getElem
 ·simp
 ·intro i h1 h2
  have : i < ow.size := by simpa using h1
  simp [Array.getD, this]
theorem yP {t : SetTable} {es : Array (Int × Value)} {wanted : Nat} (hm : k9 (SetTable.sizeAbove wanted - 1)) (hk : es.size <= SetTable.sizeAbove wanted - 1) : ∃ t' order, t.relaid (es.map (·.1)) wanted = some (t', order) /\ t'.mask = SetTable.sizeAbove wanted - 1 /\ t'.dummies = #[] /\ t'.place.size = es.size /\ (order.filterMap (es[·]?)).size = es.size := by
 obtain ⟨ow, e, o⟩ := aIm hm (es.map (·.1)) (by rw [Array.size_map]; exact hk)
 rw [Array.size_map] at o
 have ll : ((List.range (SetTable.sizeAbove wanted - 1 + 1)).filterMap fun j => (ow.getD j none).map fun x => (j, x)).length = es.size := by
  rw [uB, <- o.s, aB7]
  exact o.c
 unfold SetTable.relaid SetTable.laid
 rw [e]
 refine ⟨_, _, rfl, rfl, rfl, ?_, ?_⟩
 ·rw [List.size_toArray, List.length_map]
  exact ll
 ·rw [<- Array.length_toList, Array.toList_filterMap, List.toList_toArray, aE3 fun x hx => ?_, List.length_map]
  ·exact ll
  ·obtain ⟨y, hy, rfl⟩ := List.mem_map.mp hx
   obtain ⟨j, _, hj⟩ := List.mem_filterMap.mp hy
   have : y.2 < es.size := by
    refine o.v j y.2 ?_
    cases q : ow[j]? with
    | none => rw [Array.getD_eq_getD_getElem?, q] at hj; cases hj
    | some x =>
     rw [Array.getD_eq_getD_getElem?, q] at hj
     cases x with
     | none => cases hj
     | some x => cases hj; rfl
   simp [this]
theorem wW {α : Type} (xs : Array α) (p : Nat) (x : α) : (SetTable.insertAt xs p x).size = xs.size + 1 := by
 unfold SetTable.insertAt
 simp
 omega
theorem ext_mem {α : Type} {xs : Array α} {a b : Nat} {y : α} (h : y ∈ xs.extract a b) : y ∈ xs := by
 rw [<- Array.mem_toList_iff] at h ⊢
 rw [Array.toList_extract] at h
 exact List.mem_of_mem_drop (List.mem_of_mem_take h)
theorem aHb {α : Type} {xs : Array α} {p : Nat} {x y : α} (h : y ∈ SetTable.insertAt xs p x) : y = x \/ y ∈ xs := by
 unfold SetTable.insertAt at h
 rcases Array.mem_append.mp h with z | z
 ·rcases Array.mem_push.mp z with z | z
  ·exact .inr (ext_mem z)
  ·exact .inl z
 ·exact .inr (ext_mem z)
section
variable {prog : Program} {w : World} {A : Around} {E : Value -> Shared -> Prop} {s : Shared} {K : Type} [DecidableEq K] {knd : KeyKind prog w K}
theorem aF3 {M : Model} {v : Value} (n : Nat) (h : carriedByValue v = true) : ∃ b, hashByValue n v = pure b := by
 cases v with
 | ref a => simp [carriedByValue] at h
 | float x y => cases n <;> exact ⟨_, rfl⟩
 | _ => cases n <;> exact ⟨_, rfl⟩
theorem aHs {ks : List K} {a : Addr} {Q : Bool -> Shared -> Prop} (hk : IsTupleKey knd s.heap ks a) (h : ∀ b, Q b s) : wpAny (model prog w) A (hashByValue 8 (.ref a)) Q E s := by
 have hT := hk.typeIs
 obtain ⟨o, items, n, ho, _, hd, hi⟩ := hk
 have bv := hi.byValue
 unfold hashByValue
 refine wpAny_bind (wpAny_specialOf hT F.slot_tuple_hash.lookup ?_)
 dsimp only
 refine wpAny_bind (wpAny_seqItems ho hd ?_)
 refine wpAny_bind (wpAny_forIn_array' _ (fun rest b s' => s' = s /\ ∀ v ∈ rest, carriedByValue v = true) _ ?_ ?_ _ _ ⟨rfl, bv⟩)
 ·rintro x rest b s1 ⟨rfl, hx⟩
  obtain ⟨c, hc⟩ := aF3 (M := model prog w) 7 (hx x (.head _))
  refine wpAny_bind (wpAny_of_eq hc ?_)
  cases c
  ·exact wpAny_pure (wpAny_pure (h _))
  ·exact wpAny_pure ⟨rfl, fun v hv => hx v (.tail _ hv)⟩
 ·rintro b s1 ⟨rfl, _⟩
  obtain ⟨b1, b2⟩ := b
  cases b1 with
  | none => exact wpAny_pure (h _)
  | some c => exact wpAny_pure (h _)
def TupS (h : Heap) (S : Addr) (hs : List Int) : Prop := ∃ o es ep t, h.get? S = some o /\ o.ExactSet /\ o.data = .set es ep t /\ t.dummies = #[] /\ t.place.size = es.size /\ es.size = hs.length /\ (∀ e ∈ es, e.1 ∈ hs) /\ ((t.mask = 7 /\ es.size <= 4) \/ (t.mask = 31 /\ es.size <= 18))
theorem fits_of {t : SetTable} {n : Nat} (hd : t.dummies = #[]) (hp : t.place.size = n) (hm : n <= t.mask) : t.fits n = true := by
 unfold SetTable.fits SetTable.fill
 rw [hd, hp]
 simpa using hm
theorem vJ {h : Heap} {S : Addr} {o : Obj} {es : Array (Int × Value)} {ep : Nat} {t : SetTable} (ho : h.get? S = some o) (hd : o.data = .set es ep t) (es' : Array (Int × Value)) (t' : SetTable) :
  (h.update S (Obj.putSet es' t')).get? S = some { o with data := .set es' (ep + 1) t' } := by
 have := Heap.get?_update_self (Obj.putSet es' t') ho (by rw [putSet_of es' t' hd]; rfl)
 rw [putSet_of es' t' hd] at this
 exact this
theorem aDg {S : Addr} {hs : List Int} {o : Obj} {es : Array (Int × Value)} {ep : Nat} {t : SetTable} {Q : Unit -> Shared -> Prop} (ho : s.heap.get? S = some o) (hex : o.ExactSet) (hd : o.data = .set es ep t) (td : t.dummies = #[]) (tp : t.place.size = es.size) (el : es.size = hs.length) (em : ∀ e ∈ es, e.1 ∈ hs) (tm : t.mask = 7) (e5 : es.size = 5)
  (q : ∀ h', Heap.SameBut S s.heap h' -> TupS h' S hs -> Q () { s with heap := h' }) : wpAny (model prog w) A (setRelay S (SetTable.grown 5)) Q E s := by
 have hf := fits_of td tp (by omega)
 have sa : SetTable.sizeAbove (SetTable.grown 5) = 32 := by decide
 obtain ⟨t', order, r1, r2, r3, r4, r5⟩ := yP (t := t) (es := es) (wanted := SetTable.grown 5) (by rw [sa]; exact .inr rfl) (by rw [sa]; omega)
 rw [sa] at r2
 unfold setRelay
 refine wpAny_bind (wpAny_setState_of ho hd hf ?_)
 dsimp only
 rw [sa, if_neg (by rw [sizeLine_eq]; decide), r1]
 refine wpAny_bind ?_
 show wpAny (model prog w) A (if ((order.filterMap (es[·]?)).size != es.size) = true then (unsupported "internal:set-table-lost-an-element" >>= fun _ => pure (order.filterMap (es[·]?), t')) else pure (order.filterMap (es[·]?), t')) _ _ _
 rw [if_neg (by rw [r5]; simp)]
 refine wpAny_pure ?_
 dsimp only
 refine wpAny_storeSet_of ho hd ?_ (by rw [r5, sizeLine_eq]; omega)
 refine q _ (Heap.SameBut.update ..) ⟨_, _, _, t', vJ ho hd _ _, hex, rfl, r3, by rw [r4, r5], by rw [r5, el], fun e he => ?_, .inr ⟨r2, by rw [r5]; omega⟩⟩
 obtain ⟨x, _, hx⟩ := Array.mem_filterMap.mp he
 exact em e (Array.mem_of_getElem? hx)
theorem aG0 {S : Addr} {hs : List Int} {o : Obj} {es es1 : Array (Int × Value)} {ep : Nat} {t t1 : SetTable} {Q : Bool -> Shared -> Prop} (ho : s.heap.get? S = some o) (hex : o.ExactSet) (hd : o.data = .set es ep t) (td : t1.dummies = #[]) (tp : t1.place.size = es1.size) (el : es1.size = hs.length) (em : ∀ e ∈ es1, e.1 ∈ hs) (mm : (t1.mask = 7 /\ es1.size <= 5) \/ (t1.mask = 31 /\ es1.size <= 18))
  (q : ∀ h', Heap.SameBut S s.heap h' -> TupS h' S hs -> Q true { s with heap := h' }) : wpAny (model prog w) A (do
   storeSet S es1 t1
   if (!false && t1.tooFull) = true then do
    setRelay S (SetTable.grown es1.size)
    pure true
   else pure true) Q E s := by
 refine wpAny_bind (wpAny_storeSet_of ho hd ?_ (by rw [sizeLine_eq]; omega))
 have ho1 := vJ ho hd es1 t1
 have sb := Heap.SameBut.update s.heap S (Obj.putSet es1 t1)
 have full : t1.tooFull = decide (t1.mask = 7 /\ es1.size = 5) := by
  unfold SetTable.tooFull SetTable.fill
  rw [td, tp]
  rcases mm with ⟨z, y⟩ | ⟨z, y⟩ <;> rw [z] <;> simp <;> omega
 by_cases z : t1.mask = 7 /\ es1.size = 5
 ·rw [full, decide_eq_true z, if_pos (by decide), z.2]
  exact wpAny_bind (aDg ho1 hex rfl td tp el em z.1 z.2 fun h' s2 T => wpAny_pure (q h' (sb.trans s2) T))
 ·rw [full, decide_eq_false z, if_neg (by decide)]
  refine wpAny_pure (q _ sb ⟨_, _, _, t1, ho1, hex, rfl, td, tp, el, em, ?_⟩)
  rcases mm with ⟨y, x⟩ | y
  ·exact .inl ⟨y, by omega⟩
  ·exact .inr y
theorem aJy {S a : Addr} {hs : List Int} {ks : List K} {h : Int} {Q : Bool -> Shared -> Prop} (T : TupS s.heap S hs) (hk : IsTupleKey knd s.heap ks a) (hn : h ∉ hs) (hl : hs.length < 18)
  (q : ∀ h', Heap.SameBut S s.heap h' -> TupS h' S (h :: hs) -> Q true { s with heap := h' }) : wpAny (model prog w) A (setAddHashed S (.ref a) h) Q E s := by
 obtain ⟨o, es, ep, t, ho, hex, hd, td, tp, el, em, mm⟩ := T
 have mok : k9 t.mask := mm.imp And.left And.left
 have sm : es.size <= t.mask := by rcases mm with z | z <;> omega
 have hf := fits_of td tp sm
 have odd : t.gaveWay = false := by
  unfold SetTable.gaveWay
  rcases mok with z | z <;> rw [z] <;> rfl
 obtain ⟨j, hj⟩ := xZ mok td (by rw [tp]; exact sm) (f := fun i => (es[i]?.map (·.1)).getD 0) (h := h) fun i hi z => by
  rw [tp] at hi
  have : (es[i]?.map (·.1)).getD 0 = (es[i]).1 := by simp [hi]
  have z : (es[i]?.map (·.1)).getD 0 = h := z
  rw [this] at z
  exact hn (by rw [<- z]; exact em _ (Array.getElem_mem hi))
 unfold setAddHashed setAddHashedIn
 refine wpAny_holding (wpAny_bind (wpAny_setState_of ho hd hf ?_))
 dsimp only
 have bs : byScan (.ref a) es = false := rfl
 rw [bs]
 simp only [Bool.false_eq_true, if_false]
 refine wpAny_bind ?_
 unfold setSearch setSearchFrom
 refine wpAny_bind (wpAny_setState_of ho hd hf ?_)
 dsimp only
 rw [odd]
 simp only [Bool.false_eq_true, if_false]
 generalize hg : t.probe _ h _ = met
 cases (show met = some (.empty j none) from hg.symm.trans hj)
 dsimp only
 refine wpAny_pure ?_
 dsimp only
 refine wpAny_bind (wpAny_setState_of ho hd hf ?_)
 dsimp only
 have isz := wW es (t.put j).2 (h, Value.ref a)
 have pd : (t.put j).1.dummies = #[] := by
  unfold SetTable.put
  rw [td]
  rfl
 have pp : (t.put j).1.place.size = (SetTable.insertAt es (t.put j).2 (h, Value.ref a)).size := by
  rw [isz, <- tp]
  exact wW _ _ _
 have pm : (t.put j).1.mask = t.mask := rfl
 have fin : ∀ b : Bool, wpAny (model prog w) A (do
   storeSet S (SetTable.insertAt es (t.put j).2 (h, Value.ref a)) (if b = true then (t.put j).1 else { (t.put j).1 with plain := false })
   if (!false && (if b = true then (t.put j).1 else { (t.put j).1 with plain := false }).tooFull) = true then do
    setRelay S (SetTable.grown (es.size + 1))
    pure true
   else pure true) Q E s := fun b => by
  have e1 : (if b = true then (t.put j).1 else { (t.put j).1 with plain := false }).dummies = #[] := by cases b <;> exact pd
  have e2 : (if b = true then (t.put j).1 else { (t.put j).1 with plain := false }).place.size = (SetTable.insertAt es (t.put j).2 (h, Value.ref a)).size := by cases b <;> exact pp
  have e3 : (if b = true then (t.put j).1 else { (t.put j).1 with plain := false }).mask = t.mask := by cases b <;> rfl
  rw [<- isz]
  refine aG0 ho hex hd e1 e2 (by rw [isz, el, List.length_cons]) (fun e he => ?_) (by rw [e3, isz]; omega) q
  rcases aHb he with z | z
  ·rw [z]; exact .head _
  ·exact .tail _ (em e z)
 split
 ·exact wpAny_bind (aHs hk fin)
 ·exact wpAny_bind (wpAny_pure (fin true))
end
def hsN (f : Nat -> Int) : Nat -> List Int
 | 0 => []
 | n + 1 => f n :: hsN f n
theorem uF (f : Nat -> Int) : ∀ n, (hsN f n).length = n
 | 0 => rfl
 | n + 1 => congrArg Nat.succ (uF f n)
theorem yT {f : Nat -> Int} {x : Int} : ∀ {n : Nat}, x ∈ hsN f n -> ∃ i, i < n /\ f i = x
 | n + 1, h => by
  rcases List.mem_cons.mp h with z | z
  ·exact ⟨n, Nat.lt_succ_self _, z.symm⟩
  ·obtain ⟨i, h1, h2⟩ := yT z
   exact ⟨i, Nat.lt_succ_of_lt h1, h2⟩
theorem uE {prog : Program} {w : World} {K : Type} [DecidableEq K] {knd : KeyKind prog w K} {h h' : Heap} {ks : List K} {a : Addr} (hk : IsTupleKey knd h ks a) (q : ∀ o, h.get? a = some o -> h'.get? a = some o) : IsTupleKey knd h' ks a := by
 obtain ⟨o, items, n, ho, r⟩ := hk
 exact ⟨o, items, n, q o ho, r⟩
theorem TupS.at {h h' : Heap} {S : Addr} {hs : List Int} (T : TupS h S hs) (q : ∀ o, h.get? S = some o -> h'.get? S = some o) : TupS h' S hs := by
 obtain ⟨o, es, ep, t, ho, r⟩ := T
 exact ⟨o, es, ep, t, q o ho, r⟩
section
variable {prog : Program} {w : World} {A : Around} {K : Type} [DecidableEq K] {knd : KeyKind prog w K} {R : Result -> Shared -> Prop} {I : Addr} {fp wr : List Addr} {G : Array GenState -> Array GenState -> Prop} {n : Nat} {P : Nat -> Value -> Prop} {St : Nat -> Shared -> Prop}
theorem zZ (W : WalksS prog w A.in1 I fp wr G n P St) (hu : A.in1.units < cLine) {S : Addr} (hSf : S ∉ fp) (ky : Nat -> List K) (hinj : ∀ i j, i < n -> j < n -> tupleKeyHash knd (ky i) = tupleKeyHash knd (ky j) -> i = j) (hb : n <= 18) :
  ∀ (k i : Nat) (s : Shared), n - i = k -> i <= n -> St i s -> TupS s.heap S (hsN (fun i => tupleKeyHash knd (ky i)) i) -> (∀ i v, i < n -> P i v -> ∃ a, v = .ref a /\ a ∉ S :: wr /\ IsTupleKey knd s.heap (ky i) a) ->
   (∀ s', Moved (S :: wr) G s s' -> TupS s'.heap S (hsN (fun i => tupleKeyHash knd (ky i)) n) -> R (.ok (.ret .none)) s') ->
   codeAny (model prog w) A (.builtin "set.update.loop" ⟨[.ref S, .ref I], []⟩) R s := by
 have hSw : S ∉ wr := fun z => hSf (W.sub _ z)
 have sub : ∀ b ∈ wr, b ∈ S :: wr := fun b z => .tail _ z
 intro k
 induction k with
 | zero =>
  intro i s hk hi st T _ q
  cases (show i = n by omega)
  refine codeAny_builtin PyProof.Rows.F.entry_set_update_loop ?_
  rw [Around.under_plainId PyProof.Rows.F.plain_set_update_loop _]
  unfold Builtin.«set.update.loop»
  refine wpAny_bind (W.done s _ _ st fun s' mv => ?_)
  exact wpAny_pure (q s' (mv.mono sub) (T.at fun o e => mv.heap S o hSw e))
 | succ k ih =>
  intro i s hk hi st T kt q
  have lt : i < n := by omega
  refine codeAny_builtin PyProof.Rows.F.entry_set_update_loop ?_
  rw [Around.under_plainId PyProof.Rows.F.plain_set_update_loop _]
  unfold Builtin.«set.update.loop»
  refine wpAny_bind (W.item i s _ _ lt st fun v s' hP st' mv => ?_)
  obtain ⟨a, rfl, ha, hka⟩ := kt i v lt hP
  have T' := T.at (h' := s'.heap) fun o e => mv.heap S o hSw e
  have aw : a ∉ wr := fun z => ha (.tail _ z)
  have hka' := uE (h' := s'.heap) hka fun o e => mv.heap a o aw e
  dsimp only
  refine wpAny_bind (wpAny_holding ?_)
  unfold setAdd
  refine wpAny_holding (wpAny_bind (wpAny_pyHash_tuple hu hka' ?_))
  refine aJy (s := { s' with toks := s'.toks + ((ky i).length + 1) }) (knd := knd) (ks := ky i) T' hka' (fun z => ?_) (by rw [uF]; omega) fun h' sb T2 => ?_
  ·obtain ⟨j, j1, j2⟩ := yT z
   have := hinj j i (by omega) lt j2
   omega
  ·have mv2 : Moved (S :: wr) G s { s' with heap := h', toks := s'.toks + ((ky i).length + 1) } := (mv.mono sub).then_heap (Nat.le_add_right _ _) fun b o hb e => by
    rw [sb.2 b (fun z => hb (by rw [z]; exact .head _))]
    exact e
   refine wpAny_pure ⟨plainId_quiet PyProof.Rows.F.plain_set_update_loop _, ih (i + 1) _ (by omega) lt (W.frame _ s' _ _ st' (Nat.le_add_right _ _) fun b hb o e => ?_) T2 (fun j v hj hv => ?_) fun s2 m2 T3 => ?_⟩
   ·rw [sb.2 b (fun z => hSf (by rw [<- z]; exact hb))]
    exact e
   ·obtain ⟨b, rfl, hb, hkb⟩ := kt j v hj hv
    exact ⟨b, rfl, hb, uE hkb fun o e => mv2.heap b o hb e⟩
   ·exact q s2 (Moved.trans W.gtrans mv2 m2) T3
end
section
variable {prog : Program} {w : World} {A : Around} {E : Value -> Shared -> Prop} {s : Shared} {K : Type} [DecidableEq K] {knd : KeyKind prog w K}
def aCt (led : Bool) : Obj := { cls := .type "set", dict := none, data := .set #[] 0 (.fresh 0 0 led) }
theorem aA1 {x : Value} {Q : Value -> Shared -> Prop}
  (h : ∀ led, wpAny (model prog w) A.in1.in1 (Builtin.«set.__init__» ⟨[.ref s.heap.objs.size, x], []⟩)
   (fun fin s' => match fin with | .done f => wants (fun r s₂ => r = .none /\ Q (.ref s.heap.objs.size) s₂) E (.ok f) s' | .again c' => c'.quiet = true /\ codeAny (model prog w) A.in1 c' (wants (fun r s₂ => r = .none /\ Q (.ref s.heap.objs.size) s₂) E) s')
   (fun e s' => wants (fun r s₂ => r = .none /\ Q (.ref s.heap.objs.size) s₂) E (.error e) s') { s with heap := s.heap.push (aCt led) }) :
  wpAny (model prog w) A (call (.type "set") [x]) Q E s := by
 have ft := F.called_set
 obtain ⟨c, tl, hmro⟩ := ft.mro
 have hmade := ft.made
 have hsub := ft.sub
 have h1 := ft.notType
 have h2 := ft.canCreate
 have hct := F.typeCall_set_1 x
 refine wpAny_call (codeAny_of_tree (wpAny_pure ⟨Code.quiet_builtin _ (by decide +kernel), codeAny_builtin F.entry_type_call ?_⟩))
 rw [Around.under_plain (weight_type_call_type "set" [x] []) rfl]
 repeat (any_goals (first | assumption | wp_step))
 refine codeAny_mono (code_set_new_1 x (E := E) (Q₁ := fun obj s₁ => ∃ led, obj = .ref s.heap.objs.size /\ s₁ = { s with heap := s.heap.push (aCt led) }) fun led => ⟨led, rfl, rfl⟩) fun r s₁ hr => ?_
 cases r with
 | error e => exact hr
 | ok fl =>
  cases fl with
  | ret obj =>
   obtain ⟨led, rfl, rfl⟩ := hr
   have hT : Shared.TypeIs { s with heap := s.heap.push (aCt led) } (.ref s.heap.objs.size) "set" := ⟨_, Heap.get?_push_size _ rfl, rfl⟩
   have hli := ft.init.lookup
   have hbi := ft.init.bind (.ref s.heap.objs.size)
   repeat (any_goals (first | assumption | wp_step))
   refine codeAny_mono (codeAny_call_builtin ft.init.plain F.entry_set_init (check_set_init_1 hT (h led))) fun r₂ s₂ hr₂ => ?_
   cases r₂ with
   | error e => exact hr₂
   | ok f2 =>
    cases f2 with
    | ret u =>
     obtain ⟨rfl, hq⟩ := hr₂
     repeat (any_goals (first | assumption | wp_step))
    | _ => exact hr₂.elim
  | _ => exact hr.elim
theorem yL (hh : A.handled = none) (hu : A.units + 10 < cLine) {l : Addr} {items : Array Value} (ky : Nat -> List K) (hl : s.heap.IsList l items) (hz : items.size <= 18)
  (hk : ∀ i v, items[i]? = some v -> ∃ a, v = .ref a /\ IsTupleKey knd s.heap (ky i) a) (hinj : ∀ i j, i < items.size -> j < items.size -> tupleKeyHash knd (ky i) = tupleKeyHash knd (ky j) -> i = j)
  {Q : Value -> Shared -> Prop} (q : ∀ h' tk hs, TupS h' s.heap.objs.size hs -> hs.length = items.size -> (∀ b o, s.heap.get? b = some o -> h'.get? b = some o) -> s.toks <= tk -> Q (.ref s.heap.objs.size) { s with heap := h', toks := tk }) :
  wpAny (model prog w) A (call (.type "set") [.ref l]) Q E s := by
 refine aA1 fun led => ?_
 obtain ⟨ol, hol, hcl, nl, hdl⟩ := id hl
 have hS : (s.heap.push (aCt led)).get? s.heap.objs.size = some (aCt led) := Heap.get?_push_size _ rfl
 have hl1 : (s.heap.push (aCt led)).IsList l items := ⟨ol, Heap.get?_push_of_some _ hol, hcl, nl, hdl⟩
 have tl : Shared.TypeIs { s with heap := s.heap.push (aCt led) } (.ref l) "list" := ⟨ol, Heap.get?_push_of_some _ hol, hcl⟩
 have hls : l < s.heap.objs.size := Heap.lt_size hol
 obtain ⟨ocls, odict, odata, oslots⟩ := ol
 simp only at hcl hdl
 subst hcl hdl
 have hol' : (s.heap.push (aCt led)).get? l = some { cls := .type "list", dict := odict, data := .seq items nl, slots := oslots } := Heap.get?_push_of_some _ hol
 have a1 := F.sub_list_set
 have a2 := F.sub_list_frozenset
 have a3 : (Value.type "list" == Value.type "dict") = false := by decide
 unfold aCt at hS hol' hl1 tl ⊢
 unfold Builtin.«set.__init__» noKeywords Builtin.Frozenset.updateFrom
 generalize hPI : pyIter = PI
 wp_walk
 subst hPI
 refine wpAny_pyIter_list hl1 (wpAny_bind (wpAny_runValue ?_))
 generalize hO : ({ cls := Value.type "set", data := Data.set #[] 0 (SetTable.fresh 0 0 led) } : Obj) = O at *
 have sz : (s.heap.push O).objs.size = s.heap.objs.size + 1 := by rw [Heap.size_push]
 have kp : ∀ b o, s.heap.get? b = some o -> ((s.heap.push O).push { cls := .type "list_iterator", data := .fields #[.ref l, .int 0 0] }).get? b = some o := fun b o e => Heap.get?_push_of_some _ (Heap.get?_push_of_some _ e)
 have nI : ∀ b, b <= s.heap.objs.size -> b ≠ (s.heap.push O).objs.size := fun b z y => by rw [sz] at y; omega
 refine zZ (knd := knd) (A := A.in1.in1) ((Walks.list (A := A.in1.in1.in1) hh (s.heap.push O).objs.size l (nI l (Nat.le_of_lt hls)) items).toS) (show A.units + 1 + 1 + 1 < cLine by omega) (S := s.heap.objs.size) (fun z => ?_) ky hinj hz items.size 0 _ rfl (Nat.zero_le _) ⟨⟨_, Heap.get?_push_size _ rfl, rfl, rfl⟩, hl1.push _⟩ ?_ (fun i v _ hv => ?_) fun s' mv T => ?_
 ·rcases List.mem_cons.mp z with z | z
  ·exact nI _ (Nat.le_refl _) z
  ·rw [List.mem_singleton.mp z] at hls
   exact Nat.lt_irrefl _ hls
 ·refine ⟨O, #[], 0, .fresh 0 0 led, Heap.get?_push_of_some _ hS, ?_, by rw [<- hO], rfl, rfl, rfl, fun e he => by simp at he, .inl ⟨rfl, Nat.zero_le _⟩⟩
  rw [<- hO]
  exact ⟨rfl, rfl, rfl⟩
 ·obtain ⟨a, rfl, ka⟩ := hk i v hv
  obtain ⟨oa, _, _, hoa, _⟩ := id ka
  have la := Heap.lt_size hoa
  refine ⟨a, rfl, fun z => ?_, uE ka fun o e => kp a o e⟩
  rcases List.mem_cons.mp z with z | z
  ·rw [z] at la
   exact Nat.lt_irrefl _ la
  ·exact nI a (Nat.le_of_lt la) (List.mem_singleton.mp z)
 ·refine wpAny_pure (wpAny_pure ⟨rfl, ?_⟩)
  obtain ⟨h', g', d', tk', os'⟩ := s'
  cases (show g' = s.gens from mv.gens)
  cases (show d' = s.drawn from mv.drawn)
  cases (show os' = s.os from mv.os)
  refine q h' tk' _ T (uF _ _) (fun b o e => mv.heap b o (fun z => ?_) (kp b o e)) mv.toks
  have lb := Heap.lt_size e
  rcases List.mem_cons.mp z with z | z
  ·rw [z] at lb
   exact Nat.lt_irrefl _ lb
  ·exact nI b (Nat.le_of_lt lb) (List.mem_singleton.mp z)
end
section
variable {X : Cx}
theorem aF1 : bootBuiltins "set" = some (.type "set") := by decide +kernel
def KL (H : Hp) (xs : List V) (ks : List (List Int)) : Prop := ∀ (i : Nat) x, xs[i]? = some x -> ∃ k b, ks[i]? = some k /\ x = .ref b /\ H b = some (.tup ((k.map Sum.inl).map kV))
def tLS (K : PySem.W.Frag) (te : TE) : TE := fun σ H Q => te σ H fun x H1 => ∃ a xs ks, x = .ref a /\ SqL K H1 a xs /\ xs.length = ks.length /\ KL H1 xs ks /\ ks.Nodup /\ (∀ k ∈ ks, ∃ i j : Int, k = [i, j] /\ (0 <= i /\ i <= 8) /\ (0 <= j /\ j <= 8)) /\ ks.length <= 18 /\ Q (.int (ks.length : Nat)) H1
theorem aAl : ∀ {xs : List V} {us : List Value}, Vals xs us -> ∀ (i : Nat) v, us[i]? = some v -> ∃ x, xs[i]? = some x /\ RelV x v
 | _, _, .nil, i, v, h => by simp at h
 | _, _, .cons r t, 0, v, h => by
  simp at h
  exact ⟨_, rfl, h ▸ r⟩
 | _, _, .cons r t, i + 1, v, h => aAl t i v h
theorem aCc {e : Expr} {te : TE} {p1 p2 pos1 pos2 : Pos} (hc : X.calm = true) (hu : X.A.units + 64 < cLine) (hg1 : Gl X "len") (hm1 : X.mg "len" = none) (hg2 : Gl X "set") (hm2 : X.mg "set" = none) (he : PE X e te)
  (hs1 : starEach [.Call (.Name "set" p2) [e] [] pos2] X.env = (false, eval (.Call (.Name "set" p2) [e] [] pos2) X.env) :: starEach [] X.env := by rfl) (hs2 : starEach [e] X.env = (false, eval e X.env) :: starEach [] X.env := by rfl) :
  PE X (.Call (.Name "len" p1) [.Call (.Name "set" p2) [e] [] pos2] [] pos1) (tLS X.K te) := by
 intro pins s σ H Q I h
 refine wpAny_Call_Name_kw (l9 I hg1 hm1 PySem.boot_len (PyProof.Rows.callWith_builtin1 ?_ hs1 rfl))
 rw [hs1]
 show wpAny _ _ (spliced ((false, eval _ X.env) :: backTo pos1 (starEach [] X.env))) _ _ s
 refine Calls.spliced_cons (wpAny_Call_Name_kw (l9 I hg2 hm2 aF1 (PyProof.Rows.callWith_type1 ?_ hs2 rfl)))
 rw [hs2]
 show wpAny _ _ (spliced ((false, eval _ X.env) :: backTo pos2 (starEach [] X.env))) _ _ s
 refine Calls.spliced_cons (thn (he pins s σ H _ I h) fun u s1 ⟨x, H1, I1, r1, a, xs, ks, ex, hq, hl, kl, nd, box, hz, q⟩ => Calls.spliced_nil ?_)
 subst ex
 cases (show u = Value.ref a from r1)
 obtain ⟨its, rv, pl, _⟩ := I1.list hq
 have hlen := rv.length
 have sz : its.toArray.size = ks.length := by rw [List.size_toArray, <- hlen, hl]
 refine yL (knd := fX X.prog X.w) (I.ok.hd hc) (by omega) (fun i => (ks.getD i []).map Sum.inl) pl.isList (by rw [sz]; exact hz) (fun i v hv => ?_) (fun i j hi hj e => ?_) fun h' tk hs T hln kp ht => Calls.spliced_nil ?_
 ·rw [List.getElem?_toArray] at hv
  obtain ⟨x, hx, rx⟩ := aAl rv i v hv
  obtain ⟨k, b, hk, rfl, hb⟩ := kl i x hx
  refine ⟨b, rx, ?_⟩
  have : ks.getD i [] = k := by simp [List.getD, hk]
  rw [this]
  exact aH8 I1.hok hb
 ·rw [sz] at hi hj
  have gi : ks.getD i [] = ks[i] := by simp [List.getD, hi]
  have gj : ks.getD j [] = ks[j] := by simp [List.getD, hj]
  rw [gi, gj] at e
  obtain ⟨i1, j1, e1, b1, b2⟩ := box _ (List.getElem_mem hi)
  obtain ⟨i2, j2, e2, b3, b4⟩ := box _ (List.getElem_mem hj)
  rw [e1, e2] at e
  obtain ⟨z1, z2⟩ := aJ2 X.prog X.w b1 b2 b3 b4 e
  have : ks[i] = ks[j] := by rw [e1, e2, z1, z2]
  have p := List.pairwise_iff_getElem.mp nd
  rcases Nat.lt_trichotomy i j with z | z | z
  ·exact absurd this (p i j hi hj z)
  ·exact z
  ·exact absurd this.symm (p j i hj hi z)
 ·obtain ⟨o, es, ep, t, ho, hex, hd, td, tp, el, _, mm⟩ := T
  have en : es.size = ks.length := by rw [el, hln, sz]
  refine PySem.call_len_set ho hex hd (fits_of td tp (by omega)) (by rw [en]; omega) ⟨.int (ks.length : Nat), H1, (I1.kept (t' := tk) kp).tok _, ?_, q⟩
  rw [en]
  exact ⟨_, rfl⟩
end
end L2
namespace M
open PySem PySem.Spec PyProof.Rows L2
def lV (x : Ev) : Res Ev := match e8 x with
 | some ds => match qX ds with
  | some ks => if (ks.all w6 && decide ks.Nodup && decide (ks.length <= 18)) = true then .ok (.p (.int (ks.length : Nat))) else .bad
  | none => .bad
 | none => .bad
theorem jL {K : PySem.W.Frag} {G : Hp} : ∀ {zs : List V} {k : List Int}, Reps K G zs (k.map .int) -> zs = (k.map Sum.inl).map kV
 | [], [], _ => rfl
 | [], _ :: _, r => by cases r
 | _ :: _, [], r => by cases r
 | z :: zs, i :: k, .cons r t => by
  cases r
  rw [jL t]
  rfl
theorem aB0 {K : PySem.W.Frag} {G H : Hp} (gh : Same G H) : ∀ {xs : List V} {ks : List (List Int)}, Reps K G xs (ks.map uO) -> KL H xs ks
 | [], ks, _, i, x, h => by simp at h
 | y :: ys, [], r, i, x, h => by cases r
 | y :: ys, k :: ks, .cons r t, i, x, h => by
  cases i with
  | zero =>
   simp at h
   subst h
   cases r with
   | @tup a zs _ ha hz =>
    refine ⟨k, a, rfl, rfl, ?_⟩
    have : zs = (k.map Sum.inl).map kV := jL hz
    rw [<- this]
    exact gh _ _ ha
  | succ i => exact aB0 gh t i x h
theorem aBn {X : Cx} {E : L2.St -> XK} {e : Expr} {fe : En -> Res Ev} {p1 p2 pos1 pos2 : Pos} (hc : X.calm = true) (hu : X.A.units + 64 < cLine) (hg1 : Gl X "len") (hm1 : X.mg "len" = none) (hg2 : Gl X "set") (hm2 : X.mg "set" = none) (he : DE X E e fe)
  (hs1 : starEach [.Call (.Name "set" p2) [e] [] pos2] X.env = (false, eval (.Call (.Name "set" p2) [e] [] pos2) X.env) :: starEach [] X.env := by rfl) (hs2 : starEach [e] X.env = (false, eval e X.env) :: starEach [] X.env := by rfl) :
  DE X E (.Call (.Name "len" p1) [.Call (.Name "set" p2) [e] [] pos2] [] pos1) (mUn lV fe) := by
 obtain ⟨t, q, m⟩ := he.out
 refine DE.in ⟨_, aCc hc hu hg1 hm1 hg2 hm2 q hs1 hs2, fun B G0 G W H σ en Q hh hs hw => m B G0 G W H σ en _ hh hs ?_⟩
 have hw : wpR ((fe en).bind _) _ _ := hw
 rw [bO] at hw
 refine a5 hw (fun r hr G1 H1 v s e => ?_) fun C h => h
 obtain ⟨G2, s2, e2⟩ := e.c s
 unfold lV at hr
 cases el : e8 r.c with
 | none => rw [el] at hr; exact hr.elim
 | some ds =>
  rw [el] at hr
  dsimp only at hr
  cases ek : qX ds with
  | none => rw [ek] at hr; exact hr.elim
  | some ks =>
   rw [ek] at hr
   dsimp only at hr
   by_cases hz : (ks.all w6 && decide ks.Nodup && decide (ks.length <= 18)) = true
   ·rw [if_pos hz] at hr
    rw [Bool.and_eq_true, Bool.and_eq_true, decide_eq_true_iff, decide_eq_true_iff] at hz
    obtain ⟨a, xs, rfl, h1, h2⟩ := kM s2.gh e2 el
    cases (rJ ek)
    refine ⟨a, xs, ks, rfl, .inl h1, by rw [h2.length, List.length_map], aB0 s2.gh h2, hz.1.2, fun k hk => ?_, hz.2, hr G2 _ _ s2 (.int _)⟩
    have := List.all_eq_true.mp hz.1.1 k hk
    unfold w6 at this
    split at this
    ·rename_i i j
     rw [Bool.and_eq_true] at this
     exact ⟨i, j, rfl, of_decide_eq_true this.1, of_decide_eq_true this.2⟩
    ·cases this
   ·rw [if_neg hz] at hr
    exact hr.elim
def Fr2 (B G : Hp) (v : V) : Prop := ∃ a b c xs ys, v = .ref a /\ G a = some (.tup [.ref b, .ref c]) /\ G b = some (.lst xs) /\ G c = some (.lst ys) /\ B b = none /\ B c = none /\ b ≠ c
def spF (K : PySem.W.Frag) (n : Nat) (m : List L -> Res L) : Sp := fun vs H Q E => vs.length = n /\ ∃ G ls, Same G H /\ ArgsOk K G vs ls /\
 wpR (m ls) (fun l => ∀ G' H' v, Step G H G' H' -> aAp K H G' H' v l -> Fr2 H G' v -> Q v H') (fun C => ∀ G' H', Step G H G' H' -> E (.ref C) none H')
structure CalF (P : Program) (w : World) (K : PySem.W.Frag) (mg : Str -> Option Value) (base : Heap) (k : Nat) (x : Str) (n : Nat) (m : List L -> Res L) : Prop where
 ex : ∃ f fd ps, FnOk P w K mg base (CXr P w) k f fd ps (spF K n m) /\ Binds K fd ps [] /\ PySem.W.keepIn K (.ref f) = true /\ mg x = some (.ref f)
theorem CalF.cal {P : Program} {w : World} {K : PySem.W.Frag} {mg : Str -> Option Value} {base : Heap} {k n : Nat} {x : Str} {m : List L -> Res L} (h : CalF P w K mg base k x n m) : Cal P w K mg base k x n m := by
 obtain ⟨f, fd, ps, F, r⟩ := h.ex
 exact ⟨f, fd, ps, F.imp fun vs H Q E ⟨h1, G, ls, h2, h3, h4⟩ => ⟨h1, G, ls, h2, h3, a5 h4 (fun l hl G' H' v s r _ => hl G' H' v s r) fun C h => h⟩, r⟩
def aL5 (K : PySem.W.Frag) (B G0 : Hp) (E : L2.St -> XK) (Dn : Ends) : Out -> Prop
 | .rt l => ∀ G W H v, SimH B G0 G W H -> aAp K B G H v l -> Fr2 B G v -> Dn.rt v H
 | .ex C en => ∀ G W H σ, SimH B G0 G W H -> SimS K W G H σ en -> E σ (.ref C) none H
 | _ => False
def tSF (K : PySem.W.Frag) (E : L2.St -> XK) (f : MS) : TS := fun Dn σ H => ∃ B G0 G W en, SimH B G0 G W H /\ SimS K W G H σ en /\ wpO (f en) (aL5 K B G0 E Dn)
structure DSF (X : Cx) (E : L2.St -> XK) (st : List Stmt) (f : MS) : Prop where
 p : PSs X st (tSF X.K E f)
 n : ∀ en e, f en ≠ some (.nx e)
theorem Step.keep {G H G1 H1 : Hp} {a : Addr} {o : HO} (s : Step G H G1 H1) (h1 : H a = none) (h2 : G1 a = none) (h3 : H1 a = some o) : Step G H (upd G1 a o) H1 :=
 ⟨s.g.trans (Same.upd (Same.refl _) h2 o), s.h, fun b u q => by
  by_cases z : b = a
  ·subst z; rw [aY] at q; rw [h3]; exact q
  ·rw [aU z] at q; exact s.gh b u q, fun b hb hg => by
  have z : b ≠ a := fun z => hb (z ▸ h1)
  rw [aU z]; exact s.new b hb hg⟩
section
variable {X : Cx} {E : L2.St -> XK} {st : Stmt} {sts : List Stmt} {f g : MS} {fe : En -> Res Ev} {e : Expr} {pos : Pos}
theorem lC (h1 : DS X E st f) (hr : ∀ en l, f en ≠ some (.rt l)) (h2 : DSF X E sts g) : DSF X E (st :: sts) (b8 f g) := by
 obtain ⟨t, p, m⟩ := h1.out
 refine ⟨?_, fun en e => ?_⟩
 ·rintro pins s σ H Dn I ⟨B, G0, G, W, en, hh, hs, hw⟩
  refine gR p h2.p pins s σ H Dn I (m B G0 G W H σ en _ hh hs ?_)
  unfold b8 at hw
  cases ef : f en with
  | none => rw [ef] at hw; exact hw
  | some r =>
   rw [ef] at hw
   cases r with
   | nx e => exact fun G1 W1 H1 σ1 hh1 hs1 => ⟨B, G0, G1, W1, e, hh1, hs1, hw⟩
   | rt l => exact absurd ef (hr en l)
   | bk e => exact False.elim hw
   | ct e => exact False.elim hw
   | ex C e => exact hw
 ·unfold b8
  cases ef : f en with
  | none => exact fun z => nomatch z
  | some r =>
   cases r with
   | nx e' => exact h2.n e' e
   | rt l => exact fun z => nomatch z
   | bk e => exact fun z => nomatch z
   | ct e => exact fun z => nomatch z
   | ex C e => exact fun z => nomatch z
theorem yN (i : Nat) (h : DSF X E sts f) : DSF X E sts (fun en => f (frz i en)) := by
 refine ⟨?_, fun en e => h.n _ _⟩
 rintro pins s σ H Dn I ⟨B, G0, G, W, en, hh, hs, hw⟩
 obtain ⟨G', W', a, b⟩ := aAc i hh hs
 exact h.p pins s σ H Dn I ⟨B, G0, G', W', _, a, b, hw⟩
theorem vT {i : Nat} : ∀ en l, cX i fe en ≠ some (.rt l) := fun en l => by
 unfold cX
 split <;> exact fun z => nomatch z
theorem aFw : ∀ en l, tN fe en ≠ some (.rt l) := fun en l => by
 unfold tN
 split <;> exact fun z => nomatch z
def aBj (i : Nat) (fe : En -> Res Ev) : MS := fun en => match en[i]? with
 | some (some (.o (.list ds))) => match fe (frz i en) with
  | .ok (.f (.list es)) => some (.rt (.p (.tuple [.list ds, .list es])))
  | _ => none
 | _ => none
theorem aD8 {i : Nat} {x : Str} {x1} {p1 p2 : Pos} (he : DE X E e fe) (hN : X.N[i]? = some x := by rfl) (hv : Vis X.env.scope x := by first | exact Or.inl rfl | exact Or.inr (Or.inl rfl) | exact Or.inr (Or.inr rfl)) (hd : (x == ("__debug__" : Str)) = false := by decide) (hcd : (x == ("__classdict__" : Str)) = false := by decide)
  (hs1 : starEach [.Name x p1, e] X.env = (false, eval (.Name x p1) X.env) :: starEach [e] X.env := by rfl) (hs2 : starEach [e] X.env = (false, eval e X.env) :: starEach [] X.env := by rfl) :
  DSF X E [.Return (some (.Tuple [.Name x p1, e] x1 p2)) pos] (aBj i fe) := by
 obtain ⟨te, pe, me⟩ := he.out
 refine ⟨?_, fun en e => ?_⟩
 ·rintro pins s σ H Dn I ⟨B, G0, G, W, en, hh, hs, hw⟩
  refine zV (aEs (aA3 (dG (zP hN hv hd hcd) (dG pe fY hs2) hs1))) pins s σ H Dn I ?_
  unfold aBj at hw
  split at hw
  ·rename_i ds ei
   split at hw
   ·rename_i es ef
    obtain ⟨v, e1, b, o, rfl, hW, hH, hC⟩ := hs.2 i _ ei
    obtain ⟨_, wB, _⟩ := hh.wf b i hW
    cases hC with
    | @lst xs _ rp =>
    obtain ⟨G', W', hh', hs'⟩ := aAc i hh hs
    have i' : (frz i en)[i]? = some (some (.p (.list ds))) := by
     unfold frz
     rw [ei]
     exact List.getElem?_set_self (List.getElem?_eq_some_iff.mp ei).1
    obtain ⟨v', f1, f2⟩ := hs'.2 i _ i'
    rw [e1] at f1
    cases f1
    have f2 : Rep X.K G' (.ref b) (.list ds) := f2
    refine ⟨_, e1, me B G0 G' W' H σ (frz i en) _ hh' hs' ?_⟩
    rw [ef]
    rintro G1 H1 _ s1 ⟨c, o, rfl, h1, h2, h3, h4⟩
    cases h4 with
    | @lst ys _ rq =>
    refine ⟨show 2 <= sizeLine by decide, fun p hp => ?_⟩
    have s2 := s1.keep h1 h2 h3
    have s3 := Step.put (o := .tup [.ref b, .ref c]) s2.gh hp
    have s4 := s2.trans s3
    have sg : Same G1 (upd (upd G1 c (.lst ys)) p (.tup [.ref b, .ref c])) := (Same.upd (Same.refl _) h2 _).trans s3.g
    have gb : G' b = some (.lst xs) := by
     cases f2 with
     | lst hr _ =>
      rcases hr with hr | ⟨o, hr⟩
      ·have := hh'.gh _ _ hr
       rw [hH] at this
       cases this
       exact hr
      ·have := hh'.gh _ _ hr
       rw [hH] at this
       cases this
    have gc : upd (upd G1 c (.lst ys)) p (.tup [.ref b, .ref c]) c = some (.lst ys) := s3.g _ _ aY
    exact hw _ W' _ _ (hh'.step s4) (.tup aY (.cons (f2.mono s4.g) (.cons (.lst (.inl gc) (rq.mono sg)) .nil))) ⟨p, b, c, xs, ys, rfl, aY, s4.g _ _ gb, gc, wB, hh.bh.free h1, fun z => by rw [z, h1] at hH; cases hH⟩
   ·exact hw.elim
  ·exact hw.elim
 ·unfold aBj
  split
  ·split <;> exact fun z => nomatch z
  ·exact fun z => nomatch z
end
theorem aJr {K : PySem.W.Frag} {N : List Str} {n : Nat} {m : List L -> Res L} {fm : MS} {vs : List V} {H : Hp} {Q : VK} {E : XK} (h : spF K n m vs H Q E) (hx : ∀ en e, fm en ≠ some (.nx e)) (hm : ∀ ls, m ls = .bad \/ eO N.length fm ls = m ls) :
  tSF K (fun _ => E) fm { nx := fun _ H' => Q .non H', rt := Q } (L2.start N vs) H := by
 obtain ⟨hl, G, ls, gh, ha, hw⟩ := h
 refine ⟨H, G, G, fun _ => none, bE N.length ls, ⟨gh, Same.refl _, Same.refl _, fun _ hb => .inl hb, fun a i e => nomatch e⟩, rQ ha, ?_⟩
 rcases hm ls with e | e
 ·rw [e] at hw; exact hw.elim
 ·rw [<- e] at hw
  unfold eO at hw
  cases ef : fm (bE N.length ls) with
  | none => rw [ef] at hw; exact hw
  | some o =>
   rw [ef] at hw
   cases o with
   | nx en => exact absurd ef (hx _ _)
   | rt l => exact fun G' W' H' v h1 h2 h3 => hw G' H' v (nO h1) h2 h3
   | bk en => exact hw.elim
   | ct en => exact hw.elim
   | ex C en => exact fun G' W' H' σ' h1 _ => hw G' H' (nO h1)
theorem aNz {P : Program} {w : World} {K : PySem.W.Frag} {mg : Str -> Option Value} {base : Heap} {x : Str} {st : Stmt} {N ps : List Str} {k n : Nat} {m : List L -> Res L} (Df : Def K mg x ps st) (S : aX N ps (aN st)) (hn : n = ps.length)
  (hbody : ∀ (f : Addr) (cdv : Value) (A : Around) (outer : List Env) (s : Shared) (H : Hp) (E : XK), Room k (A.deeper (envOfC x (aN st) s.heap.objs.size f cdv)) ->
   ∃ fm, DSF (pJ (CXr P w) P w K mg base N x (aN st) f cdv A outer s H E) (fun _ => E) (fV st) fm /\ ∀ ls, m ls = .bad \/ eO N.length fm ls = m ls) : CalF P w K mg base (k + 1) x n m := by
 obtain ⟨f, fd, F, b, kp, h⟩ := Df.ex
 refine ⟨f, fd, ps, F.okX S (fun vs H Q E h => ?_) (fun cdv A outer s H vs Q E hr h => ?_), b, kp, h⟩
 ·rw [<- hn]; exact h.1
 ·obtain ⟨fm, hd, hm⟩ := hbody f cdv A outer s H E hr
  exact ⟨_, hd.p, aJr h hd.n hm⟩
def pO (en : En) : En := en.map fun o => match o with
 | some (.p d) => some (.p d)
 | _ => none
theorem aMt {en : En} {i : Nat} {l : L} (h : (pO en)[i]? = some (some l)) : ∃ d, l = .p d /\ en[i]? = some (some (.p d)) := by
 unfold pO at h
 rw [List.getElem?_map] at h
 cases e : en[i]? with
 | none => rw [e] at h; cases h
 | some o =>
  rw [e] at h
  cases o with
  | none => cases h
  | some l' =>
   cases l' with
   | p d => cases h; exact ⟨d, rfl, rfl⟩
   | o d => cases h
   | x d => cases h
   | h d => cases h
theorem aH9 {K : PySem.W.Frag} {W W' : Addr -> Option Nat} {G H : Hp} {σ : L2.St} {en : En} (h : SimS K W G H σ en) : SimS K W' G H σ (pO en) := by
 refine ⟨by unfold pO; rw [List.length_map]; exact h.1, fun i l e => ?_⟩
 obtain ⟨d, rfl, e2⟩ := aMt e
 exact h.2 i _ e2
def aHy : Res Ev -> Option (List D)
 | .ok (.f (.list ds)) => some ds
 | _ => none
theorem aBo {r : Res Ev} {ds : List D} (h : aHy r = some ds) : r = .ok (.f (.list ds)) := by
 unfold aHy at h
 split at h
 ·cases h; rfl
 ·cases h
structure aHj (ih jf n : Nat) (m : List L -> Res L) (fr : En -> Res (List Ev)) (fc1 fc2 : En -> Res Bool) (f5 : En -> Res Ev) (en : En) (S P : List D) : Prop where
 s : lfA S = true
 p : lfA P = true
 r : ∃ rs ls R Z, fr ((pO en).set ih (some (.p (.tuple [.list S, .list P])))) = .ok rs /\ cG iS rs = some ls /\ ls.length = n /\ m ls = .ok (.p (.tuple [.list R, .list Z])) /\ Z.length <= 100000
  /\ fc1 (((pO en).set ih (some (.p (.tuple [.list S, .list P])))).set jf (some (.p (.tuple [.list R, .list Z])))) = .ok false
  /\ fc2 (((pO en).set ih (some (.p (.tuple [.list S, .list P])))).set jf (some (.p (.tuple [.list R, .list Z])))) = .ok false
 d : ∃ d5, f5 (List.replicate en.length none) = .ok (.p d5)
open Classical in
noncomputable def aIj (ih jf n : Nat) (m : List L -> Res L) (f1 f2 : En -> Res Ev) (fr : En -> Res (List Ev)) (fc1 fc2 : En -> Res Bool) (f5 : En -> Res Ev) (g : MS) : MS := fun en => match aHy (f1 (pO en)) with
 | some S => match aHy (f2 (pO en)) with
  | some P => if aHj ih jf n m fr fc1 fc2 f5 en S P then g ((en.set ih (some (.p (.tuple [.list S.reverse, .list P])))).set jf none) else none
  | none => none
 | none => none
theorem aKe {ih jf n : Nat} {m : List L -> Res L} {f1 f2 : En -> Res Ev} {fr : En -> Res (List Ev)} {fc1 fc2 : En -> Res Bool} {f5 : En -> Res Ev} {g : MS} {en : En} {S P : List D} (h1 : f1 (pO en) = .ok (.f (.list S))) (h2 : f2 (pO en) = .ok (.f (.list P))) (h : aHj ih jf n m fr fc1 fc2 f5 en S P) :
  aIj ih jf n m f1 f2 fr fc1 fc2 f5 g en = g ((en.set ih (some (.p (.tuple [.list S.reverse, .list P])))).set jf none) := by
 unfold aIj
 rw [h1, h2]
 exact if_pos h
section
variable {X : Cx} {E : L2.St -> XK} {s4 s5 s6 : Stmt} {rest A1 A2 : List Stmt} {g fA1 fA2 : MS} {f1 f2 f5 : En -> Res Ev} {fr : En -> Res (List Ev)} {fc1 fc2 : En -> Res Bool} {e1 e2 e5 ea c1 c2 : Expr} {es : List Expr} {k j n : Nat} {m : List L -> Res L}
theorem aGm {ih jf : Nat} {xh xf y : Str} {x1} {p0 p1 p2 p3 p4 p5 p6 p7 p8 : Pos} (hij : ih ≠ jf) (hN : X.N.Nodup) (hih : X.N[ih]? = some xh) (hxh : Loc X.env.scope xh) (hjf : X.N[jf]? = some xf) (hxf : Loc X.env.scope xf)
  (he1 : DE X E e1 f1) (he2 : DE X E e2 f2) (c : CalF X.prog X.w X.K X.mg X.base j y n m) (hr : Room k X.A) (hx : lW (CXr X.prog X.w) X E) (ha : DA X E (ea :: es) fr) (hc1 : DT X E c1 fc1) (hA1 : DSs X E A1 fA1) (hc2 : DT X E c2 fc2) (hA2 : DSs X E A2 fA2)
  (h4 : PS X s4 (vG (aMx X.K "list" aE1 (tOp (aK6 X.K) (aFg jf) (tC (.int 0))))))
  (he5 : DE X E e5 f5) (h5 : ∀ t, PE X e5 t -> PS X s5 (vG (tBM X.K "list" uP (tOp (aK6 X.K) (aFg jf) (tC (.int 1))) (aBa t aI5))))
  (h6 : PS X s6 (vG (aMx X.K "list" wQ (tOp (aK6 X.K) (aFg ih) (tC (.int 0)))))) (h7 : DSs X E rest g)
  (hg : Gl X y := by rfl) (hjk : j <= k := by decide) (hdb : (y == ("__debug__" : Str)) = false := by decide)
  (hs1 : starEach [e1, e2] X.env = (false, eval e1 X.env) :: starEach [e2] X.env := by rfl) (hs2 : starEach [e2] X.env = (false, eval e2 X.env) :: starEach [] X.env := by rfl)
  (hes : starEach (ea :: es) X.env = (false, eval ea X.env) :: starEach es X.env := by rfl) (hpl : (backTo p5 (starEach es X.env)).any (·.1) = false := by rfl)
  (hsw1 : swapsWith (.Tuple [e1, e2] x1 p1) (some (.Name xh p0)) p2.line X.env = pure false := by rfl) (hsw2 : swapsWith (.Call (.Name y p4) (ea :: es) [] p5) (some (.Name xf p3)) p6.line X.env = pure false := by rfl)
  (hf1 : X.fn xh = true \/ X.env.scope.names.lookup xh = some .local := by first | exact .inl rfl | exact .inr rfl | assumption) (hf2 : X.fn xf = true \/ X.env.scope.names.lookup xf = some .local := by first | exact .inl rfl | exact .inr rfl | assumption) :
  DSs X E (.Assign [.Name xh p0] (.Tuple [e1, e2] x1 p1) p2 :: .Assign [.Name xf p3] (.Call (.Name y p4) (ea :: es) [] p5) p6 :: .If c1 A1 [] p7 :: .If c2 A2 [] p8 :: s4 :: s5 :: s6 :: rest) (aIj ih jf n m f1 f2 fr fc1 fc2 f5 g) := by
 obtain ⟨f, fd, ps, F, b, kp, hm⟩ := c.ex
 obtain ⟨t1, q1, m1⟩ := he1.out
 obtain ⟨t2, q2, m2⟩ := he2.out
 obtain ⟨ta, qa, ma⟩ := ha.out
 obtain ⟨tc1, qc1, mc1⟩ := hc1.out
 obtain ⟨tc2, qc2, mc2⟩ := hc2.out
 obtain ⟨tA1, qA1, _⟩ := hA1.out
 obtain ⟨tA2, qA2, _⟩ := hA2.out
 obtain ⟨t5, q5, m5⟩ := he5.out
 obtain ⟨t7, q7, m7⟩ := h7.out
 rintro pins s σ H Dn I ⟨B, G0, G, W, en, hh, hs, hw⟩
 refine gR (yE hN hih hxh (aA3 (dG q1 (dG q2 fY hs2) hs1)) hsw1 hf1) (gR (yE hN hjf hxf (xC (F.mono hjk) hr hg hm kp b hx qa hdb hes hpl) hsw2 hf2)
  (gR (aGk qc1 qA1 uY) (gR (aGk qc2 qA2 uY) (gR h4 (gR (h5 _ q5) (gR h6 q7)))))) pins s σ H Dn I ?_
 have iσ : ih < σ.length := by
  rw [I.len]
  exact (List.getElem?_eq_some_iff.mp hih).1
 have jσ : jf < σ.length := by
  rw [I.len]
  exact (List.getElem?_eq_some_iff.mp hjf).1
 unfold aIj at hw
 cases ef1 : aHy (f1 (pO en)) with
 | none => rw [ef1] at hw; exact hw.elim
 | some S =>
 cases ef2 : aHy (f2 (pO en)) with
 | none => rw [ef1, ef2] at hw; exact hw.elim
 | some P =>
 rw [ef1, ef2] at hw
 dsimp only at hw
 by_cases ok : aHj ih jf n m fr fc1 fc2 f5 en S P
 case neg => rw [if_neg ok] at hw; exact hw.elim
 rw [if_pos ok] at hw
 have ef1 := aBo ef1
 have ef2 := aBo ef2
 obtain ⟨lS, lP, ⟨rs, ls, R, Z, er, el, hn, em, hZ, ec1, ec2⟩, d5, e5⟩ := ok
 have hsP : SimS X.K (fun _ => none) G H σ (pO en) := aH9 hs
 refine m1 H G G (fun _ => none) H σ (pO en) _ (aDs hh.gh) hsP ?_
 rw [ef1]
 rintro G1 H1 _ st1 ⟨h0, o, rfl, a1, a2, a3, a4⟩
 cases a4 with
 | @lst vs0 _ rp0 =>
 have st1' := st1.keep a1 a2 a3
 refine m2 H G _ (fun _ => none) H1 σ (pO en) _ ((aDs hh.gh).step st1') (hsP.step st1') ?_
 rw [ef2]
 rintro G2 H2 _ st2 ⟨h1, o, rfl, b1, b2, b3, b4⟩
 cases b4 with
 | @lst vs1 _ rp1 =>
 have st2' := st2.keep b1 b2 b3
 refine ⟨show 2 <= sizeLine by decide, fun t ht => ?_⟩
 have st3 := Step.put (o := .tup [.ref h0, .ref h1]) st2'.gh ht
 have T := st1'.trans (st2'.trans st3)
 have g0 : upd (upd G2 h1 (.lst vs1)) t (.tup [.ref h0, .ref h1]) h0 = some (.lst vs0) := (st2'.trans st3).g _ _ aY
 have g1 : upd (upd G2 h1 (.lst vs1)) t (.tup [.ref h0, .ref h1]) h1 = some (.lst vs1) := st3.g _ _ aY
 have gt : upd (upd G2 h1 (.lst vs1)) t (.tup [.ref h0, .ref h1]) t = some (.tup [.ref h0, .ref h1]) := aY
 have k1 : ∀ x ts, G1 x = some (.tup ts) -> upd (upd G2 h1 (.lst vs1)) t (.tup [.ref h0, .ref h1]) x = some (.tup ts) := fun x ts q => (st2'.trans st3).g _ _ (Same.upd (Same.refl _) a2 _ _ _ q)
 have k2 : ∀ x ts, G2 x = some (.tup ts) -> upd (upd G2 h1 (.lst vs1)) t (.tup [.ref h0, .ref h1]) x = some (.tup ts) := fun x ts q => st3.g _ _ (Same.upd (Same.refl _) b2 _ _ _ q)
 have rS := kX k1 lS rp0
 have rP := kX k2 lP rp1
 generalize upd (upd G2 h1 (.lst vs1)) t (.tup [.ref h0, .ref h1]) = Gc at T g0 g1 gt rS rP
 have ht0 : H t = none := st1'.h.free (st2'.h.free ht)
 have hh0 : H h0 = none := a1
 have hh1 : H h1 = none := st1'.h.free b1
 have nt0 : t ≠ h0 := fun z => by rw [z, st2'.h _ _ a3] at ht; cases ht
 have n10 : h1 ≠ h0 := fun z => by rw [z, a3] at b1; cases b1
 generalize upd H2 t (.tup [.ref h0, .ref h1]) = Hc at T
 have rT : Rep X.K Gc (.ref t) (.tuple [.list S, .list P]) := .tup gt (.cons (.lst (.inl g0) rS) (.cons (.lst (.inl g1) rP) .nil))
 have hsH : SimS X.K (fun _ => none) Gc Hc (σ.set ih (some (.ref t))) ((pO en).set ih (some (.p (.tuple [.list S, .list P])))) := (hsP.step T).set rT
 refine ma Hc Gc Gc (fun _ => none) Hc _ _ _ (aDs T.gh) hsH ?_
 rw [er]
 rintro G3 H3 vs st4 eo
 have hao := vN el eo
 refine ⟨by rw [hao.length]; exact hn, G3, ls, st4.gh, hao, ?_⟩
 rw [em]
 rintro G4 H4 v st5 rv ⟨a, b, c, xs, ys, rfl, f1, f2, f3, f4, f5, f6⟩
 have S5 := st4.trans st5
 have cb : Hc b = none := st4.h.free f4
 have cc : Hc c = none := st4.h.free f5
 have hsF := (hsH.step S5).set (i := jf) (l := .p (.tuple [.list R, .list Z])) rv
 refine mc1 Hc Gc G4 (fun _ => none) H4 _ _ _ ((aDs T.gh).step S5) hsF ?_
 rw [ec1]
 intro G5 H5 st6
 refine mc2 Hc Gc G5 (fun _ => none) H5 _ _ _ (((aDs T.gh).step S5).step st6) (hsF.step st6) ?_
 rw [ec2]
 intro G6 H6 st7
 have S7 := st6.trans st7
 have T6 : Step G H G6 H6 := T.trans (S5.trans S7)
 have c6 : Same Gc G6 := (S5.trans S7).g
 have a6 : G6 a = some (.tup [.ref b, .ref c]) := S7.g _ _ f1
 have b6 : G6 b = some (.lst xs) := S7.g _ _ f2
 have c6' : G6 c = some (.lst ys) := S7.g _ _ f3
 have hb0 : b ≠ h0 := fun z => by rw [z, T.gh _ _ g0] at cb; cases cb
 have hc0 : c ≠ h0 := fun z => by rw [z, T.gh _ _ g0] at cc; cases cc
 have hbt : b ≠ t := fun z => by rw [z, T.gh _ _ gt] at cb; cases cb
 have hct : c ≠ t := fun z => by rw [z, T.gh _ _ gt] at cc; cases cc
 have hb1 : b ≠ h1 := fun z => by rw [z, T.gh _ _ g1] at cb; cases cb
 have hc1 : c ≠ h1 := fun z => by rw [z, T.gh _ _ g1] at cc; cases cc
 have Hb : H b = none := T.h.free cb
 have Hcc : H c = none := T.h.free cc
 have na : ∀ {x ts us}, G6 x = some (.lst us) -> G6 a = some (.tup ts) -> x ≠ a := fun q r z => by rw [z, r] at q; cases q
 refine ⟨.ref a, List.getElem?_set_self (by rw [List.length_set]; exact jσ), .inr ⟨a, [.ref b, .ref c], 0, .ref b, rfl, rfl, SqT.of (st7.gh _ _ a6), rfl, .inl ⟨rfl, xs, .inl (.inl (st7.gh _ _ b6))⟩, b, xs, rfl, rfl, st7.gh _ _ b6, ?_⟩⟩
 have a7 : upd H6 b (.lst []) a = some (.tup [.ref b, .ref c]) := by rw [aU (na b6 a6).symm]; exact st7.gh _ _ a6
 have c7 : upd H6 b (.lst []) c = some (.lst ys) := by rw [aU f6.symm]; exact st7.gh _ _ c6'
 refine ⟨.ref a, List.getElem?_set_self (by rw [List.length_set]; exact jσ), .inr ⟨a, [.ref b, .ref c], 1, .ref c, rfl, rfl, SqT.of a7, rfl, .inl ⟨rfl, ys, .inl (.inl c7)⟩, ?_⟩⟩
 refine m5 (fun _ => none) (fun _ => none) (fun _ => none) (fun _ => none) _ _ (List.replicate en.length none) _ ⟨fun _ _ z => (nomatch z), fun _ _ z => (nomatch z), fun _ _ z => (nomatch z), fun _ z => absurd rfl z, fun _ _ z => (nomatch z)⟩ ⟨by rw [List.length_set, List.length_set, List.length_replicate]; exact hs.1, fun i l q => ?_⟩ ?_
 ·rw [List.getElem?_replicate] at q
  split at q <;> cases q
 rw [e5]
 intro G8 H8 y8 st8 _
 have lz : ys.length = Z.length := by
  cases rv with
  | tup q r =>
   rw [f1] at q
   cases q
   cases r with
   | cons _ r =>
    cases r with
    | cons r _ =>
     cases r with
     | lst q r =>
      rcases q with q | ⟨o, q⟩
      ·rw [f3] at q; cases q; exact r.length
      ·rw [f3] at q; cases q
 refine ⟨c, ys, y8, rfl, rfl, st8.h _ _ c7, Nat.lt_of_le_of_lt (by rw [lz]; exact hZ) (by decide), ?_⟩
 have keep6 : ∀ x o, x ≠ b -> x ≠ c -> H6 x = some o -> upd H8 c (.lst (ys ++ [y8])) x = some o := fun x o xb xc q => by
  rw [aU xc]
  exact st8.h _ _ (by rw [aU xb]; exact q)
 have z0 := keep6 _ _ hb0.symm hc0.symm (st7.gh _ _ (c6 _ _ g0))
 have zt := keep6 _ _ hbt.symm hct.symm (st7.gh _ _ (c6 _ _ gt))
 refine ⟨.ref t, by rw [List.getElem?_set_ne (Ne.symm hij)]; exact List.getElem?_set_self iσ, .inr ⟨t, [.ref h0, .ref h1], 0, .ref h0, rfl, rfl, SqT.of zt, rfl, .inl ⟨rfl, vs0, .inl (.inl z0)⟩, h0, vs0, rfl, rfl, z0, ?_⟩⟩
 obtain ⟨Gn, hG⟩ : ∃ Gn : Hp, ∀ x, Gn x = if x = b \/ x = c then none else if x = h0 then some (.lst vs0.reverse) else G6 x := ⟨_, fun _ => rfl⟩
 have Gk : ∀ x o, x ≠ b -> x ≠ c -> x ≠ h0 -> G6 x = some o -> Gn x = some o := fun x o n1 n2 n3 q => by rw [hG, if_neg (by rintro (z | z) <;> contradiction), if_neg n3]; exact q
 have Hk : ∀ x o, x ≠ b -> x ≠ c -> x ≠ h0 -> H6 x = some o -> upd (upd H8 c (.lst (ys ++ [y8]))) h0 (.lst vs0.reverse) x = some o := fun x o n1 n2 n3 q => by rw [aU n3]; exact keep6 x o n1 n2 q
 have off : ∀ x o, H x = some o -> x ≠ b /\ x ≠ c /\ x ≠ h0 := fun x o q => ⟨fun z => (by rw [z, Hb] at q; cases q), fun z => (by rw [z, Hcc] at q; cases q), fun z => (by rw [z, hh0] at q; cases q)⟩
 have sG : Same G Gn := fun x o q => let ⟨n1, n2, n3⟩ := off x o (hh.gh _ _ q); Gk x o n1 n2 n3 (T6.g _ _ q)
 have sH : Same H (upd (upd H8 c (.lst (ys ++ [y8]))) h0 (.lst vs0.reverse)) := fun x o q => let ⟨n1, n2, n3⟩ := off x o q; Hk x o n1 n2 n3 (T6.h _ _ q)
 have h6 := hh.step T6
 have Gh0 : Gn h0 = some (.lst vs0.reverse) := by rw [hG, if_neg (by rintro (z | z); exact hb0 z.symm; exact hc0 z.symm), if_pos rfl]
 have kT : ∀ x ts, Gc x = some (.tup ts) -> Gn x = some (.tup ts) := fun x ts q => Gk x _ (fun z => by rw [z] at q; have := c6 _ _ q; rw [b6] at this; cases this) (fun z => by rw [z] at q; have := c6 _ _ q; rw [c6'] at this; cases this) (fun z => by rw [z, g0] at q; cases q) (c6 _ _ q)
 refine m7 B G0 Gn W _ _ _ Dn ⟨fun x o q => ?_, hh.bh.trans sH, hh.g0.trans sG, fun x hx => ?_, fun x i q => ?_⟩ ⟨by rw [List.length_set, List.length_set, List.length_set, List.length_set]; exact hs.1, fun i l q => ?_⟩ hw
 ·rw [hG] at q
  split at q
  ·cases q
  ·rename_i z
   split at q
   ·rename_i z2
    rw [z2, aY]
    exact q
   ·rename_i z2
    exact Hk x o (fun y => z (.inl y)) (fun y => z (.inr y)) z2 (st7.gh _ _ q)
 ·rw [hG] at hx
  split at hx
  ·exact absurd rfl hx
  ·split at hx
   ·rename_i z2
    rw [z2]
    exact .inr (.inl (hh.bh.free hh0))
   ·exact h6.gb x hx
 ·obtain ⟨w1, w2, o, w3, w4⟩ := h6.wf x i q
  obtain ⟨_, _, o', w3', _⟩ := hh.wf x i q
  obtain ⟨n1, n2, n3⟩ := off x o' w3'
  refine ⟨?_, w2, o, Hk x o n1 n2 n3 w3, w4⟩
  rw [hG, if_neg (by rintro (z | z) <;> contradiction), if_neg n3]
  exact w1
 ·rw [List.getElem?_set] at q
  by_cases zj : jf = i
  ·subst zj
   rw [if_pos rfl] at q
   split at q <;> cases q
  ·rw [if_neg zj, List.getElem?_set] at q
   by_cases zi : ih = i
   ·subst zi
    rw [if_pos rfl] at q
    split at q
    ·cases q
     refine ⟨.ref t, by rw [List.getElem?_set_ne zj]; exact List.getElem?_set_self iσ, ?_⟩
     exact .tup (kT _ _ gt) (.cons (.lst (.inl Gh0) (kX kT lS rS).rev) (.cons (.lst (.inl (Gk _ _ hb1.symm hc1.symm n10 (c6 _ _ g1))) (kX kT lP rP)) .nil))
    ·cases q
   ·rw [if_neg zi] at q
    obtain ⟨v, f1, f2⟩ := hs.2 i l q
    refine ⟨v, by rw [List.getElem?_set_ne zj, List.getElem?_set_ne zi]; exact f1, ?_⟩
    cases l with
    | p d => exact f2.mono sG
    | x C => obtain ⟨ea, g1, g2⟩ := f2; exact ⟨ea, g1, sG _ _ g2⟩
    | h a => exact f2
    | o d =>
     obtain ⟨b, ob, g1, g2, g3, g4⟩ := f2
     exact ⟨b, ob, g1, g2, sH _ _ g3, g4.mono sG⟩
end
end M
namespace L2
open PySem PySem.Spec PyProof.Rows
def aLn (scope : Scope) (z : Str) : Prop := ∃ pre post, scope.names = pre ++ (z, .cell) :: post /\ (∀ y ∈ pre, y.2 ≠ .cell) /\ ∀ y ∈ post, y.2 ≠ .cell
abbrev fC (X : Cx) (scope : Scope) (z : Str) (cl : List (Str × Addr)) (C : Addr) (N : List Str) (s₀ : Shared) (H₀ : Hp) (ex : List Addr) (pn : List (Addr × Obj)) : Cx :=
 { X with env := compEnvC scope ((z, C + 1) :: cl) C X.env, N := N, s₀ := s₀, H₀ := H₀, outer := X.stack, stack := X.stack, ex := ex, fn := fun y => y == z, pn := pn, xe := fun _ _ => False }
structure aC5 (X : Cx) (scope : Scope) (z : Str) (cl : List (Str × Addr)) : Prop where
 clos : closureFor scope X.env = pure cl
 sub : ∀ y c, cl.lookup y = some c -> X.env.cells.lookup y = some c
 has : ∀ y, (relabel scope X.env).names.lookup y = some .cell \/ (relabel scope X.env).names.lookup y = some .free -> y = z \/ ∃ c, cl.lookup y = some c
theorem lkS {z : Str} {a : Addr} {cl : List (Str × Addr)} : ((z, a) :: cl).lookup z = some a := by simp [List.lookup]
theorem lkN {y z : Str} {a : Addr} {cl : List (Str × Addr)} (h : z ≠ y) : ((z, a) :: cl).lookup y = cl.lookup y := by
 have : (y == z) = false := beq_false_of_ne (Ne.symm h)
 simp [List.lookup, this]
theorem lkZ {y z : Str} {a c : Addr} {cl : List (Str × Addr)} (h : ((z, a) :: cl).lookup y = some c) : (y = z /\ c = a) \/ cl.lookup y = some c := by
 by_cases e : y = z
 ·rw [e, lkS] at h
  exact .inl ⟨e, (Option.some.inj h).symm⟩
 ·rw [lkN (Ne.symm e)] at h
  exact .inr h
theorem aNp {y z : Str} {a : Addr} {cl : List (Str × Addr)} (h : y = z \/ ∃ c, cl.lookup y = some c) : ∃ c, ((z, a) :: cl).lookup y = some c := by
 by_cases e : y = z
 ·rw [e]; exact ⟨a, lkS⟩
 ·obtain ⟨c, q⟩ := h.resolve_left e
  exact ⟨c, (lkN (Ne.symm e)).trans q⟩
abbrev kC (x : Str × NameKind) (cells : List (Str × Addr)) : Sem (ForInStep (List (Str × Addr))) :=
 if (x.2 == NameKind.cell) = true then do
  let a <- alloc { cls := Value.type "cell", data := Data.cell none }
  pure (ForInStep.yield ((x.1, a) :: cells))
 else pure (ForInStep.yield cells)
section
variable {M : Model} {A : Around} {E : Value -> Shared -> Prop}
theorem wN : ∀ (ns : List (Str × NameKind)) (cells : List (Str × Addr)) (s : Shared) (Q : List (Str × Addr) -> Shared -> Prop), (∀ y ∈ ns, y.2 ≠ .cell) -> Q cells s -> wpAny M A (forIn ns cells kC) Q E s
 | [], cells, s, Q, _, q => wpAny_pure q
 | y :: ns, cells, s, Q, h, q => by
  rw [List.forIn_cons]
  have e : (y.2 == NameKind.cell) = false := beq_false_of_ne (h y (.head _))
  unfold kC
  rw [e]
  exact wpAny_bind (wpAny_pure (wN ns cells s Q (fun x hx => h x (.tail _ hx)) q))
theorem sZ (z : Str) : ∀ (pre post : List (Str × NameKind)) (cells : List (Str × Addr)) (s : Shared) (Q : List (Str × Addr) -> Shared -> Prop), (∀ y ∈ pre, y.2 ≠ .cell) -> (∀ y ∈ post, y.2 ≠ .cell) ->
  Q ((z, s.heap.objs.size) :: cells) { s with heap := s.heap.push { cls := Value.type "cell", data := Data.cell none } } -> wpAny M A (forIn (pre ++ (z, .cell) :: post) cells kC) Q E s
 | [], post, cells, s, Q, _, h2, q => by
  rw [List.nil_append, List.forIn_cons]
  show wpAny M A ((alloc { cls := Value.type "cell", data := Data.cell none } >>= fun a => pure (ForInStep.yield ((z, a) :: cells))) >>= _) Q E s
  exact wpAny_bind (wpAny_bind (wpAny_alloc (wpAny_pure (wN post _ _ Q h2 q))))
 | y :: pre, post, cells, s, Q, h1, h2, q => by
  rw [List.cons_append, List.forIn_cons]
  have e : (y.2 == NameKind.cell) = false := beq_false_of_ne (h1 y (.head _))
  have ih := sZ z pre post cells s Q (fun x hx => h1 x (.tail _ hx)) h2 q
  show wpAny M A (kC y cells >>= _) Q E s
  unfold kC
  rw [e]
  exact wpAny_bind (wpAny_pure ih)
theorem aHw {s : Shared} {scope : Scope} {z : Str} {globals : Addr} {cl : List (Str × Addr)} {qual : Str} {func : Option Addr} {code : Value} {env : Env} {builtins : Addr} {Q : Env -> Shared -> Prop} (hz : aLn scope z)
  (h : ∀ h' : Heap, (h'.Ns s.heap.objs.size fun _ => none) -> (∀ b o, s.heap.get? b = some o -> h'.get? b = some o) -> h'.IsCell (s.heap.objs.size + 1) none -> Q (newEnv scope s.heap.objs.size globals ((z, s.heap.objs.size + 1) :: cl) qual func code (some env) builtins) { s with heap := h' }) :
  wpAny M A (newFunctionEnv scope globals cl [] qual func code (some env) builtins) Q E s := by
 obtain ⟨pre, post, e, h1, h2⟩ := hz
 unfold newFunctionEnv
 refine wpAny_bind (wpAny_alloc ?_)
 show wpAny M A (forIn scope.names cl kC >>= _) Q E _
 rw [e]
 refine wpAny_bind (sZ z pre post cl _ _ h1 h2 ?_)
 refine wpAny_bind (wpAny_pure (wpAny_pure ?_))
 have z1 : ∀ (hh : Heap) (o : Obj), (hh.push o).objs.size = hh.objs.size + 1 := fun hh o => Heap.size_push hh o
 have q := h ((s.heap.push { cls := Value.type "dict", data := Data.dict #[] }).push { cls := Value.type "cell", data := Data.cell none }) ⟨_, #[], _, Heap.get?_push_of_some _ (Heap.get?_push_size _ rfl), rfl, (fun e h => by simp at h), fun _ => rfl⟩ (fun b o q => Heap.get?_push_of_some _ (Heap.get?_push_of_some _ q))
  ⟨_, by rw [<- z1 s.heap { cls := Value.type "dict", data := Data.dict #[] }]; exact Heap.get?_push_size _ rfl, rfl⟩
 rw [<- z1 s.heap { cls := Value.type "dict", data := Data.dict #[] }] at q
 exact q
end
section
variable {X : Cx}
set_option maxHeartbeats 8000000 in
theorem x8 {elt iter tg : Expr} {pos : Pos} {scope : Scope} {ifs : List Expr} {wi : TI} {g : TG} {tt : TT} {te : TE} {xs ys : List Str} {z : Str} {js : List Nat} {cl : List (Str × Addr)} (hc : X.calm = true) (hi : PI X tg iter wi)
  (hcl : aC5 X scope z cl) (hzy : z ∉ ys) (hcap : lO X scope cl ys js) (hcell : aLn scope z) (hkind : scope.kind = .function) (hnames : ∀ y ∈ scope.names, y.2 = .local -> scope.names.lookup y.1 = some .local)
  (hg : ∀ C s₀ H₀ ex pn, PG (fC X scope z cl C (xs ++ ys) s₀ H₀ ex pn) tg g) (ht : ∀ C s₀ H₀ ex pn, PTs (fC X scope z cl C (xs ++ ys) s₀ H₀ ex pn) ifs tt) (hb : ∀ C s₀ H₀ ex pn, PE (fC X scope z cl C (xs ++ ys) s₀ H₀ ex pn) elt te)
  (hs : ∀ x, foldedSetIterable iter X.env x = pure x) {use : Option (Value -> Sem Unit)} {QQ : Value -> Shared -> Prop} {Q : VK} {pins : List (Addr × Obj)} {s : Shared} {σ : St} {H : Hp} {cp : Pos} (I : Inv X pins σ H s)
  (aJe : ∀ (C D : Addr) (s' : Shared) (H' : Hp), Inv X pins σ H' s' -> aAd X pins H' C -> (∃ m, s'.heap.Ns C m) -> Q (.ref D) H' -> compPost (model X.prog X.w) X.A X.xe use QQ (.ref D) C (.ok .next) s')
  (h : nN wi g tt te xs.length js σ H Q) :
  wpAny (model X.prog X.w) X.A (comprehension (.ListComp elt [⟨tg, iter, ifs, 0⟩] scope pos) scope X.env cp (newList []) false (eval iter X.env) use) QQ X.xe s := by
 refine wpAny_comprehension_free rfl hs hcl.clos hkind hnames (thn (hi pins s σ H _ I h) fun v s1 h1 => thn h1 fun itv s2 h2 => ?_)
 obtain ⟨it, fp, tn, J, H2, e, I2, T, st2, f2, q2⟩ := h2
 subst e
 obtain ⟨n, W, w0, turn⟩ := q2 s2.heap.objs.size I2.fresh
 refine wpAny_newObj_type (aHw hcell fun h₁ hns₁ hold₁ hcl₁ => ?_)
 dsimp only at hns₁ hold₁ hcl₁ ⊢
 have I3 := I2.lnew (ys := []) (its := []) (t' := s2.toks) .nil (Nat.zero_le _)
 generalize hg3 : s2.heap.push { cls := .type "list", dict := none, data := .seq ([] : List Value).toArray } = g3 at hns₁ hold₁ hcl₁ I3 ⊢
 have sz3 : g3.objs.size = s2.heap.objs.size + 1 := by rw [<- hg3, Heap.size_push]
 generalize hC : g3.objs.size = C at hns₁ hcl₁ ⊢
 have old3 : ∀ b o, g3.get? b = some o -> h₁.get? b = some o := hold₁
 have old2 : ∀ b o, s2.heap.get? b = some o -> g3.get? b = some o := fun b o q => by rw [<- hg3]; exact Heap.get?_push_of_some _ q
 have fpl : ∀ b ∈ fp, ∃ o, s2.heap.get? b = some o /\ ∀ v, o.data ≠ .cell v := T.obj _ _ st2
 have fplt : ∀ b ∈ fp, b < s2.heap.objs.size := fun b hb => let ⟨o, q, _⟩ := fpl b hb; Heap.lt_size q
 have H3n : ∀ b, b ≠ s2.heap.objs.size -> upd H2 s2.heap.objs.size (.lst []) b = H2 b := fun b hb => aU hb
 have fp3 : ∀ b ∈ fp, upd H2 s2.heap.objs.size (.lst []) b = none := fun b hb => by rw [H3n b (Nat.ne_of_lt (fplt b hb))]; exact (f2 b hb).1
 have okX := I3.ok
 have cellE : ∀ y c, cl.lookup y = some c -> ∃ v, g3.IsCell c v := fun y c q => I3.cell y c (hcl.sub y c q)
 have clt : ∀ y c, cl.lookup y = some c -> c < C := fun y c q => let ⟨v, o, ho, _⟩ := cellE y c q; by rw [<- hC]; exact Heap.lt_size ho
 have inj : ∀ y y' c, ((z, C + 1) :: cl).lookup y = some c -> ((z, C + 1) :: cl).lookup y' = some c -> y = y' := fun y y' c h1 h2 => by
  rcases lkZ h1 with ⟨e1, e2⟩ | h1
  ·rcases lkZ h2 with ⟨e3, _⟩ | h2
   ·rw [e1, e3]
   ·rw [e2] at h2; exact absurd (clt _ _ h2) (Nat.not_lt.mpr (Nat.le_succ C))
  ·rcases lkZ h2 with ⟨e3, e4⟩ | h2
   ·rw [e4] at h1; exact absurd (clt _ _ h1) (Nat.not_lt.mpr (Nat.le_succ C))
   ·exact okX.inj y y' c (hcl.sub y c h1) (hcl.sub y' c h2)
 have st3 : g3.FunFrames X.base X.stack := I3.stack
 have exlt : ∀ b ∈ fp, b ≠ C := fun b hb => by rw [<- hC, sz3]; exact Nat.ne_of_lt (Nat.lt_succ_of_lt (fplt b hb))
 have frlt : ∀ b ∈ frs X.stack, b < g3.objs.size := fun b hb => let ⟨_, o, q, _⟩ := st3.mem hb; Heap.lt_size q
 have okB : (fC X scope z cl C (xs ++ ys) { s2 with heap := g3 } (upd H2 s2.heap.objs.size (.lst [])) fp (X.pn ++ pins)).Ok := by
  refine ⟨okX.mod, hkind, okX.glob, okX.blt, Nat.le_of_eq hC, inj, fun y hy => aNp (hcl.has y hy), (fun y c hf q => by
   have e : y = z := eq_of_beq hf
   have q : ((z, C + 1) :: cl).lookup y = some c := q
   rw [e, lkS] at q
   have e2 := Option.some.inj q
   show g3.objs.size <= c
   rw [<- e2, hC]
   exact Nat.le_succ C), okX.hd, okX.frames, .inl rfl, fun b hb => ⟨exlt b hb, fun y c q zz => ?_⟩, I3.bs, Nat.le_trans okX.bsz I3.sz, fun b o q hb => ?_, fun b hb => ?_, st3, I3.stkFree⟩
  ·subst zz
   rcases lkZ q with ⟨_, e⟩ | q
   ·have w := fplt c hb
    rw [e] at w
    exact absurd w (Nat.not_lt.mpr (Nat.le_trans (Nat.le_of_lt (by rw [<- hC, sz3]; exact Nat.lt_succ_self _)) (Nat.le_succ C)))
   ·exact (f2 c hb).2.2.2.2.1 y c (hcl.sub y c q) rfl
  ·rcases (f2 b hb).2.2.2.1 with z | z
   ·exact okX.noex b o q z
   ·have := Heap.lt_size (okX.bs b o q).1
    exact absurd (Nat.lt_of_lt_of_le this z) (Nat.lt_irrefl _)
  ·intro hz
   rcases List.mem_cons.mp (I3.stkSub b hz) with z | z
   ·exact (f2 b hb).2.1 z
   ·exact (f2 b hb).2.2.1 z
 have tot : ∀ tk : Nat, Inv (fC X scope z cl C (xs ++ ys) { s2 with heap := g3 } (upd H2 s2.heap.objs.size (.lst [])) fp (X.pn ++ pins)) [] (List.replicate xs.length none ++ n4 js σ) (upd H2 s2.heap.objs.size (.lst [])) { s2 with heap := h₁, toks := tk } := fun tk => by
  refine ⟨okB, rfl, I3.bare, Un.kept old3, ⟨_, hns₁, fun i y v' e1 e2 e3 => ?_⟩, fun y c q => ?_, I3.hok.fresh (Nat.le_of_eq hC), fun y c q => ?_, fun p hp => ?_, I3.hok.kept old3, ?_⟩
  ·by_cases hix : i < xs.length
   ·rw [List.getElem?_append_left (by rw [List.length_replicate]; exact hix), List.getElem?_replicate] at e2
    split at e2 <;> cases e2
   ·have hix' : xs.length <= i := by omega
    obtain ⟨k, rfl⟩ : ∃ k, i = xs.length + k := ⟨i - xs.length, by omega⟩
    have e1' : ys[k]? = some y := by
     rw [List.getElem?_append_right (by omega)] at e1
     simpa using e1
    have e2' : (n4 js σ)[k]? = some (some v') := by
     rw [List.getElem?_append_right (by rw [List.length_replicate]; omega), List.length_replicate] at e2
     simpa using e2
    unfold n4 at e2'
    rw [List.getElem?_map] at e2'
    cases ej : js[k]? with
    | none => rw [ej] at e2'; cases e2'
    | some j =>
     rw [ej] at e2'
     have e2'' : (σ[j]?).getD none = some v' := Option.some.inj e2'
     have eσ : σ[j]? = some (some v') := by
      cases es : σ[j]? with
      | none => rw [es] at e2''; cases e2''
      | some z => rw [es] at e2''; have : z = some v' := e2''; rw [this]
     obtain ⟨c1, c2, c3, c4, c5⟩ := hcap.at_ k y j e1' ej
     obtain ⟨m0, hn0, hl0⟩ := I3.loc
     obtain ⟨u, r, l⟩ := hl0 j y v' c1 eσ (c2.elim (fun z => .inr (.inl z)) fun z => .inr (.inr z))
     refine ⟨u, r, .inr ⟨c3, ?_⟩⟩
     rcases l with ⟨l, _⟩ | ⟨_, c, hcc, z⟩
     ·rcases c2 with c2 | c2
      ·rw [c2] at l; cases l
      ·rw [c2] at l; cases l
     ·obtain ⟨o, ho, hd⟩ := z
      exact ⟨c, (lkN fun e => hzy (by rw [e]; exact List.mem_of_getElem? e1')).trans (c5.trans hcc), o, old3 c o ho, hd⟩
  ·rcases lkZ q with ⟨_, e⟩ | q
   ·rw [e]
    exact ⟨_, hcl₁⟩
   ·obtain ⟨v0, o, ho, hd⟩ := cellE y c q
    exact ⟨v0, o, old3 c o ho, hd⟩
  ·rcases lkZ q with ⟨_, e⟩ | q
   ·rw [e]
    exact I3.hok.fresh (by show g3.objs.size <= C + 1; omega)
   ·exact I3.freeC y c (hcl.sub y c q)
  ·have hp' : p ∈ X.pn ++ pins := by simpa using hp
   obtain ⟨p1, p2, p3, p4, p5⟩ := I3.pin p hp'
   refine ⟨old3 _ _ p1, p2, ?_, fun hz => ?_, p5⟩
   ·show p.1 ≠ C
    rw [<- hC]
    exact Nat.ne_of_lt (Heap.lt_size p1)
   ·rcases List.mem_cons.mp (I3.stkSub p.1 hz) with z | z
    ·exact p3 z
    ·exact p4 z
  ·show (List.replicate xs.length none ++ n4 js σ).length = (xs ++ ys).length
   unfold n4
   simp [hcap.len]
 have fpB : ∀ {H' : Hp}, (∀ b ∈ fp, H' b = none) -> ∀ b ∈ fp, aAd (fC X scope z cl C (xs ++ ys) { s2 with heap := g3 } (upd H2 s2.heap.objs.size (.lst [])) fp (X.pn ++ pins)) [] H' b := fun hn b hb =>
  ⟨hn b hb, exlt b hb, okB.exfs b hb, .inl hb, (okB.exf b hb).2, fun p hp => (f2 b hb).2.2.2.2.2 p (by simpa using hp)⟩
 have fin : ∀ s' : Shared, (∃ i zs σ' H', Inv (fC X scope z cl C (xs ++ ys) { s2 with heap := g3 } (upd H2 s2.heap.objs.size (.lst [])) fp (X.pn ++ pins)) [] σ' H' s' /\ W i zs H' /\ J.stop i H' /\ Q (.ref s2.heap.objs.size) H') ->
   compPost (model X.prog X.w) X.A X.xe use QQ (.ref s2.heap.objs.size) C (.ok .next) s' := by
  rintro s' ⟨i, zs, σ', H', Ib, w, stop, q⟩
  obtain ⟨m', hn', _⟩ := Ib.loc
  have ub := Ib.base
  have un : Un (frs X.stack) fp (upd H2 s2.heap.objs.size (.lst [])) H' g3 s'.heap := ub
  have IX : Inv X pins σ H' s' := I3.call' (s' := s') (ch := fp) Ib.os un Ib.hok Ib.bare fun b hb => ⟨(f2 b hb).2.2.2.1, (f2 b hb).2.1, (f2 b hb).2.2.2.2.1, (f2 b hb).2.2.2.2.2⟩
  exact aJe C _ s' H' IX (I3.fpOk (Nat.le_of_eq hC) Ib.free) ⟨m', hn'⟩ q
 have loop : ∀ s₃ : Shared, (∃ tk, s₃ = { s2 with heap := h₁, toks := tk }) ->
   codeAny (model X.prog X.w) X.A (.compLoop (.ListComp elt [⟨tg, iter, ifs, 0⟩] scope pos) 0 (.ref it) (.ref s2.heap.objs.size) (compEnvC scope ((z, C + 1) :: cl) C X.env)) (compPost (model X.prog X.w) X.A X.xe use QQ (.ref s2.heap.objs.size) C) s₃ := by
  rintro s₃ ⟨tk, rfl⟩
  refine sY (fun k s' => ∃ i zs H', k = n + 1 - i /\ i <= n /\ Inv (fC X scope z cl C (xs ++ ys) { s2 with heap := g3 } (upd H2 s2.heap.objs.size (.lst [])) fp (X.pn ++ pins)) [] (List.replicate xs.length none ++ n4 js σ) H' s' /\ tn i s'.heap /\ (∀ b ∈ fp, H' b = none) /\ W i zs H')
   ?_ (n + 1) ⟨0, [], _, rfl, Nat.zero_le _, tot tk, T.keep _ _ _ st2 fun b hb o q => old3 b o (old2 b o q), fp3, w0⟩
  rintro k s' ⟨i, zs, H', rfl, hin, Ib, st, fr, w⟩
  rcases turn i zs H' w with ⟨stop, qq⟩ | ⟨hlt, go, step⟩
  ·refine wpAny_mono (T.done (fC X scope z cl C (xs ++ ys) { s2 with heap := g3 } (upd H2 s2.heap.objs.size (.lst [])) fp (X.pn ++ pins)) rfl rfl rfl hc i [] s' _ H' (fun _ _ => False) Ib (fpB fr) st stop) (fun r s4 ⟨hr, I4⟩ => ?_) fun _ _ z => z.elim
   subst hr
   exact fin s4 ⟨i, zs, _, H', I4, w, stop, qq⟩
  ·refine wpAny_mono (T.item (fC X scope z cl C (xs ++ ys) { s2 with heap := g3 } (upd H2 s2.heap.objs.size (.lst [])) fp (X.pn ++ pins)) rfl rfl rfl hc i [] s' _ H' (fun _ _ => False) Ib (fpB fr) st go) (fun r s4 ⟨u, hr, h4⟩ => ?_) fun _ _ z => z.elim
   subst hr
   refine wpAny_mono h4 (fun _ s5 ⟨v5, H5, I5, r5, y5, st5, fr5⟩ => ?_) fun _ _ z => z.elim
   have I5' := I5.pinned (fpB fr5) (T.obj _ _ st5)
   have hw5 := step v5 H5 y5
   refine wpAny_mono (hg C _ _ fp (X.pn ++ pins) _ s5 _ H5 v5 u _ I5' r5 hw5) (fun _ s6 ⟨σ6, H6, I6, ⟨hl6, hd6⟩, e6⟩ => ?_) fun _ _ z => z.elim
   have back : ∀ {H' : Hp} {s' : Shared} {pins' : List (Addr × Obj)}, Inv (fC X scope z cl C (xs ++ ys) { s2 with heap := g3 } (upd H2 s2.heap.objs.size (.lst [])) fp (X.pn ++ pins)) pins' σ6 H' s' -> Inv (fC X scope z cl C (xs ++ ys) { s2 with heap := g3 } (upd H2 s2.heap.objs.size (.lst [])) fp (X.pn ++ pins)) pins' (List.replicate xs.length none ++ n4 js σ) H' s' := fun I' => by
    refine I'.weak ?_ fun j v' e => ?_
    ·rw [hl6]; unfold n4; simp
    ·by_cases hj : j < xs.length
     ·rw [List.getElem?_append_left (by rw [List.length_replicate]; exact hj), List.getElem?_replicate] at e
      split at e <;> cases e
     ·rw [List.getElem?_append_right (by rw [List.length_replicate]; omega), List.length_replicate, <- hd6, List.getElem?_drop] at e
      rw [<- e]
      congr 1
      omega
   refine wpAny_mono (ht C _ _ fp (X.pn ++ pins) _ s6 _ _ _ I6 e6) (fun ok s6b ⟨H6b, I6b, e6b⟩ => ?_) fun _ _ z => z.elim
   cases ok with
   | false =>
    rw [if_neg Bool.false_ne_true]
    have e6c : W (i + 1) zs H6b := by simpa using e6b
    have I8 := back I6b
    refine ⟨n + 1 - (i + 1), by omega, i + 1, zs, _, rfl, hlt, I8.unpinned (pins := []), ?_, fun b hb => ?_, e6c⟩
    ·exact T.keep _ _ _ st5 fun b hb o q => (I8.pin (b, o) (List.mem_append_right _ (List.mem_append_right _ (cM hb q)))).1
    ·obtain ⟨o, q, d⟩ := T.obj _ _ st5 b hb
     exact (I8.pin (b, o) (List.mem_append_right _ (List.mem_append_right _ (cM hb q)))).2.1
   | true =>
    rw [if_pos rfl]
    have e6c := e6b
    rw [if_pos rfl] at e6c
    refine wpAny_mono (hb C _ _ fp (X.pn ++ pins) _ s6b _ _ _ I6b e6c) (fun y s7 ⟨yv, H7, I7, r7, hD, hz, w7⟩ => ?_) fun _ _ z => z.elim
    obtain ⟨z7, its, n7, rv7, hl7, e7⟩ := I7.lstM hD
    refine append_at (n := n7) (its := its.toArray) e7 (fun h₈ sb8 eD8 => ?_) (by rw [List.size_toArray, <- hl7]; exact Nat.le_of_lt hz)
    have I8 : Inv _ _ _ (upd H7 s2.heap.objs.size (.lst (zs ++ [yv]))) { s7 with heap := h₈, toks := s7.toks } := I7.write (x := s2.heap.objs.size) (e := s2.heap.objs.size) (by rw [hD]; exact trivial) (.inl rfl) (fun b u hb q => (sb8.2 b hb).trans q) ⟨_, eD8⟩
     ⟨by rw [List.length_append]; exact hz, its ++ [y], n7 + 1, rv7.append (.cons r7 .nil), by rw [eD8, List.push_toArray]⟩
    have I9 := back I8
    refine ⟨n + 1 - (i + 1), by omega, i + 1, zs ++ [yv], _, rfl, hlt, I9.unpinned (pins := []), ?_, fun b hb => ?_, w7⟩
    ·exact T.keep _ _ _ st5 fun b hb o q => (I8.pin (b, o) (List.mem_append_right _ (List.mem_append_right _ (cM hb q)))).1
    ·obtain ⟨o, q, d⟩ := T.obj _ _ st5 b hb
     exact (I8.pin (b, o) (List.mem_append_right _ (List.mem_append_right _ (cM hb q)))).2.1
 exact codeAny_compStart_list (loop _ ⟨_, rfl⟩) (T.self _ 0 _ _ _ (T.keep _ _ _ st2 fun b hb o q => old3 b o (old2 b o q)) (loop _ ⟨_, rfl⟩))
theorem aD5 {elt iter tg : Expr} {pos py spos : Pos} {scope : Scope} {ifs : List Expr} {wi : TI} {g : TG} {tt : TT} {te : TE} {xs ys : List Str} {z : Str} {js : List Nat} {cl : List (Str × Addr)} {i : Nat} {y : Str} (hN : X.N.Nodup) (hiN : X.N[i]? = some y) (hx : Loc X.env.scope y) (hc : X.calm = true) (hi : PI X tg iter wi)
  (hcl : aC5 X scope z cl) (hzy : z ∉ ys) (hcap : lO X scope cl ys js) (hcell : aLn scope z) (hkind : scope.kind = .function) (hnames : ∀ y ∈ scope.names, y.2 = .local -> scope.names.lookup y.1 = some .local)
  (hg : ∀ C s₀ H₀ ex pn, PG (fC X scope z cl C (xs ++ ys) s₀ H₀ ex pn) tg g) (ht : ∀ C s₀ H₀ ex pn, PTs (fC X scope z cl C (xs ++ ys) s₀ H₀ ex pn) ifs tt) (hb : ∀ C s₀ H₀ ex pn, PE (fC X scope z cl C (xs ++ ys) s₀ H₀ ex pn) elt te)
  (hsw : swapsWith (.ListComp elt [⟨tg, iter, ifs, 0⟩] scope pos) (some (.Name y py)) spos.line X.env = pure true) (hs : ∀ x, foldedSetIterable iter X.env x = pure x := by intro _; rfl)
  (hf : X.fn y = true \/ X.env.scope.names.lookup y = some .local := by first | exact .inl rfl | exact .inr rfl | assumption) :
  PS X (.Assign [.Name y py] (.ListComp elt [⟨tg, iter, ifs, 0⟩] scope pos) spos) (aLq (nN wi g tt te xs.length js) (aC8 i)) := by
 intro pins s σ H D I h
 rw [exec_Assign_Name_used _ _ _ _ hsw]
 refine wpAny_bind (wpAny_standAt (wpAny_bind ?_))
 show wpAny _ X.A (do let _ <- comprehension (.ListComp elt [⟨tg, iter, ifs, 0⟩] scope pos) scope X.env _ (newList []) false (eval iter X.env) (some (assign (.Name y py) X.env))) _ _ s
 refine wpAny_bind (wpAny_mono (x8 hc hi hcl hzy hcap hcell hkind hnames hg ht hb hs (use := some (assign (.Name y py) X.env)) (QQ := fun _ s' => ∃ σ' H', Inv X pins σ' H' s' /\ D.nx σ' H') I (fun C L s' H' IX f ⟨m, hn⟩ q => ?_) h) (fun _ s' hq => wpAny_pure (wpAny_pure hq)) fun _ _ e => e)
 obtain ⟨o, es, ep, ho, hd, hr⟩ := id hn
 have IP := IX.pinned (fp := [C]) (fun b hb => by rw [List.mem_singleton.mp hb]; exact f) (fun b hb => by rw [List.mem_singleton.mp hb]; exact ⟨o, ho, fun v z => by rw [hd] at z; cases z⟩)
 refine wpAny_mono (u9 (pos := py) hN hiN hx hf _ s' σ H' (.ref L) (.ref L) _ IP rfl q) (fun _ s2 ⟨σ2, H2, I2, q2⟩ => ?_) fun _ _ e => e
 have pc := I2.pin (C, o) (List.mem_append_right _ (List.mem_append_right _ (cM (.head _) ho)))
 exact ⟨m, ⟨o, es, ep, pc.1, hd, hr⟩, fun h' hs' => ⟨σ2, H2, (I2.unpinned (pins := pins)).but ⟨pc.2.1, f.2⟩ hs', q2⟩⟩
end
end L2
namespace M
open PySem PySem.Spec PyProof.Rows L2
section
variable {X : Cx} {E : L2.St -> XK} {pos : Pos}
theorem aLd {scope : Scope} {z : Str} {cl : List (Str × Addr)} {ys : List Str} {js : List Nat} (clos : closureFor scope X.env = pure cl) (sub : ∀ q ∈ cl, X.env.cells.lookup q.1 = some q.2) (cap : lO X scope cl ys js) (hcell : ∀ y ∈ scope.names, y.2 = .cell -> y.1 = z) (hfree : ∀ q ∈ scope.names, q.2 = .free -> q.1 ∈ ys) : aC5 X scope z cl := by
 refine ⟨clos, fun y c h => sub _ (PySem.mem_of_lookup h), fun y hy => ?_⟩
 have hm : y = z \/ y ∈ ys := by
  rcases hy with hy | hy
  ·have m := PySem.mem_of_lookup hy
   obtain ⟨⟨n0, k0⟩, m0, e0⟩ := List.mem_map.mp m
   dsimp only at e0
   split at e0
   ·rename_i z
    injection e0 with e1 e2
    subst e1
    have : k0 = .free := by
     cases k0 <;> simp at z ⊢
    exact .inr (hfree _ m0 this)
   ·injection e0 with e1 e2
    subst e1
    exact .inl (hcell _ m0 e2)
  ·have m := PySem.mem_of_lookup hy
   obtain ⟨⟨n0, k0⟩, m0, e0⟩ := List.mem_map.mp m
   dsimp only at e0
   split at e0
   ·injection e0 with e1 e2
    cases e2
   ·injection e0 with e1 e2
    subst e1
    exact .inr (hfree _ m0 e2)
 refine hm.imp id fun hm => ?_
 obtain ⟨i, hi, e⟩ := List.mem_iff_getElem.mp hm
 have hj : i < js.length := by rw [<- cap.len]; exact hi
 obtain ⟨_, _, _, h4, h5⟩ := cap.at_ i y js[i] (by rw [List.getElem?_eq_getElem hi, e]) (List.getElem?_eq_getElem hj)
 rw [h5]
 exact Option.isSome_iff_exists.mp h4
theorem aB6 {n : Nat} {js ks : List Nat} {fi : En -> Res (List D)} {g : D -> En -> Option En} {ft : En -> Res Bool} {fe : En -> Res Ev} {xs : List Str} (hn : xs.length = n) (hks : ∀ j ∈ ks, j < n)
  : ∀ B G0 G W H σ en Q, SimH B G0 G W H -> SimS X.K W G H σ en -> wpR (gO n js fi g ft fe en) (PostE X.K W G H Q) (PostX (E σ) G H) -> nN (tI X.K E fi) (tG X.K ks g) (tT X.K (fun _ => E0) ft) (tE X.K (fun _ => E0) fe) xs.length js σ H Q := by
 subst hn
 refine fun B G0 G W H σ en Q hh hs hw => ⟨B, G0, G, W, en, hh, hs, ?_⟩
 have hw : wpR ((fi en).bind _) _ _ := hw
 rw [bO] at hw
 refine a5 hw (fun ds hds G1 H1 J s1 hJ D hD => ?_) fun C h => h
 unfold aDj at hds
 split at hds
 case isFalse => exact hds.elim
 rename_i hlen
 split at hds
 case h_2 => exact hds.elim
 rename_i r em
 have gD : G1 D = none := s1.gh.free hD
 have aIp : ∀ {G2 H2 : Hp} {y : List V}, Step G1 H1 G2 H2 -> G2 D = none -> Step G1 H1 G2 (upd H2 D (.lst y)) := fun st hg2 => by
  refine ⟨st.g, fun b o e => ?_, fun b o e => ?_, st.new⟩
  ·rw [aU (b5 e hD)]; exact st.h b o e
  ·rw [aU (b5 e hg2)]; exact st.gh b o e
 refine ⟨ds.length, fun i ys H2 => i <= ds.length /\ ys.length <= i /\ ∃ G2 rs rest, Step G1 H1 G2 H2 /\ G2 D = none /\ H2 D = some (.lst ys) /\ Reps X.K G2 ys rs /\ lR (aQ xs.length js g ft fe en) (ds.drop i) = some rest /\ rs ++ rest = r,
  ⟨Nat.zero_le _, Nat.zero_le _, G1, [], r, Step.lay s1.gh hD, gD, aY, .nil, em, rfl⟩, ?_⟩
 rintro i zs H2 ⟨hi, hzl, G2, rs, rest, st, g2, h2, rp, em2, er⟩
 obtain ⟨j1, j2⟩ := hJ G2 H2 st.g st.gh
 by_cases hlt : i < ds.length
 ·refine .inr ⟨hlt, ?_⟩
  obtain ⟨jg, jy⟩ := j1 i ds[i] (List.getElem?_eq_getElem hlt)
  refine ⟨jg, fun v H3 hy => ?_⟩
  obtain ⟨G3, s3, rv⟩ := jy v H3 hy
  rw [List.drop_eq_getElem_cons hlt] at em2
  unfold lR at em2
  cases ec : aQ xs.length js g ft fe en ds[i] with
  | none => rw [ec] at em2; cases em2
  | some o =>
   rw [ec] at em2
   dsimp only at em2
   cases em3 : lR (aQ xs.length js g ft fe en) (ds.drop (i + 1)) with
   | none => rw [em3] at em2; cases em2
   | some rest' =>
    rw [em3] at em2
    have em2 := Option.some.inj em2
    unfold aQ at ec
    split at ec
    ·cases ec
    ·rename_i e eg
     have in3 := wA xs.length js (hs.step ((s1.trans st).trans s3))
     refine ⟨G3, fun _ => none, _, ds[i], e, s3.gh, in3, rv, eg, fun σ' hσ hk => ⟨⟨?_, ?_⟩, ?_⟩⟩
     ·rw [hk.1]; unfold n4; simp
     ·refine List.ext_getElem? fun j => ?_
      rw [List.getElem?_drop, hk.2 (xs.length + j) fun z => absurd (hks _ z) (by omega), List.getElem?_append_right (by rw [List.length_replicate]; omega), List.length_replicate]
      congr 1
      omega
     ·refine ⟨_, _, G3, fun _ => none, e, aDs s3.gh, hσ, ?_⟩
      cases et : ft e with
      | bad => rw [et] at ec; cases ec
      | exc C => rw [et] at ec; cases ec
      | ok k =>
       rw [et] at ec
       intro G5 H5 s5
       cases k with
       | false =>
        cases ec
        rw [if_neg Bool.false_ne_true]
        have s25 := s3.trans s5
        exact ⟨hlt, Nat.le_succ_of_le hzl, G5, rs, rest', st.trans s25, s25.off h2 (fun xs z => nomatch z) g2, s25.h _ _ h2, rp.mono s25.g, em3, by rw [<- er, <- em2]⟩
       | true =>
        rw [if_pos rfl]
        refine ⟨_, _, G5, fun _ => none, e, aDs s5.gh, hσ.step s5, ?_⟩
        dsimp only at ec
        cases ee : fe e with
        | bad => rw [ee] at ec; cases ec
        | exc C => rw [ee] at ec; cases ec
        | ok q =>
         rw [ee] at ec
         intro G6 H6 y s6 ey
         obtain ⟨G7, s7, e7⟩ := EOk.c s6 ey
         dsimp only at ec
         split at ec
         ·rename_i y' eq
          cases ec
          rw [eq] at e7
          have s27 := (s3.trans s5).trans s7
          have g7 := s27.off h2 (fun xs z => nomatch z) g2
          refine ⟨s27.h _ _ h2, Nat.lt_of_le_of_lt (Nat.le_trans hzl (Nat.le_trans hi hlen)) (by decide), hlt, by rw [List.length_append]; exact Nat.succ_le_succ hzl, G7, rs ++ [y'], rest', aIp (st.trans s27) g7, g7, aY, (rp.mono s27.g).append (.cons e7 .nil), em3, ?_⟩
          rw [<- er, <- em2, List.append_assoc]
          rfl
         ·cases ec
 ·have e : i = ds.length := by omega
  subst e
  rw [List.drop_length] at em2
  cases em2
  rw [List.append_nil] at er
  subst er
  exact .inl ⟨j2, hds G2 H2 _ (s1.trans st) ⟨D, _, rfl, s1.h.free hD, g2, h2, .lst rp⟩⟩
theorem aGw {i : Nat} {y : Str} {py spos : Pos} (hN : X.N.Nodup) (hiN : X.N[i]? = some y) (hx : Loc X.env.scope y) {elt iter tg : Expr} {scope : Scope} {ifs : List Expr} {n : Nat} {js ks : List Nat} {fi : En -> Res (List D)} {g : D -> En -> Option En} {ft : En -> Res Bool} {fe : En -> Res Ev} {xs ys : List Str} {z : Str} {cl : List (Str × Addr)} (hc : X.calm = true) (hi : DI X E tg iter fi)
  (hcl : aC5 X scope z cl) (hzy : z ∉ ys) (hcap : lO X scope cl ys js) (hcell : aLn scope z) (hkind : scope.kind = .function) (hnames : ∀ y ∈ scope.names, y.2 = .local -> scope.names.lookup y.1 = some .local) (hn : xs.length = n) (hks : ∀ j ∈ ks, j < n)
  (hg : ∀ C s₀ H₀ ex pn, DG (fC X scope z cl C (xs ++ ys) s₀ H₀ ex pn) tg ks g) (ht : ∀ C s₀ H₀ ex pn, DTs (fC X scope z cl C (xs ++ ys) s₀ H₀ ex pn) ifs ft) (hb : ∀ C s₀ H₀ ex pn, DE (fC X scope z cl C (xs ++ ys) s₀ H₀ ex pn) (fun _ => E0) elt fe)
  (hsw : swapsWith (.ListComp elt [⟨tg, iter, ifs, 0⟩] scope pos) (some (.Name y py)) spos.line X.env = pure true := by rfl) (hs : ∀ x, foldedSetIterable iter X.env x = pure x := by intro _; rfl)
  (hf : X.fn y = true \/ X.env.scope.names.lookup y = some .local := by first | exact .inl rfl | exact .inr rfl | assumption) : DS X E (.Assign [.Name y py] (.ListComp elt [⟨tg, iter, ifs, 0⟩] scope pos) spos) (cX i (gO n js fi g ft fe)) :=
 DS.in ⟨_, aD5 (xs := xs) (g := tG X.K ks g) (tt := tT X.K (fun _ => E0) ft) (te := tE X.K (fun _ => E0) fe) hN hiN hx hc hi hcl hzy hcap hcell hkind hnames hg ht hb hsw hs hf, qV (aB6 hn hks)⟩
end
end M
namespace N
open PySem PySem.Spec PyProof.Rows L2 M
def frD (x : Int × Int) : D := .tuple [.int x.1, .int x.2]
abbrev Pl := Int × Int × (Int × Int)
def plD (p : Pl) : D := .tuple [.int p.1, .int p.2.1, frD p.2.2]
theorem at0 {α : Type} (x : α) (r : List α) : atI (x :: r) 0 = some x := nQ (j := 0) rfl
theorem at1 {α : Type} (x y : α) (r : List α) : atI (x :: y :: r) 1 = some y := nQ (j := 1) rfl
theorem at2 {α : Type} (x y z : α) (r : List α) : atI (x :: y :: z :: r) 2 = some z := nQ (j := 2) rfl
theorem iQ (i j : Int) : PyData.eqv (.int i) (.int j) = (i == j) := by simp [PyData.eqv]
theorem iD (i : Int) : SeqAt.shaped (.int i) = true := by simp [SeqAt.shaped, PyData.canLay0, PyData.depth]
def aIx {α : Type} (f : D -> Option α) : List D -> Option (List α)
 | [] => some []
 | d :: r => match f d with
  | none => none
  | some a => match aIx f r with
   | none => none
   | some as => some (a :: as)
theorem lN {α : Type} {f : D -> Option α} {enc : α -> D} (h : ∀ a, f (enc a) = some a) : ∀ xs : List α, aIx f (xs.map enc) = some xs
 | [] => rfl
 | x :: xs => by
  show (match f (enc x) with | none => none | some a => match aIx f (xs.map enc) with | none => none | some as => some (a :: as)) = _
  rw [h x, lN h xs]
def aMc : D -> Option (Int × Int)
 | .tuple [.int a, .int b] => some (a, b)
 | _ => none
def aLs : D -> Option Pl
 | .tuple [.int i, .int j, .tuple [.int a, .int b]] => some (i, j, (a, b))
 | _ => none
theorem xD (x : Int × Int) : aMc (frD x) = some x := rfl
theorem vX (x : Pl) : aLs (plD x) = some x := rfl
theorem fN {α : Type} {g : D -> Option (Option D)} {enc : α -> D} {out : α -> D} : ∀ xs : List α, (∀ x ∈ xs, g (enc x) = some (some (out x))) -> lR g (xs.map enc) = some (xs.map out)
 | [], _ => rfl
 | x :: xs, h => by
  show (match g (enc x) with | none => none | some o => match lR g (xs.map enc) with | none => none | some r => some (match o with | some y => y :: r | none => r)) = _
  rw [h x (.head _), fN xs fun y hy => h y (.tail _ hy)]
  rfl
def ltF (x y : Int × Int) : Bool := decide (x.1 * y.2 < y.1 * x.2)
def best (b : Int × Int) : List (Int × Int) -> Int × Int
 | [] => b
 | x :: r => best (if ltF b x = true then x else b) r
def FSz (n : Nat) (x : Int × Int) : Prop := Sz n x.1 /\ Sz n x.2
def Good (n : Nat) (x : Int × Int) : Prop := 1 <= x.2 /\ Sz n x.1 /\ Sz n x.2
theorem Good.fsz {n : Nat} {x : Int × Int} (h : Good n x) : FSz n x := h.2
theorem Good.mono {m n : Nat} {x : Int × Int} (h : Good m x) (l : m <= n) : Good n x := ⟨h.1, h.2.1.mono l, h.2.2.mono l⟩
theorem y4 {n : Nat} {t b : Int} (ht : Sz n t) (hb : Sz n b) (h0 : b ≠ 0) : Good n (FR.mk t b) := ⟨(FR.kI h0).1.pos, Sz.le ht (natAbs_fdiv_le _ _), Sz.le hb (natAbs_fdiv_le _ _)⟩
def hT (i : Int) (x : Int × Int) : Int × Int := FR.mk (i * x.1) (1 * x.2)
def hP (x y : Int × Int) : Int × Int := FR.mk (x.1 * y.2 + y.1 * x.2) (x.2 * y.2)
def hgt (p : Pl) (pt : (Int × Int) × (Int × Int)) : Int × Int := hP (hP (hT p.1 pt.1) (hT p.2.1 pt.2)) p.2.2
theorem pH {m n : Nat} {i : Int} {x : Int × Int} (hi : Sz m i) (hx : Good n x) : Good (m + n) (hT i x) :=
 y4 (Sz.mul hi hx.2.1) (by rw [Int.one_mul]; exact hx.2.2.mono (Nat.le_add_left _ _)) (by have := hx.1; omega)
theorem aBd {m n : Nat} {x y : Int × Int} (hx : Good m x) (hy : Good n y) : Good (m + n + 1) (hP x y) :=
 y4 (Sz.add (Sz.mul hx.2.1 hy.2.2) ((Sz.mul hy.2.1 hx.2.2).mono (by omega))) ((Sz.mul hx.2.2 hy.2.2).mono (by omega)) (fun z => by
  rcases Int.mul_eq_zero.mp z with q | q
  ·have := hx.1; omega
  ·have := hy.1; omega)
theorem Good.ne {m n : Nat} {x y : Int × Int} (hx : Good m x) (hy : Good n y) : x.2 * y.2 ≠ 0 := fun z => by
 rcases Int.mul_eq_zero.mp z with q | q
 ·have := hx.1; omega
 ·have := hy.1; omega
theorem aEf : Sz 2000 (1 : Int) := by unfold Sz; exact Nat.one_lt_two_pow (by decide)
open Classical in
noncomputable def mOf {α : Type} (enc : α -> List L) (P : α -> Prop) (g : α -> Res L) (ls : List L) : Res L := if h : ∃ a, enc a = ls /\ P a then g h.choose else .bad
theorem dU {α : Type} {enc : α -> List L} {P : α -> Prop} {g : α -> Res L} (inj : ∀ a b, enc a = enc b -> a = b) {a : α} (h : P a) : mOf enc P g (enc a) = g a := by
 have hx : ∃ b, enc b = enc a /\ P b := ⟨a, rfl, h⟩
 unfold mOf
 rw [dif_pos hx, inj _ _ hx.choose_spec.1]
theorem dS {α : Type} {enc : α -> List L} {P : α -> Prop} {g : α -> Res L} {n : Nat} {f : MS} (h : ∀ a, P a -> eO n f (enc a) = g a) : ∀ ls, mOf enc P g ls = .bad \/ eO n f ls = mOf enc P g ls := by
 intro ls
 unfold mOf
 by_cases hx : ∃ a, enc a = ls /\ P a
 ·rw [dif_pos hx]
  exact .inr ((congrArg _ hx.choose_spec.1.symm).trans (h _ hx.choose_spec.2))
 ·exact .inl (dif_neg hx)
theorem frI {a b : Int × Int} (h : frD a = frD b) : a = b := Option.some.inj (congrArg aMc h)
theorem plI {a b : Pl} (h : plD a = plD b) : a = b := Option.some.inj (congrArg aLs h)
theorem aN2 {a b : List Pl} (h : a.map plD = b.map plD) : a = b := by
 have e := congrArg (aIx aLs) h
 rw [lN vX, lN vX] at e
 exact Option.some.inj e
theorem ptI {x y : (Int × Int) × (Int × Int)} (h : PyData.tuple [frD x.1, frD x.2] = .tuple [frD y.1, frD y.2]) : x = y := by
 injection h with h
 injection h with h1 h2
 injection h2 with h2 _
 exact Prod.ext (frI h1) (frI h2)
def ePH (a : Pl × (Int × Int) × (Int × Int)) : List L := [.p (plD a.1), .p (.tuple [frD a.2.1, frD a.2.2])]
theorem aGr (a b : Pl × (Int × Int) × (Int × Int)) (h : ePH a = ePH b) : a = b := by
 unfold ePH at h
 injection h with h1 h2
 injection h2 with h2 _
 injection h1 with h1
 injection h2 with h2
 exact Prod.ext (plI h1) (ptI h2)
theorem rL (a : D) (r : List D) : ixE (.p (.tuple (a :: r))) (.p (.int 0)) = .ok (.p a) := by simp [ixE, hV, at0]
theorem tJ (a b : D) (r : List D) : ixE (.p (.tuple (a :: b :: r))) (.p (.int 1)) = .ok (.p b) := by simp [ixE, hV, at1]
theorem uV (a b d : D) (r : List D) : ixE (.p (.tuple (a :: b :: d :: r))) (.p (.int 2)) = .ok (.p d) := by simp [ixE, hV, at2]
theorem pM (p : Pl) : ixE (.p (plD p)) (.p (.int 0)) = .ok (.p (.int p.1)) := rL _ _
theorem pI (p : Pl) : ixE (.p (plD p)) (.p (.int 1)) = .ok (.p (.int p.2.1)) := tJ _ _ _
theorem pL (p : Pl) : ixE (.p (plD p)) (.p (.int 2)) = .ok (.p (frD p.2.2)) := uV _ _ _ _
theorem l8 (p : Int × Int) : ixE (.p (frD p)) (.p (.int 0)) = .ok (.p (.int p.1)) := rL _ _
theorem mE (p : Int × Int) : ixE (.p (frD p)) (.p (.int 1)) = .ok (.p (.int p.2)) := tJ _ _ _
section
variable {κ α : Type} [DecidableEq κ]
variable {ek : κ -> D} {ev : α -> D} (inj : ∀ a b, ek a = ek b -> a = b)
include inj
end
theorem aMn {x : Int} (n : Nat) (h : x.natAbs < 2 ^ n) : Sz n x := h
theorem dM {a b : Int} (hb : 0 < b) : 0 <= a.fmod b /\ a.fmod b < b := by
 rw [Int.fmod_eq_emod_of_nonneg a (Int.le_of_lt hb)]
 exact ⟨Int.emod_nonneg a (by omega), Int.emod_lt_of_pos a hb⟩
theorem aO {f g : MS} {en e1 : En} (h : f en = some (.nx e1)) : b8 f g en = g e1 := by unfold b8; rw [h]
theorem aAm {f g : MS} {en : En} {l : L} (h : f en = some (.rt l)) : b8 f g en = some (.rt l) := by unfold b8; rw [h]
theorem eL {i : Nat} {fe : En -> Res Ev} {en : En} {d : D} (h : fe en = .ok (.p d)) : cX i fe en = some (.nx (en.set i (some (.p d)))) := by unfold cX; rw [h]
theorem fW {i : Nat} {fe : En -> Res Ev} {en : En} {d : D} (h : fe en = .ok (.f d)) : cX i fe en = some (.nx (en.set i (some (.o d)))) := by unfold cX; rw [h]
theorem vR {ft : En -> Res Bool} {f g : MS} {en : En} (h : ft en = .ok true) : kF ft f g en = f en := by unfold kF; rw [h]; rfl
theorem oW {ft : En -> Res Bool} {f g : MS} {en : En} (h : ft en = .ok false) : kF ft f g en = g en := by unfold kF; rw [h]; rfl
theorem cJ {n : Nat} {f : MS} {ls : List L} {l : L} (h : f (bE n ls) = some (.rt l)) : eO n f ls = .ok l := by unfold eO; rw [h]
theorem vD {α : Type} (f : α -> D) (h : ∀ a, PyData.canLay0 (f a) = true) : ∀ xs : List α, PyData.canLayAll0 (xs.map f) = true
 | [] => rfl
 | x :: xs => by rw [List.map_cons, PyData.canLayAll0, h x, vD f h xs]; rfl
theorem tY {α : Type} (f : α -> D) (n : Nat) (h : ∀ a, PyData.depth (f a) <= n) : ∀ xs : List α, PyData.depthAll (xs.map f) <= n
 | [] => Nat.zero_le _
 | x :: xs => by
  rw [List.map_cons, PyData.depthAll]
  exact Nat.max_le.mpr ⟨h x, tY f n h xs⟩
theorem aH6 (p : Pl) : PyData.canLay0 (plD p) = true := by simp [plD, frD, PyData.canLay0, PyData.canLayAll0]
theorem aJf (p : Pl) : PyData.depth (plD p) <= 9 := by simp [plD, frD, PyData.depth, PyData.depthAll]
theorem aG7 {α : Type} (f : α -> D) (h1 : ∀ a, PyData.canLay0 (f a) = true) (h2 : ∀ a, PyData.depth (f a) <= 9) (xs : List α) : SeqAt.shaped (.list (xs.map f)) = true := by
 have a : PyData.canLay0 (.list (xs.map f)) = true := by rw [PyData.canLay0]; exact vD f h1 xs
 have b : PyData.depth (.list (xs.map f)) <= 64 := by
  rw [PyData.depth]
  have := tY f 9 h2 xs
  omega
 unfold SeqAt.shaped
 rw [a, decide_eq_true b]
 rfl
theorem i4 {x y : Ev} {d : D} (h1 : dat x = some d) (h2 : dat y = some d) (hs : SeqAt.shaped d = true) (ng : Bool) : eqE ng x y = .ok (.p (.bool (!ng))) := by
 have hc : PyData.canLay0 d = true := by
  unfold SeqAt.shaped at hs
  exact (Bool.and_eq_true_iff.mp hs).1
 unfold eqE
 rw [h1, h2]
 dsimp only
 rw [if_pos ⟨hs, hs⟩, SeqAt.eqv_refl d hc]
 cases ng <;> rfl
theorem uK (x : Int × Int) : SeqAt.shaped (frD x) = true := by simp [SeqAt.shaped, frD, PyData.canLay0, PyData.canLayAll0, PyData.depth, PyData.depthAll]
theorem kE {fi : En -> Res (List D)} {tg : D -> En -> Option En} {f : MS} {en : En} {ds : List D} (h : fi en = .ok ds) : pD fi tg f en = e9 tg f ds en := by unfold pD; rw [h]
theorem k8 {α : Type} {g : D -> Option (Option D)} {enc : α -> D} {out : α -> D} {p : α -> Bool} : ∀ xs : List α, (∀ x ∈ xs, g (enc x) = some (if p x = true then some (out x) else none)) -> lR g (xs.map enc) = some ((xs.filter p).map out)
 | [], _ => rfl
 | x :: xs, h => by
  show (match g (enc x) with | none => none | some o => match lR g (xs.map enc) with | none => none | some r => some (match o with | some y => y :: r | none => r)) = _
  rw [h x (.head _), k8 xs fun y hy => h y (.tail _ hy), List.filter_cons]
  cases p x <;> rfl
theorem aE7 (x y : Int × Int) : PyData.eqv (frD x) (frD y) = decide (x = y) := by
 have : PyData.eqv (frD x) (frD y) = (x.1 == y.1 && (x.2 == y.2 && true)) := by simp [frD, PyData.eqv, PyData.eqvAll]
 rw [this]
 by_cases h : x = y
 ·subst h; simp
 ·rw [decide_eq_false h]
  by_cases h1 : x.1 = y.1
  ·have h2 : ¬ x.2 = y.2 := fun h2 => h (Prod.ext h1 h2)
   simp [h1, h2]
  ·simp [h1]
theorem nU {α : Type} (f : α -> D) (h : ∀ a, lfD (f a) = true) : ∀ xs : List α, lfA (xs.map f) = true
 | [] => by simp [lfA]
 | x :: xs => by rw [List.map_cons]; unfold lfA; rw [h x, nU f h xs]; rfl
theorem Sz.addM {m n : Nat} {x y : Int} (hx : Sz m x) (hy : Sz n y) : Sz (max m n + 1) (x + y) := Sz.add (hx.mono (Nat.le_max_left _ _)) (hy.mono (Nat.le_max_right _ _))
theorem Sz.subM {m n : Nat} {x y : Int} (hx : Sz m x) (hy : Sz n y) : Sz (max m n + 1) (x - y) := Sz.sub (hx.mono (Nat.le_max_left _ _)) (hy.mono (Nat.le_max_right _ _))
theorem qL {n : Nat} {a b : Int} (h : 0 < b) (hb : Sz n b) : Sz n (a.fmod b) := by
 have := dM (a := a) h
 exact Sz.le hb (by omega)
theorem cm2 {m n : Nat} {i j : Int} (h1 : Sz m i) (h2 : Sz n j) (hm : m <= 60000) (hn : n <= 60000) : CMulW i j := ⟨h1.mono hm, h2.mono hn⟩
theorem w8 {i j : Int} (h : CMulW i j) : lE (.p (.int i)) (.p (.int j)) = .ok (.p (.int (i * j))) := by simp [lE, vP, h]
theorem rB {i j : Int} (h : mS i j) : qC (.p (.int i)) (.p (.int j)) = .ok (.p (.int (i.fdiv j))) := by simp [qC, vP, h]
theorem mI {i j : Int} (h : j ≠ 0) : mK (.p (.int i)) (.p (.int j)) = .ok (.p (.int (i.fmod j))) := by simp [mK, vP, h]
theorem wK {i j : Int} (h : aHx i j) : aH2 (.p (.int i)) (.p (.int j)) = .ok (.p (.int (i ^ j.toNat))) := by simp [aH2, vP, h]
def eII (a : Int × Int) : List L := [.p (.int a.1), .p (.int a.2)]
theorem uM (a b : Int × Int) (h : eII a = eII b) : a = b := by
 unfold eII at h
 injection h with h1 h2
 injection h2 with h2 _
 injection h1 with h1
 injection h2 with h2
 injection h1 with h1
 injection h2 with h2
 exact Prod.ext h1 h2
theorem aNo {a b : List (Int × Int)} (h : a.map frD = b.map frD) : a = b := by
 have e := congrArg (aIx aMc) h
 rw [lN xD, lN xD] at e
 exact Option.some.inj e
def eFs (hs : List (Int × Int)) : List L := [.p (.list (hs.map frD))]
theorem aFx (a b : List (Int × Int)) (h : eFs a = eFs b) : a = b := by
 unfold eFs at h
 injection h with h _
 injection h with h
 injection h with h
 exact aNo h
def eFF (a : (Int × Int) × (Int × Int)) : List L := [.p (frD a.1), .p (frD a.2)]
theorem lX (a b : (Int × Int) × (Int × Int)) (h : eFF a = eFF b) : a = b := by
 unfold eFF at h
 injection h with h1 h2
 injection h2 with h2 _
 injection h1 with h1
 injection h2 with h2
 exact Prod.ext (frI h1) (frI h2)
abbrev Pt := (Int × Int) × (Int × Int)
theorem q9 {α β : Type} (a : α) (f : α -> Res β) : (Res.ok a).bind f = f a := rfl
theorem aL2 {fe : En -> Res Ev} {en : En} {d : D} (h : fe en = .ok (.f d)) : fP fe en = some (.rt (.o d)) := by unfold fP; rw [h]; rfl
theorem g9 {fe : En -> Res Ev} {en : En} {d : D} (h : fe en = .ok (.p d)) : fP fe en = some (.rt (.p d)) := by unfold fP; rw [h]; rfl
theorem g6 {n : Nat} {js : List Nat} {fi : En -> Res (List D)} {tg : D -> En -> Option En} {ft : En -> Res Bool} {fe : En -> Res Ev} {en : En} {ds es : List D} (h1 : fi en = .ok ds) (h2 : ds.length <= 100000) (h3 : lR (aQ n js tg ft fe en) ds = some es) : gO n js fi tg ft fe en = .ok (.f (.list es)) := by
 unfold gO
 rw [h1, q9]
 unfold aDj
 rw [if_pos h2, h3]
end N
local macro_rules | `(tactic| walk_at "z") => `(tactic| repeat (first | assumption | apply L2.Sz.mul | apply N.Sz.addM | apply N.Sz.subM | apply L2.Sz.neg | apply N.sz_fdiv | (apply N.qL; (first | decide | omega)) | exact N.sz_lit4 (by decide) | exact N.sz_lit (by decide) | exact N.sz_lit70 (by decide) | exact N.sz_big (by decide)))
local macro_rules | `(tactic| walk_at "d") => `(tactic| first | assumption | (first | apply N.cm2 | apply N.cd2) <;> (first | decide | omega | (walk_at "z")) | decide | omega)
namespace N
open PySem PySem.Spec PyProof.Rows L2 M
def leF (x y : Int × Int) : Prop := x.1 * y.2 <= y.1 * x.2
theorem aAh {a b d : Int} (h : d ∣ a * b) (g : Int.gcd a d = 1) : d ∣ b := by
 have h1 : d.natAbs ∣ a.natAbs * b.natAbs := by
  rw [<- Int.natAbs_mul]
  exact Int.natAbs_dvd_natAbs.mpr h
 have c : Nat.Coprime d.natAbs a.natAbs := by
  show Nat.gcd d.natAbs a.natAbs = 1
  rw [Nat.gcd_comm]
  exact g
 exact Int.natAbs_dvd_natAbs.mp (Nat.Coprime.dvd_of_dvd_mul_left c h1)
theorem zI {x y : Int × Int} (hx : FR.Fr x) (hy : FR.Fr y) (h1 : leF x y) (h2 : leF y x) : x = y := by
 have e : x.1 * y.2 = y.1 * x.2 := Int.le_antisymm h1 h2
 have p1 := hx.pos
 have p2 := hy.pos
 have d1 : x.2 ∣ y.2 := by
  have : x.2 ∣ x.1 * y.2 := ⟨y.1, by rw [e]; ac_rfl⟩
  exact aAh this hx.low
 have d2 : y.2 ∣ x.2 := by
  have : y.2 ∣ y.1 * x.2 := ⟨x.1, by rw [<- e]; ac_rfl⟩
  exact aAh this hy.low
 have eb : x.2 = y.2 := Int.dvd_antisymm (by omega) (by omega) d1 d2
 have et : x.1 = y.1 := by
  rw [eb] at e
  exact Int.eq_of_mul_eq_mul_right (by omega) e
 exact Prod.ext et eb
theorem jP {x y : Int} (hx : 1 <= x) (hy : 1 <= y) : 1 <= x * y := by
 have := Int.mul_pos (show 0 < x by omega) (show 0 < y by omega)
 omega
abbrev R2 := Int × Int
abbrev R3 := Int × Int × Int
def hM (x y : Int × Int) : Int × Int := FR.mk (x.1 * y.2 - y.1 * x.2) (x.2 * y.2)
def hO (x y : Int × Int) : Int × Int := FR.mk (x.1 * y.2) (x.2 * y.1)
def aHu (l h : R3) : R2 := (l.2.1 * h.1 - h.2.1 * l.1, l.2.1 * h.2.2 - h.2.1 * l.2.2)
def aMi (rows : List R3) : List R2 := (rows.filter fun r => decide (r.2.1 = 0)).map fun r => (r.1, r.2.2)
def aM4 (rows : List R3) : List R3 := rows.filter fun r => decide (r.2.1 < 0)
def aMh (highs : List R3) (k : List R2) (l : R3) : List R2 := if 0 < l.2.1 then k ++ highs.map (aHu l) else k
def elim (rows : List R3) : List R2 := rows.foldl (aMh (aM4 rows)) (aMi rows)
theorem aLa {t b : Int} (h : 1 <= b) : FR.Fr (FR.mk t b) := (FR.kI (by omega)).1
theorem aHi {x y : Int × Int} (hx : 1 <= x.2) (hy : 1 <= y.2) : FR.Fr (hP x y) := aLa (jP hx hy)
def ng (x : Int × Int) : Int × Int := hM (0, 1) x
end N
namespace My
open PySem PySem.Spec PyProof.Rows L2 M N
local macro_rules | `(tactic| walk_at "z") => `(tactic| repeat (first | assumption | apply L2.Sz.mul | apply N.Sz.addM | apply N.Sz.subM | apply L2.Sz.neg | apply N.sz_fdiv | (apply N.qL; (first | decide | omega)) | exact N.sz_lit4 (by decide) | exact N.sz_lit (by decide) | exact N.sz_lit70 (by decide) | exact N.sz_big (by decide)))
local macro_rules | `(tactic| walk_at "d") => `(tactic| first | assumption | (first | apply N.cm2 | apply N.cd2) <;> (first | decide | omega | (walk_at "z")) | decide | omega)
local macro_rules | `(tactic| walk_at "1a") => `(tactic| simp (disch := assumption) only [b8, cX, fP, kF, aC, mC, aH, mUn, aB, aL, aP, dE, cG, iS, zY, Res.bind, Ev.c, aEr, jC, aF, bV, fE, hX, bG, bT, aCi, mOr, jT, pA, aHz, sD, jH, fB, iF, fQ, xP, e8, dat, eM, eqE, iD, iQ, pL, pM, pI, l8, mE, rL, tJ, uV, w8, rB, mI, wK, List.getElem?_cons_zero, List.getElem?_cons_succ, List.set_cons_zero, List.set_cons_succ, List.length_cons, List.length_nil, List.length_map, List.length_append, if_true, if_false, ite_true, ite_false, decide_true, decide_false, Bool.false_eq_true, Nat.zero_add, Nat.reduceAdd, Nat.reduceEqDiff, Nat.reduceLeDiff, reduceIte, List.map_append, List.map_cons, List.map_nil])
local macro_rules | `(tactic| ktr_call 11 ⟨$xs,*⟩) => `(tactic| simp (disch := assumption) only [b8, cX, fP, kF, aC, mC, aH, mUn, aB, aL, aP, dE, cG, iS, zY, Res.bind, Ev.c, aEr, jC, aF, bV, fE, hX, bG, bT, aCi, mOr, jT, pA, aHz, sD, jH, fB, iF, fQ, xP, e8, dat, eM, eqE, iD, iQ, pL, pM, pI, l8, mE, rL, tJ, uV, w8, rB, mI, wK, List.getElem?_cons_zero, List.getElem?_cons_succ, List.set_cons_zero, List.set_cons_succ, List.length_cons, List.length_nil, List.length_map, List.length_append, if_true, if_false, ite_true, ite_false, decide_true, decide_false, Bool.false_eq_true, Nat.zero_add, Nat.reduceAdd, Nat.reduceEqDiff, Nat.reduceLeDiff, reduceIte, List.map_append, List.map_cons, List.map_nil, $[$xs:term],*])
local macro_rules | `(tactic| walk_at "1d") => `(tactic| simp (disch := (walk_at "d")) only [b8, cX, fP, kF, aC, mC, aH, mUn, aB, aL, aP, dE, cG, iS, zY, Res.bind, Ev.c, aEr, jC, aF, bV, fE, hX, bG, bT, aCi, mOr, jT, pA, aHz, sD, jH, fB, iF, fQ, xP, e8, dat, eM, eqE, iD, iQ, pL, pM, pI, l8, mE, rL, tJ, uV, w8, rB, mI, wK, List.getElem?_cons_zero, List.getElem?_cons_succ, List.set_cons_zero, List.set_cons_succ, List.length_cons, List.length_nil, List.length_map, List.length_append, if_true, if_false, ite_true, ite_false, decide_true, decide_false, Bool.false_eq_true, Nat.zero_add, Nat.reduceAdd, Nat.reduceEqDiff, Nat.reduceLeDiff, reduceIte, List.map_append, List.map_cons, List.map_nil])
local macro_rules | `(tactic| ktr_call 21 ⟨$xs,*⟩) => `(tactic| simp (disch := (walk_at "d")) only [b8, cX, fP, kF, aC, mC, aH, mUn, aB, aL, aP, dE, cG, iS, zY, Res.bind, Ev.c, aEr, jC, aF, bV, fE, hX, bG, bT, aCi, mOr, jT, pA, aHz, sD, jH, fB, iF, fQ, xP, e8, dat, eM, eqE, iD, iQ, pL, pM, pI, l8, mE, rL, tJ, uV, w8, rB, mI, wK, List.getElem?_cons_zero, List.getElem?_cons_succ, List.set_cons_zero, List.set_cons_succ, List.length_cons, List.length_nil, List.length_map, List.length_append, if_true, if_false, ite_true, ite_false, decide_true, decide_false, Bool.false_eq_true, Nat.zero_add, Nat.reduceAdd, Nat.reduceEqDiff, Nat.reduceLeDiff, reduceIte, List.map_append, List.map_cons, List.map_nil, $[$xs:term],*])
local macro_rules | `(tactic| ktr_call 2 ⟨$xs,*⟩) => `(tactic| simp only [b8, cX, fP, kF, aC, mC, aH, mUn, aB, aL, aP, dE, cG, iS, zY, Res.bind, Ev.c, aEr, jC, aF, bV, fE, hX, bG, bT, aCi, mOr, jT, pA, aHz, sD, jH, fB, iF, fQ, xP, e8, dat, eM, eqE, iD, iQ, pL, pM, pI, l8, mE, rL, tJ, uV, List.getElem?_cons_zero, List.getElem?_cons_succ, List.set_cons_zero, List.set_cons_succ, List.length_cons, List.length_nil, List.length_map, List.length_append, if_true, if_false, ite_true, ite_false, decide_true, decide_false, Bool.false_eq_true, Nat.zero_add, Nat.reduceAdd, Nat.reduceEqDiff, Nat.reduceLeDiff, reduceIte, List.map_append, List.map_cons, List.map_nil, $[$xs:term],*])
local macro_rules | `(tactic| ktr_call 3 ⟨$xs,*⟩) => `(tactic| simp only [List.getElem?_cons_zero, List.getElem?_cons_succ, List.set_cons_zero, List.set_cons_succ, List.length_cons, List.length_nil, List.length_map, List.length_append, if_true, if_false, ite_true, ite_false, decide_true, decide_false, Bool.false_eq_true, Nat.zero_add, Nat.reduceAdd, Nat.reduceEqDiff, Nat.reduceLeDiff, reduceIte, List.map_append, List.map_cons, List.map_nil, $[$xs:term],*])
local macro_rules | `(tactic| ktr_call 13 ⟨$xs,*⟩) => `(tactic| simp (disch := assumption) only [List.getElem?_cons_zero, List.getElem?_cons_succ, List.set_cons_zero, List.set_cons_succ, List.length_cons, List.length_nil, List.length_map, List.length_append, if_true, if_false, ite_true, ite_false, decide_true, decide_false, Bool.false_eq_true, Nat.zero_add, Nat.reduceAdd, Nat.reduceEqDiff, Nat.reduceLeDiff, reduceIte, List.map_append, List.map_cons, List.map_nil, $[$xs:term],*])
def top (i : Nat) : Stmt := PySem.Challenge.pw_creasecurve_k43_heights_by_dealings.main.body.getD i (.Pass ⟨0, 0, 0, 0⟩)
abbrev dQ : Stmt := top 5
abbrev kB : Stmt := top 6
abbrev wU : Stmt := top 7
abbrev qQ : Stmt := top 8
abbrev qI : Stmt := top 9
abbrev eX : Stmt := top 10
abbrev qP : Stmt := top 11
abbrev gC : Stmt := top 13
abbrev iA : Stmt := top 14
abbrev j3 : Stmt := top 15
abbrev wO : Stmt := top 16
abbrev fK : Stmt := top 18
abbrev eW : Stmt := top 22
abbrev eR : Stmt := top 23
abbrev lA : Stmt := top 24
abbrev iC : Stmt := top 26
abbrev fI : Stmt := top 27
abbrev jY : Stmt := top 28
abbrev gE : Stmt := top 29
abbrev jZ : Stmt := top 30
abbrev fL : Stmt := top 31
abbrev gM : Stmt := top 32
abbrev dN : Stmt := top 33
abbrev gL : Stmt := top 34
abbrev gF : Stmt := top 35
abbrev gN : Stmt := top 36
abbrev gI : Stmt := top 37
abbrev fM : Stmt := top 38
abbrev dC : Stmt := top 39
abbrev iI : Stmt := top 40
abbrev jD : Stmt := top 41
abbrev j9 : Stmt := top 42
abbrev rN : Stmt := top 43
theorem vZ : bootBuiltins "abs" = some (.builtin "abs") := by decide +kernel
theorem aHq : bootBuiltins "bool" = some (.type "bool") := by decide +kernel
theorem aKx : bootBuiltins "int" = some (.type "int") := by decide +kernel
theorem q0 : bootBuiltins "list" = some (.type "list") := by decide +kernel
theorem aIt : bootBuiltins "max" = some (.builtin "max") := by decide +kernel
theorem rW : bootBuiltins "sorted" = some (.builtin "sorted") := by decide +kernel
theorem aLh : bootBuiltins "sum" = some (.builtin "sum") := by decide +kernel
theorem qH : bootBuiltins "tuple" = some (.type "tuple") := by decide +kernel
structure Blt (mg : Str -> Option Value) : Prop where
 abs_ : mg "abs" = none
 bool_ : mg "bool" = none
 enumerate_ : mg "enumerate" = none
 int_ : mg "int" = none
 isinstance_ : mg "isinstance" = none
 len_ : mg "len" = none
 list_ : mg "list" = none
 max_ : mg "max" = none
 range_ : mg "range" = none
 set_ : mg "set" = none
 sorted_ : mg "sorted" = none
 sum_ : mg "sum" = none
 tuple_ : mg "tuple" = none
 zip_ : mg "zip" = none
structure Cls where
 RoofError : Addr
 NoFraction : Addr
 NoDealing : Addr
structure j8 (mg : Str -> Option Value) (c : Cls) : Prop where
 mRoofError : mg "RoofError" = some (.ref c.RoofError)
 mNoFraction : mg "NoFraction" = some (.ref c.NoFraction)
 mNoDealing : mg "NoDealing" = some (.ref c.NoDealing)
structure j5 (mg : Str -> Option Value) (base : Heap) (c : Cls) : Prop where
 NoDealing : PyProof.Rows.OwnCls "NoDealing" c.NoDealing [.type "ValueError", .type "Exception", .type "BaseException", .type "object"] "ValueError.__new__" mg base
 NoFraction : PyProof.Rows.OwnCls "NoFraction" c.NoFraction [.type "ValueError", .type "Exception", .type "BaseException", .type "object"] "ValueError.__new__" mg base
noncomputable def aV (K : PySem.W.Frag) (c : Cls) : List L -> Res L := mOf eII (fun _ => True) fun a => .ok (.p (.int (Int.gcd a.1 a.2 : Nat)))
noncomputable def bI (K : PySem.W.Frag) (c : Cls) : En -> Res Bool := (bG (aH (eqE true) (aC 3) (mC (.int 0))))
noncomputable def bW (K : PySem.W.Frag) (c : Cls) : MS := (b8 (cX 4 (aH mK (aC 2) (aC 3))) (b8 (cX 2 (aC 3)) (cX 3 (aC 4))))
noncomputable def iH (K : PySem.W.Frag) (c : Cls) : MS := (b8 (cX 2 (aF aEp (aB (aC 0) aL))) (b8 (cX 3 (aF aEp (aB (aC 1) aL))) (b8 (mD (bI K c) (bW K c)) (fP (aC 2)))))
theorem aLf (K : PySem.W.Frag) (c : Cls) (A B : Option L) : ∀ (n : Nat) (l s : Int) (r : Option L), 0 <= l -> 0 <= s -> s.toNat <= n -> ∃ r', mWh (bI K c) (bW K c) (n + 1) [A, B, some (.p (.int l)), some (.p (.int s)), r] = some (.nx [A, B, some (.p (.int (Int.gcd l s : Nat))), some (.p (.int 0)), r']) := by
 intro n
 have hc : ∀ (l s : Int) (r : Option L), bI K c [A, B, some (.p (.int l)), some (.p (.int s)), r] = .ok (!(s == 0)) := fun l s r => by
  ktr_call 3 ⟨bI, bG, aH, aC, mC, Res.bind, Ev.c, eqE, dat, iD, iQ, bT⟩
  rfl
 have done : ∀ (n : Nat) (l : Int) (r : Option L), 0 <= l -> mWh (bI K c) (bW K c) (n + 1) [A, B, some (.p (.int l)), some (.p (.int 0)), r] = some (.nx [A, B, some (.p (.int (Int.gcd l 0 : Nat))), some (.p (.int 0)), r]) := fun n l r hl => by
  unfold mWh
  rw [hc, FR.aGc hl]
  rfl
 induction n with
 | zero =>
  intro l s r hl hs hn
  have : s = 0 := by omega
  subst this
  exact ⟨r, done 0 l r hl⟩
 | succ n ih =>
  intro l s r hl hs hn
  by_cases h0 : s = 0
  ·subst h0
   exact ⟨r, done _ l r hl⟩
  ·have em : l.fmod s = l % s := Int.fmod_eq_emod_of_nonneg l hs
   have m0 := Int.emod_nonneg l h0
   have m1 := Int.emod_lt_of_pos l (show 0 < s by omega)
   obtain ⟨r', ih⟩ := ih s (l.fmod s) (some (.p (.int (l.fmod s)))) hs (by omega) (by omega)
   refine ⟨r', ?_⟩
   rw [em, FR.aDf hl hs] at ih
   have hb : bW K c [A, B, some (.p (.int l)), some (.p (.int s)), r] = some (.nx [A, B, some (.p (.int s)), some (.p (.int (l % s))), some (.p (.int (l % s)))]) := by
    ktr_call 13 ⟨bW, aH, aC, mC, b8, cX, Res.bind, Ev.c, mI, em⟩
   have ht : bI K c [A, B, some (.p (.int l)), some (.p (.int s)), r] = .ok true := by rw [hc, beq_false_of_ne h0]; rfl
   unfold mWh
   rw [ht]
   dsimp only
   rw [hb]
   exact ih
theorem kU (K : PySem.W.Frag) (c : Cls) : ∀ ls, aV K c ls = .bad \/ eO 5 (iH K c) ls = aV K c ls := dS fun x _ => by
 obtain ⟨a, b⟩ := x
 obtain ⟨r', h⟩ := aLf K c (some (.p (.int a))) (some (.p (.int b))) _ (if a < 0 then -a else a) (if b < 0 then -b else b) none (by split <;> omega) (by split <;> omega) (Nat.le_refl _)
 have h := sV h
 rw [FR.y7] at h
 refine cJ ?_
 rw [show bE 5 (eII (a, b)) = [some (.p (.int a)), some (.p (.int b)), none, none, none] from rfl]
 refine (aO (eL (d := .int (if a < 0 then -a else a)) rfl)).trans ((aO (eL (d := .int (if b < 0 then -b else b)) rfl)).trans ((aO h).trans ?_))
 rfl
theorem w9 (K : PySem.W.Frag) (c : Cls) (a b : Int) : aV K c [.p (.int a), .p (.int b)] = .ok (.p (.int (Int.gcd a b : Nat))) := dU (a := (a, b)) uM trivial
theorem aIl {b : Int} (t : Int) (hb : b ≠ 0) (hz : Sz 8000 b) : mS t ((Int.gcd t b : Nat) : Int) /\ mS t (-((Int.gcd t b : Nat) : Int)) := by
 have g0 := FR.uR (t := t) hb
 have gle : Int.gcd t b <= b.natAbs := Nat.le_of_dvd (by omega) (Int.gcd_dvd_natAbs_right t b)
 refine ⟨⟨by omega, Sz.le hz (by rw [Int.natAbs_natCast]; exact gle)⟩, by omega, Sz.le hz (by rw [Int.natAbs_neg, Int.natAbs_natCast]; exact gle)⟩
open Classical in
noncomputable def cF (K : PySem.W.Frag) (c : Cls) : List L -> Res L := mOf eII (fun a => Sz 8000 a.2) fun a => if a.2 = 0 then .exc c.NoFraction else .ok (.p (frD (FR.mk a.1 a.2)))
noncomputable def gU (K : PySem.W.Frag) (c : Cls) : MS := (b8 (kF (bG (aH (eqE false) (aC 1) (mC (.int 0)))) (jH c.NoFraction (aB (mC (.str "nothing is divided by 0")) aL)) fB) (b8 (cX 2 (aP 2 (aV K c) (aB (aC 0) (aB (aC 1) aL)))) (b8 (kF (bG (aH ltE (aC 1) (mC (.int 0)))) (cX 2 (mUn xP (aC 2))) fB) (fP (aF bV (aB (aH qC (aC 0) (aC 2)) (aB (aH qC (aC 1) (aC 2)) aL)))))))
theorem uC (K : PySem.W.Frag) (c : Cls) : ∀ ls, cF K c ls = .bad \/ eO 3 (gU K c) ls = cF K c ls := dS fun x hz => by
 obtain ⟨t, b⟩ := x
 have hz : Sz 8000 b := hz
 show eO 3 (gU K c) (eII (t, b)) = if b = 0 then .exc c.NoFraction else .ok (.p (frD (FR.mk t b)))
 have t0 : bG (aH (eqE false) (aC 1) (mC (.int 0))) [some (.p (.int t)), some (.p (.int b)), none] = .ok (b == 0) := by
  ktr_call 3 ⟨bG, aH, aC, mC, Res.bind, Ev.c, eqE, dat, iD, iQ, bT⟩
  rfl
 by_cases hb : b = 0
 ·rw [if_pos hb]
  have t0 : bG (aH (eqE false) (aC 1) (mC (.int 0))) [some (.p (.int t)), some (.p (.int b)), none] = .ok true := by rw [t0, hb]; rfl
  have e : gU K c (bE 3 (eII (t, b))) = some (.ex c.NoFraction [some (.p (.int t)), some (.p (.int b)), none]) := by
   unfold gU b8
   rw [show bE 3 (eII (t, b)) = [some (.p (.int t)), some (.p (.int b)), none] from rfl, vR t0]
   rfl
  unfold eO
  rw [e]
 ·rw [if_neg hb]
  rw [beq_false_of_ne hb] at t0
  obtain ⟨q1, q2⟩ := aIl t hb hz
  have q1' : mS b ((Int.gcd t b : Nat) : Int) := q1
  have q2' : mS b (-((Int.gcd t b : Nat) : Int)) := q2
  have g := w9 K c t b
  have e1 : (aP 2 (aV K c) (aB (aC 0) (aB (aC 1) aL))) [some (.p (.int t)), some (.p (.int b)), none] = .ok (.p (.int (Int.gcd t b : Nat))) := by
   ktr_call 3 ⟨aP, aB, aL, aC, Res.bind, Ev.c, dE, cG, iS, g, jC⟩
  refine cJ ?_
  rw [show bE 3 (eII (t, b)) = [some (.p (.int t)), some (.p (.int b)), none] from rfl]
  unfold gU
  refine (aO (oW t0)).trans ((aO (eL e1)).trans ?_)
  have t1 : bG (aH ltE (aC 1) (mC (.int 0))) [some (.p (.int t)), some (.p (.int b)), some (.p (.int (Int.gcd t b : Nat)))] = .ok (decide (b < 0)) := by
   ktr_call 3 ⟨bG, aH, aC, mC, Res.bind, Ev.c, fQ, bT⟩
  by_cases hn : b < 0
  ·rw [decide_eq_true hn] at t1
   have es : FR.mk t b = (t.fdiv (-((Int.gcd t b : Nat) : Int)), b.fdiv (-((Int.gcd t b : Nat) : Int))) := by unfold FR.mk FR.sgn; rw [if_pos hn]
   refine (aO ((vR t1).trans (eL (d := .int (-((Int.gcd t b : Nat) : Int))) rfl))).trans (g9 ?_)
   rw [es]
   ktr_call 11 ⟨frD⟩
  ·rw [decide_eq_false hn] at t1
   have es : FR.mk t b = (t.fdiv ((Int.gcd t b : Nat) : Int), b.fdiv ((Int.gcd t b : Nat) : Int)) := by unfold FR.mk FR.sgn; rw [if_neg hn]
   refine (aO (oW t1)).trans (g9 ?_)
   rw [es]
   ktr_call 11 ⟨frD⟩
theorem qS (K : PySem.W.Frag) (c : Cls) {t b : Int} (h0 : b ≠ 0) (h1 : Sz 8000 b) : cF K c [.p (.int t), .p (.int b)] = .ok (.p (frD (FR.mk t b))) := (dU (a := (t, b)) uM h1).trans (if_neg h0)
noncomputable def lF (K : PySem.W.Frag) (c : Cls) : List L -> Res L := mOf eFF (fun a => FSz 2000 a.1 /\ FSz 2000 a.2 /\ a.1.2 * a.2.2 ≠ 0) fun a => .ok (.p (frD (FR.mk (a.1.1 * a.2.2 + a.2.1 * a.1.2) (a.1.2 * a.2.2))))
noncomputable def yO (K : PySem.W.Frag) (c : Cls) : MS := (fP (aP 2 (cF K c) (aB (aH iF (aH lE (aH ixE (aC 0) (mC (.int 0))) (aH ixE (aC 1) (mC (.int 1)))) (aH lE (aH ixE (aC 1) (mC (.int 0))) (aH ixE (aC 0) (mC (.int 1))))) (aB (aH lE (aH ixE (aC 0) (mC (.int 1))) (aH ixE (aC 1) (mC (.int 1)))) aL))))
theorem aHv (K : PySem.W.Frag) (c : Cls) : ∀ ls, lF K c ls = .bad \/ eO 2 (yO K c) ls = lF K c ls := dS fun a h => by
 obtain ⟨x, y⟩ := a
 obtain ⟨⟨x1, x2⟩, ⟨y1, y2⟩, hb⟩ := h
 dsimp only at x1 x2 y1 y2 hb ⊢
 have f := qS K c (t := x.1 * y.2 + y.1 * x.2) hb ((Sz.mul x2 y2).mono (by decide))
 refine cJ ?_
 rw [show bE 2 (eFF (x, y)) = [some (.p (frD x)), some (.p (frD y))] from rfl]
 unfold yO
 refine g9 ?_
 ktr_call 21 ⟨f⟩
theorem aCp (K : PySem.W.Frag) (c : Cls) {x y : Int × Int} (h1 : FSz 2000 x) (h2 : FSz 2000 y) (h3 : x.2 * y.2 ≠ 0) : lF K c [.p (frD x), .p (frD y)] = .ok (.p (frD (FR.mk (x.1 * y.2 + y.1 * x.2) (x.2 * y.2)))) := dU (a := (x, y)) lX ⟨h1, h2, h3⟩
theorem sO (K : PySem.W.Frag) (c : Cls) {m n : Nat} {x y : Int × Int} (hx : Good m x) (hy : Good n y) (hm : m <= 2000) (hn : n <= 2000) : lF K c [.p (frD x), .p (frD y)] = .ok (.p (frD (hP x y))) := aCp K c (hx.mono hm).fsz (hy.mono hn).fsz (hx.ne hy)
noncomputable def jQ (K : PySem.W.Frag) (c : Cls) : List L -> Res L := mOf eFF (fun a => FSz 2000 a.1 /\ FSz 2000 a.2 /\ a.1.2 * a.2.2 ≠ 0) fun a => .ok (.p (frD (FR.mk (a.1.1 * a.2.2 - a.2.1 * a.1.2) (a.1.2 * a.2.2))))
noncomputable def vB (K : PySem.W.Frag) (c : Cls) : MS := (fP (aP 2 (cF K c) (aB (aH xX (aH lE (aH ixE (aC 0) (mC (.int 0))) (aH ixE (aC 1) (mC (.int 1)))) (aH lE (aH ixE (aC 1) (mC (.int 0))) (aH ixE (aC 0) (mC (.int 1))))) (aB (aH lE (aH ixE (aC 0) (mC (.int 1))) (aH ixE (aC 1) (mC (.int 1)))) aL))))
theorem aC3 (K : PySem.W.Frag) (c : Cls) : ∀ ls, jQ K c ls = .bad \/ eO 2 (vB K c) ls = jQ K c ls := dS fun a h => by
 obtain ⟨x, y⟩ := a
 obtain ⟨⟨x1, x2⟩, ⟨y1, y2⟩, hb⟩ := h
 dsimp only at x1 x2 y1 y2 hb ⊢
 have f := qS K c (t := x.1 * y.2 - y.1 * x.2) hb ((Sz.mul x2 y2).mono (by decide))
 refine cJ ?_
 rw [show bE 2 (eFF (x, y)) = [some (.p (frD x)), some (.p (frD y))] from rfl]
 unfold vB
 refine g9 ?_
 ktr_call 21 ⟨f⟩
theorem yM (K : PySem.W.Frag) (c : Cls) {x y : Int × Int} (h1 : FSz 2000 x) (h2 : FSz 2000 y) (h3 : x.2 * y.2 ≠ 0) : jQ K c [.p (frD x), .p (frD y)] = .ok (.p (frD (FR.mk (x.1 * y.2 - y.1 * x.2) (x.2 * y.2)))) := dU (a := (x, y)) lX ⟨h1, h2, h3⟩
theorem yB (K : PySem.W.Frag) (c : Cls) {m n : Nat} {x y : Int × Int} (hx : Good m x) (hy : Good n y) (hm : m <= 2000) (hn : n <= 2000) : jQ K c [.p (frD x), .p (frD y)] = .ok (.p (frD (hM x y))) := yM K c (hx.mono hm).fsz (hy.mono hn).fsz (hx.ne hy)
noncomputable def g8 (K : PySem.W.Frag) (c : Cls) : List L -> Res L := mOf eFF (fun a => FSz 2000 a.1 /\ FSz 2000 a.2 /\ a.1.2 * a.2.2 ≠ 0) fun a => .ok (.p (frD (FR.mk (a.1.1 * a.2.1) (a.1.2 * a.2.2))))
noncomputable def u6 (K : PySem.W.Frag) (c : Cls) : MS := (fP (aP 2 (cF K c) (aB (aH lE (aH ixE (aC 0) (mC (.int 0))) (aH ixE (aC 1) (mC (.int 0)))) (aB (aH lE (aH ixE (aC 0) (mC (.int 1))) (aH ixE (aC 1) (mC (.int 1)))) aL))))
theorem aC4 (K : PySem.W.Frag) (c : Cls) : ∀ ls, g8 K c ls = .bad \/ eO 2 (u6 K c) ls = g8 K c ls := dS fun a h => by
 obtain ⟨x, y⟩ := a
 obtain ⟨⟨x1, x2⟩, ⟨y1, y2⟩, hb⟩ := h
 dsimp only at x1 x2 y1 y2 hb ⊢
 have f := qS K c (t := x.1 * y.1) hb ((Sz.mul x2 y2).mono (by decide))
 refine cJ ?_
 rw [show bE 2 (eFF (x, y)) = [some (.p (frD x)), some (.p (frD y))] from rfl]
 unfold u6
 refine g9 ?_
 ktr_call 21 ⟨f⟩
theorem aA6 (K : PySem.W.Frag) (c : Cls) {x y : Int × Int} (h1 : FSz 2000 x) (h2 : FSz 2000 y) (h3 : x.2 * y.2 ≠ 0) : g8 K c [.p (frD x), .p (frD y)] = .ok (.p (frD (FR.mk (x.1 * y.1) (x.2 * y.2)))) := dU (a := (x, y)) lX ⟨h1, h2, h3⟩
theorem pN (K : PySem.W.Frag) (c : Cls) {n : Nat} {i : Int} {x : Int × Int} (hi : Sz 2000 i) (hx : Good n x) (hn : n <= 2000) : g8 K c [.p (.tuple [.int i, .int 1]), .p (frD x)] = .ok (.p (frD (hT i x))) := aA6 K c (x := (i, 1)) ⟨hi, aEf⟩ (hx.mono hn).fsz (by have := hx.1; show 1 * x.2 ≠ 0; omega)
structure aGs (p : Pl) (pt : Pt) : Prop where
 i : Sz 10 p.1
 j : Sz 10 p.2.1
 h : Good 700 p.2.2
 x : Good 610 pt.1
 y : Good 610 pt.2
noncomputable def cS (K : PySem.W.Frag) (c : Cls) : List L -> Res L := mOf ePH (fun a => aGs a.1 a.2) fun a => .ok (.p (frD (hgt a.1 a.2)))
noncomputable def iJ (K : PySem.W.Frag) (c : Cls) : MS := (b8 (cX 2 (aP 2 (g8 K c) (aB (aF bV (aB (aH ixE (aC 0) (mC (.int 0))) (aB (mC (.int 1)) aL))) (aB (aH ixE (aC 1) (mC (.int 0))) aL)))) (b8 (cX 3 (aP 2 (g8 K c) (aB (aF bV (aB (aH ixE (aC 0) (mC (.int 1))) (aB (mC (.int 1)) aL))) (aB (aH ixE (aC 1) (mC (.int 1))) aL)))) (fP (aP 2 (lF K c) (aB (aP 2 (lF K c) (aB (aC 2) (aB (aC 3) aL))) (aB (aH ixE (aC 0) (mC (.int 2))) aL))))))
theorem oC (K : PySem.W.Frag) (c : Cls) : ∀ ls, cS K c ls = .bad \/ eO 4 (iJ K c) ls = cS K c ls := dS fun a g => by
 obtain ⟨p, pt⟩ := a
 dsimp only at g ⊢
 have t1 := pN K c (g.i.mono (show 10 <= 2000 by decide)) g.x (by decide)
 have t2 := pN K c (g.j.mono (show 10 <= 2000 by decide)) g.y (by decide)
 have p1 := sO K c (pH g.i g.x) (pH g.j g.y) (by decide) (by decide)
 have p2 := sO K c (aBd (pH g.i g.x) (pH g.j g.y)) g.h (by decide) (by decide)
 refine cJ ?_
 rw [show bE 4 (ePH (p, pt)) = [some (.p (plD p)), some (.p (.tuple [frD pt.1, frD pt.2])), none, none] from rfl]
 unfold iJ
 have e1 : (aP 2 (g8 K c) (aB (aF bV (aB (aH ixE (aC 0) (mC (.int 0))) (aB (mC (.int 1)) aL))) (aB (aH ixE (aC 1) (mC (.int 0))) aL))) [some (.p (plD p)), some (.p (.tuple [frD pt.1, frD pt.2])), none, none] = .ok (.p (frD (hT p.1 pt.1))) := by
  ktr_call 2 ⟨t1⟩
 have e2 : (aP 2 (g8 K c) (aB (aF bV (aB (aH ixE (aC 0) (mC (.int 1))) (aB (mC (.int 1)) aL))) (aB (aH ixE (aC 1) (mC (.int 1))) aL))) [some (.p (plD p)), some (.p (.tuple [frD pt.1, frD pt.2])), some (.p (frD (hT p.1 pt.1))), none] = .ok (.p (frD (hT p.2.1 pt.2))) := by
  ktr_call 2 ⟨t2⟩
 refine (aO (eL e1)).trans ((aO (eL e2)).trans (g9 ?_))
 ktr_call 2 ⟨p1, p2⟩
 rfl
theorem aGi (K : PySem.W.Frag) (c : Cls) {p : Pl} {pt : Pt} (g : aGs p pt) : cS K c [.p (plD p), .p (.tuple [frD pt.1, frD pt.2])] = .ok (.p (frD (hgt p pt))) := dU (a := (p, pt)) aGr g
def cbS (c b : Int) : Int := (c * b).fdiv (Int.gcd c b : Nat)
def cb (hs : List (Int × Int)) : Int := hs.foldl (fun c h => cbS c h.2) 1
theorem aEo {c b : Int} (hc : 1 <= c) (hb : 1 <= b) : 1 <= cbS c b /\ c ∣ cbS c b /\ b ∣ cbS c b := by
 have g0 : 0 < Int.gcd c b := Int.gcd_pos_of_ne_zero_right c (by omega)
 obtain ⟨k, hk⟩ := Int.gcd_dvd_right c b
 obtain ⟨j, hj⟩ := Int.gcd_dvd_left c b
 have e1 : cbS c b = c * k := by
  unfold cbS
  have : c * b = ((Int.gcd c b : Nat) : Int) * (c * k) := by
   conv => lhs; rw [hk]
   ac_rfl
  rw [this]
  exact Int.mul_fdiv_cancel_left _ (by omega)
 have e2 : cbS c b = b * j := by
  unfold cbS
  have : c * b = ((Int.gcd c b : Nat) : Int) * (b * j) := by
   conv => lhs; rw [hj]
   ac_rfl
  rw [this]
  exact Int.mul_fdiv_cancel_left _ (by omega)
 have k0 : 0 < k := Int.pos_of_mul_pos_right (show 0 < ((Int.gcd c b : Nat) : Int) * k by rw [<- hk]; omega) (by omega)
 refine ⟨?_, ⟨k, e1⟩, ⟨j, e2⟩⟩
 rw [e1]
 exact jP hc k0
theorem aKk {b : Nat} : ∀ (hs : List (Int × Int)) (c : Int) (n : Nat), 1 <= c -> Sz n c -> (∀ h ∈ hs, 1 <= h.2 /\ Sz b h.2) -> 1 <= hs.foldl (fun c h => cbS c h.2) c /\ c ∣ hs.foldl (fun c h => cbS c h.2) c /\ (∀ h ∈ hs, h.2 ∣ hs.foldl (fun c h => cbS c h.2) c) /\ Sz (n + b * hs.length) (hs.foldl (fun c h => cbS c h.2) c)
 | [], c, n, h1, h2, _ => ⟨h1, Int.dvd_refl _, (fun _ h => nomatch h), h2⟩
 | h :: hs, c, n, h1, h2, hg => by
  have g := hg h (.head _)
  obtain ⟨a1, a2, a3⟩ := aEo h1 g.1
  have sz : Sz (n + b) (cbS c h.2) := Sz.le (Sz.mul h2 g.2) (natAbs_fdiv_le _ _)
  obtain ⟨b1, b2, b3, b4⟩ := aKk hs (cbS c h.2) (n + b) a1 sz fun x hx => hg x (.tail _ hx)
  rw [List.foldl_cons]
  refine ⟨b1, Int.dvd_trans a2 b2, fun x hx => ?_, b4.mono (by rw [List.length_cons, Nat.mul_succ]; omega)⟩
  rcases List.mem_cons.mp hx with z | z
  ·rw [z]; exact Int.dvd_trans a3 b2
  ·exact b3 x z
def CbP (hs : List (Int × Int)) : Prop := ∃ b : Nat, b <= 400 /\ b * hs.length <= 40000 /\ ∀ h ∈ hs, 1 <= h.2 /\ Sz b h.2
noncomputable def bZ (K : PySem.W.Frag) (c : Cls) : List L -> Res L := mOf eFs CbP fun hs => .ok (.p (.int (cb hs)))
noncomputable def dO (K : PySem.W.Frag) (c : Cls) : MS := (cX 1 (aH qC (aH lE (aC 1) (aH ixE (aC 2) (mC (.int 1)))) (aP 2 (aV K c) (aB (aC 1) (aB (aH ixE (aC 2) (mC (.int 1))) aL)))))
noncomputable def jW (K : PySem.W.Frag) (c : Cls) : MS := (b8 (cX 1 (mC (.int 1))) (b8 (pD (lH (aC 0)) (aI 2) (dO K c)) (fP (aC 1))))
theorem mV (K : PySem.W.Frag) (c : Cls) : ∀ ls, bZ K c ls = .bad \/ eO 3 (jW K c) ls = bZ K c ls := dS fun hs h => by
 obtain ⟨b, hb, hl, hg⟩ := h
 have gen : ∀ (xs : List (Int × Int)) (x : Int) (n : Nat) (r : Option L), 1 <= x -> Sz n x -> n + b * xs.length <= 40001 -> (∀ h ∈ xs, 1 <= h.2 /\ Sz b h.2) -> ∃ r', e9 (aI 2) (dO K c) (xs.map frD) [some (.p (.list (hs.map frD))), some (.p (.int x)), r] = some (.nx [some (.p (.list (hs.map frD))), some (.p (.int (xs.foldl (fun c h => cbS c h.2) x))), r']) := by
  intro xs
  induction xs with
  | nil => intro x n r _ _ _ _; exact ⟨r, rfl⟩
  | cons h xs ih =>
   intro x n r x1 x2 hk hxs
   have g := hxs h (.head _)
   rw [List.length_cons, Nat.mul_succ] at hk
   obtain ⟨a1, a2, a3⟩ := aEo x1 g.1
   have sz : Sz (n + b) (cbS x h.2) := Sz.le (Sz.mul x2 g.2) (natAbs_fdiv_le _ _)
   obtain ⟨r', ih⟩ := ih (cbS x h.2) (n + b) (some (.p (frD h))) a1 sz (by omega) fun y hy => hxs y (.tail _ hy)
   refine ⟨r', ?_⟩
   have g0 : 0 < Int.gcd x h.2 := Int.gcd_pos_of_ne_zero_right x (by have := g.1; omega)
   have q1 : CMulW x h.2 := ⟨x2.mono (by omega), g.2.mono (by omega)⟩
   have q2 : mS (x * h.2) ((Int.gcd x h.2 : Nat) : Int) := ⟨by omega, (Sz.le g.2 (by rw [Int.natAbs_natCast]; exact Nat.le_of_dvd (by have := g.1; omega) (Int.gcd_dvd_natAbs_right x h.2))).mono (by omega)⟩
   have hb : dO K c [some (.p (.list (hs.map frD))), some (.p (.int x)), some (.p (frD h))] = some (.nx [some (.p (.list (hs.map frD))), some (.p (.int (cbS x h.2))), some (.p (frD h))]) := by
    ktr_call 11 ⟨dO, w9⟩
    rfl
   rw [List.map_cons]
   unfold e9
   simp only [aI, List.set_cons_succ, List.set_cons_zero]
   rw [hb]
   exact ih
 obtain ⟨r', h⟩ := gen hs 1 1 none (Int.le_refl 1) (aMn _ (by decide)) (by omega) hg
 refine cJ ?_
 rw [show bE 3 (eFs hs) = [some (.p (.list (hs.map frD))), none, none] from rfl]
 refine (aO (eL (d := .int 1) rfl)).trans ?_
 refine (aO ((kE (ds := hs.map frD) rfl).trans h)).trans (g9 rfl)
theorem aF2 (K : PySem.W.Frag) (c : Cls) {hs : List (Int × Int)} (h : CbP hs) : bZ K c [.p (.list (hs.map frD))] = .ok (.p (.int (cb hs))) := dU (a := hs) aFx h
def eHI (a : (Int × Int) × Int) : List L := [.p (frD a.1), .p (.int a.2)]
theorem aG8 (a b : (Int × Int) × Int) (h : eHI a = eHI b) : a = b := by
 unfold eHI at h
 injection h with h1 h2
 injection h2 with h2 _
 injection h1 with h1
 injection h2 with h2
 injection h2 with h2
 exact Prod.ext (frI h1) h2
def wI (x : Int × Int) (F : Int) : Int := x.1 * F.fdiv x.2
noncomputable def kN (K : PySem.W.Frag) (c : Cls) : List L -> Res L := mOf eHI (fun a => Good 400 a.1 /\ Sz 41000 a.2) fun a => .ok (.p (.int (wI a.1 a.2)))
noncomputable def uL (K : PySem.W.Frag) (c : Cls) : MS := (fP (aH lE (aH ixE (aC 0) (mC (.int 0))) (aH qC (aC 1) (aH ixE (aC 0) (mC (.int 1))))))
theorem aD7 (K : PySem.W.Frag) (c : Cls) : ∀ ls, kN K c ls = .bad \/ eO 2 (uL K c) ls = kN K c ls := dS fun a h => by
 obtain ⟨x, F⟩ := a
 obtain ⟨⟨p, t, b⟩, hF⟩ := h
 dsimp only at p t b hF ⊢
 have bn : x.2 ≠ 0 := by omega
 have q1 : mS F x.2 := ⟨bn, b.mono (by decide)⟩
 have q2 : CMulW x.1 (F.fdiv x.2) := ⟨t.mono (by decide), (Sz.le hF (natAbs_fdiv_le _ _)).mono (by decide)⟩
 refine cJ ?_
 rw [show bE 2 (eHI (x, F)) = [some (.p (frD x)), some (.p (.int F))] from rfl]
 unfold uL
 refine g9 ?_
 walk_at "1a"
 rfl
theorem xM (K : PySem.W.Frag) (c : Cls) {x : Int × Int} {F : Int} (h1 : Good 400 x) (h2 : Sz 41000 F) : kN K c [.p (frD x), .p (.int F)] = .ok (.p (.int (wI x F))) := dU (a := (x, F)) aG8 ⟨h1, h2⟩
structure iX (K : PySem.W.Frag) (c : Cls) : Prop where
 ii : PySem.W.kitOne K (.type "int") (.type "int") = some true
 ib : PySem.W.kitOne K (.type "int") (.type "bool") = some false
 tt : PySem.W.kitOne K (.type "tuple") (.type "tuple") = some true
 ll : PySem.W.kitOne K (.type "list") (.type "list") = some true
noncomputable def iM (K : PySem.W.Frag) (c : Cls) : MS := (b8 (kF (bG (aH ltE (aC 1) (aF eM (aB (aC 0) aL)))) (fP (aH ixE (aC 0) (aC 1))) fB) (fP (mC (.int 0))))
noncomputable def aS (K : PySem.W.Frag) (c : Cls) (ls : List L) : Res L := eO 2 (iM K c) ls
theorem nT (K : PySem.W.Frag) (c : Cls) : ∀ ls, aS K c ls = .bad \/ eO 2 (iM K c) ls = aS K c ls := fun _ => .inr rfl
theorem aEq {ns : List Int} {k : Nat} (h : k < ns.length) : atI (ns.map PyData.int) (k : Int) = some (.int (ns.getD k 0)) := by
 have : ns.getD k 0 = ns[k] := by simp [List.getD, h]
 rw [this]
 exact nQ (by rw [List.getElem?_map, List.getElem?_eq_getElem h]; rfl)
theorem vA (K : PySem.W.Frag) (c : Cls) (ns : List Int) (k : Nat) : aS K c [.p (.list (ns.map .int)), .p (.int (k : Int))] = .ok (.p (.int (ns.getD k 0))) := by
 have hlen : eM [.p (.list (ns.map .int))] = .ok (.p (.int (ns.length : Nat))) := by simp [eM, hV]
 unfold aS
 refine cJ ?_
 rw [show bE 2 [.p (.list (ns.map .int)), .p (.int (k : Int))] = [some (.p (.list (ns.map .int))), some (.p (.int (k : Int)))] from rfl]
 have ht : bG (aH ltE (aC 1) (aF eM (aB (aC 0) aL))) [some (.p (.list (ns.map .int))), some (.p (.int (k : Int)))] = .ok (decide (k < ns.length)) := by
  simp [bG, aH, aC, aF, aB, aL, Res.bind, Ev.c, hlen, fQ, bT]
 by_cases hk : k < ns.length
 ·rw [decide_eq_true hk] at ht
  refine (aAm ((vR ht).trans ?_))
  simp [fP, aH, aC, Res.bind, Ev.c, ixE, hV, aEq hk, aEr]
 ·rw [decide_eq_false hk] at ht
  refine (aO (oW ht)).trans ?_
  have : ns.getD k 0 = 0 := by simp [List.getD, Nat.le_of_not_lt hk]
  rw [this]
  rfl
noncomputable def bC (K : PySem.W.Frag) (c : Cls) : List L -> Res L := mOf (fun i : Int => [.p (.int i)]) (fun _ => True) fun _ => .ok (.p (.bool true))
noncomputable def jV (K : PySem.W.Frag) (c : Cls) : MS := (fP (pA (mUn (oN K (.type "int")) (aC 0)) (sD (mUn (oN K (.type "bool")) (aC 0)))))
theorem pZ (K : PySem.W.Frag) (c : Cls) (hk : iX K c) : ∀ ls, bC K c ls = .bad \/ eO 1 (jV K c) ls = bC K c ls := dS fun i _ => by
 unfold eO
 rw [show bE 1 [.p (.int i)] = [some (.p (.int i))] from rfl]
 simp [jV, b8, cX, fP, kF, aC, mC, aH, mUn, aB, aL, aP, dE, cG, iS, zY, Res.bind, Ev.c, aEr, jC, aF, bV, fE, hX, bG, bT, aCi, mOr, jT, pA, aHz, sD, jH, fB, iF, fQ, xP, e8, dat, eM, eqE, iD, iQ, pL, pM, pI, l8, mE, rL, tJ, uV, oN, tyD, hk.ii, hk.ib]
theorem pW (K : PySem.W.Frag) (c : Cls) (i : Int) : bC K c [.p (.int i)] = .ok (.p (.bool true)) := dU (a := i) (fun a b h => by injection h with h _; injection h with h; injection h) trivial
noncomputable def bA (K : PySem.W.Frag) (c : Cls) : List L -> Res L := mOf eII (fun a => a.2 ≠ 0 /\ Sz 8000 a.2) fun a => .ok (.p (frD (FR.mk a.1 a.2)))
noncomputable def jF (K : PySem.W.Frag) (c : Cls) : En -> Res Bool := (bG (aH (eqE true) (aC 3) (mC (.int 0))))
noncomputable def jG (K : PySem.W.Frag) (c : Cls) : MS := (b8 (cX 4 (aH mK (aC 2) (aC 3))) (b8 (cX 2 (aC 3)) (cX 3 (aC 4))))
noncomputable def i7 (K : PySem.W.Frag) (c : Cls) : MS := (b8 (cX 2 (aF aEp (aB (aC 0) aL))) (b8 (cX 3 (aF aEp (aB (aC 1) aL))) (b8 (mD (jF K c) (jG K c)) (b8 (kF (bG (aH ltE (aC 1) (mC (.int 0)))) (cX 2 (mUn xP (aC 2))) fB) (fP (aF bV (aB (aH qC (aC 0) (aC 2)) (aB (aH qC (aC 1) (aC 2)) aL))))))))
theorem o7 (K : PySem.W.Frag) (c : Cls) : ∀ ls, bA K c ls = .bad \/ eO 5 (i7 K c) ls = bA K c ls := dS fun x h => by
 obtain ⟨t, b⟩ := x
 obtain ⟨hb, hz⟩ := h
 dsimp only at hb hz ⊢
 obtain ⟨r', h⟩ := aLf K c (some (.p (.int t))) (some (.p (.int b))) _ (if t < 0 then -t else t) (if b < 0 then -b else b) none (by split <;> omega) (by split <;> omega) (Nat.le_refl _)
 have h := sV h
 rw [FR.y7] at h
 have h : mD (jF K c) (jG K c) _ = _ := h
 obtain ⟨q1, q2⟩ := aIl t hb hz
 have q1' : mS b ((Int.gcd t b : Nat) : Int) := q1
 have q2' : mS b (-((Int.gcd t b : Nat) : Int)) := q2
 refine cJ ?_
 rw [show bE 5 (eII (t, b)) = [some (.p (.int t)), some (.p (.int b)), none, none, none] from rfl]
 unfold i7
 refine (aO (eL (d := .int (if t < 0 then -t else t)) rfl)).trans ((aO (eL (d := .int (if b < 0 then -b else b)) rfl)).trans ((aO h).trans ?_))
 have t1 : bG (aH ltE (aC 1) (mC (.int 0))) [some (.p (.int t)), some (.p (.int b)), some (.p (.int (Int.gcd t b : Nat))), some (.p (.int 0)), r'] = .ok (decide (b < 0)) := by
  ktr_call 3 ⟨bG, aH, aC, mC, Res.bind, Ev.c, fQ, bT⟩
 by_cases hn : b < 0
 ·rw [decide_eq_true hn] at t1
  have es : FR.mk t b = (t.fdiv (-((Int.gcd t b : Nat) : Int)), b.fdiv (-((Int.gcd t b : Nat) : Int))) := by unfold FR.mk FR.sgn; rw [if_pos hn]
  refine (aO ((vR t1).trans (eL (d := .int (-((Int.gcd t b : Nat) : Int))) rfl))).trans (g9 ?_)
  rw [es]
  ktr_call 11 ⟨frD⟩
 ·rw [decide_eq_false hn] at t1
  have es : FR.mk t b = (t.fdiv ((Int.gcd t b : Nat) : Int), b.fdiv ((Int.gcd t b : Nat) : Int)) := by unfold FR.mk FR.sgn; rw [if_neg hn]
  refine (aO (oW t1)).trans (g9 ?_)
  rw [es]
  ktr_call 11 ⟨frD⟩
theorem tL (K : PySem.W.Frag) (c : Cls) {t b : Int} (h0 : b ≠ 0) (h1 : Sz 8000 b) : bA K c [.p (.int t), .p (.int b)] = .ok (.p (frD (FR.mk t b))) := dU (a := (t, b)) uM ⟨h0, h1⟩
noncomputable def bP (K : PySem.W.Frag) (c : Cls) : List L -> Res L := mOf eFF (fun a => FSz 2000 a.1 /\ FSz 2000 a.2) fun a => .ok (.p (.bool (ltF a.1 a.2)))
noncomputable def iY (K : PySem.W.Frag) (c : Cls) : MS := (fP (aH ltE (aH lE (aH ixE (aC 0) (mC (.int 0))) (aH ixE (aC 1) (mC (.int 1)))) (aH lE (aH ixE (aC 1) (mC (.int 0))) (aH ixE (aC 0) (mC (.int 1))))))
theorem oQ (K : PySem.W.Frag) (c : Cls) : ∀ ls, bP K c ls = .bad \/ eO 2 (iY K c) ls = bP K c ls := dS fun a h => by
 obtain ⟨x, y⟩ := a
 obtain ⟨⟨x1, x2⟩, ⟨y1, y2⟩⟩ := h
 dsimp only at x1 x2 y1 y2 ⊢
 refine cJ ?_
 rw [show bE 2 (eFF (x, y)) = [some (.p (frD x)), some (.p (frD y))] from rfl]
 unfold iY
 walk_at "1d"
 rfl
theorem tK (K : PySem.W.Frag) (c : Cls) {x y : Int × Int} (hx : FSz 2000 x) (hy : FSz 2000 y) : bP K c [.p (frD x), .p (frD y)] = .ok (.p (.bool (ltF x y))) := dU (a := (x, y)) lX ⟨hx, hy⟩
theorem aAg {x : Int × Int} (h : FR.Fr x) : FR.mk x.1 x.2 = x := by
 have p := h.pos
 obtain ⟨f, e⟩ := FR.kI (t := x.1) (b := x.2) (by omega)
 exact zI f h (Int.le_of_eq e) (Int.le_of_eq e.symm)
def eF1 (x : Int × Int) : List L := [.p (frD x)]
theorem aFt (a b : Int × Int) (h : eF1 a = eF1 b) : a = b := by
 unfold eF1 at h
 injection h with h _
 injection h with h
 exact frI h
noncomputable def bH (K : PySem.W.Frag) (c : Cls) : List L -> Res L := mOf eF1 (fun x => FR.Fr x /\ Sz 8000 x.2) fun _ => .ok (.p (.bool true))
noncomputable def eV (K : PySem.W.Frag) (c : Cls) : MS := (b8 (kF (mOr (jT (bG (mUn (oN K (.type "tuple")) (aC 0)))) (mOr (bG (aH (eqE true) (aF eM (aB (aC 0) aL)) (mC (.int 2)))) (mOr (jT (bG (aP 1 (bC K c) (aB (aH ixE (aC 0) (mC (.int 0))) aL)))) (jT (bG (aP 1 (bC K c) (aB (aH ixE (aC 0) (mC (.int 1))) aL))))))) (fP (mC (.bool false))) fB) (fP (pA (aH gtE (aH ixE (aC 0) (mC (.int 1))) (mC (.int 0))) (aH (eqE false) (aP 2 (bA K c) (aB (aH ixE (aC 0) (mC (.int 0))) (aB (aH ixE (aC 0) (mC (.int 1))) aL))) (aC 0)))))
theorem kP (K : PySem.W.Frag) (c : Cls) (hk : iX K c) : ∀ ls, bH K c ls = .bad \/ eO 1 (eV K c) ls = bH K c ls := dS fun x h => by
 obtain ⟨hf, hz⟩ := h
 have p := hf.pos
 have l := tL K c (t := x.1) (b := x.2) (by omega) hz
 rw [aAg hf] at l
 have w1 := pW K c x.1
 have w2 := pW K c x.2
 have i1 : oN K (.type "tuple") (.p (frD x)) = .ok (.p (.bool true)) := by simp [oN, dat, frD, tyD, hk.tt]
 have e1 : eM [.p (frD x)] = .ok (.p (.int 2)) := by simp [eM, hV, frD]
 have e2 : eqE true (.p (.int 2)) (.p (.int 2)) = .ok (.p (.bool false)) := by simp [eqE, dat, iD, iQ]
 have e3 : eqE false (.p (frD x)) (.p (frD x)) = .ok (.p (.bool true)) := i4 rfl rfl (uK x) false
 refine cJ ?_
 rw [show bE 1 (eF1 x) = [some (.p (frD x))] from rfl]
 unfold eV
 have t1 : (mOr (jT (bG (mUn (oN K (.type "tuple")) (aC 0)))) (mOr (bG (aH (eqE true) (aF eM (aB (aC 0) aL)) (mC (.int 2)))) (mOr (jT (bG (aP 1 (bC K c) (aB (aH ixE (aC 0) (mC (.int 0))) aL)))) (jT (bG (aP 1 (bC K c) (aB (aH ixE (aC 0) (mC (.int 1))) aL))))))) [some (.p (frD x))] = .ok false := by
  ktr_call 3 ⟨mOr, jT, bG, mUn, aH, aP, aF, aB, aL, aC, mC, dE, cG, iS, Res.bind, Ev.c, i1, e1, e2, l8, mE, w1, w2, jC, bT, Bool.not_true⟩
 refine (aO (oW t1)).trans (g9 ?_)
 ktr_call 3 ⟨pA, aH, aP, aB, aL, aC, mC, fQ, dE, cG, iS, Res.bind, Ev.c, l8, mE, l, jC, e3, decide_eq_true (show 0 < x.2 by omega)⟩
theorem aIr (K : PySem.W.Frag) (c : Cls) {x : Int × Int} (h : FR.Fr x) (hz : Sz 8000 x.2) : bH K c [.p (frD x)] = .ok (.p (.bool true)) := dU (a := x) aFt ⟨h, hz⟩
noncomputable def cH (K : PySem.W.Frag) (c : Cls) : List L -> Res L := mOf eFF (fun a => Good 2000 a.1 /\ Good 2000 a.2) fun a => .ok (.p (frD (hP a.1 a.2)))
noncomputable def l5 (K : PySem.W.Frag) (c : Cls) : MS := (fP (aP 2 (bA K c) (aB (aH iF (aH lE (aH ixE (aC 0) (mC (.int 0))) (aH ixE (aC 1) (mC (.int 1)))) (aH lE (aH ixE (aC 1) (mC (.int 0))) (aH ixE (aC 0) (mC (.int 1))))) (aB (aH lE (aH ixE (aC 0) (mC (.int 1))) (aH ixE (aC 1) (mC (.int 1)))) aL))))
theorem vF (K : PySem.W.Frag) (c : Cls) : ∀ ls, cH K c ls = .bad \/ eO 2 (l5 K c) ls = cH K c ls := dS fun a h => by
 obtain ⟨x, y⟩ := a
 obtain ⟨g1, g2⟩ := h
 obtain ⟨x0, x1, x2⟩ := id g1
 obtain ⟨y0, y1, y2⟩ := id g2
 dsimp only at g1 g2 x0 x1 x2 y0 y1 y2 ⊢
 have l := tL K c (t := x.1 * y.2 + y.1 * x.2) (b := x.2 * y.2) (g1.ne g2) ((Sz.mul x2 y2).mono (by decide))
 refine cJ ?_
 rw [show bE 2 (eFF (x, y)) = [some (.p (frD x)), some (.p (frD y))] from rfl]
 unfold l5
 refine g9 ?_
 ktr_call 21 ⟨l⟩
 rfl
theorem u3 (K : PySem.W.Frag) (c : Cls) {m n : Nat} {x y : Int × Int} (hx : Good m x) (hy : Good n y) (h1 : m <= 2000) (h2 : n <= 2000) : cH K c [.p (frD x), .p (frD y)] = .ok (.p (frD (hP x y))) := dU (a := (x, y)) lX ⟨hx.mono h1, hy.mono h2⟩
noncomputable def bN (K : PySem.W.Frag) (c : Cls) : List L -> Res L := mOf eFF (fun a => Good 2000 a.1 /\ Good 2000 a.2) fun a => .ok (.p (frD (FR.mk (a.1.1 * a.2.1) (a.1.2 * a.2.2))))
noncomputable def iL (K : PySem.W.Frag) (c : Cls) : MS := (fP (aP 2 (bA K c) (aB (aH lE (aH ixE (aC 0) (mC (.int 0))) (aH ixE (aC 1) (mC (.int 0)))) (aB (aH lE (aH ixE (aC 0) (mC (.int 1))) (aH ixE (aC 1) (mC (.int 1)))) aL))))
theorem nX (K : PySem.W.Frag) (c : Cls) : ∀ ls, bN K c ls = .bad \/ eO 2 (iL K c) ls = bN K c ls := dS fun a h => by
 obtain ⟨x, y⟩ := a
 obtain ⟨g1, g2⟩ := h
 obtain ⟨x0, x1, x2⟩ := id g1
 obtain ⟨y0, y1, y2⟩ := id g2
 dsimp only at g1 g2 x0 x1 x2 y0 y1 y2 ⊢
 have l := tL K c (t := x.1 * y.1) (b := x.2 * y.2) (g1.ne g2) ((Sz.mul x2 y2).mono (by decide))
 refine cJ ?_
 rw [show bE 2 (eFF (x, y)) = [some (.p (frD x)), some (.p (frD y))] from rfl]
 unfold iL
 refine g9 ?_
 ktr_call 21 ⟨l⟩
theorem wF (K : PySem.W.Frag) (c : Cls) {n : Nat} {i : Int} {y : Int × Int} (hi : Sz 2000 i) (hy : Good n y) (h2 : n <= 2000) : bN K c [.p (.tuple [.int i, .int 1]), .p (frD y)] = .ok (.p (frD (FR.mk (i * y.1) (1 * y.2)))) := dU (a := ((i, 1), y)) lX ⟨⟨Int.le_refl 1, hi, aEf⟩, hy.mono h2⟩
noncomputable def j6 (K : PySem.W.Frag) (c : Cls) : MS := (b8 (cX 2 (aH iF (aH iF (aH lE (aH mK (aC 0) (aH aH2 (mC (.int 10)) (mC (.int 18)))) (aH iF (aH lE (mC (.int 2)) (aC 1)) (mC (.int 48271)))) (aH lE (aH lE (mC (.int 7919)) (aC 1)) (aC 1))) (aC 1))) (fP (aH mK (aH lE (aH mK (aC 2) (mC (.int 2147483647))) (mC (.int 69621))) (mC (.int 2147483629)))))
noncomputable def a8 (K : PySem.W.Frag) (c : Cls) (ls : List L) : Res L := eO 3 (j6 K c) ls
theorem vH (K : PySem.W.Frag) (c : Cls) : ∀ ls, a8 K c ls = .bad \/ eO 3 (j6 K c) ls = a8 K c ls := fun _ => .inr rfl
theorem lK (K : PySem.W.Frag) (c : Cls) (cell : Int) {k : Int} (k0 : 0 <= k) (k1 : k <= 100) : ∃ v : Int, 0 <= v /\ v < 2147483629 /\ a8 K c [.p (.int cell), .p (.int k)] = .ok (.p (.int v)) := by
 have p18 : aHx 10 18 := ⟨by decide, by decide, by decide⟩
 have kz : Sz 20 k := by unfold Sz; omega
 have pn : (10 : Int) ^ Int.toNat 18 ≠ 0 := by decide
 have cz : Sz 100 (cell.fmod (10 ^ Int.toNat 18)) := qL (by decide) (by unfold Sz; decide)
 generalize hC : cell.fmod (10 ^ Int.toNat 18) = C at cz
 refine ⟨(((C * (2 * k + 48271) + 7919 * k * k + k).fmod 2147483647) * 69621).fmod 2147483629, (dM (by decide)).1, (dM (by decide)).2, ?_⟩
 have z1 : Sz 40 ((C * (2 * k + 48271) + 7919 * k * k + k).fmod 2147483647) := qL (by decide) (by unfold Sz; decide)
 have sl : ∀ {x : Int}, Sz 50 x -> Sz 60000 x := fun h => h.mono (by decide)
 have q1 : CMulW 2 k := ⟨sl (by unfold Sz; decide), kz.mono (by decide)⟩
 have q2 : CMulW C (2 * k + 48271) := ⟨cz.mono (by decide), sl (by unfold Sz; omega)⟩
 have q3 : CMulW 7919 k := ⟨sl (by unfold Sz; decide), kz.mono (by decide)⟩
 have q4 : CMulW (7919 * k) k := ⟨sl (by unfold Sz; omega), kz.mono (by decide)⟩
 have q5 : CMulW ((C * (2 * k + 48271) + 7919 * k * k + k).fmod 2147483647) 69621 := ⟨z1.mono (by decide), sl (by unfold Sz; decide)⟩
 have n1 : (2147483647 : Int) ≠ 0 := by decide
 have n2 : (2147483629 : Int) ≠ 0 := by decide
 unfold a8
 refine cJ ?_
 rw [show bE 3 [.p (.int cell), .p (.int k)] = [some (.p (.int cell)), some (.p (.int k)), none] from rfl]
 unfold j6
 refine (aO (eL (d := .int (C * (2 * k + 48271) + 7919 * k * k + k)) ?_)).trans (g9 ?_)
 ·ktr_call 11 ⟨hC⟩
 ·walk_at "1a"
noncomputable def eY (K : PySem.W.Frag) (c : Cls) : MS := (b8 (cX 2 (aH mK (aP 2 (a8 K c) (aB (aC 0) (aB (aC 1) aL))) (mC (.int 5)))) (b8 (kF (bG (aH (eqE false) (aC 2) (mC (.int 0)))) (fP (aP 2 (bA K c) (aB (aH xX (aH mK (aH iF (aH u0 (aC 0) (mC (.int 48271))) (aC 1)) (aH iF (aH u0 (mC (.int 2)) (aH aH2 (mC (.int 10)) (mC (.int 20)))) (mC (.int 1)))) (aH aH2 (mC (.int 10)) (mC (.int 20)))) (aB (aH iF (mC (.int 1)) (aH mK (aP 2 (a8 K c) (aB (aC 0) (aB (aH iF (aC 1) (mC (.int 1))) aL))) (mC (.int 12)))) aL)))) fB) (b8 (kF (bG (aH (eqE false) (aC 2) (mC (.int 1)))) (fP (aP 2 (bA K c) (aB (aH xX (aH mK (aP 2 (a8 K c) (aB (aC 0) (aB (aH iF (aC 1) (mC (.int 2))) aL))) (mC (.int 41))) (mC (.int 20))) (aB (aH iF (mC (.int 1)) (aH mK (aP 2 (a8 K c) (aB (aC 0) (aB (aH iF (aC 1) (mC (.int 3))) aL))) (mC (.int 6)))) aL)))) fB) (fP (aF bV (aB (aH xX (aH mK (aP 2 (a8 K c) (aB (aC 0) (aB (aH iF (aC 1) (mC (.int 4))) aL))) (mC (.int 5))) (mC (.int 2))) (aB (mC (.int 1)) aL)))))))
noncomputable def cB (K : PySem.W.Frag) (c : Cls) (ls : List L) : Res L := eO 3 (eY K c) ls
theorem oX (K : PySem.W.Frag) (c : Cls) : ∀ ls, cB K c ls = .bad \/ eO 3 (eY K c) ls = cB K c ls := fun _ => .inr rfl
structure GN (h : Int × Int) : Prop where
 f : FR.Fr h
 t : Sz 80 h.1
 b : Sz 6 h.2
theorem yZ {t : Int} (ht : Sz 80 t) : GN (t, 1) := ⟨⟨Int.le_refl 1, Int.gcd_one⟩, ht, (show Sz 6 (1 : Int) by unfold Sz; decide)⟩
theorem aJd {t b : Int} (h0 : b ≠ 0) (ht : Sz 80 t) (hb : Sz 6 b) : GN (FR.mk t b) := ⟨(FR.kI h0).1, Sz.le ht (natAbs_fdiv_le _ _), Sz.le hb (natAbs_fdiv_le _ _)⟩
theorem sR (K : PySem.W.Frag) (c : Cls) (cell : Int) {k : Int} (k0 : 0 <= k) (k1 : k <= 90) : ∃ x, GN x /\ cB K c [.p (.int cell), .p (.int k)] = .ok (.p (frD x)) := by
 obtain ⟨v0, a0, b0, e0⟩ := lK K c cell (k := k) k0 (by omega)
 obtain ⟨v1, a1, b1, e1⟩ := lK K c cell (k := k + 1) (by omega) (by omega)
 obtain ⟨v2, a2, b2, e2⟩ := lK K c cell (k := k + 2) (by omega) (by omega)
 obtain ⟨v3, a3, b3, e3⟩ := lK K c cell (k := k + 3) (by omega) (by omega)
 obtain ⟨v4, a4, b4, e4⟩ := lK K c cell (k := k + 4) (by omega) (by omega)
 have p20 : aHx 10 20 := ⟨by decide, by decide, by decide⟩
 have m12 := dM (a := v1) (b := 12) (by decide)
 have m41 := dM (a := v2) (b := 41) (by decide)
 have m6 := dM (a := v3) (b := 6) (by decide)
 have m5 := dM (a := v4) (b := 5) (by decide)
 have x1 : u0 (.p (.int cell)) (.p (.int 48271)) = .ok (.p (.int (cell * 48271))) := aKi (by decide) (by decide)
 have x2 : u0 (.p (.int 2)) (.p (.int (10 ^ Int.toNat 20))) = .ok (.p (.int (2 * 10 ^ Int.toNat 20))) := aA5 (.inr (.inl ⟨by decide, by decide⟩))
 have n1 : (2 * 10 ^ Int.toNat 20 + 1 : Int) ≠ 0 := by decide
 have mm := dM (a := cell * 48271 + k) (b := 2 * 10 ^ Int.toNat 20 + 1) (by decide)
 have pw : (10 : Int) ^ Int.toNat 20 = 100000000000000000000 := by decide
 have l0 := tL K c (t := (cell * 48271 + k).fmod (2 * 10 ^ Int.toNat 20 + 1) - 10 ^ Int.toNat 20) (b := 1 + v1.fmod 12) (by omega) (by unfold Sz; omega)
 have l1 := tL K c (t := v2.fmod 41 - 20) (b := 1 + v3.fmod 6) (by omega) (by unfold Sz; omega)
 have d5 : (5 : Int) ≠ 0 := by decide
 have d12 : (12 : Int) ≠ 0 := by decide
 have d41 : (41 : Int) ≠ 0 := by decide
 have d6 : (6 : Int) ≠ 0 := by decide
 unfold cB
 suffices h : ∃ x, GN x /\ eY K c (bE 3 [.p (.int cell), .p (.int k)]) = some (.rt (.p (frD x))) from let ⟨x, g, e⟩ := h; ⟨x, g, cJ e⟩
 rw [show bE 3 [.p (.int cell), .p (.int k)] = [some (.p (.int cell)), some (.p (.int k)), none] from rfl]
 unfold eY
 have s0 : (aH mK (aP 2 (a8 K c) (aB (aC 0) (aB (aC 1) aL))) (mC (.int 5))) [some (.p (.int cell)), some (.p (.int k)), none] = .ok (.p (.int (v0.fmod 5))) := by
  ktr_call 11 ⟨e0⟩
 have tt : ∀ (w n : Int), bG (aH (eqE false) (aC 2) (mC (.int n))) [some (.p (.int cell)), some (.p (.int k)), some (.p (.int w))] = .ok (w == n) := fun w n => by
  ktr_call 3 ⟨bG, aH, aC, mC, Res.bind, Ev.c, eqE, dat, iD, iQ, bT⟩
  rfl
 generalize v0.fmod 5 = w at s0
 by_cases h0 : (w == 0) = true
 ·have t0 := tt w 0
  rw [h0] at t0
  refine ⟨_, aJd (t := (cell * 48271 + k).fmod (2 * 10 ^ Int.toNat 20 + 1) - 10 ^ Int.toNat 20) (b := 1 + v1.fmod 12) (by omega) (by unfold Sz; omega) (by unfold Sz; omega), (aO (eL s0)).trans (aAm ((vR t0).trans (g9 ?_)))⟩
  ktr_call 11 ⟨e1, x1, x2, l0⟩
 ·have t0 := tt w 0
  rw [Bool.eq_false_iff.mpr h0] at t0
  by_cases h1 : (w == 1) = true
  ·have t1 := tt w 1
   rw [h1] at t1
   refine ⟨_, aJd (t := v2.fmod 41 - 20) (b := 1 + v3.fmod 6) (by omega) (by unfold Sz; omega) (by unfold Sz; omega), (aO (eL s0)).trans ((aO (oW t0)).trans (aAm ((vR t1).trans (g9 ?_))))⟩
   ktr_call 11 ⟨e2, e3, l1⟩
  ·have t1 := tt w 1
   rw [Bool.eq_false_iff.mpr h1] at t1
   refine ⟨(v4.fmod 5 - 2, 1), yZ (by unfold Sz; omega), (aO (eL s0)).trans ((aO (oW t0)).trans ((aO (oW t1)).trans (g9 ?_)))⟩
   ktr_call 11 ⟨e4⟩
   rfl
theorem lJ (n : Nat) (h : n <= 100000) : iR [.p (.int (n : Int))] = .ok (aGe 0 n) := by
 unfold iR
 exact if_pos ⟨by omega, by omega⟩
theorem aKf {r : List Ev -> Res (List D)} {f : En -> Res Ev} {en : En} {a : D} {o : Res (List D)} (h1 : f en = .ok (.p a)) (h : r [.p a] = o) : k7 r (aB f aL) en = o := by
 simp only [k7, aB, aL, h1, Res.bind, Ev.c, h]
theorem jI {tg : D -> En -> Option En} {f : MS} {d : D} {ds : List D} {en e e' : En} (h1 : tg d en = some e) (h2 : f e = some (.nx e')) : e9 tg f (d :: ds) en = e9 tg f ds e' := by
 rw [e9, h1]
 dsimp only
 rw [h2]
def cols (n : Nat) : List Int := (List.range n).map fun k : Nat => (k : Int)
def dD (d : List Int) : D := .list (d.map .int)
theorem aL4 {a b : List Int} (h : a.map PyData.int = b.map PyData.int) : a = b := (List.map_inj_right fun x y e => by injection e).mp h
theorem aE4 (a b : List Int) (h : dD a = dD b) : a = b := by
 unfold dD at h
 injection h with h
 exact aL4 h
theorem lG (n : Nat) : aGe 0 n = (cols n).map .int := by
 unfold aGe cols
 rw [List.map_map]
 refine List.map_congr_left fun k _ => ?_
 show PyData.int (0 + (k : Int)) = .int (k : Int)
 rw [Int.zero_add]
theorem aD4 {i n : Nat} {en : En} (hn : n <= 1000) (h : en[i]? = some (some (.p (.int (n : Int))))) : k7 iR (aB (aC i) aL) en = .ok ((cols n).map .int) := by
 rw [<- lG]
 refine aKf (a := .int (n : Int)) ?_ (lJ n (by omega))
 unfold aC
 rw [h]
theorem cols_mem {n : Nat} {c : Int} : c ∈ cols n ↔ 0 <= c /\ c < n := by
 unfold cols
 rw [List.mem_map]
 constructor
 ·rintro ⟨k, hk, rfl⟩
  have := List.mem_range.mp hk
  omega
 ·rintro ⟨h1, h2⟩
  exact ⟨c.toNat, List.mem_range.mpr (by omega), by omega⟩
theorem eD (n : Nat) : (cols n).length = n := by unfold cols; rw [List.length_map, List.length_range]
def ext (n : Nat) (P : Int -> Bool) (ds : List (List Int)) : List (List Int) := ds.flatMap fun d => ((cols n).filter fun c => (!decide (c ∈ d)) && P c).map fun c => d ++ [c]
def eU (n : Nat) : Nat -> List (List Int)
 | 0 => [[]]
 | k + 1 => ext n (fun _ => true) (eU n k)
def iW (n : Nat) : List (List Int) := eU n n
theorem jA (n : Nat) (P : Int -> Bool) (d : List Int) : (((cols n).filter fun c => (!decide (c ∈ d)) && P c).map fun c => d ++ [c]).length <= n := by
 rw [List.length_map]
 exact Nat.le_trans (List.length_filter_le _ _) (by rw [eD]; exact Nat.le_refl _)
theorem aBf (n : Nat) (P : Int -> Bool) : ∀ ds : List (List Int), (ext n P ds).length <= n * ds.length
 | [] => Nat.zero_le _
 | d :: ds => by
  have := jA n P d
  have ih := aBf n P ds
  show ((((cols n).filter fun c => (!decide (c ∈ d)) && P c).map fun c => d ++ [c]) ++ ext n P ds).length <= _
  rw [List.length_append, List.length_cons, Nat.mul_succ]
  omega
theorem mX {n : Nat} (hn : n <= 6) : ∀ k, k <= 6 -> (eU n k).length <= 6 ^ k
 | 0, _ => Nat.le_refl _
 | k + 1, hk => by
  have ih := mX hn k (by omega)
  have := aBf n (fun _ => true) (eU n k)
  have h2 := Nat.mul_le_mul hn ih
  rw [Nat.pow_succ, Nat.mul_comm]
  exact Nat.le_trans this h2
theorem aLm {k : Nat} (h : k <= 6) : 6 ^ k <= 46656 := Nat.le_trans (Nat.pow_le_pow_right (by decide) h) (by decide)
theorem aBp (ng : Bool) (c : Int) (d : List Int) : inE ng (.p (.int c)) (.p (dD d)) = .ok (.p (.bool (if ng then !decide (c ∈ d) else decide (c ∈ d)))) := by
 have e : (d.map PyData.int).any (fun e => PyData.eqv e (.int c)) = decide (c ∈ d) := by
  induction d with
  | nil => rfl
  | cons x d ih =>
   rw [List.map_cons, List.any_cons, ih, iQ]
   by_cases h : x = c
   ·rw [h]; simp
   ·have : (x == c) = false := by rw [beq_eq_false_iff_ne]; exact h
    rw [this, Bool.false_or]
    simp [Ne.symm h]
 have f : (d.map PyData.int).all s9 = true := by
  rw [List.all_eq_true]
  intro x hx
  obtain ⟨y, _, rfl⟩ := List.mem_map.mp hx
  rfl
 unfold inE dD
 simp only [hV]
 rw [if_pos ⟨rfl, f⟩, e]
theorem add_one (d : List Int) (c : Int) (h : d.length <= 1000) : iF (.p (dD d)) (.p (.list [.int c])) = .ok (.f (dD (d ++ [c]))) := by
 unfold iF dD
 dsimp only [e8]
 rw [if_pos (by rw [List.length_map]; simp; omega), List.map_append]
 rfl
theorem nV {n : Nat} : ∀ (k : Nat) (d : List Int), d ∈ eU n k -> d.length = k
 | 0, d, h => by rw [List.mem_singleton.mp h]; rfl
 | k + 1, d, h => by
  obtain ⟨e, he, hd⟩ := List.mem_flatMap.mp h
  obtain ⟨c, _, rfl⟩ := List.mem_map.mp hd
  rw [List.length_append, nV k e he]
  rfl
def eN (n : Nat) : List L := [.p (.int (n : Int))]
theorem aFm (a b : Nat) (h : eN a = eN b) : a = b := by
 unfold eN at h
 injection h with h _
 injection h with h
 injection h with h
 omega
noncomputable def cP (K : PySem.W.Frag) (c : Cls) : List L -> Res L := mOf eN (fun n => n <= 6) fun n => .ok (.p (.list ((iW n).map dD)))
noncomputable def eK (K : PySem.W.Frag) (c : Cls) : En -> Res Ev := (aH iF (aC 1) (aF fE (aB (aC 0) aL)))
noncomputable def eC (K : PySem.W.Frag) (c : Cls) : MS := (oH 3 (gO 1 [4] (k7 iR (aB (aC 0) aL)) (aI 0) (bG (aH (inE true) (aC 0) (aC 1))) (eK K c)))
noncomputable def eH (K : PySem.W.Frag) (c : Cls) : MS := (b8 (cX 3 (aF fE aL)) (b8 (pD (lH (aC 1)) (aI 4) (eC K c)) (fun en => (cX 1 (aC 3)) (frz 3 en))))
noncomputable def jB (K : PySem.W.Frag) (c : Cls) : MS := (b8 (cX 1 (aF fE (aB (aF fE aL) aL))) (fun en => (b8 (pD (k7 iR (aB (aC 0) aL)) (aI 2) (eH K c)) (fP (aC 1))) (frz 1 en)))
theorem aHd (K : PySem.W.Frag) (c : Cls) {n : Nat} (M R0 Q0 : Option L) {d : List Int} (hd : d.length <= 100) : lR (aQ 1 [4] (aI 0) (bG (aH (inE true) (aC 0) (aC 1))) (eK K c) [some (.p (.int (n : Int))), M, R0, Q0, some (.p (dD d))]) ((cols n).map .int) = some (((cols n).filter fun c => (!decide (c ∈ d)) && true).map fun c => dD (d ++ [c])) := by
 refine k8 _ fun x hx => ?_
 have t : bG (aH (inE true) (aC 0) (aC 1)) [some (.p (.int x)), some (.p (dD d))] = .ok (!decide (x ∈ d)) := by
  ktr_call 3 ⟨bG, aH, aC, Res.bind, Ev.c, aBp, bT⟩
 have e : eK K c [some (.p (.int x)), some (.p (dD d))] = .ok (.f (dD (d ++ [x]))) := by
  have := add_one d x (by omega)
  ktr_call 3 ⟨eK, aH, aC, aF, aB, aL, fE, hX, Res.bind, Ev.c, this⟩
 rw [Bool.and_true]
 unfold aQ
 ktr_call 3 ⟨aI, qW, vE, List.replicate, List.cons_append, List.nil_append, t, e, Ev.c⟩
 cases decide (x ∈ d) <;> rfl
theorem aJc {i : Nat} {fe : En -> Res Ev} {en : En} {ds es : List D} (h1 : en[i]? = some (some (.o (.list ds)))) (h2 : fe en = .ok (.f (.list es))) (h3 : ds.length + es.length <= 100000) : oH i fe en = some (.nx (en.set i (some (.o (.list (ds ++ es)))))) := by
 unfold oH
 rw [h1]
 dsimp only
 rw [h2]
 dsimp only
 rw [if_pos h3]
theorem aGl (K : PySem.W.Frag) (c : Cls) {n : Nat} (hn : n <= 6) (M R0 : Option L) {acc : List (List Int)} (ha : acc.length <= 50000) {d : List Int} (hd : d.length <= 100) : eC K c [some (.p (.int (n : Int))), M, R0, some (.o (.list (acc.map dD))), some (.p (dD d))] = some (.nx [some (.p (.int (n : Int))), M, R0, some (.o (.list ((acc ++ ((cols n).filter fun c => (!decide (c ∈ d)) && true).map fun c => d ++ [c]).map dD))), some (.p (dD d))]) := by
 have hit := aD4 (i := 0) (en := [some (.p (.int (n : Int))), M, R0, some (.o (.list (acc.map dD))), some (.p (dD d))]) (n := n) (by omega) rfl
 have hc := g6 hit (by rw [List.length_map, eD]; omega) (aHd K c M R0 (some (.o (.list (acc.map dD)))) hd)
 have hl := jA n (fun _ => true) d
 have e := aJc (i := 3) (ds := acc.map dD) rfl hc (by rw [List.length_map] at hl; rw [List.length_map, List.length_map]; omega)
 unfold eC
 rw [e, List.map_append, List.map_map]
 rfl
theorem aBg (K : PySem.W.Frag) (c : Cls) {n : Nat} (hn : n <= 6) (M R0 : Option L) : ∀ (ds acc : List (List Int)) (r4 : Option L), acc.length + n * ds.length <= 50000 -> (∀ d ∈ ds, d.length <= 100) -> ∃ q4, e9 (aI 4) (eC K c) (ds.map dD) [some (.p (.int (n : Int))), M, R0, some (.o (.list (acc.map dD))), r4] = some (.nx [some (.p (.int (n : Int))), M, R0, some (.o (.list ((acc ++ ext n (fun _ => true) ds).map dD))), q4])
 | [], acc, r4, _, _ => ⟨r4, by show _ = some (Out.nx [_, _, _, some (.o (.list ((acc ++ []).map dD))), _]); rw [List.append_nil]; rfl⟩
 | d :: ds, acc, r4, hl, hd => by
  rw [List.length_cons, Nat.mul_succ] at hl
  have hb := aGl K c hn M R0 (acc := acc) (d := d) (by omega) (hd d (.head _))
  have h1 := jA n (fun _ => true) d
  obtain ⟨q4, ih⟩ := aBg K c hn M R0 ds (acc ++ ((cols n).filter fun c => (!decide (c ∈ d)) && true).map fun c => d ++ [c]) (some (.p (dD d))) (by rw [List.length_append]; omega) fun x hx => hd x (.tail _ hx)
  refine ⟨q4, ?_⟩
  rw [List.map_cons, jI rfl hb]
  rw [List.append_assoc] at ih
  exact ih
theorem wM (K : PySem.W.Frag) (c : Cls) {n : Nat} (hn : n <= 6) : ∀ (xs : List D) (k : Nat) (r2 r3 r4 : Option L), k + xs.length <= 6 -> ∃ q2 q3 q4, e9 (aI 2) (eH K c) xs [some (.p (.int (n : Int))), some (.p (.list ((eU n k).map dD))), r2, r3, r4] = some (.nx [some (.p (.int (n : Int))), some (.p (.list ((eU n (k + xs.length)).map dD))), q2, q3, q4])
 | [], k, r2, r3, r4, _ => ⟨r2, r3, r4, rfl⟩
 | x :: xs, k, r2, r3, r4, hk => by
  rw [List.length_cons] at hk
  have l1 := mX hn k (by omega)
  have l2 := aLm (show k <= 6 by omega)
  obtain ⟨q4, h1⟩ := aBg K c hn (some (.p (.list ((eU n k).map dD)))) (some (.p x)) (eU n k) [] r4 (by
   rw [List.length_nil]
   rcases Nat.lt_or_ge k 6 with z | z
   ·have := Nat.mul_le_mul hn l1
    have l3 := aLm (show k + 1 <= 6 by omega)
    rw [Nat.pow_succ, Nat.mul_comm] at l3
    omega
   ·omega) (fun d hd => by rw [nV k d hd]; omega)
  obtain ⟨q2, q3, q4', ih⟩ := wM K c hn xs (k + 1) (some (.p x)) (some (.p (.list ((eU n (k + 1)).map dD)))) q4 (by omega)
  refine ⟨q2, q3, q4', ?_⟩
  have hb : eH K c [some (.p (.int (n : Int))), some (.p (.list ((eU n k).map dD))), some (.p x), r3, r4] = some (.nx [some (.p (.int (n : Int))), some (.p (.list ((eU n (k + 1)).map dD))), some (.p x), some (.p (.list ((eU n (k + 1)).map dD))), q4]) := by
   unfold eH
   refine (aO (fW (d := .list []) rfl)).trans ?_
   simp only [List.set_cons_succ, List.set_cons_zero]
   refine (aO ((kE (ds := (eU n k).map dD) rfl).trans h1)).trans ?_
   rfl
  rw [show k + (x :: xs).length = k + 1 + xs.length by rw [List.length_cons]; omega]
  rw [jI rfl hb]
  exact ih
theorem oZ (K : PySem.W.Frag) (c : Cls) : ∀ ls, cP K c ls = .bad \/ eO 5 (jB K c) ls = cP K c ls := dS fun n hn => by
 refine cJ ?_
 rw [show bE 5 (eN n) = [some (.p (.int (n : Int))), none, none, none, none] from rfl]
 obtain ⟨q2, q3, q4, hlp⟩ := wM K c hn ((cols n).map .int) 0 none none none (by rw [List.length_map, eD]; omega)
 rw [List.length_map, eD, Nat.zero_add] at hlp
 have hit := aD4 (i := 0) (en := [some (.p (.int (n : Int))), some (.p (.list ((eU n 0).map dD))), none, none, none]) (n := n) (by omega) rfl
 unfold jB
 refine (aO (fW (d := .list ((eU n 0).map dD)) rfl)).trans ?_
 simp only [List.set_cons_succ, List.set_cons_zero, frz, List.getElem?_cons_succ, List.getElem?_cons_zero]
 refine (aO ((kE hit).trans hlp)).trans ?_
 rfl
theorem aAi (K : PySem.W.Frag) (c : Cls) {n : Nat} (h : n <= 6) : cP K c [.p (.int (n : Int))] = .ok (.p (.list ((iW n).map dD))) := dU (a := n) aFm h
abbrev Tb := List (List (Int × Int))
def rwF (r : List (Int × Int)) : D := .list (r.map frD)
def tbD (t : Tb) : D := .list (t.map rwF)
theorem aGx (a b : List (Int × Int)) (h : rwF a = rwF b) : a = b := by
 unfold rwF at h
 injection h with h
 exact (List.map_inj_right fun x y e => frI e).mp h
theorem tbI {a b : Tb} (h : tbD a = tbD b) : a = b := by
 unfold tbD at h
 injection h with h
 exact (List.map_inj_right fun x y e => aGx x y e).mp h
def eTF (a : Tb × Int) : List L := [.p (tbD a.1), .p (.int a.2)]
theorem aG6 (a b : Tb × Int) (h : eTF a = eTF b) : a = b := by
 unfold eTF at h
 injection h with h1 h2
 injection h2 with h2 _
 injection h1 with h1
 injection h2 with h2
 injection h2 with h2
 exact Prod.ext (tbI h1) h2
def whR (F : Int) (r : List (Int × Int)) : List Int := r.map fun x => wI x F
noncomputable def cY (K : PySem.W.Frag) (c : Cls) : List L -> Res L := mOf eTF (fun a => a.1.length <= 10 /\ (∀ r ∈ a.1, r.length <= 10 /\ ∀ x ∈ r, Good 400 x) /\ Sz 41000 a.2) fun a => .ok (.o (.list ((a.1.map (whR a.2)).map dD)))
noncomputable def dW (K : PySem.W.Frag) (c : Cls) : En -> Res Ev := (aP 2 (kN K c) (aB (aC 0) (aB (aC 1) aL)))
noncomputable def eZ (K : PySem.W.Frag) (c : Cls) : MS := (fF 2 (gO 1 [1] (lH (aC 3)) (aI 0) iO (dW K c)))
noncomputable def jN (K : PySem.W.Frag) (c : Cls) : MS := (b8 (cX 2 (aF fE aL)) (b8 (pD (lH (aC 0)) (aI 3) (eZ K c)) (fP (aC 2))))
theorem qR (K : PySem.W.Frag) (c : Cls) : ∀ ls, cY K c ls = .bad \/ eO 4 (jN K c) ls = cY K c ls := dS fun a h => by
 obtain ⟨t, F⟩ := a
 obtain ⟨hl, hg, hF⟩ := h
 dsimp only at hl hg hF ⊢
 refine cJ ?_
 rw [show bE 4 (eTF (t, F)) = [some (.p (tbD t)), some (.p (.int F)), none, none] from rfl]
 have gen : ∀ (rs : Tb) (acc : List (List Int)) (r3 : Option L), acc.length + rs.length <= 20 -> (∀ r ∈ rs, r.length <= 10 /\ ∀ x ∈ r, Good 400 x) -> ∃ q3, e9 (aI 3) (eZ K c) (rs.map rwF) [some (.p (tbD t)), some (.p (.int F)), some (.o (.list (acc.map dD))), r3] = some (.nx [some (.p (tbD t)), some (.p (.int F)), some (.o (.list ((acc ++ rs.map (whR F)).map dD))), q3]) := by
  intro rs
  induction rs with
  | nil => intro acc r3 _ _; exact ⟨r3, by rw [List.map_nil, List.map_nil, List.append_nil]; rfl⟩
  | cons r rs ih =>
   intro acc r3 hl hg
   rw [List.length_cons] at hl
   obtain ⟨q3, ih⟩ := ih (acc ++ [whR F r]) (some (.p (rwF r))) (by rw [List.length_append]; simp; omega) fun x hx => hg x (.tail _ hx)
   refine ⟨q3, ?_⟩
   have hm : lR (aQ 1 [1] (aI 0) iO (dW K c) [some (.p (tbD t)), some (.p (.int F)), some (.o (.list (acc.map dD))), some (.p (rwF r))]) (r.map frD) = some (r.map fun x => .int (wI x F)) := by
    refine fN _ fun x hx => ?_
    have w := xM K c ((hg r (.head _)).2 x hx) hF
    have he : dW K c [some (.p (frD x)), some (.p (.int F))] = .ok (.p (.int (wI x F))) := by
     ktr_call 2 ⟨dW, w⟩
    simp [aQ, aI, qW, vE, iO, he, Ev.c]
   have hc := g6 (n := 1) (js := [1]) (fi := lH (aC 3)) (tg := aI 0) (ft := iO) (fe := dW K c) (en := [some (.p (tbD t)), some (.p (.int F)), some (.o (.list (acc.map dD))), some (.p (rwF r))]) (ds := r.map frD) rfl (by rw [List.length_map]; have := (hg r (.head _)).1; omega) hm
   have hb : eZ K c [some (.p (tbD t)), some (.p (.int F)), some (.o (.list (acc.map dD))), some (.p (rwF r))] = some (.nx [some (.p (tbD t)), some (.p (.int F)), some (.o (.list ((acc ++ [whR F r]).map dD))), some (.p (rwF r))]) := by
    unfold eZ fF
    simp only [List.getElem?_cons_succ, List.getElem?_cons_zero, hc, Ev.c]
    rw [if_pos (by rw [List.length_map]; omega), List.map_append]
    rw [show (.list (r.map fun x => PyData.int (wI x F)) : D) = dD (whR F r) by unfold whR dD; rw [List.map_map]; rfl]
    rfl
   rw [List.map_cons, jI rfl hb]
   rw [List.append_assoc] at ih
   exact ih
 obtain ⟨q3, hlp⟩ := gen t [] none (by rw [List.length_nil]; omega) hg
 rw [List.nil_append] at hlp
 unfold jN
 refine (aO (fW (d := .list []) rfl)).trans ((aO ((kE (ds := t.map rwF) rfl).trans hlp)).trans ?_)
 rfl
theorem xQ (K : PySem.W.Frag) (c : Cls) {t : Tb} {F : Int} (h1 : t.length <= 10) (h2 : ∀ r ∈ t, r.length <= 10 /\ ∀ x ∈ r, Good 400 x) (h3 : Sz 41000 F) : cY K c [.p (tbD t), .p (.int F)] = .ok (.o (.list ((t.map (whR F)).map dD))) := dU (a := (t, F)) aG6 ⟨h1, h2, h3⟩
def wo (rows : List (List Int)) (d : List Int) : Int := ((rows.zip d).map fun x => x.1.getD x.2.toNat 0).sum
def eRD (a : List (List Int) × List Int) : List L := [.p (.list (a.1.map dD)), .p (dD a.2)]
theorem aF5 (a b : List (List Int) × List Int) (h : eRD a = eRD b) : a = b := by
 unfold eRD at h
 injection h with h1 h2
 injection h2 with h2 _
 injection h1 with h1
 injection h1 with h1
 injection h2 with h2
 exact Prod.ext ((List.map_inj_right fun x y e => aE4 x y e).mp h1) (aE4 _ _ h2)
theorem qE {α β : Type} (f : α -> D) (g : β -> D) : ∀ (xs : List α) (ys : List β), uJ (xs.map f) (ys.map g) = (xs.zip ys).map fun x => .tuple [f x.1, g x.2]
 | [], _ => by simp [uJ]
 | _ :: _, [] => by simp [uJ]
 | x :: xs, y :: ys => by
  show PyData.tuple [f x, g y] :: uJ (xs.map f) (ys.map g) = _
  rw [qE f g xs ys]
  rfl
noncomputable def fH (K : PySem.W.Frag) (c : Cls) : List L -> Res L := mOf eRD (fun a => a.1.length <= 10 /\ ∀ r ∈ a.1, ∀ x ∈ a.2, 0 <= x /\ x < r.length) fun a => .ok (.p (.int (wo a.1 a.2)))
noncomputable def gH (K : PySem.W.Frag) (c : Cls) : En -> Res Ev := (aH ixE (aC 0) (aC 1))
noncomputable def lU (K : PySem.W.Frag) (c : Cls) : MS := (fP (aF aGo (aB (gO 2 [] (k7 aEa (aB (aC 0) (aB (aC 1) aL))) (kG 2 (dA (aI 0) (dA (aI 1) kK))) iO (gH K c)) aL)))
theorem tZ {r : List Int} {x : Int} (h0 : 0 <= x) (h1 : x < r.length) : ixE (.p (dD r)) (.p (.int x)) = .ok (.p (.int (r.getD x.toNat 0))) := by
 have := aEq (ns := r) (k := x.toNat) (by omega)
 rw [Int.toNat_of_nonneg h0] at this
 simp only [ixE, dD, hV, this]
theorem uA (K : PySem.W.Frag) (c : Cls) : ∀ ls, fH K c ls = .bad \/ eO 2 (lU K c) ls = fH K c ls := dS fun a h => by
 obtain ⟨rows, d⟩ := a
 obtain ⟨hl, hg⟩ := h
 dsimp only at hl hg ⊢
 refine cJ ?_
 rw [show bE 2 (eRD (rows, d)) = [some (.p (.list (rows.map dD))), some (.p (dD d))] from rfl]
 have hit : (k7 aEa (aB (aC 0) (aB (aC 1) aL))) [some (.p (.list (rows.map dD))), some (.p (dD d))] = .ok ((rows.zip d).map fun x => .tuple [dD x.1, .int x.2]) := by
  ktr_call 3 ⟨k7, aB, aL, aC, Res.bind, Ev.c, aEa, dD, qE⟩
 have hm : lR (aQ 2 [] (kG 2 (dA (aI 0) (dA (aI 1) kK))) iO (gH K c) [some (.p (.list (rows.map dD))), some (.p (dD d))]) ((rows.zip d).map fun x => .tuple [dD x.1, .int x.2]) = some ((rows.zip d).map fun x => .int (x.1.getD x.2.toNat 0)) := by
  refine fN _ fun x hx => ?_
  obtain ⟨h1, h2⟩ := List.of_mem_zip hx
  have i := tZ (hg x.1 h1 x.2 h2).1 (hg x.1 h1 x.2 h2).2
  have e : gH K c [some (.p (dD x.1)), some (.p (.int x.2))] = .ok (.p (.int (x.1.getD x.2.toNat 0))) := by
   ktr_call 3 ⟨gH, aH, aC, Res.bind, Ev.c, i⟩
  unfold aQ
  ktr_call 3 ⟨kG, dA, kK, aI, qW, iO, List.replicate, List.cons_append, List.nil_append, e, Ev.c⟩
 have hc := g6 (n := 2) (js := []) hit (by rw [List.length_map, List.length_zip]; omega) hm
 unfold lU
 refine g9 ?_
 have hs : aGo [.p (.list ((rows.zip d).map fun x => PyData.int (x.1.getD x.2.toNat 0)))] = .ok (.p (.int (wo rows d))) := by
  rw [show ((rows.zip d).map fun x => PyData.int (x.1.getD x.2.toNat 0)) = ((rows.zip d).map fun x => x.1.getD x.2.toNat 0).map PyData.int by rw [List.map_map]; rfl]
  simp only [aGo, e8, iU]
  rfl
 simp only [aF, aB, aL, hc, Res.bind, Ev.c, hs]
theorem aGa (K : PySem.W.Frag) (c : Cls) {rows : List (List Int)} {d : List Int} (h1 : rows.length <= 10) (h2 : ∀ r ∈ rows, ∀ x ∈ d, 0 <= x /\ x < r.length) : fH K c [.p (.list (rows.map dD)), .p (dD d)] = .ok (.p (.int (wo rows d))) := dU (a := (rows, d)) aF5 ⟨h1, h2⟩
theorem w_mul {F : Int} {h : Int × Int} (h0 : 1 <= h.2) (hd : h.2 ∣ F) : h.1 * F.fdiv h.2 * h.2 = h.1 * F := by
 obtain ⟨k, hk⟩ := hd
 have : F.fdiv h.2 = k := by
  rw [hk]
  exact Int.mul_fdiv_cancel_left _ (by omega)
 rw [this, hk]
 ac_rfl
def wt (G : Int) (h : Int × Int) : Int := h.1 * G.fdiv h.2
theorem aI8 {G : Int} {x y : Int × Int} (hG : 1 <= G) (x0 : 1 <= x.2) (y0 : 1 <= y.2) (xd : x.2 ∣ G) (yd : y.2 ∣ G) (h : leF x y) : wt G x <= wt G y := by
 have e1 : wt G x * x.2 = x.1 * G := w_mul x0 xd
 have e2 : wt G y * y.2 = y.1 * G := w_mul y0 yd
 have p := jP x0 y0
 refine Int.le_of_mul_le_mul_right (a := x.2 * y.2) ?_ (by omega)
 have a1 : wt G x * (x.2 * y.2) = x.1 * y.2 * G := by
  rw [<- Int.mul_assoc, e1]
  ac_rfl
 have a2 : wt G y * (x.2 * y.2) = y.1 * x.2 * G := by
  rw [Int.mul_comm x.2, <- Int.mul_assoc, e2]
  ac_rfl
 rw [a1, a2]
 exact Int.mul_le_mul_of_nonneg_right h (by omega)
theorem aFl {G : Int} {x y : Int × Int} (hG : 1 <= G) (fx : FR.Fr x) (fy : FR.Fr y) (xd : x.2 ∣ G) (yd : y.2 ∣ G) (h : wt G x = wt G y) : x = y := by
 have e1 : wt G x * x.2 = x.1 * G := w_mul fx.pos xd
 have e2 : wt G y * y.2 = y.1 * G := w_mul fy.pos yd
 have e : x.1 * y.2 = y.1 * x.2 := by
  refine Int.eq_of_mul_eq_mul_right (a := G) (by omega) ?_
  have a1 : x.1 * y.2 * G = wt G x * (x.2 * y.2) := by
   rw [<- Int.mul_assoc, e1]
   ac_rfl
  have a2 : y.1 * x.2 * G = wt G y * (x.2 * y.2) := by
   rw [Int.mul_comm x.2, <- Int.mul_assoc, e2]
   ac_rfl
  rw [a1, a2, h]
 exact zI fx fy (Int.le_of_eq e) (Int.le_of_eq e.symm)
theorem aK9 {G : Int} {x y : Int × Int} (x0 : 1 <= x.2) (y0 : 1 <= y.2) (xd : x.2 ∣ G) (yd : y.2 ∣ G) : (hP x y).2 ∣ G /\ wt G (hP x y) = wt G x + wt G y := by
 have e1 : wt G x * x.2 = x.1 * G := w_mul x0 xd
 have e2 : wt G y * y.2 = y.1 * G := w_mul y0 yd
 have p := jP x0 y0
 obtain ⟨fs, es⟩ := FR.kI (t := x.1 * y.2 + y.1 * x.2) (b := x.2 * y.2) (by omega)
 have key : (hP x y).1 * G = (wt G x + wt G y) * (hP x y).2 := by
  refine Int.eq_of_mul_eq_mul_right (a := x.2 * y.2) (by omega) ?_
  have a1 : (hP x y).1 * G * (x.2 * y.2) = (hP x y).1 * (x.2 * y.2) * G := by ac_rfl
  have a2 : (wt G x + wt G y) * (hP x y).2 * (x.2 * y.2) = (wt G x * x.2 * y.2 + wt G y * y.2 * x.2) * (hP x y).2 := by
   rw [Int.add_mul, Int.add_mul, Int.add_mul]
   congr 1 <;> ac_rfl
  rw [a1, a2, show (hP x y).1 * (x.2 * y.2) = (x.1 * y.2 + y.1 * x.2) * (hP x y).2 from es, e1, e2]
  have a3 : x.1 * G * y.2 + y.1 * G * x.2 = (x.1 * y.2 + y.1 * x.2) * G := by
   rw [Int.add_mul]
   congr 1 <;> ac_rfl
  rw [a3]
  ac_rfl
 have fs : FR.Fr (hP x y) := fs
 have hd : (hP x y).2 ∣ G := by
  have d1 : (hP x y).2 ∣ (hP x y).1 * G := ⟨wt G x + wt G y, by rw [key, Int.mul_comm]⟩
  have d2 : (hP x y).2.natAbs ∣ (hP x y).1.natAbs * G.natAbs := by
   rw [<- Int.natAbs_mul]
   exact Int.natAbs_dvd_natAbs.mpr d1
  have c : Nat.Coprime (hP x y).2.natAbs (hP x y).1.natAbs := by
   have := fs.low
   rw [Int.gcd_comm] at this
   exact this
  exact Int.natAbs_dvd_natAbs.mp (c.dvd_of_dvd_mul_left d2)
 refine ⟨hd, ?_⟩
 have e3 : wt G (hP x y) * (hP x y).2 = (hP x y).1 * G := w_mul fs.pos hd
 exact Int.eq_of_mul_eq_mul_right (a := (hP x y).2) (by have := fs.pos; omega) (by rw [e3, key])
theorem aJo {F G : Int} {x : Int × Int} (x0 : 1 <= x.2) (d1 : x.2 ∣ F) (d2 : x.2 ∣ G) : wt F x * G = wt G x * F := by
 have e1 : wt F x * x.2 = x.1 * F := w_mul x0 d1
 have e2 : wt G x * x.2 = x.1 * G := w_mul x0 d2
 refine Int.eq_of_mul_eq_mul_right (a := x.2) (by omega) ?_
 have a1 : wt F x * G * x.2 = wt F x * x.2 * G := by ac_rfl
 have a2 : wt G x * F * x.2 = wt G x * x.2 * F := by ac_rfl
 rw [a1, a2, e1, e2]
 ac_rfl
theorem xA {α : Type} (f : α -> D) (xs : List α) (d : α) {k : Nat} (h : k < xs.length) : atI (xs.map f) (k : Int) = some (f (xs.getD k d)) := by
 have : xs.getD k d = xs[k] := by simp [List.getD, h]
 rw [this]
 exact nQ (by rw [List.getElem?_map, List.getElem?_eq_getElem h]; rfl)
theorem aGv {n : Nat} {P : Int -> Bool} {ds : List (List Int)} {e : List Int} : e ∈ ext n P ds ↔ ∃ d ∈ ds, ∃ x : Int, (0 <= x /\ x < n) /\ x ∉ d /\ P x = true /\ e = d ++ [x] := by
 unfold ext
 rw [List.mem_flatMap]
 constructor
 ·rintro ⟨d, hd, h⟩
  obtain ⟨x, hx, rfl⟩ := List.mem_map.mp h
  obtain ⟨h1, h2⟩ := List.mem_filter.mp hx
  rw [Bool.and_eq_true] at h2
  exact ⟨d, hd, x, cols_mem.mp h1, by simpa using h2.1, h2.2, rfl⟩
 ·rintro ⟨d, hd, x, h1, h2, h3, rfl⟩
  refine ⟨d, hd, List.mem_map.mpr ⟨x, List.mem_filter.mpr ⟨cols_mem.mpr h1, ?_⟩, rfl⟩⟩
  rw [Bool.and_eq_true]
  exact ⟨by simpa using h2, h3⟩
theorem gK {n : Nat} : ∀ (k : Nat) (d : List Int), d ∈ eU n k ↔ d.length = k /\ d.Nodup /\ ∀ x ∈ d, 0 <= x /\ x < n
 | 0, d => by
  constructor
  ·intro h
   rw [List.mem_singleton.mp h]
   exact ⟨rfl, List.Pairwise.nil, (fun _ h => nomatch h)⟩
  ·rintro ⟨h, _⟩
   rw [List.length_eq_zero_iff.mp h]
   exact .head _
 | k + 1, d => by
  show d ∈ ext n (fun _ => true) (eU n k) ↔ _
  rw [aGv]
  constructor
  ·rintro ⟨e, he, x, hx, hn, _, rfl⟩
   obtain ⟨h1, h2, h3⟩ := (gK k e).mp he
   refine ⟨by rw [List.length_append, h1]; rfl, List.nodup_append.mpr ⟨h2, List.pairwise_singleton _ _, fun a ha b hb z => ?_⟩, fun y hy => ?_⟩
   ·rw [List.mem_singleton.mp hb] at z
    exact hn (z ▸ ha)
   ·rcases List.mem_append.mp hy with z | z
    ·exact h3 y z
    ·rw [List.mem_singleton.mp z]; exact hx
  ·rintro ⟨h1, h2, h3⟩
   have hne : d ≠ [] := fun z => by rw [z] at h1; cases h1
   have e : d = d.dropLast ++ [d.getLast hne] := (List.dropLast_concat_getLast hne).symm
   have nd := h2
   rw [e] at nd
   obtain ⟨n1, _, n3⟩ := List.nodup_append.mp nd
   exact ⟨d.dropLast, (gK k _).mpr ⟨by rw [List.length_dropLast, h1]; rfl, n1, fun x hx => h3 x (List.dropLast_subset _ hx)⟩, d.getLast hne, h3 _ (List.getLast_mem _), fun z => n3 _ z _ (.head _) rfl, rfl, e⟩
def mxw : List Int -> Int
 | [] => 0
 | i :: is => aCh i is
theorem rZ : ∀ (is : List Int) (i : Int), aCh i is ∈ i :: is /\ ∀ x ∈ i :: is, x <= aCh i is
 | [], i => ⟨.head _, fun x hx => by rw [List.mem_singleton.mp hx]; exact Int.le_refl _⟩
 | j :: is, i => by
  obtain ⟨h1, h2⟩ := rZ is (if i < j then j else i)
  have e : aCh i (j :: is) = aCh (if i < j then j else i) is := rfl
  rw [e]
  constructor
  ·rcases List.mem_cons.mp h1 with z | z
   ·rw [z]
    split
    ·exact .tail _ (.head _)
    ·exact .head _
   ·exact .tail _ (.tail _ z)
  ·intro x hx
   have h0 := h2 _ (.head _)
   have hi : i <= (if i < j then j else i) := by split <;> omega
   have hj : j <= (if i < j then j else i) := by split <;> omega
   rcases List.mem_cons.mp hx with z | z
   ·rw [z]; exact Int.le_trans hi h0
   ·rcases List.mem_cons.mp z with w | w
    ·rw [w]; exact Int.le_trans hj h0
    ·exact h2 x (.tail _ w)
theorem lL {ws : List Int} (h : ws ≠ []) : mxw ws ∈ ws /\ ∀ x ∈ ws, x <= mxw ws := by
 cases ws with
 | nil => exact absurd rfl h
 | cons i is => exact rZ is i
theorem uN {α : Type} (W : α -> Int) (f : α -> Bool) (top : Int) : ∀ ds : List α, (∀ d ∈ ds, (W d = top ↔ f d = true)) -> (ds.map W).count top = (ds.filter f).length
 | [], _ => rfl
 | d :: ds, h => by
  have ih := uN W f top ds fun x hx => h x (.tail _ hx)
  have hd := h d (.head _)
  rw [List.map_cons, List.count_cons, ih, List.filter_cons]
  by_cases z : f d = true
  ·rw [if_pos z, if_pos (by rw [beq_iff_eq]; exact hd.mpr z), List.length_cons]
  ·rw [if_neg z, if_neg (by rw [beq_iff_eq]; exact fun w => z (hd.mp w))]
   rfl
def eT (t : Tb) : List L := [.p (tbD t)]
theorem aKo (a b : Tb) (h : eT a = eT b) : a = b := by
 unfold eT at h
 injection h with h _
 injection h with h
 exact tbI h
structure GT (t : Tb) : Prop where
 l : t.length <= 6
 r : ∀ r ∈ t, r.length = t.length
 g : ∀ r ∈ t, ∀ x ∈ r, 1 <= x.2 /\ Sz 200 x.1 /\ Sz 30 x.2
def iT (t : Tb) : List Int := (iW t.length).map (wo (t.map (whR (cb t.flatten))))
def i9 (t : Tb) : D := .tuple [frD (FR.mk (mxw (iT t)) (cb t.flatten)), .int ((iT t).count (mxw (iT t)) : Nat), dD ((iW t.length).getD ((iT t).idxOf (mxw (iT t))) [])]
theorem qM : ∀ (t : Tb) (n : Nat), (∀ r ∈ t, r.length = n) -> t.flatten.length = t.length * n
 | [], n, _ => by simp
 | r :: t, n, h => by
  rw [List.flatten_cons, List.length_append, qM t n fun x hx => h x (.tail _ hx), h r (.head _), List.length_cons, Nat.succ_mul]
  omega
theorem GT.fl {t : Tb} (h : GT t) : ∀ x ∈ t.flatten, 1 <= x.2 /\ Sz 30 x.2 := fun x hx => by
 obtain ⟨r, hr, hx⟩ := List.mem_flatten.mp hx
 have := h.g r hr x hx
 exact ⟨this.1, this.2.2⟩
theorem GT.cb {t : Tb} (h : GT t) : 1 <= cb t.flatten /\ (∀ x ∈ t.flatten, x.2 ∣ cb t.flatten) /\ Sz 1200 (cb t.flatten) := by
 obtain ⟨a, _, b, c⟩ := aKk (b := 30) t.flatten 1 1 (Int.le_refl 1) (by unfold Sz; decide) h.fl
 refine ⟨a, b, c.mono ?_⟩
 rw [qM t t.length h.r]
 have := Nat.mul_le_mul h.l h.l
 omega
theorem nS (n : Nat) : iW n ≠ [] := by
 have : cols n ∈ iW n := (gK n _).mpr ⟨eD n, by
  unfold cols
  exact List.pairwise_map.mpr (List.nodup_range.imp fun {a b} w z => w (by omega)), fun x hx => cols_mem.mp hx⟩
 exact List.ne_nil_of_mem this
noncomputable def oI (K : PySem.W.Frag) (c : Cls) : List L -> Res L := mOf eT GT fun t => .ok (.p (i9 t))
noncomputable def jS (K : PySem.W.Frag) (c : Cls) : En -> Res Ev := (aP 2 (fH K c) (aB (aC 1) (aB (aC 0) aL)))
noncomputable def lB (K : PySem.W.Frag) (c : Cls) : MS := (aB4 1 (aC 2))
noncomputable def yJ (K : PySem.W.Frag) (c : Cls) : MS := (b8 (cX 1 (aF fE aL)) (b8 (pD (lH (aC 0)) (aI 2) (lB K c)) (b8 (cX 3 (aP 1 (bZ K c) (aB (aC 1) aL))) (b8 (cX 4 (aP 2 (cY K c) (aB (aC 0) (aB (aC 3) aL)))) (b8 (cX 5 (aP 1 (cP K c) (aB (aF eM (aB (aC 4) aL)) aL))) (fun en => (b8 (cX 6 (gO 1 [4] (lH (aC 5)) (aI 0) iO (jS K c))) (b8 (cX 7 (aF aFh (aB (aC 6) aL))) (fP (aF bV (aB (aP 2 (cF K c) (aB (aC 7) (aB (aC 3) aL))) (aB (mMt nE (aC 6) (aC 7)) (aB (aH ixE (aC 5) (mMt n9 (aC 6) (aC 7))) aL))))))) (frz 4 en)))))))
theorem aGu {i : Nat} {fe : En -> Res Ev} {en : En} {ds es : List D} (h1 : en[i]? = some (some (.o (.list ds)))) (h2 : fe en = .ok (.p (.list es))) (h3 : ds.length + es.length <= 100000) : aB4 i fe en = some (.nx (en.set i (some (.o (.list (ds ++ es)))))) := by
 unfold aB4
 rw [h1]
 dsimp only
 rw [h2]
 dsimp only
 rw [if_pos h3]
theorem sE (K : PySem.W.Frag) (c : Cls) (A : Option L) (rs' : List (Option L)) : ∀ (rs : Tb) (acc : List (Int × Int)) (r2 : Option L), acc.length + 10 * rs.length <= 1000 -> (∀ r ∈ rs, r.length <= 10) -> ∃ q2, e9 (aI 2) (lB K c) (rs.map rwF) (A :: some (.o (.list (acc.map frD))) :: r2 :: rs') = some (.nx (A :: some (.o (.list ((acc ++ rs.flatten).map frD))) :: q2 :: rs'))
 | [], acc, r2, _, _ => ⟨r2, by rw [List.flatten_nil, List.append_nil]; rfl⟩
 | r :: rs, acc, r2, hl, hr => by
  rw [List.length_cons] at hl
  have h1 := hr r (.head _)
  obtain ⟨q2, ih⟩ := sE K c A rs' rs (acc ++ r) (some (.p (rwF r))) (by rw [List.length_append]; omega) fun x hx => hr x (.tail _ hx)
  refine ⟨q2, ?_⟩
  have hb : lB K c (A :: some (.o (.list (acc.map frD))) :: some (.p (rwF r)) :: rs') = some (.nx (A :: some (.o (.list ((acc ++ r).map frD))) :: some (.p (rwF r)) :: rs')) := by
   unfold lB
   rw [aGu (i := 1) (ds := acc.map frD) (es := r.map frD) rfl rfl (by rw [List.length_map, List.length_map]; omega), List.map_append]
   rfl
  rw [List.map_cons, jI rfl hb]
  rw [List.flatten_cons, <- List.append_assoc]
  exact ih
theorem aHt (K : PySem.W.Frag) (c : Cls) : ∀ ls, oI K c ls = .bad \/ eO 8 (yJ K c) ls = oI K c ls := dS fun t h => by
 obtain ⟨f0, f1, f2⟩ := h.cb
 have hl := h.l
 have hfi : ∀ x : Int, zS (.p (.int x)) = true := fun x => by simp [zS, lfD]
 obtain ⟨q2, hlp⟩ := sE K c (some (.p (tbD t))) [none, none, none, none, none] t [] none (by rw [List.length_nil]; omega) (fun r hr => by rw [h.r r hr]; omega)
 rw [List.nil_append] at hlp
 have hcb := aF2 K c (hs := t.flatten) ⟨30, by decide, by rw [qM t t.length h.r]; have := Nat.mul_le_mul h.l h.l; omega, h.fl⟩
 have hwr := xQ K c (t := t) (F := cb t.flatten) (by omega) (fun r hr => ⟨by rw [h.r r hr]; omega, fun x hx => by
  have := h.g r hr x hx
  exact ⟨this.1, this.2.1.mono (by decide), this.2.2.mono (by decide)⟩⟩) (f2.mono (by decide))
 have hde := aAi K c (n := t.length) h.l
 have hfr := qS K c (t := mxw (iT t)) (b := cb t.flatten) (by omega) (f2.mono (by decide))
 refine cJ ?_
 rw [show bE 8 (eT t) = [some (.p (tbD t)), none, none, none, none, none, none, none] from rfl]
 unfold yJ
 refine (aO (fW (d := .list []) rfl)).trans ?_
 refine (aO ((kE (ds := t.map rwF) rfl).trans hlp)).trans ?_
 have e3 : (aP 1 (bZ K c) (aB (aC 1) aL)) [some (.p (tbD t)), some (.o (.list (t.flatten.map frD))), q2, none, none, none, none, none] = .ok (.p (.int (cb t.flatten))) := by
  ktr_call 3 ⟨aP, aB, aL, aC, Res.bind, Ev.c, dE, cG, iS, zY, hcb, hfi, jC⟩
 refine (aO (eL e3)).trans ?_
 simp only [List.set_cons_succ, List.set_cons_zero]
 have e4 : (aP 2 (cY K c) (aB (aC 0) (aB (aC 3) aL))) [some (.p (tbD t)), some (.o (.list (t.flatten.map frD))), q2, some (.p (.int (cb t.flatten))), none, none, none, none] = .ok (.f (.list ((t.map (whR (cb t.flatten))).map dD))) := by
  ktr_call 3 ⟨aP, aB, aL, aC, Res.bind, Ev.c, dE, cG, iS, hwr, jC⟩
 refine (aO (fW e4)).trans ?_
 simp only [List.set_cons_succ, List.set_cons_zero]
 have hlen : eM [.b (.list ((t.map (whR (cb t.flatten))).map dD))] = .ok (.p (.int (t.length : Nat))) := by simp [eM, hV]
 have e5 : (aP 1 (cP K c) (aB (aF eM (aB (aC 4) aL)) aL)) [some (.p (tbD t)), some (.o (.list (t.flatten.map frD))), q2, some (.p (.int (cb t.flatten))), some (.o (.list ((t.map (whR (cb t.flatten))).map dD))), none, none, none] = .ok (.p (.list ((iW t.length).map dD))) := by
  ktr_call 3 ⟨aP, aF, aB, aL, aC, Res.bind, Ev.c, dE, cG, iS, hlen, hde, jC⟩
 refine (aO (eL e5)).trans ?_
 simp only [List.set_cons_succ, List.set_cons_zero, frz, List.getElem?_cons_succ, List.getElem?_cons_zero]
 have hm : lR (aQ 1 [4] (aI 0) iO (jS K c) [some (.p (tbD t)), some (.o (.list (t.flatten.map frD))), q2, some (.p (.int (cb t.flatten))), some (.p (.list ((t.map (whR (cb t.flatten))).map dD))), some (.p (.list ((iW t.length).map dD))), none, none]) ((iW t.length).map dD) = some ((iW t.length).map fun d => .int (wo (t.map (whR (cb t.flatten))) d)) := by
  refine fN _ fun d hd => ?_
  obtain ⟨_, _, d3⟩ := (gK _ d).mp hd
  have w := aGa K c (rows := t.map (whR (cb t.flatten))) (d := d) (by rw [List.length_map]; omega) (fun r hr x hx => by
   obtain ⟨r0, h0, rfl⟩ := List.mem_map.mp hr
   have := h.r r0 h0
   unfold whR
   rw [List.length_map, this]
   exact d3 x hx)
  have he : jS K c [some (.p (dD d)), some (.p (.list ((t.map (whR (cb t.flatten))).map dD)))] = .ok (.p (.int (wo (t.map (whR (cb t.flatten))) d))) := by
   ktr_call 3 ⟨jS, aP, aB, aL, aC, Res.bind, Ev.c, dE, cG, iS, w, jC⟩
  unfold aQ
  ktr_call 3 ⟨aI, qW, vE, iO, List.replicate, List.cons_append, List.nil_append, he, Ev.c⟩
 have l6 := mX (n := t.length) h.l t.length h.l
 have p6 := aLm h.l
 have hc := g6 (n := 1) (js := [4]) (fi := lH (aC 5)) (tg := aI 0) (ft := iO) (fe := jS K c) (en := [some (.p (tbD t)), some (.o (.list (t.flatten.map frD))), q2, some (.p (.int (cb t.flatten))), some (.p (.list ((t.map (whR (cb t.flatten))).map dD))), some (.p (.list ((iW t.length).map dD))), none, none]) (ds := (iW t.length).map dD) rfl (by rw [List.length_map]; unfold iW; omega) hm
 rw [show ((iW t.length).map fun d => PyData.int (wo (t.map (whR (cb t.flatten))) d)) = (iT t).map .int by unfold iT; rw [List.map_map]; rfl] at hc
 refine (aO (fW hc)).trans ?_
 simp only [List.set_cons_succ, List.set_cons_zero]
 have wn : iT t ≠ [] := fun z => nS t.length (List.map_eq_nil_iff.mp z)
 obtain ⟨tm, _⟩ := lL wn
 have hmx : aFh [.b (.list ((iT t).map .int))] = .ok (.p (.int (mxw (iT t)))) := by
  cases e : iT t with
  | nil => exact absurd e wn
  | cons i is => simp only [aFh, e8, iU]; rfl
 have e7 : (aF aFh (aB (aC 6) aL)) [some (.p (tbD t)), some (.o (.list (t.flatten.map frD))), q2, some (.p (.int (cb t.flatten))), some (.p (.list ((t.map (whR (cb t.flatten))).map dD))), some (.p (.list ((iW t.length).map dD))), some (.o (.list ((iT t).map .int))), none] = .ok (.p (.int (mxw (iT t)))) := by
  ktr_call 3 ⟨aF, aB, aL, aC, Res.bind, Ev.c, hmx⟩
 refine (aO (eL e7)).trans ?_
 simp only [List.set_cons_succ, List.set_cons_zero]
 have hco : nE (.b (.list ((iT t).map .int))) (.p (.int (mxw (iT t)))) = .ok (.p (.int ((iT t).count (mxw (iT t)) : Nat))) := by
  simp only [nE, e8, iU]
 have hix : n9 (.b (.list ((iT t).map .int))) (.p (.int (mxw (iT t)))) = .ok (.p (.int ((iT t).idxOf (mxw (iT t)) : Nat))) := by
  simp only [n9, e8, iU]
  rw [if_pos tm]
 have hat : ixE (.p (.list ((iW t.length).map dD))) (.p (.int ((iT t).idxOf (mxw (iT t)) : Nat))) = .ok (.p (dD ((iW t.length).getD ((iT t).idxOf (mxw (iT t))) []))) := by
  have li : (iT t).idxOf (mxw (iT t)) < (iW t.length).length := by
   have := List.idxOf_lt_length_iff.mpr tm
   unfold iT at this
   rw [List.length_map] at this
   exact this
  have := xA dD (iW t.length) [] li
  simp only [ixE, hV, this]
 refine g9 ?_
 ktr_call 3 ⟨aF, aB, aL, aC, aP, mMt, aH, Res.bind, Ev.c, dE, cG, iS, hfr, jC, hco, hix, hat, e8, Option.isSome_some, bV, hX⟩
 rfl
theorem aAk (K : PySem.W.Frag) (c : Cls) {t : Tb} (h : GT t) : oI K c [.p (tbD t)] = .ok (.p (i9 t)) := dU (a := t) aKo h
theorem gW {α : Type} {xs : List α} {k : Nat} (h : k < xs.length) (d : α) : xs.getD k d = xs[k] := by simp [List.getD, h]
theorem getD_in {α : Type} {xs : List α} {k : Nat} (h : k < xs.length) (d : α) : xs.getD k d ∈ xs := by rw [gW h]; exact List.getElem_mem h
theorem aEg {F G : Int} : ∀ (t : Tb) (d : List Int), (∀ r ∈ t, ∀ x ∈ r, 1 <= x.2 /\ x.2 ∣ F /\ x.2 ∣ G) -> wo (t.map (whR F)) d * G = wo (t.map (whR G)) d * F
 | [], _, _ => by unfold wo; simp
 | _ :: _, [], _ => by unfold wo; simp
 | r :: t, a :: d, h => by
  have ih := aEg t d fun x hx => h x (.tail _ hx)
  show ((whR F r).getD a.toNat 0 + wo (t.map (whR F)) d) * G = ((whR G r).getD a.toNat 0 + wo (t.map (whR G)) d) * F
  rw [Int.add_mul, Int.add_mul, ih]
  congr 1
  by_cases hk : a.toNat < r.length
  ·have q : ∀ H : Int, (whR H r).getD a.toNat 0 = wt H (r.getD a.toNat (0, 1)) := fun H => by
    unfold whR
    rw [gW (by rw [List.length_map]; exact hk), gW hk, List.getElem_map]
    rfl
   have g := h r (.head _) _ (getD_in hk (0, 1))
   rw [q, q, aJo g.1 g.2.1 g.2.2]
  ·have q : ∀ H : Int, (whR H r).getD a.toNat 0 = 0 := fun H => by
    unfold whR
    simp [List.getD, Nat.le_of_not_lt hk]
   rw [q, q, Int.zero_mul, Int.zero_mul]
theorem aJv {α : Type} {l : List α} (nd : l.Nodup) {i j : Nat} {hi : i < l.length} {hj : j < l.length} (e : l[i] = l[j]) : i = j := by
 have p := List.pairwise_iff_getElem.mp nd
 rcases Nat.lt_trichotomy i j with z | z | z
 ·exact absurd e (p i j hi hj z)
 ·exact z
 ·exact absurd e.symm (p j i hj hi z)
section
variable {α β : Type} [DecidableEq α]
def wsl (u : α -> β -> Int) : List β -> List α -> Int
 | p :: ps, o :: os => u o p + wsl u ps os
 | _, _ => 0
def mQ (u : α -> β -> Int) (os : List α) (ps : List β) : List (List Int) := ps.map fun p => os.map fun o => u o p
structure Dl (os e : List α) : Prop where
 l : e.length = os.length
 n : e.Nodup
 m : ∀ o ∈ e, o ∈ os
theorem aEy (u : α -> β -> Int) {os : List α} (o0 : α) : ∀ (ps : List β) (d : List Int), (∀ a ∈ d, 0 <= a /\ a < os.length) -> wo (mQ u os ps) d = wsl u ps (d.map fun a => os.getD a.toNat o0)
 | [], d, _ => by unfold mQ wo wsl; simp
 | _ :: _, [], _ => by unfold mQ wo wsl; simp
 | p :: ps, a :: d, h => by
  have ih := aEy u o0 ps d fun x hx => h x (.tail _ hx)
  have ha := h a (.head _)
  have hk : a.toNat < os.length := by omega
  show (os.map fun o => u o p).getD a.toNat 0 + wo (mQ u os ps) d = u (os.getD a.toNat o0) p + wsl u ps (d.map fun a => os.getD a.toNat o0)
  rw [ih, gW (by rw [List.length_map]; exact hk), gW hk, List.getElem_map]
theorem aL8 {os : List α} (nd : os.Nodup) (o0 : α) {d : List Int} (hd : d ∈ iW os.length) : Dl os (d.map fun a => os.getD a.toNat o0) := by
 obtain ⟨d1, d2, d3⟩ := (gK _ d).mp hd
 refine ⟨by rw [List.length_map, d1], ?_, fun o ho => ?_⟩
 ·refine List.pairwise_map.mpr (List.Pairwise.imp_of_mem (fun {x y} hx hy w z => w ?_) d2)
  have a := d3 x hx
  have b := d3 y hy
  have e := z
  rw [gW (show x.toNat < os.length by omega), gW (show y.toNat < os.length by omega)] at e
  have := aJv nd e
  omega
 ·obtain ⟨x, hx, rfl⟩ := List.mem_map.mp ho
  have a := d3 x hx
  exact getD_in (by omega) o0
def wsU (u : α -> β -> Int) (os : List α) (ps : List β) : List Int := (iW os.length).map (wo (mQ u os ps))
def Bv (u : α -> β -> Int) (os : List α) (ps : List β) : Int := mxw (wsU u os ps)
theorem aJq (u : α -> β -> Int) (os : List α) (ps : List β) : wsU u os ps ≠ [] := fun z => nS _ (List.map_eq_nil_iff.mp z)
theorem aMb {u : α -> β -> Int} {os : List α} (nd : os.Nodup) (ps : List β) (o0 : α) : ∃ e, Dl os e /\ wsl u ps e = Bv u os ps := by
 obtain ⟨d, hd, e⟩ := List.mem_map.mp (lL (aJq u os ps)).1
 obtain ⟨_, _, d3⟩ := (gK _ _).mp hd
 refine ⟨_, aL8 nd o0 hd, ?_⟩
 rw [<- aEy u o0 ps _ d3]
 exact e
def oth (S : List α) (s : α) : List α := S.filter fun o => !decide (o = s)
theorem aIg {S : List α} (nd : S.Nodup) (s : α) : (oth S s).Nodup := nd.filter _
theorem mem_oth {S : List α} {s o : α} : o ∈ oth S s ↔ o ∈ S /\ o ≠ s := by
 unfold oth
 rw [List.mem_filter]
 simp
theorem rG : ∀ {S : List α} {s : α}, S.Nodup -> s ∈ S -> (oth S s).length + 1 = S.length
 | x :: S, s, nd, hs => by
  obtain ⟨n1, n2⟩ := List.nodup_cons.mp nd
  unfold oth
  rw [List.filter_cons]
  by_cases z : x = s
  ·subst z
   have : S.filter (fun o => !decide (o = x)) = S := List.filter_eq_self.mpr fun o ho => by
    have : o ≠ x := fun e => n1 (e ▸ ho)
    simp [this]
   rw [if_neg (by simp), this]
   rfl
  ·have := rG n2 ((List.mem_cons.mp hs).resolve_left (Ne.symm z))
   rw [if_pos (by simp [z]), List.length_cons, List.length_cons]
   unfold oth at this
   omega
end
theorem aKq {ws : List Int} {m : Int} (h1 : m ∈ ws) (h2 : ∀ x ∈ ws, x <= m) : mxw ws = m := by
 obtain ⟨a, b⟩ := lL (List.ne_nil_of_mem h1)
 have := h2 _ a
 have := b _ h1
 omega
structure Gx (G : Int) (x : Int × Int) : Prop where
 f : FR.Fr x
 d : x.2 ∣ G
theorem aJl {G W : Int} {y : Int × Int} (f : FR.Fr y) (h : y.1 * G = W * y.2) : Gx G y /\ wt G y = W := by
 have hd : y.2 ∣ G := by
  have d1 : y.2 ∣ y.1 * G := ⟨W, by rw [h, Int.mul_comm]⟩
  have d2 : y.2.natAbs ∣ y.1.natAbs * G.natAbs := by
   rw [<- Int.natAbs_mul]
   exact Int.natAbs_dvd_natAbs.mpr d1
  have c : Nat.Coprime y.2.natAbs y.1.natAbs := by
   have := f.low
   rw [Int.gcd_comm] at this
   exact this
  exact Int.natAbs_dvd_natAbs.mp (c.dvd_of_dvd_mul_left d2)
 refine ⟨⟨f, hd⟩, ?_⟩
 have e : wt G y * y.2 = y.1 * G := w_mul f.pos hd
 exact Int.eq_of_mul_eq_mul_right (a := y.2) (by have := f.pos; omega) (by rw [e, h])
theorem Gx.p {G : Int} {x y : Int × Int} (h : Gx G x) (k : Gx G y) : Gx G (hP x y) /\ wt G (hP x y) = wt G x + wt G y := by
 obtain ⟨a, b⟩ := aK9 h.f.pos k.f.pos h.d k.d
 exact ⟨⟨aHi h.f.pos k.f.pos, a⟩, b⟩
theorem Gx.w {G : Int} {x : Int × Int} (h : Gx G x) : wt G x * x.2 = x.1 * G := w_mul h.f.pos h.d
theorem Gx.T {G : Int} {x : Int × Int} (h : Gx G x) (i : Int) : Gx G (hT i x) /\ wt G (hT i x) = i * wt G x := by
 have p := h.f.pos
 obtain ⟨f, e⟩ := FR.kI (t := i * x.1) (b := 1 * x.2) (by omega)
 have e : (hT i x).1 * (1 * x.2) = i * x.1 * (hT i x).2 := e
 refine aJl f ?_
 refine Int.eq_of_mul_eq_mul_right (a := x.2) (by omega) ?_
 rw [Int.one_mul] at e
 have a1 : (hT i x).1 * G * x.2 = (hT i x).1 * x.2 * G := by ac_rfl
 have a2 : i * x.1 * (hT i x).2 * G = i * (x.1 * G) * (hT i x).2 := by ac_rfl
 show (hT i x).1 * G * x.2 = i * wt G x * (hT i x).2 * x.2
 rw [a1, e, a2, <- h.w]
 ac_rfl
theorem Gx.z (G : Int) : Gx G (0, 1) /\ wt G (0, 1) = 0 := ⟨⟨⟨Int.le_refl 1, Int.gcd_one⟩, Int.one_dvd _⟩, by unfold wt; simp⟩
structure Gp (G : Int) (p : Pt) : Prop where
 x : Gx G p.1
 y : Gx G p.2
theorem aI6 {G : Int} {p : Pt} (hp : Gp G p) {h : Int × Int} (hh : Gx G h) (i j : Int) : Gx G (hgt (i, j, h) p) /\ wt G (hgt (i, j, h) p) = i * wt G p.1 + j * wt G p.2 + wt G h := by
 obtain ⟨a1, a2⟩ := hp.x.T i
 obtain ⟨b1, b2⟩ := hp.y.T j
 obtain ⟨c1, c2⟩ := a1.p b1
 obtain ⟨d1, d2⟩ := c1.p hh
 refine ⟨d1, ?_⟩
 show wt G (hP (hP (hT i p.1) (hT j p.2)) h) = _
 rw [d2, c2, a2, b2]
abbrev lv (s : Int × Int) : Pl := (s.1, s.2, (0, 1))
def uG (G : Int) (s : Int × Int) (p : Pt) : Int := s.1 * wt G p.1 + s.2 * wt G p.2
def tabS (os : List (Int × Int)) (ps : List Pt) : Tb := ps.map fun p => os.map fun o => hgt (lv o) p
theorem aIu {G : Int} {p : Pt} (hp : Gp G p) (o : Int × Int) : Gx G (hgt (lv o) p) /\ wt G (hgt (lv o) p) = uG G o p := by
 obtain ⟨a, b⟩ := aI6 hp (Gx.z G).1 o.1 o.2
 refine ⟨a, ?_⟩
 rw [b, (Gx.z G).2]
 unfold uG
 omega
theorem aK7 {G : Int} {os : List (Int × Int)} {ps : List Pt} (hp : ∀ p ∈ ps, Gp G p) : (tabS os ps).map (whR G) = mQ (uG G) os ps := by
 unfold tabS mQ
 rw [List.map_map]
 refine List.map_congr_left fun p hq => ?_
 show (os.map fun o => hgt (lv o) p).map (fun x => wI x G) = _
 rw [List.map_map]
 refine List.map_congr_left fun o _ => ?_
 exact (aIu (hp p hq) o).2
def bX (t : Tb) : Int × Int := FR.mk (mxw (iT t)) (cb t.flatten)
def bK (t : Tb) : Nat := (iT t).count (mxw (iT t))
theorem u1 {os : List (Int × Int)} {ps : List Pt} {r : List (Int × Int)} {x : Int × Int} (hr : r ∈ tabS os ps) (hx : x ∈ r) : ∃ o ∈ os, ∃ p ∈ ps, x = hgt (lv o) p := by
 obtain ⟨p, hp, rfl⟩ := List.mem_map.mp hr
 obtain ⟨o, ho, rfl⟩ := List.mem_map.mp hx
 exact ⟨o, ho, p, hp, rfl⟩
theorem zX {G : Int} {os : List (Int × Int)} {ps : List Pt} (ht : GT (tabS os ps)) (hl : ps.length = os.length) (hG : 1 <= G) (hp : ∀ p ∈ ps, Gp G p) : Gx G (bX (tabS os ps)) /\ wt G (bX (tabS os ps)) = Bv (uG G) os ps /\ bK (tabS os ps) = (wsU (uG G) os ps).count (Bv (uG G) os ps) := by
 obtain ⟨f0, f1, _⟩ := ht.cb
 have tl : (tabS os ps).length = os.length := by unfold tabS; rw [List.length_map, hl]
 have key : ∀ d, wo ((tabS os ps).map (whR (cb (tabS os ps).flatten))) d * G = wo (mQ (uG G) os ps) d * cb (tabS os ps).flatten := fun d => by
  rw [<- aK7 hp]
  refine aEg _ d fun r hr x hx => ?_
  obtain ⟨o, _, p, hq, e⟩ := u1 hr hx
  refine ⟨(ht.g r hr x hx).1, f1 x (List.mem_flatten.mpr ⟨r, hr, hx⟩), ?_⟩
  rw [e]
  exact (aIu (hp p hq) o).1.d
 have ew : iT (tabS os ps) = (iW os.length).map (wo ((tabS os ps).map (whR (cb (tabS os ps).flatten)))) := by unfold iT; rw [tl]
 generalize hF : cb (tabS os ps).flatten = F at f0 key ew
 have wn : iT (tabS os ps) ≠ [] := by rw [ew]; exact fun z => nS _ (List.map_eq_nil_iff.mp z)
 obtain ⟨m1, m2⟩ := lL wn
 generalize hm : mxw (iT (tabS os ps)) = m at m1 m2
 rw [ew] at m1 m2
 obtain ⟨d, hd, ed⟩ := List.mem_map.mp m1
 have kd := key d
 rw [ed] at kd
 have bv : Bv (uG G) os ps = wo (mQ (uG G) os ps) d := aKq (List.mem_map.mpr ⟨d, hd, rfl⟩) fun x hx => by
  obtain ⟨e, he, rfl⟩ := List.mem_map.mp hx
  have l := Int.mul_le_mul_of_nonneg_right (m2 _ (List.mem_map.mpr ⟨e, he, rfl⟩)) (show 0 <= G by omega)
  rw [key e, kd] at l
  exact Int.le_of_mul_le_mul_right l (by omega)
 rw [<- bv] at kd
 obtain ⟨fr, fe⟩ := FR.kI (t := m) (b := F) (by omega)
 have gx := aJl (G := G) (W := Bv (uG G) os ps) fr (by
  refine Int.eq_of_mul_eq_mul_right (a := F) (by omega) ?_
  have a1 : (FR.mk m F).1 * G * F = (FR.mk m F).1 * F * G := by ac_rfl
  have a2 : m * (FR.mk m F).2 * G = m * G * (FR.mk m F).2 := by ac_rfl
  rw [a1, fe, a2, kd]
  ac_rfl)
 have iff : ∀ e, wo ((tabS os ps).map (whR F)) e = m ↔ wo (mQ (uG G) os ps) e = Bv (uG G) os ps := fun e => by
  have k := key e
  constructor
  ·intro z
   rw [z, kd] at k
   exact (Int.eq_of_mul_eq_mul_right (show F ≠ 0 by omega) k).symm
  ·intro z
   rw [z, <- kd] at k
   exact Int.eq_of_mul_eq_mul_right (show G ≠ 0 by omega) k
 unfold bX bK
 rw [hm, hF, ew]
 refine ⟨gx.1, gx.2, ?_⟩
 unfold wsU
 rw [uN _ (fun e => decide (wo (mQ (uG G) os ps) e = Bv (uG G) os ps)) m (iW os.length) fun e _ => by rw [decide_eq_true_iff]; exact iff e, uN _ (fun e => decide (wo (mQ (uG G) os ps) e = Bv (uG G) os ps)) _ (iW os.length) fun e _ => by rw [decide_eq_true_iff]]
def bS (S : List (Int × Int)) (ps : List Pt) (s : Int × Int) : Int × Int := bX (tabS (oth S s) ps)
def oF (S : List (Int × Int)) (ps : List Pt) : List Pl := S.map fun s => (s.1, s.2, hM (bS S ps s) (bS S ps (S.headD (0, 0))))
def rO (S : List (Int × Int)) (ps : List Pt) : List (Int × Int) := S.filter fun s => decide (1 < bK (tabS (oth S s) ps))
structure Thr (S : List (Int × Int)) (ps : List Pt) : Prop where
 n : S.Nodup
 z : S ≠ []
 l : ps.length + 1 = S.length
 g : ∀ s ∈ S, GT (tabS (oth S s) ps)
theorem t8 {α : Type} {S : List α} (d : α) (h : S ≠ []) : S.headD d ∈ S := by
 cases S with
 | nil => exact absurd rfl h
 | cons x S => exact .head _
theorem Thr.b {G : Int} {S : List (Int × Int)} {ps : List Pt} (h : Thr S ps) (hG : 1 <= G) (hp : ∀ p ∈ ps, Gp G p) {s : Int × Int} (hs : s ∈ S) : Gx G (bS S ps s) /\ wt G (bS S ps s) = Bv (uG G) (oth S s) ps /\ bK (tabS (oth S s) ps) = (wsU (uG G) (oth S s) ps).count (Bv (uG G) (oth S s) ps) := by
 have := rG h.n hs
 have := h.l
 exact zX (h.g s hs) (by omega) hG hp
theorem n5 {i : Nat} {fe : En -> Res Ev} {en : En} {ds : List D} {d : D} (h1 : en[i]? = some (some (.o (.list ds)))) (h2 : fe en = .ok (.f d) \/ fe en = .ok (.p d)) (h3 : ds.length <= 100000) : fF i fe en = some (.nx (en.set i (some (.o (.list (ds ++ [d])))))) := by
 unfold fF
 rw [h1]
 dsimp only
 rcases h2 with h2 | h2 <;> rw [h2] <;> dsimp only [Ev.c] <;> rw [if_pos h3]
def ptD (p : Pt) : D := .tuple [frD p.1, frD p.2]
theorem ptI {a b : Pt} (h : ptD a = ptD b) : a = b := by
 unfold ptD at h
 injection h with h
 injection h with h1 h2
 injection h2 with h2 _
 exact Prod.ext (frI h1) (frI h2)
theorem aM8 {a b : List (Int × Int)} (h : (.list (a.map frD) : D) = .list (b.map frD)) : a = b := by
 injection h with h
 exact (List.map_inj_right fun x y e => frI e).mp h
theorem aNe {a b : List Pt} (h : (.list (a.map ptD) : D) = .list (b.map ptD)) : a = b := by
 injection h with h
 exact (List.map_inj_right fun x y e => ptI e).mp h
def eSP (a : List (Int × Int) × List Pt) : List L := [.p (.list (a.1.map frD)), .p (.list (a.2.map ptD))]
theorem yG (a b : List (Int × Int) × List Pt) (h : eSP a = eSP b) : a = b := by
 unfold eSP at h
 injection h with h1 h2
 injection h2 with h2 _
 injection h1 with h1
 injection h2 with h2
 exact Prod.ext (aM8 h1) (aNe h2)
def eTW (a : (Int × Int) × List (Int × Int) × List Pt) : List L := [.p (frD a.1), .p (.list (a.2.1.map frD)), .p (.list (a.2.2.map ptD))]
theorem aHm (a b : (Int × Int) × List (Int × Int) × List Pt) (h : eTW a = eTW b) : a = b := by
 unfold eTW at h
 injection h with h0 h1
 injection h1 with h1 h2
 injection h2 with h2 _
 injection h0 with h0
 injection h1 with h1
 injection h2 with h2
 exact Prod.ext (frI h0) (Prod.ext (aM8 h1) (aNe h2))
def In8 (s : Int × Int) : Prop := (0 <= s.1 /\ s.1 <= 8) /\ (0 <= s.2 /\ s.2 <= 8)
structure OkS (S : List (Int × Int)) : Prop where
 l : 2 <= S.length
 m : S.length <= 6
 n : S.Nodup
 b : ∀ s ∈ S, In8 s
structure PtG (p : Pt) : Prop where
 f : FR.Fr p.1
 g : FR.Fr p.2
 x : Sz 90 p.1.1
 a : Sz 13 p.1.2
 y : Sz 90 p.2.1
 b : Sz 13 p.2.2
def toL (s : Int × Int) : List Int := [s.1, s.2]
theorem aBe (S : List (Int × Int)) : S.map frD = (S.map toL).map uO := by
 rw [List.map_map]
 rfl
theorem aKr {S : List (Int × Int)} (h : S.Nodup) : (S.map toL).Nodup := by
 rw [List.Nodup, List.pairwise_map]
 refine h.imp ?_
 intro x y w z
 unfold toL at z
 injection z with z1 z2
 injection z2 with z2 _
 exact w (Prod.ext z1 z2)
theorem aJ8 {S : List (Int × Int)} (h : OkS S) : lV (.p (.list (S.map frD))) = .ok (.p (.int (S.length : Nat))) := by
 unfold lV
 simp only [e8]
 rw [aBe, nM]
 dsimp only
 have a : (S.map toL).all w6 = true := by
  rw [List.all_eq_true]
  intro k hk
  obtain ⟨s, hs, rfl⟩ := List.mem_map.mp hk
  have := h.b s hs
  unfold In8 at this
  show (decide (0 <= s.1 /\ s.1 <= 8) && decide (0 <= s.2 /\ s.2 <= 8)) = true
  rw [decide_eq_true this.1, decide_eq_true this.2]
  rfl
 have hm := h.m
 rw [a, decide_eq_true (aKr h.n), List.length_map, decide_eq_true (show S.length <= 18 by omega)]
 rfl
theorem x9 (S : List (Int × Int)) : eM [.p (.list (S.map frD))] = .ok (.p (.int (S.length : Nat))) := by simp [eM, hV]
theorem aF7 (S : List Pt) : eM [.p (.list (S.map ptD))] = .ok (.p (.int (S.length : Nat))) := by simp [eM, hV]
theorem yD (i j : Int) : eqE true (.p (.int i)) (.p (.int j)) = .ok (.p (.bool (!(i == j)))) := by
 simp only [eqE, dat, iD, iQ]
 rfl
theorem aJ5 {n : Nat} {f : MS} {ls : List L} {en : En} (h : f (bE n ls) = some (.nx en)) : eO n f ls = .ok (.p .none) := by
 unfold eO
 rw [h]
noncomputable def bY (K : PySem.W.Frag) (c : Cls) : List L -> Res L := mOf eSP (fun a => OkS a.1 /\ a.2.length + 1 = a.1.length) fun _ => .ok (.p .none)
noncomputable def gZ (K : PySem.W.Frag) (c : Cls) : MS := (b8 (kF (mOr (bG (aH ltE (aF eM (aB (aC 0) aL)) (mC (.int 2)))) (bG (aH gtE (aF eM (aB (aC 0) aL)) (mC (.int 6))))) (jH c.NoDealing (aB (mC (.str "there are two to six slopes")) aL)) fB) (b8 (kF (bG (aH (eqE true) (mUn lV (aC 0)) (aF eM (aB (aC 0) aL)))) (jH c.NoDealing (aB (mC (.str "slopes are unlike")) aL)) fB) (kF (bG (aH (eqE true) (aF eM (aB (aC 1) aL)) (aH xX (aF eM (aB (aC 0) aL)) (mC (.int 1))))) (jH c.NoDealing (aB (mC (.str "there is one point fewer than slopes")) aL)) fB)))
theorem mW (K : PySem.W.Frag) (c : Cls) : ∀ ls, bY K c ls = .bad \/ eO 2 (gZ K c) ls = bY K c ls := dS fun a h => by
 obtain ⟨S, ps⟩ := a
 obtain ⟨ok, hl⟩ := h
 dsimp only at ok hl ⊢
 have h2 := ok.l
 have h6 := ok.m
 refine aJ5 (en := [some (.p (.list (S.map frD))), some (.p (.list (ps.map ptD)))]) ?_
 rw [show bE 2 (eSP (S, ps)) = [some (.p (.list (S.map frD))), some (.p (.list (ps.map ptD)))] from rfl]
 have t1 : (mOr (bG (aH ltE (aF eM (aB (aC 0) aL)) (mC (.int 2)))) (bG (aH gtE (aF eM (aB (aC 0) aL)) (mC (.int 6))))) [some (.p (.list (S.map frD))), some (.p (.list (ps.map ptD)))] = .ok false := by
  have a : decide ((S.length : Int) < 2) = false := decide_eq_false (by omega)
  have b : decide (6 < (S.length : Int)) = false := decide_eq_false (by omega)
  ktr_call 3 ⟨mOr, bG, aH, aC, mC, aF, aB, aL, Res.bind, Ev.c, x9, fQ, bT, a, b⟩
 have t2 : (bG (aH (eqE true) (mUn lV (aC 0)) (aF eM (aB (aC 0) aL)))) [some (.p (.list (S.map frD))), some (.p (.list (ps.map ptD)))] = .ok false := by
  ktr_call 3 ⟨bG, aH, mUn, aC, mC, aF, aB, aL, Res.bind, Ev.c, x9, aJ8 ok, yD, bT, beq_self_eq_true, Bool.not_true⟩
 have t3 : (bG (aH (eqE true) (aF eM (aB (aC 1) aL)) (aH xX (aF eM (aB (aC 0) aL)) (mC (.int 1))))) [some (.p (.list (S.map frD))), some (.p (.list (ps.map ptD)))] = .ok false := by
  have e : ((ps.length : Nat) : Int) = (S.length : Nat) - 1 := by omega
  ktr_call 3 ⟨bG, aH, aC, mC, aF, aB, aL, Res.bind, Ev.c, x9, aF7, fQ, yD, bT, e, beq_self_eq_true, Bool.not_true⟩
 unfold gZ
 exact (aO (oW t1)).trans ((aO (oW t2)).trans (oW t3))
theorem xO (K : PySem.W.Frag) (c : Cls) {S : List (Int × Int)} {ps : List Pt} (h1 : OkS S) (h2 : ps.length + 1 = S.length) : bY K c [.p (.list (S.map frD)), .p (.list (ps.map ptD))] = .ok (.p .none) := dU (a := (S, ps)) yG ⟨h1, h2⟩
theorem good01 : Good 2 (0, 1) := ⟨Int.le_refl 1, by unfold Sz; decide, by unfold Sz; decide⟩
theorem PtG.q {p : Pt} (g : PtG p) {s : Int × Int} (hs : In8 s) {h : Int × Int} (hh : Good 700 h) : aGs (s.1, s.2, h) p := by
 unfold In8 at hs
 exact ⟨(show Sz 10 s.1 by unfold Sz; omega), (show Sz 10 s.2 by unfold Sz; omega), hh, ⟨g.f.pos, g.x.mono (by decide), g.a.mono (by decide)⟩, ⟨g.g.pos, g.y.mono (by decide), g.b.mono (by decide)⟩⟩
theorem aNa {a b c : Nat} {i : Int} {x : Int × Int} (hi : Sz a i) (hx : 1 <= x.2 /\ Sz b x.1 /\ Sz c x.2) : 1 <= (hT i x).2 /\ Sz (a + b) (hT i x).1 /\ Sz c (hT i x).2 := by
 have p := hx.1
 have h1 : Sz c (1 * x.2) := by rw [Int.one_mul]; exact hx.2.2
 exact ⟨(FR.kI (by omega)).1.pos, Sz.le (Sz.mul hi hx.2.1) (natAbs_fdiv_le _ _), Sz.le h1 (natAbs_fdiv_le _ _)⟩
theorem aNn {a b c d : Nat} {x y : Int × Int} (hx : 1 <= x.2 /\ Sz a x.1 /\ Sz b x.2) (hy : 1 <= y.2 /\ Sz c y.1 /\ Sz d y.2) : 1 <= (hP x y).2 /\ Sz (max (a + d) (c + b) + 1) (hP x y).1 /\ Sz (b + d) (hP x y).2 := by
 have p := jP hx.1 hy.1
 exact ⟨(FR.kI (by omega)).1.pos, Sz.le (Sz.addM (Sz.mul hx.2.1 hy.2.2) (Sz.mul hy.2.1 hx.2.2)) (natAbs_fdiv_le _ _), Sz.le (Sz.mul hx.2.2 hy.2.2) (natAbs_fdiv_le _ _)⟩
theorem PtG.e {p : Pt} (g : PtG p) {s : Int × Int} (hs : In8 s) : 1 <= (hgt (lv s) p).2 /\ Sz 200 (hgt (lv s) p).1 /\ Sz 30 (hgt (lv s) p).2 := by
 unfold In8 at hs
 have a1 := aNa (a := 10) (i := s.1) (by unfold Sz; omega) ⟨g.f.pos, g.x, g.a⟩
 have a2 := aNa (a := 10) (i := s.2) (by unfold Sz; omega) ⟨g.g.pos, g.y, g.b⟩
 have a3 := aNn (x := hP (hT s.1 p.1) (hT s.2 p.2)) (y := (0, 1)) (c := 1) (d := 1) (aNn a1 a2) ⟨Int.le_refl 1, by unfold Sz; decide, by unfold Sz; decide⟩
 exact ⟨a3.1, a3.2.1.mono (by decide), a3.2.2.mono (by decide)⟩
theorem aKs {os : List (Int × Int)} {ps : List Pt} (h : ps.length = os.length) (h6 : ps.length <= 6) (ho : ∀ o ∈ os, In8 o) (hp : ∀ p ∈ ps, PtG p) : GT (tabS os ps) := by
 have tl : (tabS os ps).length = ps.length := by unfold tabS; rw [List.length_map]
 refine ⟨by omega, fun r hr => ?_, fun r hr x hx => ?_⟩
 ·obtain ⟨p, _, rfl⟩ := List.mem_map.mp hr
  rw [List.length_map, tl, h]
 ·obtain ⟨o, o1, p, p1, rfl⟩ := u1 hr hx
  exact (hp p p1).e (ho o o1)
theorem rX {S : List (Int × Int)} {ps : List Pt} (h : OkS S) (hl : ps.length + 1 = S.length) (hp : ∀ p ∈ ps, PtG p) : Thr S ps := by
 have h2 := h.l
 have h6 := h.m
 refine ⟨h.n, fun z => by rw [z] at h2; simp at h2, hl, fun s hs => ?_⟩
 have := rG h.n hs
 exact aKs (by omega) (by omega) (fun o ho => h.b o (mem_oth.mp ho).1) hp
theorem aKn : ∀ {ps : List Pt}, (∀ p ∈ ps, PtG p) -> ∃ G : Int, 1 <= G /\ Sz (1 + 26 * ps.length) G /\ ∀ p ∈ ps, Gp G p
 | [], _ => ⟨1, Int.le_refl 1, by unfold Sz; decide, fun _ h => nomatch h⟩
 | p :: ps, h => by
  obtain ⟨G, g1, g2, g3⟩ := aKn fun q hq => h q (.tail _ hq)
  have g := h p (.head _)
  have q1 := jP g.f.pos g.g.pos
  refine ⟨p.1.2 * p.2.2 * G, jP q1 g1, (Sz.mul (Sz.mul g.a g.b) g2).mono (by rw [List.length_cons]; omega), fun q hq => ?_⟩
  have up : ∀ {x : Int × Int}, Gx G x -> Gx (p.1.2 * p.2.2 * G) x := fun z => ⟨z.f, Int.dvd_trans z.d (Int.dvd_mul_left _ _)⟩
  rcases List.mem_cons.mp hq with z | z
  ·rw [z]
   refine ⟨⟨g.f, ?_⟩, ⟨g.g, ?_⟩⟩
   ·rw [Int.mul_assoc]
    exact Int.dvd_mul_right _ _
   ·rw [Int.mul_comm p.1.2, Int.mul_assoc]
    exact Int.dvd_mul_right _ _
  ·exact ⟨up (g3 q z).x, up (g3 q z).y⟩
theorem aLv {G : Int} {a b : Nat} {x : Int × Int} (hG : 1 <= G) (h : Gx G x) (ha : Sz a G) (hb : Sz b (wt G x)) : Sz b x.1 /\ Sz a x.2 := by
 have p := h.f.pos
 obtain ⟨k, hk⟩ := h.d
 have k1 : 1 <= k := by
  rcases Int.lt_or_le 0 k with z | z
  ·omega
  ·have := Int.mul_nonpos_of_nonneg_of_nonpos (show 0 <= x.2 by omega) z
   omega
 have w : wt G x = x.1 * k := by
  unfold wt
  rw [hk, Int.mul_fdiv_cancel_left _ (by omega)]
 refine ⟨Sz.le hb ?_, Sz.le ha ?_⟩
 ·rw [w, Int.natAbs_mul]
  exact Nat.le_mul_of_pos_right _ (by omega)
 ·rw [hk, Int.natAbs_mul]
  exact Nat.le_mul_of_pos_right _ (by omega)
theorem aIy {G : Int} {a b : Nat} {x : Int × Int} (ha : Sz a x.1) (hb : Sz b G) : Sz (a + b) (wt G x) := Sz.mul ha (Sz.le hb (natAbs_fdiv_le _ _))
theorem aE8 {u : (Int × Int) -> Pt -> Int} {b : Nat} : ∀ (ps : List Pt) (e : List (Int × Int)), (∀ o ∈ e, ∀ p ∈ ps, Sz b (u o p)) -> Sz (b + 1 + ps.length) (wsl u ps e)
 | [], e, _ => by unfold wsl Sz; simp; exact Nat.two_pow_pos _
 | _ :: _, [], _ => by unfold wsl Sz; simp; exact Nat.two_pow_pos _
 | p :: ps, o :: e, h => by
  have ih := aE8 ps e fun a ha q hq => h a (.tail _ ha) q (.tail _ hq)
  have h0 := (h o (.head _) p (.head _)).mono (show b <= b + 1 + ps.length by omega)
  exact (Sz.addM h0 ih).mono (by rw [List.length_cons]; omega)
theorem lY {S : List (Int × Int)} {ps : List Pt} (h : OkS S) (hl : ps.length + 1 = S.length) (hp : ∀ p ∈ ps, PtG p) {s : Int × Int} (hs : s ∈ S) : Good 345 (bS S ps s) /\ FR.Fr (bS S ps s) := by
 have h6 := h.m
 obtain ⟨G, g1, g2, g3⟩ := aKn hp
 have g2 := g2.mono (show 1 + 26 * ps.length <= 180 by omega)
 obtain ⟨a1, a2, _⟩ := (rX h hl hp).b g1 g3 hs
 obtain ⟨e, de, we⟩ := aMb (u := uG G) (aIg h.n s) ps s
 have z : Sz 345 (wt G (bS S ps s)) := by
  rw [a2, <- we]
  refine (aE8 (b := 290) ps e fun o ho p hq => ?_).mono (by omega)
  have i := h.b o (mem_oth.mp (de.m o ho)).1
  unfold In8 at i
  have g := hp p hq
  have b1 := Sz.mul (show Sz 10 o.1 by unfold Sz; omega) (aIy g.x g2)
  have b2 := Sz.mul (show Sz 10 o.2 by unfold Sz; omega) (aIy g.y g2)
  exact (Sz.addM b1 b2).mono (by decide)
 obtain ⟨c1, c2⟩ := aLv g1 a1 g2 z
 exact ⟨⟨a1.f.pos, c1, c2.mono (by decide)⟩, a1.f⟩
theorem zL {S : List (Int × Int)} {ps : List Pt} (h : OkS S) (hl : ps.length + 1 = S.length) (hp : ∀ p ∈ ps, PtG p) : ∀ q ∈ oF S ps, In8 (q.1, q.2.1) /\ Good 691 q.2.2 /\ FR.Fr q.2.2 := fun q hq => by
 obtain ⟨s, hs, rfl⟩ := List.mem_map.mp hq
 have z := (rX h hl hp).z
 obtain ⟨a, _⟩ := lY h hl hp hs
 obtain ⟨b, _⟩ := lY h hl hp (t8 (0, 0) z)
 have p := jP a.1 b.1
 refine ⟨h.b s hs, ⟨(FR.kI (by omega)).1.pos, ?_, ?_⟩, (FR.kI (by omega)).1⟩
 ·exact (Sz.le (Sz.subM (Sz.mul a.2.1 b.2.2) (Sz.mul b.2.1 a.2.2)) (natAbs_fdiv_le _ _)).mono (by decide)
 ·exact (Sz.le (Sz.mul a.2.2 b.2.2) (natAbs_fdiv_le _ _)).mono (by decide)
theorem aFd (ng : Bool) (x y : Int × Int) : eqE ng (.p (frD x)) (.p (frD y)) = .ok (.p (.bool (if ng then !decide (x = y) else decide (x = y)))) := by
 unfold eqE
 dsimp only [dat]
 rw [if_pos ⟨uK x, uK y⟩, aE7]
noncomputable def cK (K : PySem.W.Frag) (c : Cls) : List L -> Res L := mOf eTW (fun a => a.2.1.length <= 6 /\ (∀ o ∈ a.2.1, In8 o) /\ a.2.2.length <= 6 /\ ∀ p ∈ a.2.2, PtG p) fun a => .ok (.o (tbD (tabS (oth a.2.1 a.1) a.2.2)))
noncomputable def cN (K : PySem.W.Frag) (c : Cls) : En -> Res Ev := (aP 2 (cS K c) (aB (aC 0) (aB (aC 1) aL)))
noncomputable def dJ (K : PySem.W.Frag) (c : Cls) : MS := (fF 4 (gO 1 [5] (lH (aC 3)) (aI 0) iO (cN K c)))
noncomputable def cO (K : PySem.W.Frag) (c : Cls) : En -> Res Ev := (aF bV (aB (aH ixE (aC 0) (mC (.int 0))) (aB (aH ixE (aC 0) (mC (.int 1))) (aB (aF bV (aB (mC (.int 0)) (aB (mC (.int 1)) aL))) aL))))
noncomputable def gX (K : PySem.W.Frag) (c : Cls) : MS := (b8 (cX 3 (gO 1 [0] (lH (aC 1)) (aI 0) (bG (aH (eqE true) (aC 0) (aC 1))) (cO K c))) (b8 (cX 4 (aF fE aL)) (fun en => (b8 (pD (lH (aC 2)) (aI 5) (dJ K c)) (fP (aC 4))) (frz 3 en))))
theorem zE (K : PySem.W.Frag) (c : Cls) (A B C : Option L) {os : List (Int × Int)} (h6 : os.length <= 6) (ho : ∀ o ∈ os, In8 o) : ∀ (ps : List Pt) (acc : Tb) (r5 : Option L), acc.length + ps.length <= 20 -> (∀ p ∈ ps, PtG p) -> ∃ q5, e9 (aI 5) (dJ K c) (ps.map ptD) [A, B, C, some (.p (.list (os.map fun o => plD (lv o)))), some (.o (.list (acc.map rwF))), r5] = some (.nx [A, B, C, some (.p (.list (os.map fun o => plD (lv o)))), some (.o (.list ((acc ++ tabS os ps).map rwF))), q5])
 | [], acc, r5, _, _ => ⟨r5, by show _ = some (Out.nx [_, _, _, _, some (.o (.list ((acc ++ []).map rwF))), _]); rw [List.append_nil]; rfl⟩
 | p :: ps, acc, r5, hl, hp => by
  rw [List.length_cons] at hl
  obtain ⟨q5, ih⟩ := zE K c A B C h6 ho ps (acc ++ [os.map fun o => hgt (lv o) p]) (some (.p (ptD p))) (by rw [List.length_append]; simp; omega) fun q hq => hp q (.tail _ hq)
  refine ⟨q5, ?_⟩
  have hm : lR (aQ 1 [5] (aI 0) iO (cN K c) [A, B, C, some (.p (.list (os.map fun o => plD (lv o)))), some (.o (.list (acc.map rwF))), some (.p (ptD p))]) (os.map fun o => plD (lv o)) = some (os.map fun o => frD (hgt (lv o) p)) := by
   refine fN _ fun o hq => ?_
   have w := aGi K c ((hp p (.head _)).q (ho o hq) (h := (0, 1)) (good01.mono (by decide)))
   have he : cN K c [some (.p (plD (lv o))), some (.p (ptD p))] = .ok (.p (frD (hgt (lv o) p))) := by
    unfold ptD
    ktr_call 3 ⟨cN, aP, aB, aL, aC, Res.bind, Ev.c, dE, cG, iS, w, jC⟩
   unfold aQ
   ktr_call 3 ⟨aI, qW, vE, iO, List.replicate, List.cons_append, List.nil_append, he, Ev.c⟩
  have hc := g6 (n := 1) (js := [5]) (fi := lH (aC 3)) (tg := aI 0) (ft := iO) (fe := cN K c) (en := [A, B, C, some (.p (.list (os.map fun o => plD (lv o)))), some (.o (.list (acc.map rwF))), some (.p (ptD p))]) (ds := os.map fun o => plD (lv o)) rfl (by rw [List.length_map]; omega) hm
  have hb : dJ K c [A, B, C, some (.p (.list (os.map fun o => plD (lv o)))), some (.o (.list (acc.map rwF))), some (.p (ptD p))] = some (.nx [A, B, C, some (.p (.list (os.map fun o => plD (lv o)))), some (.o (.list ((acc ++ [os.map fun o => hgt (lv o) p]).map rwF))), some (.p (ptD p))]) := by
   unfold dJ
   rw [n5 (i := 4) (ds := acc.map rwF) rfl (.inl hc) (by rw [List.length_map]; omega), List.map_append]
   rw [show (.list (os.map fun o => frD (hgt (lv o) p)) : D) = rwF (os.map fun o => hgt (lv o) p) by unfold rwF; rw [List.map_map]; rfl]
   rfl
  rw [List.map_cons, jI rfl hb]
  rw [List.append_assoc] at ih
  exact ih
theorem mO (K : PySem.W.Frag) (c : Cls) : ∀ ls, cK K c ls = .bad \/ eO 6 (gX K c) ls = cK K c ls := dS fun a h => by
 obtain ⟨s, S, ps⟩ := a
 obtain ⟨h1, h2, h3, h4⟩ := h
 dsimp only at h1 h2 h3 h4 ⊢
 refine cJ ?_
 rw [show bE 6 (eTW (s, S, ps)) = [some (.p (frD s)), some (.p (.list (S.map frD))), some (.p (.list (ps.map ptD))), none, none, none] from rfl]
 have hm : lR (aQ 1 [0] (aI 0) (bG (aH (eqE true) (aC 0) (aC 1))) (cO K c) [some (.p (frD s)), some (.p (.list (S.map frD))), some (.p (.list (ps.map ptD))), none, none, none]) (S.map frD) = some ((oth S s).map fun o => plD (lv o)) := by
  refine k8 _ fun o _ => ?_
  have t : bG (aH (eqE true) (aC 0) (aC 1)) [some (.p (frD o)), some (.p (frD s))] = .ok (!decide (o = s)) := by
   ktr_call 3 ⟨bG, aH, aC, Res.bind, Ev.c, aFd, bT⟩
  have e : cO K c [some (.p (frD o)), some (.p (frD s))] = .ok (.p (plD (lv o))) := by
   ktr_call 2 ⟨cO⟩
   rfl
  unfold aQ
  ktr_call 3 ⟨aI, qW, vE, List.replicate, List.cons_append, List.nil_append, t, e, Ev.c⟩
  cases decide (o = s) <;> rfl
 have hc := g6 (n := 1) (js := [0]) (fi := lH (aC 1)) (tg := aI 0) (fe := cO K c) (en := [some (.p (frD s)), some (.p (.list (S.map frD))), some (.p (.list (ps.map ptD))), none, none, none]) (ds := S.map frD) rfl (by rw [List.length_map]; omega) hm
 obtain ⟨q5, hlp⟩ := zE K c (some (.p (frD s))) (some (.p (.list (S.map frD)))) (some (.p (.list (ps.map ptD)))) (os := oth S s) (Nat.le_trans (List.length_filter_le _ _) h1) (fun o ho => h2 o (mem_oth.mp ho).1) ps [] none (by rw [List.length_nil]; omega) h4
 rw [List.nil_append] at hlp
 unfold gX
 refine (aO (fW hc)).trans ((aO (fW (d := .list []) rfl)).trans ?_)
 simp only [List.set_cons_succ, List.set_cons_zero, frz, List.getElem?_cons_succ, List.getElem?_cons_zero]
 refine (aO ((kE (ds := ps.map ptD) rfl).trans hlp)).trans ?_
 rfl
theorem aHf (K : PySem.W.Frag) (c : Cls) {s : Int × Int} {S : List (Int × Int)} {ps : List Pt} (h1 : S.length <= 6) (h2 : ∀ o ∈ S, In8 o) (h3 : ps.length <= 6) (h4 : ∀ p ∈ ps, PtG p) : cK K c [.p (frD s), .p (.list (S.map frD)), .p (.list (ps.map ptD))] = .ok (.o (tbD (tabS (oth S s) ps))) := dU (a := (s, S, ps)) aHm ⟨h1, h2, h3, h4⟩
def ofL (k : List Int) : Int × Int := (k.getD 0 0, k.getD 1 0)
def srt (S : List (Int × Int)) : List (Int × Int) := (uQ (S.map toL)).map ofL
theorem mZ (S : List (Int × Int)) : (srt S).Perm S := by
 have p := (gT (S.map toL)).map ofL
 rw [List.map_map] at p
 have : (ofL ∘ toL : Int × Int -> Int × Int) = id := rfl
 rw [this, List.map_id] at p
 exact p
theorem aJu (S : List (Int × Int)) : (uQ (S.map toL)).map uO = (srt S).map frD := by
 unfold srt
 rw [List.map_map]
 refine List.map_congr_left fun k hk => ?_
 obtain ⟨s, _, rfl⟩ := List.mem_map.mp ((gT _).mem_iff.mp hk)
 rfl
theorem aBs {S : List (Int × Int)} (h : OkS S) : OkS (srt S) := by
 have p := mZ S
 have l := p.length_eq
 exact ⟨by rw [l]; exact h.l, by rw [l]; exact h.m, p.nodup_iff.mpr h.n, fun s hs => h.b s (p.mem_iff.mp hs)⟩
theorem sU {S : List (Int × Int)} (h : S.length < 64) {e : Ev} (he : e8 e = some (S.map frD)) : iK [e] = .ok (.f (.list ((srt S).map frD))) := by
 unfold iK
 dsimp only
 rw [he]
 dsimp only
 rw [aBe, nM]
 dsimp only
 have a : ((S.map toL).all fun k => !k.isEmpty) = true := by
  rw [List.all_eq_true]
  intro k hk
  obtain ⟨s, _, rfl⟩ := List.mem_map.mp hk
  rfl
 rw [if_pos ⟨a, by rw [List.length_map]; exact h⟩, aJu]
def thD (S : List (Int × Int)) (ps : List Pt) : D := .tuple [.list ((oF S ps).map plD), .list ((rO S ps).map frD)]
noncomputable def fS (K : PySem.W.Frag) (c : Cls) : List L -> Res L := mOf eSP (fun a => OkS a.1 /\ a.2.length + 1 = a.1.length /\ ∀ p ∈ a.2, PtG p) fun a => .ok (.p (thD (srt a.1) a.2))
noncomputable def jK (K : PySem.W.Frag) (c : Cls) : En -> Res Ev := (aC 0)
noncomputable def iB (K : PySem.W.Frag) (c : Cls) : En -> Res Ev := (aF bV (aB (aH ixE (aC 0) (mC (.int 0))) (aB (aH ixE (aC 0) (mC (.int 1))) (aB (aP 2 (jQ K c) (aB (aH ixE (aC 1) (mC (.int 0))) (aB (aC 2) aL))) aL))))
noncomputable def fR (K : PySem.W.Frag) (c : Cls) : En -> Res Ev := (aP 1 (oI K c) (aB (aP 3 (cK K c) (aB (aC 0) (aB (aC 1) (aB (aC 2) aL)))) aL))
noncomputable def nB (K : PySem.W.Frag) (c : Cls) : MS := (b8 (tN (aP 2 (bY K c) (aB (aC 0) (aB (aC 1) aL)))) (b8 (cX 2 (aF iK (aB (aC 0) aL))) (fun en => (b8 (cX 3 (gO 1 [2, 1] (lH (aC 2)) (aI 0) iO (fR K c))) (fun en => (b8 (cX 4 (aH ixE (aH ixE (aC 3) (mC (.int 0))) (mC (.int 0)))) (b8 (cX 5 (gO 2 [4] (k7 aEa (aB (aC 2) (aB (aC 3) aL))) (kG 2 (dA (aI 0) (dA (aI 1) kK))) iO (iB K c))) (aBj 5 (gO 2 [] (k7 aEa (aB (aC 2) (aB (aC 3) aL))) (kG 2 (dA (aI 0) (dA (aI 1) kK))) (bG (aH gtE (aH ixE (aC 1) (mC (.int 1))) (mC (.int 1)))) (jK K c))))) (frz 3 en))) (frz 2 en))))
theorem wY {α β : Type} (f : α -> β) : ∀ xs : List α, xs.zip (xs.map f) = xs.map fun x => (x, f x)
 | [] => rfl
 | x :: xs => by
  rw [List.map_cons, List.zip_cons_cons, wY f xs]
  rfl
theorem yS {α : Type} (f g : α -> D) (xs : List α) : uJ (xs.map f) (xs.map g) = xs.map fun x => .tuple [f x, g x] := by
 rw [qE f g xs xs]
 have := wY id xs
 rw [List.map_id] at this
 rw [this, List.map_map]
 rfl
theorem xY (K : PySem.W.Frag) (c : Cls) : ∀ ls, fS K c ls = .bad \/ eO 6 (nB K c) ls = fS K c ls := dS fun a h => by
 obtain ⟨S0, ps⟩ := a
 obtain ⟨ok0, hl0, hp⟩ := h
 dsimp only at ok0 hl0 hp ⊢
 have ok := aBs ok0
 have hl : ps.length + 1 = (srt S0).length := by rw [(mZ S0).length_eq]; exact hl0
 have h6 := ok0.m
 have hck := xO K c ok0 hl0
 have hso := sU (S := S0) (by omega) (e := .p (.list (S0.map frD))) rfl
 refine cJ ?_
 rw [show bE 6 (eSP (S0, ps)) = [some (.p (.list (S0.map frD))), some (.p (.list (ps.map ptD))), none, none, none, none] from rfl]
 have h6' := ok.m
 have th := rX ok hl hp
 generalize srt S0 = S at *
 unfold nB
 have e0 : (tN (aP 2 (bY K c) (aB (aC 0) (aB (aC 1) aL)))) [some (.p (.list (S0.map frD))), some (.p (.list (ps.map ptD))), none, none, none, none] = some (.nx [some (.p (.list (S0.map frD))), some (.p (.list (ps.map ptD))), none, none, none, none]) := by
  ktr_call 3 ⟨tN, aP, aB, aL, aC, Res.bind, Ev.c, dE, cG, iS, hck, jC⟩
 refine (aO e0).trans ?_
 have e1 : (aF iK (aB (aC 0) aL)) [some (.p (.list (S0.map frD))), some (.p (.list (ps.map ptD))), none, none, none, none] = .ok (.f (.list (S.map frD))) := by
  ktr_call 3 ⟨aF, aB, aL, aC, Res.bind, Ev.c, hso⟩
 refine (aO (fW e1)).trans ?_
 simp only [List.set_cons_succ, List.set_cons_zero, frz, List.getElem?_cons_succ, List.getElem?_cons_zero]
 have hm : lR (aQ 1 [2, 1] (aI 0) iO (fR K c) [some (.p (.list (S0.map frD))), some (.p (.list (ps.map ptD))), some (.p (.list (S.map frD))), none, none, none]) (S.map frD) = some (S.map fun s => i9 (tabS (oth S s) ps)) := by
  refine fN _ fun s hs => ?_
  have w := aHf K c (s := s) h6' ok.b (by omega) hp
  have b := aAk K c (th.g s hs)
  have he : fR K c [some (.p (frD s)), some (.p (.list (S.map frD))), some (.p (.list (ps.map ptD)))] = .ok (.p (i9 (tabS (oth S s) ps))) := by
   ktr_call 3 ⟨fR, aP, aB, aL, aC, Res.bind, Ev.c, dE, cG, iS, w, b, jC⟩
  unfold aQ
  ktr_call 3 ⟨aI, qW, vE, iO, List.replicate, List.cons_append, List.nil_append, he, Ev.c⟩
 have hc := g6 (n := 1) (js := [2, 1]) (fi := lH (aC 2)) (tg := aI 0) (ft := iO) (fe := fR K c) (en := [some (.p (.list (S0.map frD))), some (.p (.list (ps.map ptD))), some (.p (.list (S.map frD))), none, none, none]) (ds := S.map frD) rfl (by rw [List.length_map]; omega) hm
 refine (aO (fW hc)).trans ?_
 simp only [List.set_cons_succ, List.set_cons_zero, frz, List.getElem?_cons_succ, List.getElem?_cons_zero]
 have i0 : ixE (.p (.list (S.map fun s => i9 (tabS (oth S s) ps)))) (.p (.int 0)) = .ok (.p (i9 (tabS (oth S (S.headD (0, 0))) ps))) := by
  have z := th.z
  cases S with
  | nil => exact absurd rfl z
  | cons x r => simp only [List.map_cons, ixE, hV, at0, List.headD_cons]
 have i1 : ∀ t : Tb, ixE (.p (i9 t)) (.p (.int 0)) = .ok (.p (frD (bX t))) := fun _ => rfl
 have i2 : ∀ t : Tb, ixE (.p (i9 t)) (.p (.int 1)) = .ok (.p (.int (bK t : Nat))) := fun _ => rfl
 have e4 : (aH ixE (aH ixE (aC 3) (mC (.int 0))) (mC (.int 0))) [some (.p (.list (S0.map frD))), some (.p (.list (ps.map ptD))), some (.p (.list (S.map frD))), some (.p (.list (S.map fun s => i9 (tabS (oth S s) ps)))), none, none] = .ok (.p (frD (bS S ps (S.headD (0, 0))))) := by
  ktr_call 3 ⟨aH, aC, mC, Res.bind, Ev.c, i0, i1⟩
  rfl
 refine (aO (eL e4)).trans ?_
 simp only [List.set_cons_succ, List.set_cons_zero]
 have hz : ∀ x5 : Option L, (k7 aEa (aB (aC 2) (aB (aC 3) aL))) [some (.p (.list (S0.map frD))), some (.p (.list (ps.map ptD))), some (.p (.list (S.map frD))), some (.p (.list (S.map fun s => i9 (tabS (oth S s) ps)))), some (.p (frD (bS S ps (S.headD (0, 0))))), x5] = .ok (S.map fun s => .tuple [frD s, i9 (tabS (oth S s) ps)]) := fun x5 => by
  ktr_call 3 ⟨k7, aB, aL, aC, Res.bind, Ev.c, aEa, yS⟩
 have hm5 : lR (aQ 2 [4] (kG 2 (dA (aI 0) (dA (aI 1) kK))) iO (iB K c) [some (.p (.list (S0.map frD))), some (.p (.list (ps.map ptD))), some (.p (.list (S.map frD))), some (.p (.list (S.map fun s => i9 (tabS (oth S s) ps)))), some (.p (frD (bS S ps (S.headD (0, 0))))), none]) (S.map fun s => .tuple [frD s, i9 (tabS (oth S s) ps)]) = some (S.map fun s => plD (s.1, s.2, hM (bS S ps s) (bS S ps (S.headD (0, 0))))) := by
  refine fN _ fun s hs => ?_
  have g1 := (lY ok hl hp hs).1
  have g2 := (lY ok hl hp (t8 (0, 0) th.z)).1
  have mn := yB K c g1 g2 (by decide) (by decide)
  have i3 : ixE (.p (i9 (tabS (oth S s) ps))) (.p (.int 0)) = .ok (.p (frD (bS S ps s))) := rfl
  have he : iB K c [some (.p (frD s)), some (.p (i9 (tabS (oth S s) ps))), some (.p (frD (bS S ps (S.headD (0, 0)))))] = .ok (.p (plD (s.1, s.2, hM (bS S ps s) (bS S ps (S.headD (0, 0)))))) := by
   ktr_call 2 ⟨iB, i3, mn⟩
   rfl
  unfold aQ
  ktr_call 3 ⟨kG, dA, kK, aI, qW, vE, iO, List.replicate, List.cons_append, List.nil_append, he, Ev.c⟩
 have hc5 := g6 (n := 2) (js := [4]) (hz none) (by rw [List.length_map]; omega) hm5
 refine (aO (fW hc5)).trans ?_
 simp only [List.set_cons_succ, List.set_cons_zero, frz, List.getElem?_cons_succ, List.getElem?_cons_zero]
 have hm6 : ∀ en : En, lR (aQ 2 [] (kG 2 (dA (aI 0) (dA (aI 1) kK))) (bG (aH gtE (aH ixE (aC 1) (mC (.int 1))) (mC (.int 1)))) (jK K c) en) (S.map fun s => .tuple [frD s, i9 (tabS (oth S s) ps)]) = some ((rO S ps).map frD) := fun en => by
  refine k8 _ fun s hs => ?_
  have t : bG (aH gtE (aH ixE (aC 1) (mC (.int 1))) (mC (.int 1))) [some (.p (frD s)), some (.p (i9 (tabS (oth S s) ps)))] = .ok (decide (1 < bK (tabS (oth S s) ps))) := by
   have e : decide ((1 : Int) < (bK (tabS (oth S s) ps) : Nat)) = decide (1 < bK (tabS (oth S s) ps)) := by
    by_cases z : 1 < bK (tabS (oth S s) ps)
    ·rw [decide_eq_true z, decide_eq_true (by omega)]
    ·rw [decide_eq_false z, decide_eq_false (by omega)]
   ktr_call 3 ⟨bG, aH, aC, mC, Res.bind, Ev.c, i2, fQ, bT⟩
   rw [<- e]
  unfold aQ
  ktr_call 3 ⟨kG, dA, kK, aI, qW, List.replicate, List.cons_append, List.nil_append, t, jK, aC, Ev.c⟩
  cases decide (1 < bK (tabS (oth S s) ps)) <;> rfl
 have hc6 := g6 (n := 2) (js := []) (hz (some (.p (.list (S.map fun s => plD (s.1, s.2, hM (bS S ps s) (bS S ps (S.headD (0, 0))))))))) (by rw [List.length_map]; omega) (hm6 _)
 simp only [aBj, frz, List.getElem?_cons_succ, List.getElem?_cons_zero, List.set_cons_succ, List.set_cons_zero, hc6]
 unfold thD oF
 rw [List.map_map]
 rfl
theorem mB (K : PySem.W.Frag) (c : Cls) {S : List (Int × Int)} {ps : List Pt} (h1 : OkS S) (h2 : ps.length + 1 = S.length) (h3 : ∀ p ∈ ps, PtG p) : fS K c [.p (.list (S.map frD)), .p (.list (ps.map ptD))] = .ok (.p (thD (srt S) ps)) := dU (a := (S, ps)) yG ⟨h1, h2, h3⟩
theorem aFu (i j : Int) : eqE false (.p (.int i)) (.p (.int j)) = .ok (.p (.bool (i == j))) := by
 simp only [eqE, dat, iD, iQ]
 rfl
theorem yX (x : Int × Int) : PyData.canLay0 (frD x) = true := by simp [frD, PyData.canLay0, PyData.canLayAll0]
theorem zJ (x : Int × Int) : PyData.depth (frD x) <= 9 := by simp [frD, PyData.depth, PyData.depthAll]
theorem aJi (p : Int × Int) (ps : List (Int × Int)) : decide (countIn (frD p) (ps.map frD) ≠ 0) = decide (p ∈ ps) := by
 rw [decide_eq_decide, countIn_ne_zero, List.mem_map]
 constructor
 ·rintro ⟨q, hq, e⟩
  rw [<- frI e]
  exact hq
 ·intro h
  exact ⟨p, h, rfl⟩
theorem aFb (p : Int × Int) (ps : List (Int × Int)) : aAr true (.p (frD p)) (.b (.list (ps.map frD))) = .ok (.p (.bool (!decide (p ∈ ps)))) := by
 unfold aAr
 simp only [dat]
 rw [if_pos ⟨uK p, aG7 frD yX zJ ps, fun z hz => by obtain ⟨q, _, rfl⟩ := List.mem_map.mp hz; simp [frD, SeqAt.noMix, SeqAt.noMixAll]⟩]
 rw [if_pos trivial, aJi]
structure SlO (S : List (Int × Int)) (k : Nat) : Prop where
 n : S.Nodup
 b : ∀ s ∈ S, In8 s
 l : S.length <= k
theorem SlO.snoc {S : List (Int × Int)} {n : Nat} (h : SlO S n) {s : Int × Int} (hs : In8 s) (hn : s ∉ S) : SlO (S ++ [s]) (n + 1) := by
 refine ⟨List.nodup_append.mpr ⟨h.n, List.pairwise_singleton _ _, fun a ha b hb z => hn ?_⟩, fun x hx => ?_, by rw [List.length_append]; have := h.l; simp; omega⟩
 ·rw [List.mem_singleton.mp hb] at z
  exact z ▸ ha
 ·rcases List.mem_append.mp hx with z | z
  ·exact h.b x z
  ·rw [List.mem_singleton.mp z]; exact hs
noncomputable def eF (K : PySem.W.Frag) (c : Cls) : MS := (b8 (cX 5 (aH iF (aC 4) (aH lE (mC (.int 7368787)) (aC 3)))) (b8 (cX 6 (aF bV (aB (aH mK (aP 2 (a8 K c) (aB (aC 5) (aB (mC (.int 31)) aL))) (aH iF (aC 1) (mC (.int 1)))) (aB (aH mK (aP 2 (a8 K c) (aB (aC 5) (aB (mC (.int 32)) aL))) (aH iF (aC 1) (mC (.int 1)))) aL)))) (kF (bG (aH (aAr true) (aC 6) (aC 2))) (fF 2 (aC 6)) fB)))
noncomputable def gJ (K : PySem.W.Frag) (c : Cls) : MS := (b8 (cX 2 (aF fE aL)) (b8 (pD (k7 aDi (aB (aC 0) aL)) (kG 2 (dA (aI 3) (dA (aI 4) kK))) (eF K c)) (fP (aC 2))))
noncomputable def cC (K : PySem.W.Frag) (c : Cls) (ls : List L) : Res L := eO 7 (gJ K c) ls
theorem pG (K : PySem.W.Frag) (c : Cls) : ∀ ls, cC K c ls = .bad \/ eO 7 (gJ K c) ls = cC K c ls := fun _ => .inr rfl
theorem aNu (K : PySem.W.Frag) (c : Cls) (A : Option L) {m : Int} (m0 : 0 <= m) (m8 : m <= 8) {k : Nat} (hk : k <= 100) (x : Int) {S : List (Int × Int)} {n : Nat} (hS : SlO S n) (hn : n <= 100) (r5 r6 : Option L) : ∃ (S' : List (Int × Int)) (q5 q6 : Option L), SlO S' (n + 1) /\ eF K c [A, some (.p (.int m)), some (.o (.list (S.map frD))), some (.p (.int (k : Int))), some (.p (.int x)), r5, r6] = some (.nx [A, some (.p (.int m)), some (.o (.list (S'.map frD))), some (.p (.int (k : Int))), some (.p (.int x)), q5, q6]) := by
 have q : CMulW 7368787 (k : Int) := ⟨(show Sz 30 (7368787 : Int) by unfold Sz; decide).mono (by decide), (show Sz 20 (k : Int) by unfold Sz; omega).mono (by decide)⟩
 obtain ⟨v1, a1, b1, e1⟩ := lK K c (x + 7368787 * (k : Int)) (k := 31) (by decide) (by decide)
 obtain ⟨v2, a2, b2, e2⟩ := lK K c (x + 7368787 * (k : Int)) (k := 32) (by decide) (by decide)
 have d : m + 1 ≠ 0 := by omega
 have f1 := dM (a := v1) (b := m + 1) (by omega)
 have f2 := dM (a := v2) (b := m + 1) (by omega)
 have s5 : (aH iF (aC 4) (aH lE (mC (.int 7368787)) (aC 3))) [A, some (.p (.int m)), some (.o (.list (S.map frD))), some (.p (.int (k : Int))), some (.p (.int x)), r5, r6] = .ok (.p (.int (x + 7368787 * (k : Int)))) := by
  walk_at "1a"
 have s6 : (aF bV (aB (aH mK (aP 2 (a8 K c) (aB (aC 5) (aB (mC (.int 31)) aL))) (aH iF (aC 1) (mC (.int 1)))) (aB (aH mK (aP 2 (a8 K c) (aB (aC 5) (aB (mC (.int 32)) aL))) (aH iF (aC 1) (mC (.int 1)))) aL))) [A, some (.p (.int m)), some (.o (.list (S.map frD))), some (.p (.int (k : Int))), some (.p (.int x)), some (.p (.int (x + 7368787 * (k : Int)))), r6] = .ok (.p (frD (v1.fmod (m + 1), v2.fmod (m + 1)))) := by
  ktr_call 11 ⟨e1, e2⟩
  rfl
 have i8 : In8 (v1.fmod (m + 1), v2.fmod (m + 1)) := ⟨⟨f1.1, by show v1.fmod (m + 1) <= 8; omega⟩, ⟨f2.1, by show v2.fmod (m + 1) <= 8; omega⟩⟩
 generalize (v1.fmod (m + 1), v2.fmod (m + 1)) = s at s6 i8
 have t : bG (aH (aAr true) (aC 6) (aC 2)) [A, some (.p (.int m)), some (.o (.list (S.map frD))), some (.p (.int (k : Int))), some (.p (.int x)), some (.p (.int (x + 7368787 * (k : Int)))), some (.p (frD s))] = .ok (!decide (s ∈ S)) := by
  ktr_call 3 ⟨bG, aH, aC, Res.bind, Ev.c, aFb, bT⟩
 have hl := hS.l
 unfold eF
 by_cases z : s ∈ S
 ·rw [decide_eq_true z] at t
  exact ⟨S, _, _, ⟨hS.n, hS.b, by omega⟩, (aO (eL s5)).trans ((aO (eL s6)).trans (oW t))⟩
 ·rw [decide_eq_false z] at t
  refine ⟨S ++ [s], some (.p (.int (x + 7368787 * (k : Int)))), some (.p (frD s)), hS.snoc i8 z, (aO (eL s5)).trans ((aO (eL s6)).trans ((vR t).trans ?_))⟩
  rw [n5 (i := 2) (ds := S.map frD) (d := frD s) rfl (.inr rfl) (by rw [List.length_map]; omega), List.map_append]
  rfl
theorem zW (K : PySem.W.Frag) (c : Cls) (A : Option L) {m : Int} (m0 : 0 <= m) (m8 : m <= 8) : ∀ (xs : List Int) (k n : Nat) (S : List (Int × Int)) (r3 r4 r5 r6 : Option L), k + xs.length <= 100 -> n + xs.length <= 100 -> SlO S n -> ∃ (S' : List (Int × Int)) (q3 q4 q5 q6 : Option L), SlO S' (n + xs.length) /\ e9 (kG 2 (dA (aI 3) (dA (aI 4) kK))) (eF K c) (kY k (xs.map .int)) [A, some (.p (.int m)), some (.o (.list (S.map frD))), r3, r4, r5, r6] = some (.nx [A, some (.p (.int m)), some (.o (.list (S'.map frD))), q3, q4, q5, q6])
 | [], k, n, S, r3, r4, r5, r6, _, _, hS => ⟨S, r3, r4, r5, r6, hS, rfl⟩
 | x :: xs, k, n, S, r3, r4, r5, r6, h1, h2, hS => by
  rw [List.length_cons] at h1 h2
  obtain ⟨S1, q5, q6, o1, hb⟩ := aNu K c A m0 m8 (k := k) (by omega) x hS (by omega) r5 r6
  obtain ⟨S2, q3, q4, q5', q6', o2, ih⟩ := zW K c A m0 m8 xs (k + 1) (n + 1) S1 (some (.p (.int (k : Int)))) (some (.p (.int x))) q5 q6 (by omega) (by omega) o1
  refine ⟨S2, q3, q4, q5', q6', by rw [List.length_cons]; exact ⟨o2.n, o2.b, by have := o2.l; omega⟩, ?_⟩
  rw [List.map_cons, show kY k (.int x :: xs.map .int) = .tuple [.int (k : Int), .int x] :: kY (k + 1) (xs.map .int) from rfl, jI rfl hb]
  exact ih
theorem aBi (K : PySem.W.Frag) (c : Cls) {m : Int} (m0 : 0 <= m) (m8 : m <= 8) (cs : List Int) (hc : cs.length <= 100) : ∃ S, SlO S cs.length /\ cC K c [.p (.list (cs.map .int)), .p (.int m)] = .ok (.o (.list (S.map frD))) := by
 obtain ⟨S, q3, q4, q5, q6, o, hlp⟩ := zW K c (some (.p (.list (cs.map .int)))) m0 m8 cs 0 0 [] none none none none (by omega) (by omega) ⟨List.Pairwise.nil, (fun _ h => nomatch h), Nat.le_refl _⟩
 rw [Nat.zero_add] at o
 refine ⟨S, o, ?_⟩
 unfold cC
 refine cJ ?_
 rw [show bE 7 [.p (.list (cs.map .int)), .p (.int m)] = [some (.p (.list (cs.map .int))), some (.p (.int m)), none, none, none, none, none] from rfl]
 unfold gJ
 refine (aO (fW (d := .list []) rfl)).trans ?_
 simp only [List.set_cons_succ, List.set_cons_zero]
 refine (aO ((kE (ds := kY 0 (cs.map .int)) rfl).trans hlp)).trans ?_
 rfl
theorem aLb (vs : List Int) (a b : Nat) : ∃ cs : List Int, M.cutD (vs.map .int) (some (a : Int)) (some (b : Int)) = cs.map .int /\ cs.length <= b - a := by
 refine ⟨(vs.drop (HT.sIx vs.length 0 (some (a : Int)))).take (HT.sIx vs.length vs.length (some (b : Int)) - HT.sIx vs.length 0 (some (a : Int))), ?_, ?_⟩
 ·unfold M.cutD
  rw [List.length_map, List.map_take, List.map_drop]
 ·rw [List.length_take, List.length_drop, HT.aAo, HT.aAo]
  omega
noncomputable def cL (K : PySem.W.Frag) (c : Cls) : MS := (kF (aCi (bG (aH ltE (aF eM (aB (aC 2) aL)) (mC (.int 2)))) (bG (aH (aAr true) (aC 3) (aC 2)))) (fF 2 (aC 3)) fB)
noncomputable def dB (K : PySem.W.Frag) (c : Cls) : MS := (b8 (cX 1 (aH ixE (aF bV (aB (mC (.int 2)) (aB (mC (.int 4)) (aB (mC (.int 8)) aL)))) (aH mK (aP 2 (aS K c) (aB (aC 0) (aB (mC (.int 0)) aL))) (mC (.int 3))))) (b8 (cX 2 (aP 2 (cC K c) (aB (mSl (aC 0) (mPt (mC (.int 2))) (mPt (aH iF (mC (.int 2)) (aH ixE (aF bV (aB (mC (.int 2)) (aB (mC (.int 3)) (aB (mC (.int 4)) (aB (mC (.int 5)) (aB (mC (.int 6)) (aB (mC (.int 4)) aL))))))) (aH mK (aP 2 (aS K c) (aB (aC 0) (aB (mC (.int 1)) aL))) (mC (.int 6))))))) (aB (aC 1) aL)))) (b8 (pD (lH (aF fE (aB (aF bV (aB (mC (.int 1)) (aB (mC (.int 2)) aL))) (aB (aF bV (aB (mC (.int 0)) (aB (mC (.int 1)) aL))) aL)))) (aI 3) (cL K c)) (fP (aC 2)))))
noncomputable def aZ (K : PySem.W.Frag) (c : Cls) (ls : List L) : Res L := eO 4 (dB K c) ls
theorem kH (K : PySem.W.Frag) (c : Cls) : ∀ ls, aZ K c ls = .bad \/ eO 4 (dB K c) ls = aZ K c ls := fun _ => .inr rfl
theorem aNd (K : PySem.W.Frag) (c : Cls) (A B : Option L) {S : List (Int × Int)} {n : Nat} (hS : SlO S n) (hn : n <= 100) {s : Int × Int} (hs : In8 s) : cL K c [A, B, some (.o (.list (S.map frD))), some (.p (frD s))] = some (.nx [A, B, some (.o (.list ((if S.length < 2 /\ s ∉ S then S ++ [s] else S).map frD))), some (.p (frD s))]) := by
 have hl := hS.l
 have ln : eM [.b (.list (S.map frD))] = .ok (.p (.int (S.length : Nat))) := by simp [eM, hV]
 have t1 : bG (aH ltE (aF eM (aB (aC 2) aL)) (mC (.int 2))) [A, B, some (.o (.list (S.map frD))), some (.p (frD s))] = .ok (decide (S.length < 2)) := by
  have e : decide ((S.length : Int) < 2) = decide (S.length < 2) := by
   by_cases z : S.length < 2
   ·rw [decide_eq_true z, decide_eq_true (by omega)]
   ·rw [decide_eq_false z, decide_eq_false (by omega)]
  rw [<- e]
  ktr_call 3 ⟨bG, aH, aC, mC, aF, aB, aL, Res.bind, Ev.c, ln, fQ, bT⟩
 have t2 : bG (aH (aAr true) (aC 3) (aC 2)) [A, B, some (.o (.list (S.map frD))), some (.p (frD s))] = .ok (!decide (s ∈ S)) := by
  ktr_call 3 ⟨bG, aH, aC, Res.bind, Ev.c, aFb, bT⟩
 have t : (aCi (bG (aH ltE (aF eM (aB (aC 2) aL)) (mC (.int 2)))) (bG (aH (aAr true) (aC 3) (aC 2)))) [A, B, some (.o (.list (S.map frD))), some (.p (frD s))] = .ok (decide (S.length < 2) && !decide (s ∈ S)) := by
  unfold aCi
  rw [t1, q9]
  cases decide (S.length < 2)
  ·rfl
  ·exact t2
 unfold cL
 by_cases z : S.length < 2 /\ s ∉ S
 ·rw [decide_eq_true z.1, decide_eq_false z.2] at t
  rw [vR t, n5 (i := 2) (ds := S.map frD) (d := frD s) rfl (.inr rfl) (by rw [List.length_map]; omega), if_pos z, List.map_append]
  rfl
 ·have : (decide (S.length < 2) && !decide (s ∈ S)) = false := by
   rw [Bool.eq_false_iff]
   intro w
   rw [Bool.and_eq_true, decide_eq_true_iff] at w
   exact z ⟨w.1, by simpa using w.2⟩
  rw [this] at t
  rw [oW t, if_neg z]
  rfl
theorem aDv (K : PySem.W.Frag) (c : Cls) (ns : List Int) : ∃ S, OkS S /\ aZ K c [.p (.list (ns.map .int))] = .ok (.o (.list (S.map frD))) := by
 have c0 : aS K c [.p (.list (ns.map .int)), .p (.int 0)] = _ := vA K c ns 0
 have c1 : aS K c [.p (.list (ns.map .int)), .p (.int 1)] = _ := vA K c ns 1
 generalize ns.getD 0 0 = v0 at c0
 generalize ns.getD 1 0 = v1 at c1
 have d3 : (3 : Int) ≠ 0 := by decide
 have d6 : (6 : Int) ≠ 0 := by decide
 obtain ⟨m, m0, m8, hm⟩ : ∃ m : Int, 0 <= m /\ m <= 8 /\ ixE (.p (.tuple [.int 2, .int 4, .int 8])) (.p (.int (v0.fmod 3))) = .ok (.p (.int m)) := by
  have f := dM (a := v0) (b := 3) (by decide)
  rcases (show v0.fmod 3 = 0 \/ v0.fmod 3 = 1 \/ v0.fmod 3 = 2 by omega) with z | z | z <;> rw [z]
  ·exact ⟨2, by decide, by decide, rfl⟩
  ·exact ⟨4, by decide, by decide, rfl⟩
  ·exact ⟨8, by decide, by decide, rfl⟩
 obtain ⟨n, n6, hn⟩ : ∃ n : Nat, n <= 6 /\ ixE (.p (.tuple [.int 2, .int 3, .int 4, .int 5, .int 6, .int 4])) (.p (.int (v1.fmod 6))) = .ok (.p (.int (n : Int))) := by
  have f := dM (a := v1) (b := 6) (by decide)
  rcases (show v1.fmod 6 = 0 \/ v1.fmod 6 = 1 \/ v1.fmod 6 = 2 \/ v1.fmod 6 = 3 \/ v1.fmod 6 = 4 \/ v1.fmod 6 = 5 by omega) with z | z | z | z | z | z <;> rw [z]
  ·exact ⟨2, by decide, rfl⟩
  ·exact ⟨3, by decide, rfl⟩
  ·exact ⟨4, by decide, rfl⟩
  ·exact ⟨5, by decide, rfl⟩
  ·exact ⟨6, by decide, rfl⟩
  ·exact ⟨4, by decide, rfl⟩
 obtain ⟨cs, hcut, hcl⟩ := aLb ns 2 (2 + n)
 obtain ⟨S, oS, hS⟩ := aBi K c m0 m8 cs (by omega)
 have oS : SlO S 6 := ⟨oS.n, oS.b, by have := oS.l; omega⟩
 have hcut' : M.cutD (ns.map .int) (some 2) (some (2 + (n : Int))) = cs.map .int := by
  rw [<- hcut]
  rfl
 have i12 : In8 (1, 2) := by unfold In8; decide
 have i01 : In8 (0, 1) := by unfold In8; decide
 have b1 := fun A B => aNd K c A B oS (by decide) i12
 have o1 : SlO (if S.length < 2 /\ (1, 2) ∉ S then S ++ [(1, 2)] else S) 6 := by
  split
  ·rename_i z
   have := oS.snoc i12 z.2
   exact ⟨this.n, this.b, by rw [List.length_append]; simp; omega⟩
  ·exact oS
 have f1 : (if S.length < 2 /\ (1, 2) ∉ S then S ++ [(1, 2)] else S).length < 2 -> (0, 1) ∉ (if S.length < 2 /\ (1, 2) ∉ S then S ++ [(1, 2)] else S) /\ (if S.length < 2 /\ (1, 2) ∉ S then S ++ [(1, 2)] else S).length = 1 := by
  split
  ·rename_i z
   intro h
   rw [List.length_append] at h
   have : S = [] := List.length_eq_zero_iff.mp (by simp at h; omega)
   subst this
   exact ⟨by decide, rfl⟩
  ·rename_i z
   intro h
   have h12 : (1, 2) ∈ S := Classical.byContradiction fun y => z ⟨h, y⟩
   match S, h, h12 with
   | [x], _, h12 =>
    have := List.mem_singleton.mp h12
    subst this
    exact ⟨by decide, rfl⟩
 generalize (if S.length < 2 /\ (1, 2) ∉ S then S ++ [(1, 2)] else S) = S1 at b1 o1 f1
 have b2 := fun A B => aNd K c A B o1 (by decide) i01
 refine ⟨if S1.length < 2 /\ (0, 1) ∉ S1 then S1 ++ [(0, 1)] else S1, ?_, ?_⟩
 ·split
  ·rename_i z
   have := o1.snoc i01 z.2
   have l := (f1 z.1).2
   exact ⟨by rw [List.length_append, l]; decide, by rw [List.length_append, l]; decide, this.n, this.b⟩
  ·rename_i z
   refine ⟨?_, o1.l, o1.n, o1.b⟩
   rcases Nat.lt_or_ge S1.length 2 with y | y
   ·exact absurd ⟨y, (f1 y).1⟩ z
   ·exact y
 ·unfold aZ
  refine cJ ?_
  rw [show bE 4 [.p (.list (ns.map .int))] = [some (.p (.list (ns.map .int))), none, none, none] from rfl]
  unfold dB
  have e1 : (aH ixE (aF bV (aB (mC (.int 2)) (aB (mC (.int 4)) (aB (mC (.int 8)) aL)))) (aH mK (aP 2 (aS K c) (aB (aC 0) (aB (mC (.int 0)) aL))) (mC (.int 3)))) [some (.p (.list (ns.map .int))), none, none, none] = .ok (.p (.int m)) := by
   ktr_call 13 ⟨aH, aC, mC, aP, aF, bV, hX, aB, aL, dE, cG, iS, jC, Res.bind, Ev.c, c0, mI, hm⟩
  have e2 : (aP 2 (cC K c) (aB (mSl (aC 0) (mPt (mC (.int 2))) (mPt (aH iF (mC (.int 2)) (aH ixE (aF bV (aB (mC (.int 2)) (aB (mC (.int 3)) (aB (mC (.int 4)) (aB (mC (.int 5)) (aB (mC (.int 6)) (aB (mC (.int 4)) aL))))))) (aH mK (aP 2 (aS K c) (aB (aC 0) (aB (mC (.int 1)) aL))) (mC (.int 6))))))) (aB (aC 1) aL))) [some (.p (.list (ns.map .int))), some (.p (.int m)), none, none] = .ok (.f (.list (S.map frD))) := by
   ktr_call 13 ⟨aH, aC, mC, aP, aF, bV, hX, aB, aL, dE, cG, iS, jC, Res.bind, Ev.c, c1, mI, hn, mSl, mPt, iF, e8, hcut', hS⟩
  refine (aO (eL e1)).trans ((aO (fW e2)).trans ?_)
  simp only [List.set_cons_succ, List.set_cons_zero]
  have lp : e9 (aI 3) (cL K c) [frD (1, 2), frD (0, 1)] [some (.p (.list (ns.map .int))), some (.p (.int m)), some (.o (.list (S.map frD))), none] = some (.nx [some (.p (.list (ns.map .int))), some (.p (.int m)), some (.o (.list ((if S1.length < 2 /\ (0, 1) ∉ S1 then S1 ++ [(0, 1)] else S1).map frD))), some (.p (frD (0, 1)))]) := by
   rw [jI rfl (b1 _ _), jI rfl (b2 _ _)]
   rfl
  refine (aO ((kE (ds := [frD (1, 2), frD (0, 1)]) rfl).trans lp)).trans ?_
  rfl
theorem qG {α : Type} {enc : α -> D} {P : α -> Prop} {g : D -> Option (Option D)} : ∀ ds : List D, (∀ d ∈ ds, ∃ x, P x /\ g d = some (some (enc x))) -> ∃ xs : List α, xs.length = ds.length /\ (∀ x ∈ xs, P x) /\ lR g ds = some (xs.map enc)
 | [], _ => ⟨[], rfl, (fun _ h => nomatch h), rfl⟩
 | d :: ds, h => by
  obtain ⟨v, hv, e⟩ := h d (.head _)
  obtain ⟨es, h1, h2, h3⟩ := qG ds fun x hx => h x (.tail _ hx)
  refine ⟨v :: es, by rw [List.length_cons, List.length_cons, h1], fun x hx => ?_, ?_⟩
  ·rcases List.mem_cons.mp hx with z | z
   ·rw [z]; exact hv
   ·exact h2 x z
  ·show (match g d with | none => none | some o => match lR g ds with | none => none | some r => some (match o with | some y => y :: r | none => r)) = _
   rw [e, h3]
   rfl
theorem wG : ∀ {ds : List D} {k : Nat} {d : D}, d ∈ kY k ds -> ∃ i x, i < ds.length /\ x ∈ ds /\ d = .tuple [.int ((k + i : Nat) : Int), x]
 | y :: ds, k, d, h => by
  rcases List.mem_cons.mp (show d ∈ .tuple [.int (k : Int), y] :: kY (k + 1) ds from h) with z | z
  ·exact ⟨0, y, Nat.succ_pos _, .head _, z⟩
  ·obtain ⟨i, x, h1, h2, h3⟩ := wG z
   refine ⟨i + 1, x, Nat.succ_lt_succ h1, .tail _ h2, ?_⟩
   rw [h3, show k + 1 + i = k + (i + 1) by omega]
structure PtN (p : Pt) : Prop where
 x : GN p.1
 y : GN p.2
theorem PtN.g {p : Pt} (h : PtN p) : PtG p := ⟨h.x.f, h.y.f, h.x.t.mono (by decide), h.x.b.mono (by decide), h.y.t.mono (by decide), h.y.b.mono (by decide)⟩
noncomputable def eG (K : PySem.W.Frag) (c : Cls) : En -> Res Ev := (aF bV (aB (aP 2 (cB K c) (aB (aH iF (aC 1) (aH lE (mC (.int 9)) (aC 0))) (aB (mC (.int 51)) aL))) (aB (aP 2 (cB K c) (aB (aH iF (aC 1) (aH lE (mC (.int 9)) (aC 0))) (aB (mC (.int 56)) aL))) aL)))
noncomputable def gS (K : PySem.W.Frag) (c : Cls) : MS := (fP (gO 2 [] (k7 aDi (aB (aC 0) aL)) (kG 2 (dA (aI 0) (dA (aI 1) kK))) iO (eG K c)))
noncomputable def bU (K : PySem.W.Frag) (c : Cls) (ls : List L) : Res L := eO 1 (gS K c) ls
theorem oT (K : PySem.W.Frag) (c : Cls) : ∀ ls, bU K c ls = .bad \/ eO 1 (gS K c) ls = bU K c ls := fun _ => .inr rfl
theorem aA8 (K : PySem.W.Frag) (c : Cls) (cs : List Int) (hc : cs.length <= 100) : ∃ ps : List Pt, ps.length = cs.length /\ (∀ p ∈ ps, PtN p) /\ bU K c [.p (.list (cs.map .int))] = .ok (.o (.list (ps.map ptD))) := by
 obtain ⟨ps, h1, h2, h3⟩ := qG (enc := ptD) (P := PtN) (g := aQ 2 [] (kG 2 (dA (aI 0) (dA (aI 1) kK))) iO (eG K c) [some (.p (.list (cs.map .int)))]) (kY 0 (cs.map .int)) (fun d hd => by
  obtain ⟨i, x, hi, hx, rfl⟩ := wG hd
  obtain ⟨n, _, rfl⟩ := List.mem_map.mp hx
  rw [List.length_map] at hi
  rw [Nat.zero_add]
  obtain ⟨a, ga, ea⟩ := sR K c (n + 9 * (i : Int)) (k := 51) (by decide) (by decide)
  obtain ⟨b, gb, eb⟩ := sR K c (n + 9 * (i : Int)) (k := 56) (by decide) (by decide)
  have q : CMulW 9 (i : Int) := ⟨(show Sz 20 (9 : Int) by unfold Sz; decide).mono (by decide), (show Sz 20 (i : Int) by unfold Sz; omega).mono (by decide)⟩
  have he : eG K c [some (.p (.int (i : Int))), some (.p (.int n))] = .ok (.p (ptD (a, b))) := by
   ktr_call 11 ⟨eG, ea, eb⟩
   rfl
  refine ⟨(a, b), ⟨ga, gb⟩, ?_⟩
  unfold aQ
  ktr_call 3 ⟨kG, dA, kK, aI, qW, iO, List.replicate, List.cons_append, List.nil_append, he, Ev.c⟩)
 rw [lD, List.length_map] at h1
 refine ⟨ps, h1, h2, ?_⟩
 unfold bU
 refine cJ ?_
 rw [show bE 1 [.p (.list (cs.map .int))] = [some (.p (.list (cs.map .int)))] from rfl]
 unfold gS
 exact aL2 (g6 (n := 2) (js := []) rfl (by rw [lD, List.length_map]; omega) h3)
def eRs (ps : List Pl) : List L := [.p (.list (ps.map plD))]
theorem aGt (a b : List Pl) (h : eRs a = eRs b) : a = b := by
 unfold eRs at h
 injection h with h _
 injection h with h
 injection h with h
 exact aN2 h
noncomputable def cD (K : PySem.W.Frag) (c : Cls) : List L -> Res L := mOf eRs (fun ps => ∀ p ∈ ps, FR.Fr p.2.2 /\ Sz 8000 p.2.2.2) fun _ => .ok (.p (.bool true))
noncomputable def fG (K : PySem.W.Frag) (c : Cls) : MS := (b8 (kF (mOr (jT (bG (mUn (oN K (.type "tuple")) (aC 1)))) (mOr (bG (aH (eqE true) (aF eM (aB (aC 1) aL)) (mC (.int 3)))) (jT (bG (aP 1 (bH K c) (aB (aH ixE (aC 1) (mC (.int 2))) aL)))))) (fP (mC (.bool false))) fB) (kF (mOr (jT (bG (aP 1 (bC K c) (aB (aH ixE (aC 1) (mC (.int 0))) aL)))) (jT (bG (aP 1 (bC K c) (aB (aH ixE (aC 1) (mC (.int 1))) aL))))) (fP (mC (.bool false))) fB))
noncomputable def iN (K : PySem.W.Frag) (c : Cls) : MS := (b8 (kF (jT (bG (mUn (oN K (.type "list")) (aC 0)))) (fP (mC (.bool false))) fB) (b8 (pD (lH (aC 0)) (aI 1) (fG K c)) (fP (mC (.bool true)))))
theorem vW (K : PySem.W.Frag) (c : Cls) (hk : iX K c) (Z : Option L) : ∀ (xs : List Pl) (r : Option L), (∀ p ∈ xs, FR.Fr p.2.2 /\ Sz 8000 p.2.2.2) -> ∃ r', e9 (aI 1) (fG K c) (xs.map plD) [Z, r] = some (.nx [Z, r'])
 | [], r, _ => ⟨r, rfl⟩
 | x :: xs, r, h => by
  obtain ⟨r', ih⟩ := vW K c hk Z xs (some (.p (plD x))) fun y hy => h y (.tail _ hy)
  have l := aIr K c (h x (.head _)).1 (h x (.head _)).2
  have wh := pW K c
  have ty : tyD (plD x) = "tuple" := rfl
  have ln : eM [.p (plD x)] = .ok (.p (.int 3)) := rfl
  have l3 : eqE true (.p (.int 3)) (.p (.int 3)) = .ok (.p (.bool false)) := i4 rfl rfl (iD 3) true
  have i0 : ixE (.p (plD x)) (.p (.int 0)) = .ok (.p (.int x.1)) := rfl
  have i1 : ixE (.p (plD x)) (.p (.int 1)) = .ok (.p (.int x.2.1)) := rfl
  have i2 : ixE (.p (plD x)) (.p (.int 2)) = .ok (.p (frD x.2.2)) := rfl
  have t1 : (mOr (jT (bG (mUn (oN K (.type "tuple")) (aC 1)))) (mOr (bG (aH (eqE true) (aF eM (aB (aC 1) aL)) (mC (.int 3)))) (jT (bG (aP 1 (bH K c) (aB (aH ixE (aC 1) (mC (.int 2))) aL)))))) [Z, some (.p (plD x))] = .ok false := by
   ktr_call 3 ⟨mOr, jT, bG, aH, mUn, aC, mC, aP, aF, aB, aL, dE, cG, iS, jC, Res.bind, Ev.c, oN, dat, ty, hk.tt, bT, ln, l3, i2, l, Bool.not_true⟩
  have t2 : (mOr (jT (bG (aP 1 (bC K c) (aB (aH ixE (aC 1) (mC (.int 0))) aL)))) (jT (bG (aP 1 (bC K c) (aB (aH ixE (aC 1) (mC (.int 1))) aL))))) [Z, some (.p (plD x))] = .ok false := by
   ktr_call 3 ⟨mOr, jT, bG, aH, aC, mC, aP, aB, aL, dE, cG, iS, jC, Res.bind, Ev.c, bT, i0, i1, wh, Bool.not_true⟩
  have hb : fG K c [Z, some (.p (plD x))] = some (.nx [Z, some (.p (plD x))]) := (aO (oW t1)).trans (oW t2)
  refine ⟨r', ?_⟩
  rw [List.map_cons, jI rfl hb]
  exact ih
theorem nY (K : PySem.W.Frag) (c : Cls) (hk : iX K c) : ∀ ls, cD K c ls = .bad \/ eO 2 (iN K c) ls = cD K c ls := dS fun ps h => by
 have i1 : oN K (.type "list") (.p (.list (ps.map plD))) = .ok (.p (.bool true)) := by simp [oN, dat, tyD, hk.ll]
 refine cJ ?_
 rw [show bE 2 (eRs ps) = [some (.p (.list (ps.map plD))), none] from rfl]
 have t1 : (jT (bG (mUn (oN K (.type "list")) (aC 0)))) [some (.p (.list (ps.map plD))), none] = .ok false := by
  ktr_call 3 ⟨jT, bG, mUn, aC, Res.bind, Ev.c, i1, bT, Bool.not_true⟩
 obtain ⟨r', hlp⟩ := vW K c hk (some (.p (.list (ps.map plD)))) ps none h
 unfold iN
 exact (aO (oW t1)).trans ((aO ((kE (ds := ps.map plD) rfl).trans hlp)).trans (g9 rfl))
theorem aLg (K : PySem.W.Frag) (c : Cls) {ps : List Pl} (h : ∀ p ∈ ps, FR.Fr p.2.2 /\ Sz 8000 p.2.2.2) : cD K c [.p (.list (ps.map plD))] = .ok (.p (.bool true)) := dU (a := ps) aGt h
theorem aMo (x y : Int × Int) : eqE false (.p (frD x)) (.p (frD y)) = .ok (.p (.bool (decide (x = y)))) := by
 unfold eqE
 dsimp only [dat]
 rw [if_pos ⟨uK x, uK y⟩, aE7]
 rfl
def rgD (j m : Nat) : List D := (List.range' j m).map fun k : Nat => PyData.int (k : Int)
theorem aAj (n : Nat) : (cols n).map PyData.int = rgD 0 n := by
 unfold cols rgD
 rw [List.map_map, List.range_eq_range']
 rfl
theorem vQ (j m : Nat) : rgD j (m + 1) = .int (j : Int) :: rgD (j + 1) m := rfl
theorem aKt {α β γ : Type} {n : Nat} (A : List α) (B : List β) (a0 : α) (b0 : β) (f : α × β -> γ) (hA : A.length = n) (hB : B.length = n) : ((List.range' 0 n).map fun k => f (A.getD k a0, B.getD k b0)) = (A.zip B).map f := by
 apply List.ext_getElem
 ·simp [hA, hB]
 ·intro i h1 h2
  have i1 : i < A.length := by simp at h2; omega
  have i2 : i < B.length := by simp at h2; omega
  simp [List.getD, i1, i2]
theorem aMj {t : Tb} {k : Nat} (h : k < t.length) : ixE (.p (tbD t)) (.p (.int (k : Int))) = .ok (.p (rwF (t.getD k []))) := by
 have := xA rwF t [] h
 simp only [ixE, tbD, hV, this]
theorem aL9 {r : List (Int × Int)} {k : Nat} (h : k < r.length) (d : Int × Int) : ixE (.p (rwF r)) (.p (.int (k : Int))) = .ok (.p (frD (r.getD k d))) := by
 have := xA frD r d h
 simp only [ixE, rwF, hV, this]
noncomputable def cQ (K : PySem.W.Frag) (c : Cls) : List L -> Res L := mOf eN (fun n => n <= 6) fun n => .ok (.p (.list ((iW n).map dD)))
noncomputable def eI (K : PySem.W.Frag) (c : Cls) : MS := (kF (bG (aH (inE true) (aC 5) (aC 4))) (fF 3 (aH iF (aC 4) (aF fE (aB (aC 5) aL)))) fB)
noncomputable def eJ (K : PySem.W.Frag) (c : Cls) : MS := (pD (k7 iR (aB (aC 0) aL)) (aI 5) (eI K c))
noncomputable def eB (K : PySem.W.Frag) (c : Cls) : MS := (b8 (cX 3 (aF fE aL)) (b8 (pD (lH (aC 1)) (aI 4) (eJ K c)) (fun en => (cX 1 (aC 3)) (frz 3 en))))
noncomputable def i6 (K : PySem.W.Frag) (c : Cls) : MS := (b8 (cX 1 (aF fE (aB (aF fE aL) aL))) (fun en => (b8 (pD (k7 iR (aB (aC 0) aL)) (aI 2) (eB K c)) (fP (aC 1))) (frz 1 en)))
theorem aL1 (K : PySem.W.Frag) (c : Cls) (A B C : Option L) {d : List Int} (hd : d.length <= 100) {x : Int} {acc : List (List Int)} (ha : acc.length <= 50000) : eI K c [A, B, C, some (.o (.list (acc.map dD))), some (.p (dD d)), some (.p (.int x))] = some (.nx [A, B, C, some (.o (.list ((acc ++ if ((!decide (x ∈ d)) && true) = true then [d ++ [x]] else []).map dD))), some (.p (dD d)), some (.p (.int x))]) := by
 have ii := aBp true x d
 have t : bG (aH (inE true) (aC 5) (aC 4)) [A, B, C, some (.o (.list (acc.map dD))), some (.p (dD d)), some (.p (.int x))] = .ok (!decide (x ∈ d)) := by
  ktr_call 3 ⟨bG, aH, aC, Res.bind, Ev.c, ii, bT⟩
 have a : (aH iF (aC 4) (aF fE (aB (aC 5) aL))) [A, B, C, some (.o (.list (acc.map dD))), some (.p (dD d)), some (.p (.int x))] = .ok (.f (dD (d ++ [x]))) := by
  have := add_one d x (by omega)
  ktr_call 3 ⟨aH, aC, aF, aB, aL, fE, hX, Res.bind, Ev.c, this⟩
 unfold eI
 rw [Bool.and_true]
 generalize (!decide (x ∈ d)) = b at t ⊢
 cases b with
 | true =>
  rw [vR t, n5 (i := 3) (ds := acc.map dD) rfl (.inl a) (by rw [List.length_map]; omega), if_pos rfl, List.map_append]
  rfl
 | false =>
  rw [oW t, if_neg (by decide), List.append_nil]
  rfl
theorem aJj (K : PySem.W.Frag) (c : Cls) (A B C : Option L) {d : List Int} (hd : d.length <= 100) : ∀ (xs : List Int) (acc : List (List Int)) (r5 : Option L), acc.length + xs.length <= 50000 -> ∃ q5, e9 (aI 5) (eI K c) (xs.map .int) [A, B, C, some (.o (.list (acc.map dD))), some (.p (dD d)), r5] = some (.nx [A, B, C, some (.o (.list ((acc ++ (xs.filter fun x => (!decide (x ∈ d)) && true).map fun x => d ++ [x]).map dD))), some (.p (dD d)), q5])
 | [], acc, r5, _ => ⟨r5, by rw [List.filter_nil]; show _ = some (Out.nx [_, _, _, some (.o (.list ((acc ++ []).map dD))), _, _]); rw [List.append_nil]; rfl⟩
 | x :: xs, acc, r5, hl => by
  rw [List.length_cons] at hl
  have hb := aL1 K c A B C hd (x := x) (acc := acc) (by omega)
  obtain ⟨q5, ih⟩ := aJj K c A B C hd xs (acc ++ if ((!decide (x ∈ d)) && true) = true then [d ++ [x]] else []) (some (.p (.int x))) (by
   rw [List.length_append]
   split <;> simp <;> omega)
  refine ⟨q5, ?_⟩
  rw [List.map_cons, jI rfl hb, ih, List.append_assoc, List.filter_cons]
  split <;> rfl
theorem aFf (K : PySem.W.Frag) (c : Cls) {n : Nat} (n6 : n <= 6) (B C : Option L) : ∀ (ds acc : List (List Int)) (r4 r5 : Option L), acc.length + n * ds.length <= 50000 -> (∀ d ∈ ds, d.length <= 100) -> ∃ q4 q5, e9 (aI 4) (eJ K c) (ds.map dD) [some (.p (.int (n : Int))), B, C, some (.o (.list (acc.map dD))), r4, r5] = some (.nx [some (.p (.int (n : Int))), B, C, some (.o (.list ((acc ++ ext n (fun _ => true) ds).map dD))), q4, q5])
 | [], acc, r4, r5, _, _ => ⟨r4, r5, by show _ = some (Out.nx [_, _, _, some (.o (.list ((acc ++ []).map dD))), _, _]); rw [List.append_nil]; rfl⟩
 | d :: ds, acc, r4, r5, hl, hd => by
  rw [List.length_cons, Nat.mul_succ] at hl
  obtain ⟨q5, hi⟩ := aJj K c (some (.p (.int (n : Int)))) B C (hd d (.head _)) (cols n) acc r5 (by rw [eD]; omega)
  have h1 := jA n (fun _ => true) d
  have hit := aD4 (i := 0) (en := [some (.p (.int (n : Int))), B, C, some (.o (.list (acc.map dD))), some (.p (dD d)), r5]) (n := n) (by omega) rfl
  have hb : eJ K c [some (.p (.int (n : Int))), B, C, some (.o (.list (acc.map dD))), some (.p (dD d)), r5] = some (.nx [some (.p (.int (n : Int))), B, C, some (.o (.list ((acc ++ ((cols n).filter fun x => (!decide (x ∈ d)) && true).map fun x => d ++ [x]).map dD))), some (.p (dD d)), q5]) := by
   unfold eJ
   rw [kE hit, hi]
  obtain ⟨q4', q5', ih⟩ := aFf K c n6 B C ds (acc ++ ((cols n).filter fun x => (!decide (x ∈ d)) && true).map fun x => d ++ [x]) (some (.p (dD d))) q5 (by rw [List.length_append]; omega) fun x hx => hd x (.tail _ hx)
  refine ⟨q4', q5', ?_⟩
  rw [List.map_cons, jI rfl hb]
  rw [List.append_assoc] at ih
  exact ih
theorem aEw (K : PySem.W.Frag) (c : Cls) {n : Nat} (hn : n <= 6) : ∀ (xs : List D) (k : Nat) (r2 r3 r4 r5 : Option L), k + xs.length <= 6 -> ∃ q2 q3 q4 q5, e9 (aI 2) (eB K c) xs [some (.p (.int (n : Int))), some (.p (.list ((eU n k).map dD))), r2, r3, r4, r5] = some (.nx [some (.p (.int (n : Int))), some (.p (.list ((eU n (k + xs.length)).map dD))), q2, q3, q4, q5])
 | [], k, r2, r3, r4, r5, _ => ⟨r2, r3, r4, r5, rfl⟩
 | x :: xs, k, r2, r3, r4, r5, hk => by
  rw [List.length_cons] at hk
  have l1 := mX hn k (by omega)
  have l3 := aLm (show k + 1 <= 6 by omega)
  have l4 := Nat.mul_le_mul hn l1
  rw [Nat.pow_succ, Nat.mul_comm] at l3
  obtain ⟨q4, q5, h1⟩ := aFf K c hn (some (.p (.list ((eU n k).map dD)))) (some (.p x)) (eU n k) [] r4 r5 (by rw [List.length_nil]; omega) (fun d hd => by rw [nV k d hd]; omega)
  obtain ⟨q2, q3, q4', q5', ih⟩ := aEw K c hn xs (k + 1) (some (.p x)) (some (.p (.list ((eU n (k + 1)).map dD)))) q4 q5 (by omega)
  refine ⟨q2, q3, q4', q5', ?_⟩
  have hb : eB K c [some (.p (.int (n : Int))), some (.p (.list ((eU n k).map dD))), some (.p x), r3, r4, r5] = some (.nx [some (.p (.int (n : Int))), some (.p (.list ((eU n (k + 1)).map dD))), some (.p x), some (.p (.list ((eU n (k + 1)).map dD))), q4, q5]) := by
   unfold eB
   refine (aO (fW (d := .list []) rfl)).trans ?_
   simp only [List.set_cons_succ, List.set_cons_zero]
   refine (aO ((kE (ds := (eU n k).map dD) rfl).trans h1)).trans ?_
   rfl
  rw [show k + (x :: xs).length = k + 1 + xs.length by rw [List.length_cons]; omega]
  rw [jI rfl hb]
  exact ih
theorem oO (K : PySem.W.Frag) (c : Cls) : ∀ ls, cQ K c ls = .bad \/ eO 6 (i6 K c) ls = cQ K c ls := dS fun n hn => by
 refine cJ ?_
 rw [show bE 6 (eN n) = [some (.p (.int (n : Int))), none, none, none, none, none] from rfl]
 obtain ⟨q2, q3, q4, q5, hlp⟩ := aEw K c hn ((cols n).map .int) 0 none none none none (by rw [List.length_map, eD]; omega)
 rw [List.length_map, eD, Nat.zero_add] at hlp
 have hit := aD4 (i := 0) (en := [some (.p (.int (n : Int))), some (.p (.list ((eU n 0).map dD))), none, none, none, none]) (n := n) (by omega) rfl
 unfold i6
 refine (aO (fW (d := .list ((eU n 0).map dD)) rfl)).trans ?_
 simp only [List.set_cons_succ, List.set_cons_zero, frz, List.getElem?_cons_succ, List.getElem?_cons_zero]
 refine (aO ((kE hit).trans hlp)).trans ?_
 rfl
theorem uT (K : PySem.W.Frag) (c : Cls) {n : Nat} (h : n <= 6) : cQ K c [.p (.int (n : Int))] = .ok (.p (.list ((iW n).map dD))) := dU (a := n) aFm h
structure G43 (x : Int × Int) : Prop where
 f : FR.Fr x
 t : Sz 200 x.1
 b : Sz 30 x.2
theorem G43.good {x : Int × Int} (g : G43 x) : Good 200 x := ⟨g.f.pos, g.t, g.b.mono (by decide)⟩
def aCk (w : Int × Int) (xs : List (List (Int × Int) × Int)) : Int × Int := xs.foldl (fun w x => hP w (x.1.getD x.2.toNat (0, 1))) w
theorem aBm {F : Int} : ∀ (t : Tb) (d : List Int) (w : Int × Int) (m : Nat), (∀ r ∈ t, (∀ a ∈ d, 0 <= a /\ a < r.length) /\ ∀ x ∈ r, G43 x /\ x.2 ∣ F) -> Gx F w -> Good m w -> Gx F (aCk w (t.zip d)) /\ wt F (aCk w (t.zip d)) = wt F w + wo (t.map (whR F)) d /\ Good (m + 201 * t.length) (aCk w (t.zip d))
 | [], _, w, m, _, hw, gw => ⟨hw, by unfold wo aCk; simp, gw⟩
 | _ :: _, [], w, m, _, hw, gw => ⟨hw, by unfold wo aCk; simp, gw.mono (by omega)⟩
 | r :: t, a :: d, w, m, h, hw, gw => by
  obtain ⟨h1, h2⟩ := h r (.head _)
  have ha := h1 a (.head _)
  have hk : a.toNat < r.length := by omega
  obtain ⟨g1, g2⟩ := h2 _ (getD_in hk (0, 1))
  obtain ⟨p1, p2⟩ := hw.p ⟨g1.f, g2⟩
  obtain ⟨i1, i2, i3⟩ := aBm t d (hP w (r.getD a.toNat (0, 1))) _ (fun x hx => ⟨fun y hy => (h x (.tail _ hx)).1 y (.tail _ hy), (h x (.tail _ hx)).2⟩) p1 (aBd gw g1.good)
  refine ⟨i1, ?_, i3.mono (by rw [List.length_cons]; omega)⟩
  show wt F (aCk (hP w (r.getD a.toNat (0, 1))) (t.zip d)) = wt F w + ((whR F r).getD a.toNat 0 + wo (t.map (whR F)) d)
  have e : (whR F r).getD a.toNat 0 = wt F (r.getD a.toNat (0, 1)) := by
   unfold whR
   rw [gW (by rw [List.length_map]; exact hk), gW hk, List.getElem_map]
   rfl
  rw [i2, p2, e]
  omega
theorem aMk {G : Int} {x y : Int × Int} (hG : 1 <= G) (hx : Gx G x) (hy : Gx G y) : ltF x y = decide (wt G x < wt G y) := by
 unfold ltF
 by_cases h : x.1 * y.2 < y.1 * x.2
 ·rw [decide_eq_true h]
  have l := aI8 hG hx.f.pos hy.f.pos hx.d hy.d (Int.le_of_lt h)
  have n : wt G x ≠ wt G y := fun e => by
   have := aFl hG hx.f hy.f hx.d hy.d e
   rw [this] at h
   omega
  exact (decide_eq_true (by omega)).symm
 ·rw [decide_eq_false h]
  have l := aI8 hG hy.f.pos hx.f.pos hy.d hx.d (Int.not_lt.mp h)
  exact (decide_eq_false (by omega)).symm
theorem aMg {G : Int} {x y : Int × Int} (hG : 1 <= G) (hx : Gx G x) (hy : Gx G y) : (x = y) ↔ wt G x = wt G y := ⟨fun e => by rw [e], fun e => aFl hG hx.f hy.f hx.d hy.d e⟩
theorem aMv {G w : Int} {x : Int × Int} (hG : 1 <= G) (hx : Gx G x) (h : wt G x = w) : FR.mk w G = x := by
 obtain ⟨m1, m2⟩ := FR.kI (t := w) (b := G) (by omega)
 have e1 : wt G x * x.2 = x.1 * G := w_mul hx.f.pos hx.d
 rw [h] at e1
 have e : (FR.mk w G).1 * x.2 = x.1 * (FR.mk w G).2 := by
  refine Int.eq_of_mul_eq_mul_right (a := G) (by omega) ?_
  have a1 : (FR.mk w G).1 * x.2 * G = (FR.mk w G).1 * G * x.2 := by ac_rfl
  have a2 : w * (FR.mk w G).2 * x.2 = w * x.2 * (FR.mk w G).2 := by ac_rfl
  rw [a1, m2, a2, e1]
  ac_rfl
 exact zI m1 hx.f (Int.le_of_eq e) (Int.le_of_eq e.symm)
structure Fst (W : List Int -> Int) (ps : List (List Int)) (l : List Int) (k : Nat) : Prop where
 i : l ∈ ps
 m : ∀ d ∈ ps, W d <= W l
 k : k = (ps.map W).count (W l)
 a : ps.getD ((ps.map W).idxOf (W l)) [] = l
theorem Fst.one (W : List Int -> Int) (d : List Int) : Fst W [d] d 1 := ⟨.head _, fun e he => by rw [List.mem_singleton.mp he]; exact Int.le_refl _, by simp, by simp⟩
theorem Fst.new {W : List Int -> Int} {ps : List (List Int)} {l : List Int} {k : Nat} (h : Fst W ps l k) {d : List Int} (hd : W l < W d) : Fst W (ps ++ [d]) d 1 := by
 have nm : W d ∉ ps.map W := fun z => by
  obtain ⟨e, he, q⟩ := List.mem_map.mp z
  have := h.m e he
  omega
 refine ⟨List.mem_append_right _ (.head _), fun e he => ?_, ?_, ?_⟩
 ·rcases List.mem_append.mp he with z | z
  ·have := h.m e z; omega
  ·rw [List.mem_singleton.mp z]; exact Int.le_refl _
 ·rw [List.map_append, List.count_append, List.count_eq_zero.mpr nm]
  simp
 ·rw [List.map_append, List.idxOf_append, if_neg nm]
  simp
theorem Fst.old {W : List Int -> Int} {ps : List (List Int)} {l : List Int} {k : Nat} (h : Fst W ps l k) {d : List Int} (hd : W d <= W l) : Fst W (ps ++ [d]) l (k + if W d = W l then 1 else 0) := by
 have mm : W l ∈ ps.map W := List.mem_map.mpr ⟨l, h.i, rfl⟩
 have il := List.idxOf_lt_length_iff.mpr mm
 refine ⟨List.mem_append_left _ h.i, fun e he => ?_, ?_, ?_⟩
 ·rcases List.mem_append.mp he with z | z
  ·exact h.m e z
  ·rw [List.mem_singleton.mp z]; exact hd
 ·rw [List.map_append, List.count_append, <- h.k]
  simp [List.count_cons]
 ·have a := h.a
  rw [List.length_map] at il
  rw [gW il] at a
  rw [List.map_append, List.idxOf_append, if_pos mm, gW (by rw [List.length_append]; omega), List.getElem_append_left il]
  exact a
def dAt (t : Tb) (d : List Int) (w : Int × Int) (k : Nat) : Int × Int := hP w ((t.getD k []).getD (d.getD k 0).toNat (0, 1))
theorem aKu {n : Nat} {t : Tb} {d : List Int} (h1 : t.length = n) (h2 : d.length = n) : (List.range' 0 n).foldl (dAt t d) (0, 1) = aCk (0, 1) (t.zip d) := by
 have e := aKt t d [] 0 id h1 h2
 rw [List.map_id] at e
 unfold aCk
 rw [<- e, List.foldl_map]
 rfl
structure TG (t : Tb) : Prop where
 l : t.length <= 6
 r : ∀ r ∈ t, r.length = t.length
 g : ∀ r ∈ t, ∀ x ∈ r, G43 x
theorem TG.gt {t : Tb} (h : TG t) : GT t := ⟨h.l, h.r, fun r hr x hx => by
 have g := h.g r hr x hx
 exact ⟨g.f.pos, g.t, g.b⟩⟩
abbrev tO (t : Tb) (d : List Int) : Int × Int := aCk (0, 1) (t.zip d)
theorem aDt {t : Tb} (ht : TG t) {d : List Int} (hd : d ∈ iW t.length) : Gx (cb t.flatten) (tO t d) /\ wt (cb t.flatten) (tO t d) = wo (t.map (whR (cb t.flatten))) d /\ FSz 2000 (tO t d) := by
 obtain ⟨_, f1, _⟩ := ht.gt.cb
 obtain ⟨d1, _, d3⟩ := (gK _ d).mp hd
 obtain ⟨a, b, g⟩ := aBm (F := cb t.flatten) t d (0, 1) 2 (fun r hr => ⟨fun a ha => by rw [ht.r r hr]; exact d3 a ha, fun x hx => ⟨ht.g r hr x hx, f1 x (List.mem_flatten.mpr ⟨r, hr, hx⟩)⟩⟩) ⟨⟨Int.le_refl 1, Int.gcd_one⟩, Int.one_dvd _⟩ ⟨Int.le_refl 1, by unfold Sz; decide, by unfold Sz; decide⟩
 refine ⟨a, ?_, (g.mono (n := 2000) (by have := ht.l; omega)).fsz⟩
 have w0 : wt (cb t.flatten) (0, 1) = 0 := by unfold wt; simp
 rw [b, w0, Int.zero_add]
theorem aC6 {t : Tb} (ht : TG t) {l : List Int} {k : Nat} (sp : Fst (wo (t.map (whR (cb t.flatten)))) (iW t.length) l k) : i9 t = .tuple [frD (tO t l), .int (k : Int), dD l] := by
 obtain ⟨f0, _, _⟩ := ht.gt.cb
 obtain ⟨x1, x2, _⟩ := aDt ht sp.i
 have ne : iT t ≠ [] := fun z => nS t.length (List.map_eq_nil_iff.mp z)
 obtain ⟨m1, m2⟩ := lL ne
 have e : mxw (iT t) = wo (t.map (whR (cb t.flatten))) l := by
  obtain ⟨d, hd, q⟩ := List.mem_map.mp m1
  have a := sp.m d hd
  have b := m2 _ (List.mem_map.mpr ⟨l, sp.i, rfl⟩)
  omega
 unfold i9
 rw [e, aMv f0 x1 x2]
 have k1 := sp.k
 have a1 := sp.a
 unfold iT
 rw [<- k1, a1]
theorem hP0 {x : Int × Int} (h : FR.Fr x) : hP x (0, 1) = x := by
 unfold hP
 rw [Int.mul_one, Int.zero_mul, Int.add_zero, Int.mul_one]
 exact aAg h
theorem aNf (s : Int × Int) {p : Pt} (g : PtG p) : hP (hT s.1 p.1) (hT s.2 p.2) = hgt (lv s) p := by
 have a : 1 <= (hT s.1 p.1).2 := (FR.kI (t := s.1 * p.1.1) (b := 1 * p.1.2) (by have := g.f.pos; omega)).1.pos
 have b : 1 <= (hT s.2 p.2).2 := (FR.kI (t := s.2 * p.2.1) (b := 1 * p.2.2) (by have := g.g.pos; omega)).1.pos
 exact (hP0 (aHi a b)).symm
noncomputable def iG (K : PySem.W.Frag) (c : Cls) : MS := (fP (aP 2 (cH K c) (aB (aP 2 (bN K c) (aB (aF bV (aB (aH ixE (aC 0) (mC (.int 0))) (aB (mC (.int 1)) aL))) (aB (aH ixE (aC 1) (mC (.int 0))) aL))) (aB (aP 2 (bN K c) (aB (aF bV (aB (aH ixE (aC 0) (mC (.int 1))) (aB (mC (.int 1)) aL))) (aB (aH ixE (aC 1) (mC (.int 1))) aL))) aL))))
noncomputable def cZ (K : PySem.W.Frag) (c : Cls) (ls : List L) : Res L := eO 2 (iG K c) ls
theorem rC (K : PySem.W.Frag) (c : Cls) : ∀ ls, cZ K c ls = .bad \/ eO 2 (iG K c) ls = cZ K c ls := fun _ => .inr rfl
theorem aDu (K : PySem.W.Frag) (c : Cls) {s : Int × Int} (hs : In8 s) {p : Pt} (g : PtG p) : cZ K c [.p (frD s), .p (ptD p)] = .ok (.p (frD (hgt (lv s) p))) := by
 have q := g.q hs (h := (0, 1)) (good01.mono (by decide))
 have t1 : bN K c [.p (.tuple [.int s.1, .int 1]), .p (frD p.1)] = .ok (.p (frD (hT s.1 p.1))) := wF K c (q.i.mono (by decide)) q.x (by decide)
 have t2 : bN K c [.p (.tuple [.int s.2, .int 1]), .p (frD p.2)] = .ok (.p (frD (hT s.2 p.2))) := wF K c (q.j.mono (by decide)) q.y (by decide)
 have p1 := u3 K c (pH q.i q.x) (pH q.j q.y) (by decide) (by decide)
 have i0 : ixE (.p (frD s)) (.p (.int 0)) = .ok (.p (.int s.1)) := rfl
 have i1 : ixE (.p (frD s)) (.p (.int 1)) = .ok (.p (.int s.2)) := rfl
 have j0 : ixE (.p (ptD p)) (.p (.int 0)) = .ok (.p (frD p.1)) := rfl
 have j1 : ixE (.p (ptD p)) (.p (.int 1)) = .ok (.p (frD p.2)) := rfl
 rw [<- aNf s g]
 unfold cZ
 refine cJ ?_
 rw [show bE 2 [.p (frD s), .p (ptD p)] = [some (.p (frD s)), some (.p (ptD p))] from rfl]
 unfold iG
 refine g9 ?_
 ktr_call 3 ⟨aH, aC, mC, aP, aF, bV, hX, aB, aL, dE, cG, iS, jC, Res.bind, Ev.c, i0, i1, j0, j1, t1, t2, p1⟩
noncomputable def d9 (K : PySem.W.Frag) (c : Cls) : MS := (cX 6 (aP 2 (cH K c) (aB (aC 6) (aB (aH ixE (aH ixE (aC 4) (aC 7)) (aH ixE (aC 5) (aC 7))) aL))))
noncomputable def cR (K : PySem.W.Frag) (c : Cls) : MS := (b8 (cX 6 (aF bV (aB (mC (.int 0)) (aB (mC (.int 1)) aL)))) (b8 (pD (k7 iR (aB (aF eM (aB (aC 1) aL)) aL)) (aI 7) (d9 K c)) (b8 (kF (mOr (bG (mUn (aCg false) (aC 2))) (bG (aP 2 (bP K c) (aB (aC 2) (aB (aC 6) aL))))) (b8 (cX 2 (aC 6)) (cX 3 (mC (.int 0)))) fB) (kF (bG (aH (eqE false) (aC 6) (aC 2))) (aMp 3 (mC (.int 1))) fB))))
noncomputable def d8 (K : PySem.W.Frag) (c : Cls) : En -> Res Ev := (aP 2 (cZ K c) (aB (aC 0) (aB (aC 1) aL)))
noncomputable def eA (K : PySem.W.Frag) (c : Cls) : En -> Res Ev := (gO 1 [0] (lH (aC 1)) (aI 0) iO (d8 K c))
noncomputable def i5 (K : PySem.W.Frag) (c : Cls) : MS := (b8 (cX 2 (mC (.none))) (b8 (cX 3 (mC (.int 0))) (b8 (cX 4 (gO 1 [0] (lH (aC 1)) (aI 0) iO (eA K c))) (fun en => (b8 (pD (lH (aP 1 (cQ K c) (aB (aF eM (aB (aC 1) aL)) aL))) (aI 5) (cR K c)) (fP (aF bV (aB (aC 2) (aB (aC 3) aL))))) (frz 4 en)))))
noncomputable def dR (K : PySem.W.Frag) (c : Cls) (ls : List L) : Res L := eO 8 (i5 K c) ls
theorem sQ (K : PySem.W.Frag) (c : Cls) : ∀ ls, dR K c ls = .bad \/ eO 8 (i5 K c) ls = dR K c ls := fun _ => .inr rfl
theorem aKa (K : PySem.W.Frag) (c : Cls) {t : Tb} {n : Nat} (ht : TG t) (hn : t.length = n) {d : List Int} (hd : d ∈ iW n) (A P a2 a3 : Option L) : ∀ (m j : Nat) (w : Int × Int) (r7 : Option L), j + m = n -> Good (2 + 201 * j) w -> ∃ q7, e9 (aI 7) (d9 K c) (rgD j m) [A, P, a2, a3, some (.p (tbD t)), some (.p (dD d)), some (.p (frD w)), r7] = some (.nx [A, P, a2, a3, some (.p (tbD t)), some (.p (dD d)), some (.p (frD ((List.range' j m).foldl (dAt t d) w))), q7])
 | 0, j, w, r7, _, _ => ⟨r7, rfl⟩
 | m + 1, j, w, r7, hj, gw => by
  obtain ⟨d1, _, d3⟩ := (gK n d).mp hd
  have l6 := ht.l
  have jt : j < t.length := by omega
  have jd : j < d.length := by omega
  have mr := getD_in jt []
  have lr := ht.r _ mr
  have ha := d3 _ (getD_in jd 0)
  have hk : (d.getD j 0).toNat < (t.getD j []).length := by omega
  have gx := (ht.g _ mr _ (getD_in hk (0, 1))).good
  have i1 := aMj jt
  have i2 : ixE (.p (dD d)) (.p (.int (j : Int))) = .ok (.p (.int (d.getD j 0))) := by
   have := tZ (r := d) (x := (j : Int)) (by omega) (by omega)
   rw [Int.toNat_natCast] at this
   exact this
  have i3 := aL9 hk (0, 1)
  rw [Int.toNat_of_nonneg ha.1] at i3
  have ls := u3 K c gw gx (by omega) (by omega)
  have hb : d9 K c [A, P, a2, a3, some (.p (tbD t)), some (.p (dD d)), some (.p (frD w)), some (.p (.int (j : Int)))] = some (.nx [A, P, a2, a3, some (.p (tbD t)), some (.p (dD d)), some (.p (frD (dAt t d w j))), some (.p (.int (j : Int)))]) := by
   unfold d9
   refine eL ?_
   ktr_call 3 ⟨aH, aC, aP, aB, aL, dE, cG, iS, jC, Res.bind, Ev.c, i1, i2, i3, ls⟩
   rfl
  obtain ⟨q7, ih⟩ := aKa K c ht hn hd A P a2 a3 m (j + 1) (dAt t d w j) (some (.p (.int (j : Int)))) (by omega) ((aBd gw gx).mono (by omega))
  refine ⟨q7, ?_⟩
  rw [vQ, jI rfl hb]
  exact ih
theorem aFo (K : PySem.W.Frag) (c : Cls) {t : Tb} {n : Nat} (ht : TG t) (hn : t.length = n) {ps : List Pt} (hp : ps.length = n) {d : List Int} (hd : d ∈ iW n) (A a2 a3 r6 r7 : Option L) (g : MS) : ∃ q7, (b8 (cX 6 (aF bV (aB (mC (.int 0)) (aB (mC (.int 1)) aL)))) (b8 (pD (k7 iR (aB (aF eM (aB (aC 1) aL)) aL)) (aI 7) (d9 K c)) g)) [A, some (.p (.list (ps.map ptD))), a2, a3, some (.p (tbD t)), some (.p (dD d)), r6, r7] = g [A, some (.p (.list (ps.map ptD))), a2, a3, some (.p (tbD t)), some (.p (dD d)), some (.p (frD (tO t d))), q7] := by
 have l6 := ht.l
 obtain ⟨d1, _, _⟩ := (gK n d).mp hd
 obtain ⟨q7, hi⟩ := aKa K c ht hn hd A (some (.p (.list (ps.map ptD)))) a2 a3 n 0 (0, 1) r7 (by omega) ⟨Int.le_refl 1, by unfold Sz; decide, by unfold Sz; decide⟩
 rw [aKu hn d1] at hi
 refine ⟨q7, ?_⟩
 refine (aO (eL (d := frD (0, 1)) rfl)).trans ?_
 simp only [List.set_cons_succ, List.set_cons_zero]
 have hlen : eM [.p (.list (ps.map ptD))] = .ok (.p (.int (n : Nat))) := by rw [<- hp]; exact aF7 ps
 have hit : (k7 iR (aB (aF eM (aB (aC 1) aL)) aL)) [A, some (.p (.list (ps.map ptD))), a2, a3, some (.p (tbD t)), some (.p (dD d)), some (.p (frD (0, 1))), r7] = .ok ((cols n).map .int) := by
  rw [<- lG]
  exact aKf (a := .int (n : Int)) (by ktr_call 3 ⟨aF, aB, aL, aC, Res.bind, Ev.c, hlen⟩) (lJ n (by omega))
 rw [aAj] at hit
 exact aO ((kE hit).trans hi)
theorem aFj (K : PySem.W.Frag) (c : Cls) {t : Tb} {n : Nat} (ht : TG t) (hn : t.length = n) {ps : List Pt} (hp : ps.length = n) {d : List Int} (hd : d ∈ iW n) (hz : FSz 2000 (tO t d)) {w1 : D} (hw : w1 = .none \/ ∃ x, w1 = frD x /\ FSz 2000 x /\ ltF x (tO t d) = true) (k : Int) (A r6 r7 : Option L) : ∃ q7, cR K c [A, some (.p (.list (ps.map ptD))), some (.p w1), some (.p (.int k)), some (.p (tbD t)), some (.p (dD d)), r6, r7] = some (.nx [A, some (.p (.list (ps.map ptD))), some (.p (frD (tO t d))), some (.p (.int 1)), some (.p (tbD t)), some (.p (dD d)), some (.p (frD (tO t d))), q7]) := by
 obtain ⟨q7, h⟩ := aFo K c ht hn hp hd A (some (.p w1)) (some (.p (.int k))) r6 r7 _
 refine ⟨q7, ?_⟩
 unfold cR
 refine h.trans ?_
 have t1 : (mOr (bG (mUn (aCg false) (aC 2))) (bG (aP 2 (bP K c) (aB (aC 2) (aB (aC 6) aL))))) [A, some (.p (.list (ps.map ptD))), some (.p w1), some (.p (.int k)), some (.p (tbD t)), some (.p (dD d)), some (.p (frD (tO t d))), q7] = .ok true := by
  rcases hw with rfl | ⟨x, rfl, hx, hl⟩
  ·rfl
  ·have b := tK K c hx hz
   rw [hl] at b
   have t1 : bG (mUn (aCg false) (aC 2)) [A, some (.p (.list (ps.map ptD))), some (.p (frD x)), some (.p (.int k)), some (.p (tbD t)), some (.p (dD d)), some (.p (frD (tO t d))), q7] = .ok false := rfl
   have t2 : bG (aP 2 (bP K c) (aB (aC 2) (aB (aC 6) aL))) [A, some (.p (.list (ps.map ptD))), some (.p (frD x)), some (.p (.int k)), some (.p (tbD t)), some (.p (dD d)), some (.p (frD (tO t d))), q7] = .ok true := by
    ktr_call 3 ⟨bG, aC, aP, aB, aL, dE, cG, iS, jC, Res.bind, Ev.c, b, bT⟩
   unfold mOr
   rw [t1, q9]
   exact t2
 have t2 : bG (aH (eqE false) (aC 6) (aC 2)) [A, some (.p (.list (ps.map ptD))), some (.p (frD (tO t d))), some (.p (.int 0)), some (.p (tbD t)), some (.p (dD d)), some (.p (frD (tO t d))), q7] = .ok true := by
  have := i4 (x := .p (frD (tO t d))) (y := .p (frD (tO t d))) rfl rfl (uK _) false
  ktr_call 3 ⟨bG, aH, aC, Res.bind, Ev.c, this, bT⟩
  rfl
 refine (aO ((vR t1).trans ((aO (eL (d := frD (tO t d)) rfl)).trans (eL (d := .int 0) rfl)))).trans ?_
 exact (vR t2).trans rfl
theorem aJ0 (K : PySem.W.Frag) (c : Cls) {t : Tb} {n : Nat} (ht : TG t) (hn : t.length = n) {ps : List Pt} (hp : ps.length = n) {d : List Int} (hd : d ∈ iW n) (hz : FSz 2000 (tO t d)) {x : Int × Int} (hx : FSz 2000 x) (hl : ltF x (tO t d) = false) (k : Int) (A r6 r7 : Option L) : ∃ q7, cR K c [A, some (.p (.list (ps.map ptD))), some (.p (frD x)), some (.p (.int k)), some (.p (tbD t)), some (.p (dD d)), r6, r7] = some (.nx [A, some (.p (.list (ps.map ptD))), some (.p (frD x)), some (.p (.int (k + if tO t d = x then 1 else 0))), some (.p (tbD t)), some (.p (dD d)), some (.p (frD (tO t d))), q7]) := by
 obtain ⟨q7, h⟩ := aFo K c ht hn hp hd A (some (.p (frD x))) (some (.p (.int k))) r6 r7 _
 refine ⟨q7, ?_⟩
 unfold cR
 refine h.trans ?_
 have b := tK K c hx hz
 rw [hl] at b
 have t1 : (mOr (bG (mUn (aCg false) (aC 2))) (bG (aP 2 (bP K c) (aB (aC 2) (aB (aC 6) aL))))) [A, some (.p (.list (ps.map ptD))), some (.p (frD x)), some (.p (.int k)), some (.p (tbD t)), some (.p (dD d)), some (.p (frD (tO t d))), q7] = .ok false := by
  have t1 : bG (mUn (aCg false) (aC 2)) [A, some (.p (.list (ps.map ptD))), some (.p (frD x)), some (.p (.int k)), some (.p (tbD t)), some (.p (dD d)), some (.p (frD (tO t d))), q7] = .ok false := rfl
  have t2 : bG (aP 2 (bP K c) (aB (aC 2) (aB (aC 6) aL))) [A, some (.p (.list (ps.map ptD))), some (.p (frD x)), some (.p (.int k)), some (.p (tbD t)), some (.p (dD d)), some (.p (frD (tO t d))), q7] = .ok false := by
   ktr_call 3 ⟨bG, aC, aP, aB, aL, dE, cG, iS, jC, Res.bind, Ev.c, b, bT⟩
  unfold mOr
  rw [t1, q9]
  exact t2
 refine (aO (oW t1)).trans ?_
 have t2 : bG (aH (eqE false) (aC 6) (aC 2)) [A, some (.p (.list (ps.map ptD))), some (.p (frD x)), some (.p (.int k)), some (.p (tbD t)), some (.p (dD d)), some (.p (frD (tO t d))), q7] = .ok (decide (tO t d = x)) := by
  have := aMo (tO t d) x
  ktr_call 3 ⟨bG, aH, aC, Res.bind, Ev.c, this, bT⟩
 by_cases z : tO t d = x
 ·rw [decide_eq_true z] at t2
  rw [if_pos z]
  exact (vR t2).trans rfl
 ·rw [decide_eq_false z] at t2
  rw [if_neg z, Int.add_zero]
  exact (oW t2).trans rfl
theorem u4 (K : PySem.W.Frag) (c : Cls) {t : Tb} (ht : TG t) {ps : List Pt} (hp : ps.length = t.length) (A : Option L) : ∀ (ds qs : List (List Int)) (l : List Int) (k : Nat) (r5 r6 r7 : Option L), (∀ d ∈ qs ++ ds, d ∈ iW t.length) -> Fst (wo (t.map (whR (cb t.flatten)))) qs l k -> ∃ l' k' q5 q6 q7, Fst (wo (t.map (whR (cb t.flatten)))) (qs ++ ds) l' k' /\ e9 (aI 5) (cR K c) (ds.map dD) [A, some (.p (.list (ps.map ptD))), some (.p (frD (tO t l))), some (.p (.int (k : Int))), some (.p (tbD t)), r5, r6, r7] = some (.nx [A, some (.p (.list (ps.map ptD))), some (.p (frD (tO t l'))), some (.p (.int (k' : Int))), some (.p (tbD t)), q5, q6, q7])
 | [], qs, l, k, r5, r6, r7, _, sp => ⟨l, k, r5, r6, r7, by rw [List.append_nil]; exact sp, rfl⟩
 | d :: ds, qs, l, k, r5, r6, r7, hd, sp => by
  obtain ⟨f0, _, _⟩ := ht.gt.cb
  have dd := hd d (List.mem_append_right _ (.head _))
  have dl := hd l (List.mem_append_left _ sp.i)
  obtain ⟨x1, x2, x3⟩ := aDt ht dd
  obtain ⟨y1, y2, y3⟩ := aDt ht dl
  have lw := aMk f0 y1 x1
  have ew := aMg f0 x1 y1
  rw [x2, y2] at lw ew
  have hd' : ∀ e ∈ (qs ++ [d]) ++ ds, e ∈ iW t.length := fun e he => hd e (by rw [List.append_assoc] at he; exact he)
  by_cases z : wo (t.map (whR (cb t.flatten))) l < wo (t.map (whR (cb t.flatten))) d
  ·rw [decide_eq_true z] at lw
   obtain ⟨q7, hb⟩ := aFj K c ht rfl hp dd x3 (.inr ⟨_, rfl, y3, lw⟩) (k : Int) A r6 r7
   obtain ⟨l', k', q5, q6, q7', s, ih⟩ := u4 K c ht hp A ds (qs ++ [d]) d 1 (some (.p (dD d))) (some (.p (frD (tO t d)))) q7 hd' (sp.new z)
   rw [List.append_assoc] at s
   exact ⟨l', k', q5, q6, q7', s, by rw [List.map_cons, jI rfl hb]; exact ih⟩
  ·rw [decide_eq_false z] at lw
   obtain ⟨q7, hb⟩ := aJ0 K c ht rfl hp dd x3 y3 lw (k : Int) A r6 r7
   obtain ⟨l', k', q5, q6, q7', s, ih⟩ := u4 K c ht hp A ds (qs ++ [d]) l _ (some (.p (dD d))) (some (.p (frD (tO t d)))) q7 hd' (sp.old (Int.not_lt.mp z))
   rw [List.append_assoc] at s
   refine ⟨l', k', q5, q6, q7', s, ?_⟩
   have ek : ((k + if wo (t.map (whR (cb t.flatten))) d = wo (t.map (whR (cb t.flatten))) l then 1 else 0 : Nat) : Int) = (k : Int) + if tO t d = tO t l then 1 else 0 := by
    by_cases y : tO t d = tO t l
    ·rw [if_pos y, if_pos (ew.mp y)]; rfl
    ·rw [if_neg y, if_neg (fun w => y (ew.mpr w))]; rfl
   rw [ek] at ih
   rw [List.map_cons, jI rfl hb]
   exact ih
theorem aM7 {os : List (Int × Int)} {ps : List Pt} (h : ps.length = os.length) (h6 : ps.length <= 6) (ho : ∀ o ∈ os, In8 o) (hp : ∀ p ∈ ps, PtG p) : TG (tabS os ps) := by
 have g := aKs h h6 ho hp
 refine ⟨g.l, g.r, fun r hr x hx => ?_⟩
 obtain ⟨o, o1, p, p1, rfl⟩ := u1 hr hx
 obtain ⟨_, e2, e3⟩ := (hp p p1).e (ho o o1)
 have a : 1 <= (hT o.1 p.1).2 := (FR.kI (t := o.1 * p.1.1) (b := 1 * p.1.2) (by have := (hp p p1).f.pos; omega)).1.pos
 have b : 1 <= (hT o.2 p.2).2 := (FR.kI (t := o.2 * p.2.1) (b := 1 * p.2.2) (by have := (hp p p1).g.pos; omega)).1.pos
 exact ⟨by rw [<- aNf o (hp p p1)]; exact aHi a b, e2, e3⟩
theorem aCz (K : PySem.W.Frag) (c : Cls) {os : List (Int × Int)} {ps : List Pt} (h : ps.length = os.length) (h6 : ps.length <= 6) (ho : ∀ o ∈ os, In8 o) (hp : ∀ p ∈ ps, PtG p) : dR K c [.p (.list (os.map frD)), .p (.list (ps.map ptD))] = .ok (.p (.tuple [frD (bX (tabS os ps)), .int (bK (tabS os ps) : Nat)])) := by
 have ht := aM7 h h6 ho hp
 have tl : ps.length = (tabS os ps).length := by unfold tabS; rw [List.length_map]
 unfold dR
 refine cJ ?_
 rw [show bE 8 [.p (.list (os.map frD)), .p (.list (ps.map ptD))] = [some (.p (.list (os.map frD))), some (.p (.list (ps.map ptD))), none, none, none, none, none, none] from rfl]
 unfold i5
 refine (aO (eL (d := .none) rfl)).trans ((aO (eL (d := .int 0) rfl)).trans ?_)
 simp only [List.set_cons_succ, List.set_cons_zero]
 have he4 : ∀ p ∈ ps, eA K c [some (.p (ptD p)), some (.p (.list (os.map frD)))] = .ok (.f (rwF (os.map fun o => hgt (lv o) p))) := fun p hq => by
  have hm : lR (aQ 1 [0] (aI 0) iO (d8 K c) [some (.p (ptD p)), some (.p (.list (os.map frD)))]) (os.map frD) = some (os.map fun o => frD (hgt (lv o) p)) := by
   refine fN _ fun o hq' => ?_
   have w := aDu K c (ho o hq') (hp p hq)
   have he : d8 K c [some (.p (frD o)), some (.p (ptD p))] = .ok (.p (frD (hgt (lv o) p))) := by
    ktr_call 3 ⟨d8, aP, aB, aL, aC, Res.bind, Ev.c, dE, cG, iS, w, jC⟩
   unfold aQ
   ktr_call 3 ⟨aI, qW, vE, iO, List.replicate, List.cons_append, List.nil_append, he, Ev.c⟩
  have hc := g6 (n := 1) (js := [0]) (fi := lH (aC 1)) (tg := aI 0) (ft := iO) (fe := d8 K c) (en := [some (.p (ptD p)), some (.p (.list (os.map frD)))]) (ds := os.map frD) rfl (by rw [List.length_map]; omega) hm
  unfold eA
  rw [hc]
  unfold rwF
  rw [List.map_map]
  rfl
 have hm : lR (aQ 1 [0] (aI 0) iO (eA K c) [some (.p (.list (os.map frD))), some (.p (.list (ps.map ptD))), some (.p .none), some (.p (.int 0)), none, none, none, none]) (ps.map ptD) = some (ps.map fun p => rwF (os.map fun o => hgt (lv o) p)) := by
  refine fN _ fun p hq => ?_
  have he := he4 p hq
  unfold aQ
  ktr_call 3 ⟨aI, qW, vE, iO, List.replicate, List.cons_append, List.nil_append, he, Ev.c⟩
 have hc := g6 (n := 1) (js := [0]) (fi := lH (aC 1)) (tg := aI 0) (ft := iO) (fe := eA K c) (en := [some (.p (.list (os.map frD))), some (.p (.list (ps.map ptD))), some (.p .none), some (.p (.int 0)), none, none, none, none]) (ds := ps.map ptD) rfl (by rw [List.length_map]; omega) hm
 have et : (.list (ps.map fun p => rwF (os.map fun o => hgt (lv o) p)) : D) = tbD (tabS os ps) := by
  unfold tbD tabS
  rw [List.map_map]
  rfl
 rw [et] at hc
 refine (aO (fW hc)).trans ?_
 simp only [List.set_cons_succ, List.set_cons_zero, frz, List.getElem?_cons_succ, List.getElem?_cons_zero]
 generalize tabS os ps = t at ht tl
 have hlen : eM [.p (.list (ps.map ptD))] = .ok (.p (.int (t.length : Nat))) := by rw [<- tl]; exact aF7 ps
 have hoo := uT K c ht.l
 have hit : (lH (aP 1 (cQ K c) (aB (aF eM (aB (aC 1) aL)) aL))) [some (.p (.list (os.map frD))), some (.p (.list (ps.map ptD))), some (.p .none), some (.p (.int 0)), some (.p (tbD t)), none, none, none] = .ok ((iW t.length).map dD) := by
  ktr_call 3 ⟨lH, aP, aF, aB, aL, aC, dE, cG, iS, jC, Res.bind, Ev.c, hlen, hoo, aIc⟩
 obtain ⟨l, k, q5, q6, q7, sp, hlp⟩ : ∃ l k q5 q6 q7, Fst (wo (t.map (whR (cb t.flatten)))) (iW t.length) l k /\ e9 (aI 5) (cR K c) ((iW t.length).map dD) [some (.p (.list (os.map frD))), some (.p (.list (ps.map ptD))), some (.p .none), some (.p (.int 0)), some (.p (tbD t)), none, none, none] = some (.nx [some (.p (.list (os.map frD))), some (.p (.list (ps.map ptD))), some (.p (frD (tO t l))), some (.p (.int (k : Int))), some (.p (tbD t)), q5, q6, q7]) := by
  cases e : iW t.length with
  | nil => exact absurd e (nS _)
  | cons d ds =>
   have dm : ∀ x ∈ d :: ds, x ∈ iW t.length := fun x hx => by rw [e]; exact hx
   obtain ⟨_, _, x3⟩ := aDt ht (dm d (.head _))
   obtain ⟨q7, hb⟩ := aFj K c ht rfl tl (dm d (.head _)) x3 (w1 := .none) (.inl rfl) 0 (some (.p (.list (os.map frD)))) none none
   obtain ⟨l', k', q5, q6, q7', s, ih⟩ := u4 K c ht tl (some (.p (.list (os.map frD)))) ds [d] d 1 (some (.p (dD d))) (some (.p (frD (tO t d)))) q7 dm (Fst.one _ d)
   exact ⟨l', k', q5, q6, q7', s, by rw [List.map_cons, jI rfl hb]; exact ih⟩
 refine (aO ((kE hit).trans hlp)).trans ?_
 have dd := aC6 ht sp
 have dd : (.tuple [frD (bX t), .int (bK t : Nat), dD ((iW t.length).getD ((iT t).idxOf (mxw (iT t))) [])] : D) = .tuple [frD (tO t l), .int (k : Int), dD l] := dd
 injection dd with dd
 injection dd with d1 dd
 injection dd with d2 _
 rw [d1, d2]
 rfl
abbrev bD (S : List (Int × Int)) (ps : List Pt) (s : Int × Int) : D := .tuple [frD (bS S ps s), .int (bK (tabS (oth S s) ps) : Nat)]
abbrev rF (S : List (Int × Int)) (ps : List Pt) (s : Int × Int) : D := plD (s.1, s.2, hM (bS S ps s) (bS S ps (S.headD (0, 0))))
theorem aNh {α : Type} (f : α -> D) {xs : List α} {k : Nat} (h : k < xs.length) (d : α) : ixE (.p (.list (xs.map f))) (.p (.int (k : Int))) = .ok (.p (f (xs.getD k d))) := by
 have := xA f xs d h
 simp only [ixE, hV, this]
theorem aK8 (x f : Int × Int) : hP x (-f.1, f.2) = hM x f := by
 unfold hP hM
 dsimp only
 rw [Int.neg_mul, Int.sub_eq_add_neg]
noncomputable def gP (K : PySem.W.Frag) (c : Cls) : MS := (b8 (fF 6 (aF bV (aB (aH ixE (aH ixE (aC 2) (aC 8)) (mC (.int 0))) (aB (aH ixE (aH ixE (aC 2) (aC 8)) (mC (.int 1))) (aB (aP 2 (cH K c) (aB (aH ixE (aH ixE (aC 3) (aC 8)) (mC (.int 0))) (aB (aF bV (aB (mUn xP (aH ixE (aC 5) (mC (.int 0)))) (aB (aH ixE (aC 5) (mC (.int 1))) aL))) aL))) aL))))) (kF (bG (aH gtE (aH ixE (aH ixE (aC 3) (aC 8)) (mC (.int 1))) (mC (.int 1)))) (fF 7 (aH ixE (aC 2) (aC 8))) fB))
noncomputable def gG (K : PySem.W.Frag) (c : Cls) : En -> Res Ev := (aC 0)
noncomputable def gQ (K : PySem.W.Frag) (c : Cls) : MS := (fF 3 (aP 2 (dR K c) (aB (gO 1 [4] (lH (aC 2)) (aI 0) (bG (aH (eqE true) (aC 0) (aC 1))) (gG K c)) (aB (aC 1) aL))))
noncomputable def kA (K : PySem.W.Frag) (c : Cls) : MS := (b8 (cX 2 (aF iK (aB (aC 0) aL))) (b8 (cX 3 (aF fE aL)) (fun en => (b8 (pD (lH (aC 2)) (aI 4) (gQ K c)) (fun en => (b8 (cX 5 (aH ixE (aH ixE (aC 3) (mC (.int 0))) (mC (.int 0)))) (b8 (cX 6 (aF fE aL)) (b8 (cX 7 (aF fE aL)) (b8 (pD (k7 iR (aB (aF eM (aB (aC 2) aL)) aL)) (aI 8) (gP K c)) (fun en => (fun en => (fP (aF bV (aB (aC 6) (aB (aC 7) aL)))) (frz 6 en)) (frz 7 en)))))) (frz 3 en))) (frz 2 en))))
noncomputable def dY (K : PySem.W.Frag) (c : Cls) (ls : List L) : Res L := eO 9 (kA K c) ls
theorem tQ (K : PySem.W.Frag) (c : Cls) : ∀ ls, dY K c ls = .bad \/ eO 9 (kA K c) ls = dY K c ls := fun _ => .inr rfl
theorem aNt (K : PySem.W.Frag) (c : Cls) {S : List (Int × Int)} {ps : List Pt} (ok : OkS S) (hl : ps.length + 1 = S.length) (hp : ∀ p ∈ ps, PtG p) {s : Int × Int} (hs : s ∈ S) (A : Option L) {acc : List D} (ha : acc.length <= 1000) (r5 r6 r7 r8 : Option L) : gQ K c [A, some (.p (.list (ps.map ptD))), some (.p (.list (S.map frD))), some (.o (.list acc)), some (.p (frD s)), r5, r6, r7, r8] = some (.nx [A, some (.p (.list (ps.map ptD))), some (.p (.list (S.map frD))), some (.o (.list (acc ++ [bD S ps s]))), some (.p (frD s)), r5, r6, r7, r8]) := by
 have h6 := ok.m
 have ol := rG ok.n hs
 have hm : lR (aQ 1 [4] (aI 0) (bG (aH (eqE true) (aC 0) (aC 1))) (gG K c) [A, some (.p (.list (ps.map ptD))), some (.p (.list (S.map frD))), some (.o (.list acc)), some (.p (frD s)), r5, r6, r7, r8]) (S.map frD) = some ((oth S s).map frD) := by
  refine k8 _ fun o _ => ?_
  have t : bG (aH (eqE true) (aC 0) (aC 1)) [some (.p (frD o)), some (.p (frD s))] = .ok (!decide (o = s)) := by
   have := aFd true o s
   ktr_call 3 ⟨bG, aH, aC, Res.bind, Ev.c, this, bT⟩
   try rfl
  unfold aQ
  ktr_call 3 ⟨aI, qW, vE, List.replicate, List.cons_append, List.nil_append, t, gG, aC, Ev.c⟩
  cases decide (o = s) <;> rfl
 have hc := g6 (n := 1) (js := [4]) (fi := lH (aC 2)) (tg := aI 0) (ft := bG (aH (eqE true) (aC 0) (aC 1))) (fe := gG K c) (en := [A, some (.p (.list (ps.map ptD))), some (.p (.list (S.map frD))), some (.o (.list acc)), some (.p (frD s)), r5, r6, r7, r8]) (ds := S.map frD) rfl (by rw [List.length_map]; omega) hm
 have b := aCz K c (os := oth S s) (ps := ps) (by omega) (by omega) (fun o ho => ok.b o (mem_oth.mp ho).1) hp
 unfold gQ
 rw [n5 (i := 3) (ds := acc) (d := bD S ps s) rfl (.inr (by
  ktr_call 3 ⟨aP, aB, aL, hc, aC, Res.bind, Ev.c, dE, cG, iS, b, jC⟩
  rfl)) (by omega)]
 rfl
theorem aJ1 (K : PySem.W.Frag) (c : Cls) {S : List (Int × Int)} {ps : List Pt} (ok : OkS S) (hl : ps.length + 1 = S.length) (hp : ∀ p ∈ ps, PtG p) (A r5 r6 r7 r8 : Option L) : ∀ (xs : List (Int × Int)) (acc : List D) (r4 : Option L), (∀ x ∈ xs, x ∈ S) -> acc.length + xs.length <= 1000 -> ∃ q4, e9 (aI 4) (gQ K c) (xs.map frD) [A, some (.p (.list (ps.map ptD))), some (.p (.list (S.map frD))), some (.o (.list acc)), r4, r5, r6, r7, r8] = some (.nx [A, some (.p (.list (ps.map ptD))), some (.p (.list (S.map frD))), some (.o (.list (acc ++ xs.map (bD S ps)))), q4, r5, r6, r7, r8])
 | [], acc, r4, _, _ => ⟨r4, by show _ = some (Out.nx [_, _, _, some (.o (.list (acc ++ []))), _, _, _, _, _]); rw [List.append_nil]; rfl⟩
 | x :: xs, acc, r4, hx, hn => by
  rw [List.length_cons] at hn
  have hb := aNt K c ok hl hp (hx x (.head _)) A (acc := acc) (by omega) r5 r6 r7 r8
  obtain ⟨q4, ih⟩ := aJ1 K c ok hl hp A r5 r6 r7 r8 xs (acc ++ [bD S ps x]) (some (.p (frD x))) (fun y hy => hx y (.tail _ hy)) (by rw [List.length_append]; simp; omega)
  refine ⟨q4, ?_⟩
  rw [List.map_cons, jI rfl hb]
  rw [List.append_assoc] at ih
  exact ih
theorem aNb (K : PySem.W.Frag) (c : Cls) {S : List (Int × Int)} {ps : List Pt} (ok : OkS S) (hl : ps.length + 1 = S.length) (hp : ∀ p ∈ ps, PtG p) (A P a4 : Option L) : ∀ (xs pre : List (Int × Int)) (r8 : Option L), pre ++ xs = S -> ∃ q8, e9 (aI 8) (gP K c) (rgD pre.length xs.length) [A, P, some (.p (.list (S.map frD))), some (.p (.list (S.map (bD S ps)))), a4, some (.p (frD (bS S ps (S.headD (0, 0))))), some (.o (.list (pre.map (rF S ps)))), some (.o (.list ((pre.filter fun s => decide (1 < bK (tabS (oth S s) ps))).map frD))), r8] = some (.nx [A, P, some (.p (.list (S.map frD))), some (.p (.list (S.map (bD S ps)))), a4, some (.p (frD (bS S ps (S.headD (0, 0))))), some (.o (.list (S.map (rF S ps)))), some (.o (.list ((rO S ps).map frD))), q8])
 | [], pre, r8, e => ⟨r8, by rw [List.append_nil] at e; rw [e]; rfl⟩
 | x :: xs, pre, r8, e => by
  have h6 := ok.m
  have pl : pre.length + (xs.length + 1) = S.length := by rw [<- e, List.length_append, List.length_cons]
  have hk : pre.length < S.length := by omega
  have hx : S.getD pre.length (0, 0) = x := by
   rw [<- e]
   simp
  have xS : x ∈ S := by rw [<- e]; simp
  have i1 := aNh frD hk (0, 0)
  have i2 := aNh (bD S ps) hk (0, 0)
  rw [hx] at i1 i2
  have j0 : ixE (.p (frD x)) (.p (.int 0)) = .ok (.p (.int x.1)) := rfl
  have j1 : ixE (.p (frD x)) (.p (.int 1)) = .ok (.p (.int x.2)) := rfl
  have k0 : ixE (.p (bD S ps x)) (.p (.int 0)) = .ok (.p (frD (bS S ps x))) := rfl
  have k1 : ixE (.p (bD S ps x)) (.p (.int 1)) = .ok (.p (.int (bK (tabS (oth S x) ps) : Nat))) := rfl
  have th := rX ok hl hp
  have g1 := (lY ok hl hp xS).1
  have g2 := (lY ok hl hp (t8 (0, 0) th.z)).1
  generalize hf : bS S ps (S.headD (0, 0)) = f at g2
  have g3 : Good 345 (-f.1, f.2) := ⟨g2.1, by have := g2.2.1; unfold Sz at this ⊢; rw [Int.natAbs_neg]; exact this, g2.2.2⟩
  have ls := u3 K c g1 g3 (by decide) (by decide)
  rw [aK8] at ls
  have f0 : ixE (.p (frD f)) (.p (.int 0)) = .ok (.p (.int f.1)) := rfl
  have f1 : ixE (.p (frD f)) (.p (.int 1)) = .ok (.p (.int f.2)) := rfl
  have ls : cH K c [.p (frD (bS S ps x)), .p (.tuple [.int (-f.1), .int f.2])] = .ok (.p (frD (hM (bS S ps x) f))) := ls
  have ea : (aF bV (aB (aH ixE (aH ixE (aC 2) (aC 8)) (mC (.int 0))) (aB (aH ixE (aH ixE (aC 2) (aC 8)) (mC (.int 1))) (aB (aP 2 (cH K c) (aB (aH ixE (aH ixE (aC 3) (aC 8)) (mC (.int 0))) (aB (aF bV (aB (mUn xP (aH ixE (aC 5) (mC (.int 0)))) (aB (aH ixE (aC 5) (mC (.int 1))) aL))) aL))) aL)))) [A, P, some (.p (.list (S.map frD))), some (.p (.list (S.map (bD S ps)))), a4, some (.p (frD f)), some (.o (.list (pre.map (rF S ps)))), some (.o (.list ((pre.filter fun s => decide (1 < bK (tabS (oth S s) ps))).map frD))), some (.p (.int (pre.length : Int)))] = .ok (.p (rF S ps x)) := by
   unfold rF
   rw [hf]
   ktr_call 3 ⟨aH, mUn, aC, mC, aP, aF, bV, hX, aB, aL, dE, cG, iS, jC, xP, Res.bind, Ev.c, i1, i2, j0, j1, k0, f0, f1, ls⟩
   rfl
  have t : ∀ Z : Option L, bG (aH gtE (aH ixE (aH ixE (aC 3) (aC 8)) (mC (.int 1))) (mC (.int 1))) [A, P, some (.p (.list (S.map frD))), some (.p (.list (S.map (bD S ps)))), a4, some (.p (frD f)), Z, some (.o (.list ((pre.filter fun s => decide (1 < bK (tabS (oth S s) ps))).map frD))), some (.p (.int (pre.length : Int)))] = .ok (decide (1 < bK (tabS (oth S x) ps))) := fun Z => by
   have e : decide ((1 : Int) < (bK (tabS (oth S x) ps) : Nat)) = decide (1 < bK (tabS (oth S x) ps)) := by
    by_cases z : 1 < bK (tabS (oth S x) ps)
    ·rw [decide_eq_true z, decide_eq_true (by omega)]
    ·rw [decide_eq_false z, decide_eq_false (by omega)]
   ktr_call 3 ⟨bG, aH, aC, mC, Res.bind, Ev.c, i2, k1, fQ, bT⟩
   rw [<- e]
  have fl : (pre.filter fun s => decide (1 < bK (tabS (oth S s) ps))).length <= pre.length := List.length_filter_le _ _
  have hb : gP K c [A, P, some (.p (.list (S.map frD))), some (.p (.list (S.map (bD S ps)))), a4, some (.p (frD f)), some (.o (.list (pre.map (rF S ps)))), some (.o (.list ((pre.filter fun s => decide (1 < bK (tabS (oth S s) ps))).map frD))), some (.p (.int (pre.length : Int)))] = some (.nx [A, P, some (.p (.list (S.map frD))), some (.p (.list (S.map (bD S ps)))), a4, some (.p (frD f)), some (.o (.list ((pre ++ [x]).map (rF S ps)))), some (.o (.list (((pre ++ [x]).filter fun s => decide (1 < bK (tabS (oth S s) ps))).map frD))), some (.p (.int (pre.length : Int)))]) := by
   unfold gP
   refine (aO (n5 (i := 6) (ds := pre.map (rF S ps)) rfl (.inr ea) (by rw [List.length_map]; omega))).trans ?_
   simp only [List.set_cons_succ, List.set_cons_zero]
   have tx := t (some (.o (.list (pre.map (rF S ps) ++ [rF S ps x]))))
   rw [List.map_append, List.filter_append]
   by_cases z : 1 < bK (tabS (oth S x) ps)
   ·rw [decide_eq_true z] at tx
    refine (vR tx).trans ?_
    rw [n5 (i := 7) (d := frD x) (ds := (pre.filter fun s => decide (1 < bK (tabS (oth S s) ps))).map frD) rfl (.inr (by ktr_call 3 ⟨aH, aC, Res.bind, Ev.c, i1⟩)) (by rw [List.length_map]; omega), List.filter_cons, if_pos (decide_eq_true z), List.map_append]
    rfl
   ·rw [decide_eq_false z] at tx
    refine (oW tx).trans ?_
    rw [List.filter_cons, if_neg (by rw [decide_eq_false z]; decide), List.filter_nil, List.append_nil]
    rfl
  obtain ⟨q8, ih⟩ := aNb K c ok hl hp A P a4 xs (pre ++ [x]) (some (.p (.int (pre.length : Int)))) (by rw [List.append_assoc]; exact e)
  rw [List.length_append, List.length_singleton, hf] at ih
  exact ⟨q8, by rw [List.length_cons, vQ, jI rfl hb]; exact ih⟩
theorem aK2 (K : PySem.W.Frag) (c : Cls) {S0 : List (Int × Int)} {ps : List Pt} (ok0 : OkS S0) (hl0 : ps.length + 1 = S0.length) (hp : ∀ p ∈ ps, PtG p) : dY K c [.p (.list (S0.map frD)), .p (.list (ps.map ptD))] = .ok (.p (thD (srt S0) ps)) := by
 have ok := aBs ok0
 have hl : ps.length + 1 = (srt S0).length := by rw [(mZ S0).length_eq]; exact hl0
 have h6 := ok0.m
 have hso := sU (S := S0) (by omega) (e := .p (.list (S0.map frD))) rfl
 have th := rX ok hl hp
 unfold dY
 refine cJ ?_
 rw [show bE 9 [.p (.list (S0.map frD)), .p (.list (ps.map ptD))] = [some (.p (.list (S0.map frD))), some (.p (.list (ps.map ptD))), none, none, none, none, none, none, none] from rfl]
 have h6' := ok.m
 generalize srt S0 = S at *
 unfold kA
 have e1 : (aF iK (aB (aC 0) aL)) [some (.p (.list (S0.map frD))), some (.p (.list (ps.map ptD))), none, none, none, none, none, none, none] = .ok (.f (.list (S.map frD))) := by
  ktr_call 3 ⟨aF, aB, aL, aC, Res.bind, Ev.c, hso⟩
 refine (aO (fW e1)).trans ((aO (fW (d := .list []) rfl)).trans ?_)
 simp only [List.set_cons_succ, List.set_cons_zero, frz, List.getElem?_cons_succ, List.getElem?_cons_zero]
 obtain ⟨q4, l1⟩ := aJ1 K c ok hl hp (some (.p (.list (S0.map frD)))) none none none none S [] none (fun x hx => hx) (by rw [List.length_nil]; omega)
 rw [List.nil_append] at l1
 refine (aO ((kE (ds := S.map frD) rfl).trans l1)).trans ?_
 simp only [List.set_cons_succ, List.set_cons_zero, frz, List.getElem?_cons_succ, List.getElem?_cons_zero]
 have i0 : ixE (.p (.list (S.map (bD S ps)))) (.p (.int 0)) = .ok (.p (bD S ps (S.headD (0, 0)))) := by
  have z := th.z
  have : ∀ f : (Int × Int) -> D, ixE (.p (.list (S.map f))) (.p (.int 0)) = .ok (.p (f (S.headD (0, 0)))) := fun f => by
   cases S with
   | nil => exact absurd rfl z
   | cons x r => simp only [List.map_cons, ixE, hV, at0, List.headD_cons]
  exact this (bD S ps)
 have k0 : ∀ s, ixE (.p (bD S ps s)) (.p (.int 0)) = .ok (.p (frD (bS S ps s))) := fun _ => rfl
 have e5 : (aH ixE (aH ixE (aC 3) (mC (.int 0))) (mC (.int 0))) [some (.p (.list (S0.map frD))), some (.p (.list (ps.map ptD))), some (.p (.list (S.map frD))), some (.p (.list (S.map (bD S ps)))), q4, none, none, none, none] = .ok (.p (frD (bS S ps (S.headD (0, 0))))) := by
  ktr_call 3 ⟨aH, aC, mC, Res.bind, Ev.c, i0, k0⟩
 refine (aO (eL e5)).trans ((aO (fW (d := .list []) rfl)).trans ((aO (fW (d := .list []) rfl)).trans ?_))
 simp only [List.set_cons_succ, List.set_cons_zero]
 have hit : (k7 iR (aB (aF eM (aB (aC 2) aL)) aL)) [some (.p (.list (S0.map frD))), some (.p (.list (ps.map ptD))), some (.p (.list (S.map frD))), some (.p (.list (S.map (bD S ps)))), q4, some (.p (frD (bS S ps (S.headD (0, 0))))), some (.o (.list [])), some (.o (.list [])), none] = .ok ((cols S.length).map .int) := by
  rw [<- lG]
  exact aKf (a := .int (S.length : Int)) (by ktr_call 3 ⟨aF, aB, aL, aC, Res.bind, Ev.c, x9⟩) (lJ S.length (by omega))
 rw [aAj] at hit
 obtain ⟨q8, l2⟩ := aNb K c ok hl hp (some (.p (.list (S0.map frD)))) (some (.p (.list (ps.map ptD)))) q4 S [] none rfl
 refine (aO ((kE hit).trans l2)).trans ?_
 simp only [frz, List.set_cons_succ, List.set_cons_zero, List.getElem?_cons_succ, List.getElem?_cons_zero]
 refine g9 ?_
 ktr_call 3 ⟨aF, aB, aL, aC, Res.bind, Ev.c, bV, hX⟩
 unfold thD oF
 rw [List.map_map]
 rfl
theorem aB3 {i : Nat} {f : MS} {en e1 : En} {o : Option Out} (h : frz i en = e1) (k : f e1 = o) : f (frz i en) = o := by rw [h]; exact k
theorem sh2 {x y : D} (a1 : PyData.canLay0 x = true) (a2 : PyData.canLay0 y = true) (b1 : PyData.depth x <= 11) (b2 : PyData.depth y <= 11) : SeqAt.shaped (.tuple [x, y]) = true := by
 unfold SeqAt.shaped
 rw [Bool.and_eq_true, decide_eq_true_iff]
 constructor
 ·simp [PyData.canLay0, PyData.canLayAll0, a1, a2]
 ·simp [PyData.depth, PyData.depthAll]
  omega
theorem aD1 {α : Type} {f : α -> D} (h : ∀ a, PyData.canLay0 (f a) = true) (k : ∀ a, PyData.depth (f a) <= 10) (xs : List α) : PyData.canLay0 (.list (xs.map f)) = true /\ PyData.depth (.list (xs.map f)) <= 11 := by
 refine ⟨by rw [PyData.canLay0]; exact vD f h xs, ?_⟩
 rw [PyData.depth]
 have := tY f 10 k xs
 omega
theorem aJn (p : Pt) : PyData.canLay0 (ptD p) = true := by simp [ptD, frD, PyData.canLay0, PyData.canLayAll0]
theorem aH5 (p : Pt) : PyData.depth (ptD p) <= 10 := by simp [ptD, frD, PyData.depth, PyData.depthAll]
theorem aIe (S : List (Int × Int)) (ps : List Pt) : SeqAt.shaped (thD S ps) = true := by
 obtain ⟨a1, b1⟩ := aD1 aH6 (fun p => Nat.le_succ_of_le (aJf p)) (oF S ps)
 obtain ⟨a2, b2⟩ := aD1 yX (fun p => Nat.le_succ_of_le (zJ p)) (rO S ps)
 exact sh2 a1 a2 b1 b2
theorem nU {α : Type} {f : α -> D} (h : ∀ a, lfD (f a) = true) : ∀ xs : List α, lfA (xs.map f) = true
 | [] => rfl
 | x :: xs => by
  rw [List.map_cons]
  unfold lfA
  rw [h x, nU h xs]
  rfl
theorem aHa (S : List (Int × Int)) : srt S.reverse = srt S := by
 unfold srt
 congr 1
 exact kZ ((gT _).trans ((List.reverse_perm S).map toL |>.trans (gT _).symm)) (iE _) (iE _)
noncomputable def lQ (K : PySem.W.Frag) (c : Cls) : En -> Res Ev := (aF bV (aB (aF bV (aB (aH xX (aH mK (aP 2 (a8 K c) (aB (aH iF (aH ixE (aC 1) (aC 0)) (aC 0)) (aB (mC (.int 71)) aL))) (mC (.int 7))) (mC (.int 3))) (aB (mC (.int 1)) aL))) (aB (aF bV (aB (aH xX (aH mK (aP 2 (a8 K c) (aB (aH iF (aH ixE (aC 1) (aC 0)) (aC 0)) (aB (mC (.int 72)) aL))) (mC (.int 7))) (mC (.int 3))) (aB (mC (.int 1)) aL))) aL)))
noncomputable def lI (K : PySem.W.Frag) (c : Cls) : En -> Res Ev := (aP 2 (aS K c) (aB (aC 1) (aB (aH iF (mC (.int 8)) (aC 0)) aL)))
noncomputable def aCb (K : PySem.W.Frag) (c : Cls) : MS := (b8 (cX 1 (aP 1 (aZ K c) (aB (aC 0) aL))) (fun en => (b8 (cX 2 (gO 1 [0] (k7 iR (aB (aH xX (aF eM (aB (aC 1) aL)) (mC (.int 1))) aL)) (aI 0) iO (lI K c))) (fun en => (b8 (cX 3 (aP 1 (bU K c) (aB (aC 2) aL))) (b8 (kF (bG (aH (eqE false) (aF eM (aB (aC 1) aL)) (mC (.int 6)))) (cX 3 (gO 1 [2] (k7 iR (aB (mC (.int 5)) aL)) (aI 0) iO (lQ K c))) fB) (fun en => (b8 (cX 4 (aP 2 (dY K c) (aB (aC 1) (aB (aC 3) aL)))) (aIj 5 6 2 (fS K c) (aF listE (aB (aC 1) aL)) (aF listE (aB (aC 3) aL)) (aB (aH ixE (aC 5) (mC (.int 0))) (aB (aH ixE (aC 5) (mC (.int 1))) aL)) (mOr (jT (bG (mUn (oN K (.type "tuple")) (aC 6)))) (mOr (bG (aH (eqE true) (aF eM (aB (aC 6) aL)) (mC (.int 2)))) (mOr (bG (aH (eqE true) (aC 6) (aC 4))) (jT (bG (aP 1 (cD K c) (aB (aH ixE (aC 6) (mC (.int 0))) aL))))))) (mOr (jT (bG (mUn (oN K (.type "list")) (aH ixE (aC 6) (mC (.int 1)))))) (bG (aH (eqE true) (aC 5) (aF bV (aB (aC 1) (aB (aC 3) aL)))))) (aF bV (aB (mC (.int 0)) (aB (mC (.int 0)) aL))) (fP (aH (eqE false) (aP 2 (fS K c) (aB (aH ixE (aC 5) (mC (.int 0))) (aB (aH ixE (aC 5) (mC (.int 1))) aL))) (aC 4))))) (frz 3 en)))) (frz 2 en))) (frz 1 en)))
noncomputable def aBx (K : PySem.W.Frag) (c : Cls) (ls : List L) : Res L := eO 7 (aCb K c) ls
theorem aIn (K : PySem.W.Frag) (c : Cls) : ∀ ls, aBx K c ls = .bad \/ eO 7 (aCb K c) ls = aBx K c ls := fun _ => .inr rfl
theorem aDe (K : PySem.W.Frag) (c : Cls) (ns : List Int) {S : List (Int × Int)} (ok : OkS S) : ∃ cs : List Int, cs.length + 1 = S.length /\ (gO 1 [0] (k7 iR (aB (aH xX (aF eM (aB (aC 1) aL)) (mC (.int 1))) aL)) (aI 0) iO (lI K c)) [some (.p (.list (ns.map .int))), some (.p (.list (S.map frD))), none, none, none, none, none] = .ok (.f (.list (cs.map .int))) := by
 have h2 := ok.l
 have h6 := ok.m
 obtain ⟨n, hn⟩ : ∃ n : Nat, n + 1 = S.length := ⟨S.length - 1, by omega⟩
 have e : ((S.length : Nat) : Int) - 1 = (n : Int) := by omega
 have hit : (k7 iR (aB (aH xX (aF eM (aB (aC 1) aL)) (mC (.int 1))) aL)) [some (.p (.list (ns.map .int))), some (.p (.list (S.map frD))), none, none, none, none, none] = .ok ((cols n).map .int) := by
  rw [<- lG]
  exact aKf (a := .int (n : Int)) (by ktr_call 3 ⟨aF, aB, aL, aH, aC, mC, Res.bind, Ev.c, x9, fQ, e⟩) (lJ n (by omega))
 have hm : lR (aQ 1 [0] (aI 0) iO (lI K c) [some (.p (.list (ns.map .int))), some (.p (.list (S.map frD))), none, none, none, none, none]) ((cols n).map .int) = some ((cols n).map fun k => .int (ns.getD (8 + k.toNat) 0)) := by
  refine fN _ fun k hk => ?_
  have k0 := cols_mem.mp hk
  have hc := vA K c ns (8 + k.toNat)
  rw [show ((8 + k.toNat : Nat) : Int) = 8 + k by omega] at hc
  have he : lI K c [some (.p (.int k)), some (.p (.list (ns.map .int)))] = .ok (.p (.int (ns.getD (8 + k.toNat) 0))) := by
   ktr_call 3 ⟨lI, aP, aB, aL, aH, aC, mC, iF, fQ, Res.bind, Ev.c, dE, cG, iS, hc, jC⟩
  unfold aQ
  ktr_call 3 ⟨aI, qW, vE, iO, List.replicate, List.cons_append, List.nil_append, he, Ev.c⟩
 have hc := g6 (n := 1) (js := [0]) hit (by rw [List.length_map, eD]; omega) hm
 refine ⟨(cols n).map fun k => ns.getD (8 + k.toNat) 0, by rw [List.length_map, eD]; exact hn, ?_⟩
 rw [List.map_map]
 exact hc
theorem aDh (K : PySem.W.Frag) (c : Cls) (ns : List Int) {S : List (Int × Int)} (ok : OkS S) {cs : List Int} (hc : cs.length + 1 = S.length) : ∃ ps : List Pt, ps.length + 1 = S.length /\ (∀ p ∈ ps, PtN p) /\ ∀ g : MS, (b8 (cX 3 (aP 1 (bU K c) (aB (aC 2) aL))) (b8 (kF (bG (aH (eqE false) (aF eM (aB (aC 1) aL)) (mC (.int 6)))) (cX 3 (gO 1 [2] (k7 iR (aB (mC (.int 5)) aL)) (aI 0) iO (lQ K c))) fB) g)) [some (.p (.list (ns.map .int))), some (.p (.list (S.map frD))), some (.p (.list (cs.map .int))), none, none, none, none] = g [some (.p (.list (ns.map .int))), some (.p (.list (S.map frD))), some (.p (.list (cs.map .int))), some (.o (.list (ps.map ptD))), none, none, none] := by
 have h6 := ok.m
 obtain ⟨qs, q1, q2, q3⟩ := aA8 K c cs (by omega)
 have e3 : (aP 1 (bU K c) (aB (aC 2) aL)) [some (.p (.list (ns.map .int))), some (.p (.list (S.map frD))), some (.p (.list (cs.map .int))), none, none, none, none] = .ok (.f (.list (qs.map ptD))) := by
  ktr_call 3 ⟨aP, aB, aL, aC, Res.bind, Ev.c, dE, cG, iS, q3, jC⟩
 have t : (bG (aH (eqE false) (aF eM (aB (aC 1) aL)) (mC (.int 6)))) [some (.p (.list (ns.map .int))), some (.p (.list (S.map frD))), some (.p (.list (cs.map .int))), some (.o (.list (qs.map ptD))), none, none, none] = .ok (decide ((S.length : Int) = 6)) := by
  have := aFu (S.length : Int) 6
  ktr_call 3 ⟨bG, aH, aC, mC, aF, aB, aL, Res.bind, Ev.c, x9, this, bT⟩
  rfl
 by_cases z : (S.length : Int) = 6
 ·rw [decide_eq_true z] at t
  have c5 : cs.length = 5 := by omega
  have hit : (k7 iR (aB (mC (.int 5)) aL)) [some (.p (.list (ns.map .int))), some (.p (.list (S.map frD))), some (.p (.list (cs.map .int))), some (.o (.list (qs.map ptD))), none, none, none] = .ok ((cols 5).map .int) := by
   rw [<- lG]
   exact aKf (a := .int 5) rfl (lJ 5 (by omega))
  obtain ⟨ps, h1, h2, h3⟩ := qG (enc := ptD) (P := PtN) (g := aQ 1 [2] (aI 0) iO (lQ K c) [some (.p (.list (ns.map .int))), some (.p (.list (S.map frD))), some (.p (.list (cs.map .int))), some (.o (.list (qs.map ptD))), none, none, none]) ((cols 5).map .int) (fun d hd => by
   obtain ⟨k, hk, rfl⟩ := List.mem_map.mp hd
   have k0 := cols_mem.mp hk
   have ix := tZ (r := cs) (x := k) (by omega) (by omega)
   obtain ⟨v1, a1, b1, e1⟩ := lK K c (cs.getD k.toNat 0 + k) (k := 71) (by decide) (by decide)
   obtain ⟨v2, a2, b2, e2⟩ := lK K c (cs.getD k.toNat 0 + k) (k := 72) (by decide) (by decide)
   have d7 : (7 : Int) ≠ 0 := by decide
   have f1 := dM (a := v1) (b := 7) (by decide)
   have f2 := dM (a := v2) (b := 7) (by decide)
   have ix : ixE (.p (.list (cs.map .int))) (.p (.int k)) = .ok (.p (.int (cs.getD k.toNat 0))) := ix
   refine ⟨((v1.fmod 7 - 3, 1), (v2.fmod 7 - 3, 1)), ⟨yZ (by unfold Sz; omega), yZ (by unfold Sz; omega)⟩, ?_⟩
   have he : lQ K c [some (.p (.int k)), some (.p (.list (cs.map .int)))] = .ok (.p (ptD ((v1.fmod 7 - 3, 1), (v2.fmod 7 - 3, 1)))) := by
    unfold lQ
    ktr_call 13 ⟨aH, aC, mC, aP, aF, bV, hX, aB, aL, dE, cG, iS, jC, iF, xX, fQ, mI, Res.bind, Ev.c, ix, e1, e2⟩
    rfl
   unfold aQ
   ktr_call 3 ⟨aI, qW, vE, iO, List.replicate, List.cons_append, List.nil_append, he, Ev.c⟩)
  have hcc := g6 (n := 1) (js := [2]) hit (by rw [List.length_map, eD]; omega) h3
  rw [List.length_map, eD] at h1
  refine ⟨ps, by omega, h2, fun g => ?_⟩
  refine (aO (fW e3)).trans ?_
  simp only [List.set_cons_succ, List.set_cons_zero]
  exact (aO ((vR t).trans (fW hcc))).trans rfl
 ·rw [decide_eq_false z] at t
  refine ⟨qs, by omega, q2, fun g => ?_⟩
  refine (aO (fW e3)).trans ?_
  simp only [List.set_cons_succ, List.set_cons_zero]
  exact (aO (oW t)).trans rfl
theorem aJh (K : PySem.W.Frag) (c : Cls) (hk : iX K c) (ns : List Int) (hn : ns.length <= 63) : aBx K c [.p (.list (ns.map .int))] = .ok (.p (.bool true)) := by
 obtain ⟨S, ok, hS⟩ := aDv K c ns
 obtain ⟨cs, hcs, hce⟩ := aDe K c ns ok
 obtain ⟨ps, hl, hp2, hst⟩ := aDh K c ns ok hcs
 have h6 := ok.m
 have pg : ∀ p ∈ ps, PtG p := fun p hp => (hp2 p hp).g
 have ok' := aBs ok
 have hl' : ps.length + 1 = (srt S).length := by rw [(mZ S).length_eq]; exact hl
 have rg := zL ok' hl' pg
 have th1 := mB K c ok hl pg
 have okr : OkS S.reverse := ⟨by rw [List.length_reverse]; exact ok.l, by rw [List.length_reverse]; exact ok.m, (List.reverse_perm S).nodup_iff.mpr ok.n, fun s hs => ok.b s (List.mem_reverse.mp hs)⟩
 have th2 := mB K c (ps := ps) okr (by rw [List.length_reverse]; exact hl) pg
 rw [aHa] at th2
 have du := aK2 K c ok hl pg
 have isr := aLg K c (ps := oF (srt S) ps) (fun q hq => ⟨(rg q hq).2.2, (rg q hq).2.1.2.2.mono (by decide)⟩)
 have i0 : ixE (.p (thD (srt S) ps)) (.p (.int 0)) = .ok (.p (.list ((oF (srt S) ps).map plD))) := rfl
 have i1 : ixE (.p (thD (srt S) ps)) (.p (.int 1)) = .ok (.p (.list ((rO (srt S) ps).map frD))) := rfl
 have zl : ((rO (srt S) ps).map frD).length <= 100000 := by
  rw [List.length_map]
  have : (rO (srt S) ps).length <= (srt S).length := List.length_filter_le _ _
  omega
 show eO 7 (aCb K c) [.p (.list (ns.map .int))] = _
 refine cJ ?_
 rw [show bE 7 [.p (.list (ns.map .int))] = [some (.p (.list (ns.map .int))), none, none, none, none, none, none] from rfl]
 unfold aCb
 have e0 : (aP 1 (aZ K c) (aB (aC 0) aL)) [some (.p (.list (ns.map .int))), none, none, none, none, none, none] = .ok (.f (.list (S.map frD))) := by
  ktr_call 3 ⟨aP, aB, aL, aC, Res.bind, Ev.c, dE, cG, iS, hS, jC⟩
 refine (aO (fW e0)).trans ?_
 simp only [List.set_cons_succ, List.set_cons_zero]
 refine aB3 (i := 1) (e1 := [some (.p (.list (ns.map .int))), some (.p (.list (S.map frD))), none, none, none, none, none]) rfl ?_
 refine (aO (fW hce)).trans ?_
 simp only [List.set_cons_succ, List.set_cons_zero]
 refine aB3 (i := 2) (e1 := [some (.p (.list (ns.map .int))), some (.p (.list (S.map frD))), some (.p (.list (cs.map .int))), none, none, none, none]) rfl ?_
 refine (hst _).trans ?_
 refine aB3 (i := 3) (e1 := [some (.p (.list (ns.map .int))), some (.p (.list (S.map frD))), some (.p (.list (cs.map .int))), some (.p (.list (ps.map ptD))), none, none, none]) rfl ?_
 have e4 : (aP 2 (dY K c) (aB (aC 1) (aB (aC 3) aL))) [some (.p (.list (ns.map .int))), some (.p (.list (S.map frD))), some (.p (.list (cs.map .int))), some (.p (.list (ps.map ptD))), none, none, none] = .ok (.p (thD (srt S) ps)) := by
  ktr_call 3 ⟨aP, aB, aL, aC, Res.bind, Ev.c, dE, cG, iS, du, jC⟩
 refine (aO (eL e4)).trans ?_
 simp only [List.set_cons_succ, List.set_cons_zero]
 have t1 : (mOr (jT (bG (mUn (oN K (.type "tuple")) (aC 6)))) (mOr (bG (aH (eqE true) (aF eM (aB (aC 6) aL)) (mC (.int 2)))) (mOr (bG (aH (eqE true) (aC 6) (aC 4))) (jT (bG (aP 1 (cD K c) (aB (aH ixE (aC 6) (mC (.int 0))) aL))))))) [some (.p (.list (ns.map .int))), some (.p (.list (S.map frD))), some (.p (.list (cs.map .int))), some (.p (.list (ps.map ptD))), some (.p (thD (srt S) ps)), some (.p (.tuple [.list (S.map frD), .list (ps.map ptD)])), some (.p (thD (srt S) ps))] = .ok false := by
  have ty : tyD (thD (srt S) ps) = "tuple" := rfl
  have ln : eM [.p (thD (srt S) ps)] = .ok (.p (.int 2)) := rfl
  have l3 : eqE true (.p (.int 2)) (.p (.int 2)) = .ok (.p (.bool false)) := i4 rfl rfl (iD 2) true
  have eq : eqE true (.p (thD (srt S) ps)) (.p (thD (srt S) ps)) = .ok (.p (.bool false)) := i4 rfl rfl (aIe _ _) true
  ktr_call 3 ⟨mOr, jT, bG, aH, mUn, aC, mC, aP, aF, aB, aL, dE, cG, iS, jC, Res.bind, Ev.c, oN, dat, ty, hk.tt, bT, ln, l3, eq, i0, isr, Bool.not_true⟩
 have t2 : (mOr (jT (bG (mUn (oN K (.type "list")) (aH ixE (aC 6) (mC (.int 1)))))) (bG (aH (eqE true) (aC 5) (aF bV (aB (aC 1) (aB (aC 3) aL)))))) [some (.p (.list (ns.map .int))), some (.p (.list (S.map frD))), some (.p (.list (cs.map .int))), some (.p (.list (ps.map ptD))), some (.p (thD (srt S) ps)), some (.p (.tuple [.list (S.map frD), .list (ps.map ptD)])), some (.p (thD (srt S) ps))] = .ok false := by
  have ty : tyD (PyData.list ((rO (srt S) ps).map frD)) = "list" := rfl
  obtain ⟨a1, b1⟩ := aD1 yX (fun p => Nat.le_succ_of_le (zJ p)) S
  obtain ⟨a2, b2⟩ := aD1 aJn aH5 ps
  have eq : eqE true (.p (.tuple [.list (S.map frD), .list (ps.map ptD)])) (.p (.tuple [.list (S.map frD), .list (ps.map ptD)])) = .ok (.p (.bool false)) := i4 rfl rfl (sh2 a1 a2 b1 b2) true
  ktr_call 3 ⟨mOr, jT, bG, aH, mUn, aC, mC, aF, bV, hX, aB, aL, Res.bind, Ev.c, oN, dat, ty, hk.ll, bT, i1, eq, Bool.not_true⟩
  try rfl
 refine (aKe (S := S.map frD) (P := ps.map ptD) rfl rfl ⟨nU (fun _ => rfl) S, nU (fun _ => rfl) ps, ⟨[.p (.list (S.map frD)), .p (.list (ps.map ptD))], [.p (.list (S.map frD)), .p (.list (ps.map ptD))], _, _, rfl, rfl, rfl, th1, zl, t1, t2⟩, ⟨_, rfl⟩⟩).trans ?_
 rw [<- List.map_reverse]
 simp only [List.set_cons_succ, List.set_cons_zero]
 refine g9 ?_
 have j0 : ixE (.p (.tuple [.list (S.reverse.map frD), .list (ps.map ptD)])) (.p (.int 0)) = .ok (.p (.list (S.reverse.map frD))) := rfl
 have j1 : ixE (.p (.tuple [.list (S.reverse.map frD), .list (ps.map ptD)])) (.p (.int 1)) = .ok (.p (.list (ps.map ptD))) := rfl
 have eq : eqE false (.p (thD (srt S) ps)) (.p (thD (srt S) ps)) = .ok (.p (.bool true)) := i4 rfl rfl (aIe _ _) false
 ktr_call 3 ⟨aH, aP, aB, aL, aC, mC, dE, cG, iS, jC, Res.bind, Ev.c, j0, j1, th2, eq⟩
section
variable {P : Program} {w : World} {K : PySem.W.Frag} {mg : Str -> Option Value} {base : Heap}
theorem aDx : aX ["a", "b"] ["a", "b"] (aN qQ) := ⟨rfl, rfl, rfl, by decide +kernel, rfl, by decide +kernel, by decide +kernel⟩
theorem aDl {c : Cls} (Df : Def K mg "minus" ["a", "b"] qQ) (B : Blt mg) (C : j8 mg c) (O : j5 mg base c) (hk : iX K c) (c_fraction : Cal P w K mg base 2 "fraction" 2 (cF K c)) : Cal P w K mg base 3 "minus" 2 (jQ K c) := by
 refine kW (k := 2) Df aDx rfl (fun f cdv A outer s H E hr => ⟨vB K c, ?_, aC3 K c⟩)
 exact (aK (bM (aJ c_fraction hr cI (aA (aT l7 mF bQ (aT b7 dH aM (aR (dv 0) aD (fun _ _ => rfl)) (aR (dv 1) aD (fun _ _ => rfl))) (aT b7 dH aM (aR (dv 1) aD (fun _ _ => rfl)) (aR (dv 0) aD (fun _ _ => rfl)))) (aA (aT b7 dH aM (aR (dv 0) aD (fun _ _ => rfl)) (aR (dv 1) aD (fun _ _ => rfl))) aE)))))
theorem aC2 : aX ["a", "b"] ["a", "b"] (aN qI) := ⟨rfl, rfl, rfl, by decide +kernel, rfl, by decide +kernel, by decide +kernel⟩
theorem aDw {c : Cls} (Df : Def K mg "times" ["a", "b"] qI) (B : Blt mg) (C : j8 mg c) (O : j5 mg base c) (hk : iX K c) (c_fraction : Cal P w K mg base 2 "fraction" 2 (cF K c)) : Cal P w K mg base 3 "times" 2 (g8 K c) := by
 refine kW (k := 2) Df aC2 rfl (fun f cdv A outer s H E hr => ⟨u6 K c, ?_, aC4 K c⟩)
 exact (aK (bM (aJ c_fraction hr cI (aA (aT b7 dH aM (aR (dv 0) aD (fun _ _ => rfl)) (aR (dv 1) aD (fun _ _ => rfl))) (aA (aT b7 dH aM (aR (dv 0) aD (fun _ _ => rfl)) (aR (dv 1) aD (fun _ _ => rfl))) aE)))))
theorem uU : aX ["rows", "dealing"] ["rows", "dealing"] (aN j3) := ⟨rfl, rfl, rfl, by decide +kernel, rfl, by decide +kernel, by decide +kernel⟩
theorem tM {c : Cls} (Df : Def K mg "worth_of" ["rows", "dealing"] j3) (B : Blt mg) (C : j8 mg c) (O : j5 mg base c) (hk : iX K c) : Cal P w K mg base 1 "worth_of" 2 (fH K c) := by
 refine kW (k := 0) Df uU rfl (fun f cdv A outer s H E hr => ⟨lU K c, ?_, uA K c⟩)
 exact (aK (bM (bJ (zQ rfl rfl) aKv aF6 rfl B.sum_ aLh (aA (iZ (xs := ["row", "column"]) (ys := []) (js := []) (cl := []) rfl (aAe rfl B.zip_ (aA (dv 0) (aA (dv 1) aE))) (lM (ys := []) (js := []) rfl (fun _ h => nomatch h) bL (by decide +kernel) (by decide +kernel)) bL (by decide +kernel) rfl (by decide +kernel) rfl (by decide) (fun C s₀ H₀ ex pn => (sN (n := 2) rfl (fJ (bB (i := 0) (show (["row", "column"] : List Str).Nodup by decide +kernel) rfl (Or.inl rfl)) (fJ (bB (i := 1) (show (["row", "column"] : List Str).Nodup by decide +kernel) rfl (Or.inl rfl)) nL)))) (fun C s₀ H₀ ex pn => gY) (fun C s₀ H₀ ex pn => (aR (dv 0) (dv 1) (fun _ _ => rfl)))) aE))))
theorem sc_law : aX ["_law_script", "_law_slopes_here", "_law_cells", "_law_points_here", "_law_due_here", "_law_handed", "_law_found"] ["_law_script"] (aN rN) := ⟨rfl, rfl, rfl, by decide +kernel, rfl, by decide +kernel, by decide +kernel⟩
theorem aJ9 {c : Cls} {f : Addr} {fd : FuncData} (F : Fun K "law" "law" rN f fd) (B : Blt mg) (C : j8 mg c) (O : j5 mg base c) (hk : iX K c) (c_through : CalF P w K mg base 6 "through" 2 (fS K c)) (c__law_is_roof : Cal P w K mg base 3 "_law_is_roof" 1 (cD K c)) (c__law_due : Cal P w K mg base 5 "_law_due" 2 (dY K c)) (c__law_mix : Cal P w K mg base 1 "_law_mix" 2 (a8 K c)) (c__law_points : Cal P w K mg base 3 "_law_points" 1 (bU K c)) (c__law_cell_at : Cal P w K mg base 1 "_law_cell_at" 2 (aS K c)) (c__law_drawn_slopes : Cal P w K mg base 3 "_law_drawn_slopes" 1 (aZ K c)) : FnOk P w K mg base (CXr P w) 7 f fd ["_law_script"] (spM K 1 (aBx K c)) := by
 refine fnM (k := 6) F sc_law rfl (fun cdv A outer s H E hr => ⟨aCb K c, ?_, aIn K c⟩)
 exact (aG (aW (i := 1) sc_law.nd rfl (Or.inl rfl) (aJ c__law_drawn_slopes hr cI (aA (dv 0) aE))) (eQ 1 (aG (aW (i := 2) sc_law.nd rfl (Or.inr rfl) (iZ (xs := ["_law_k"]) (ys := ["_law_script"]) (js := [0]) (cl := [("_law_script", s.heap.objs.size + 1)]) rfl (fU rfl B.range_ (aA (aT l7 mF bQ (bJ a9 fZ d0 rfl B.len_ PySem.boot_len (aA (dv 1) aE)) aD) aE)) (lM (ys := ["_law_script"]) (js := [0]) rfl (List.forall_mem_cons.mpr ⟨rfl, (fun _ h => nomatch h)⟩) (bF ⟨rfl, .inl rfl, .inl rfl, rfl, rfl⟩ bL) (by decide +kernel) (by decide +kernel)) (bF ⟨rfl, .inl rfl, .inl rfl, rfl, rfl⟩ bL) (by decide +kernel) rfl (by decide +kernel) rfl (by decide) (fun C s₀ H₀ ex pn => (bB (i := 0) (show (["_law_k", "_law_script"] : List Str).Nodup by decide +kernel) rfl (Or.inl rfl))) (fun C s₀ H₀ ex pn => gY) (fun C s₀ H₀ ex pn => (aJ c__law_cell_at hr mL (aA (dv 1) (aA (aT b9 dP cA aD (dv 0)) aE)))))) (eQ 2 (aG (aW (i := 3) sc_law.nd rfl (Or.inl rfl) (aJ c__law_points hr cI (aA (dv 2) aE))) (aG (iV (cT (oJ (u64 hr)) jJ fD (bJ a9 fZ d0 rfl B.len_ PySem.boot_len (aA (dv 1) aE)) aD (cU _)) (aK (nZ (i := 3) sc_law.nd rfl (Or.inl rfl) (xs := ["_law_k"]) (ys := ["_law_cells"]) (js := [2]) (cl := [("_law_cells", s.heap.objs.size + 1 + 1)]) rfl (fU rfl B.range_ (aA aD aE)) (lM (ys := ["_law_cells"]) (js := [2]) rfl (List.forall_mem_cons.mpr ⟨rfl, (fun _ h => nomatch h)⟩) (bF ⟨rfl, .inl rfl, .inl rfl, rfl, rfl⟩ bL) (by decide +kernel) (by decide +kernel)) (bF ⟨rfl, .inl rfl, .inl rfl, rfl, rfl⟩ bL) (by decide +kernel) rfl (by decide +kernel) rfl (by decide) (fun C s₀ H₀ ex pn => (bB (i := 0) (show (["_law_k", "_law_cells"] : List Str).Nodup by decide +kernel) rfl (Or.inl rfl))) (fun C s₀ H₀ ex pn => gY) (fun C s₀ H₀ ex pn => (cW (aA (cW (aA (aT l7 mF bQ (aT dX fO aM (aJ c__law_mix hr mL (aA (aT b9 dP cA (aR (dv 1) (dv 0) (fun _ _ => rfl)) (dv 0)) (aA aD aE))) aD) aD) (aA aD aE))) (aA (cW (aA (aT l7 mF bQ (aT dX fO aM (aJ c__law_mix hr mL (aA (aT b9 dP cA (aR (dv 1) (dv 0) (fun _ _ => rfl)) (dv 0)) (aA aD aE))) aD) aD) (aA aD aE))) aE)))))) cV) (eQ 3 (aG (aW (i := 4) sc_law.nd rfl (Or.inl rfl) (aJ c__law_due hr cI (aA (dv 1) (aA (dv 3) aE)))) (aGm (ih := 5) (jf := 6) (by decide) sc_law.nd rfl (Or.inl rfl) rfl (Or.inl rfl) (sP mH aB2 xH rfl B.list_ q0 (aA (dv 1) aE)) (sP mH aB2 xH rfl B.list_ q0 (aA (dv 3) aE)) c_through hr cI (aA (aR (dv 5) aD (fun _ _ => rfl)) (aA (aR (dv 5) aD (fun _ _ => rfl)) aE)) (DW.t (mP (jM (jE (nW (cv := .type "tuple") rfl B.isinstance_ (.inl ⟨_, rfl⟩) rfl (dv 6) (kS (v := .ty "tuple") rfl B.tuple_ qH rfl)))) (mP (cT (jU (u64 hr)) jJ fD (bJ a9 fZ d0 rfl B.len_ PySem.boot_len (aA (dv 6) aE)) aD (cU _)) (mP (cT (jU (u64 hr)) jJ fD (dv 6) (dv 4) (cU _)) (nG (jM (jE (aJ c__law_is_roof hr cI (aA (aR (dv 6) aD (fun _ _ => rfl)) aE))))))))) (aK (bM tU)) (DW.t (mP (jM (jE (nW (cv := .type "list") rfl B.isinstance_ (.inl ⟨_, rfl⟩) rfl (aR (dv 6) aD (fun _ _ => rfl)) (kS (v := .ty "list") rfl B.list_ q0 rfl)))) (nG (cT (jU (u64 hr)) jJ fD (dv 5) (cW (aA (dv 1) (aA (dv 3) aE))) (cU _))))) (aK (bM tU)) (eP (aEe PySem.F.plainAttrs_list PySem.F.slot_list_clear PySem.F.type_list_clear aCn (aEd aLk (pv 6) wV (fun _ _ => rfl)))) (cW (aA aD (aA aD aE))) (fun t q => eP (mR PySem.F.plainAttrs_list PySem.F.slot_list_append PySem.F.type_list_append eS (aEd aLk (pv 6) wV (fun _ _ => rfl)) (dG q fY))) (eP (aEe PySem.F.plainAttrs_list PySem.F.slot_list_reverse PySem.F.type_list_reverse xK (aEd aLk (pv 5) wV (fun _ _ => rfl)))) (aK (bM (v7 (oJ (u64 hr)) jJ fD (aJ c_through.cal hr cI (aA (aR (dv 5) aD (fun _ _ => rfl)) (aA (aR (dv 5) aD (fun _ _ => rfl)) aE))) (dv 4) (cU _)))))))))))))
end
section
variable {P : Program} {w : World} {K : PySem.W.Frag} {mg : Str -> Option Value} {base : Heap}
theorem sc_greatest_divisor : aX ["a", "b", "larger", "smaller", "rest"] ["a", "b"] (aN dQ) := ⟨rfl, rfl, rfl, by decide +kernel, rfl, by decide +kernel, by decide +kernel⟩
theorem kO {c : Cls} (Df : Def K mg "greatest_divisor" ["a", "b"] dQ) (B : Blt mg) (C : j8 mg c) (O : j5 mg base c) (hk : iX K c) : Cal P w K mg base 1 "greatest_divisor" 2 (aV K c) := by
 refine kW (k := 0) Df sc_greatest_divisor rfl (fun f cdv A outer s H E hr => ⟨iH K c, ?_, kU K c⟩)
 exact (aG (aW (i := 2) sc_greatest_divisor.nd rfl (Or.inl rfl) (bJ mY vU qA rfl B.abs_ vZ (aA (dv 0) aE))) (aG (aW (i := 3) sc_greatest_divisor.nd rfl (Or.inl rfl) (bJ mY vU qA rfl B.abs_ vZ (aA (dv 1) aE))) (aG (wD PassesOwn.leaving (cT (jU (u64 hr)) jJ fD (dv 3) aD (cU _)) (aG (aW (i := 4) sc_greatest_divisor.nd rfl (Or.inl rfl) (aT dX fO aM (dv 2) (dv 3))) (aG (aW (i := 2) sc_greatest_divisor.nd rfl (Or.inl rfl) (dv 3)) (aK (aW (i := 3) sc_greatest_divisor.nd rfl (Or.inl rfl) (dv 4)))))) (aK (bM (dv 2))))))
theorem aDo : aX ["number", "factor"] ["number", "factor"] (aN qP) := ⟨rfl, rfl, rfl, by decide +kernel, rfl, by decide +kernel, by decide +kernel⟩
theorem aDq {c : Cls} (Df : Def K mg "whole" ["number", "factor"] qP) (B : Blt mg) (C : j8 mg c) (O : j5 mg base c) (hk : iX K c) : Cal P w K mg base 1 "whole" 2 (kN K c) := by
 refine kW (k := 0) Df aDo rfl (fun f cdv A outer s H E hr => ⟨uL K c, ?_, aD7 K c⟩)
 exact (aK (bM (aT b7 dH aM (aR (dv 0) aD (fun _ _ => rfl)) (aT j7 lT aM (dv 1) (aR (dv 0) aD (fun _ _ => rfl))))))
theorem sc_whole_rows : aX ["table", "factor", "rows", "row"] ["table", "factor"] (aN iA) := ⟨rfl, rfl, rfl, by decide +kernel, rfl, by decide +kernel, by decide +kernel⟩
theorem p9 {c : Cls} (Df : Def K mg "whole_rows" ["table", "factor"] iA) (B : Blt mg) (C : j8 mg c) (O : j5 mg base c) (hk : iX K c) (c_whole : Cal P w K mg base 1 "whole" 2 (kN K c)) : Cal P w K mg base 2 "whole_rows" 2 (cY K c) := by
 refine kW (k := 1) Df sc_whole_rows rfl (fun f cdv A outer s H E hr => ⟨jN K c, ?_, qR K c⟩)
 exact (aG (aW (i := 2) sc_whole_rows.nd rfl (Or.inl rfl) (gA aE)) (aG (gB PassesOwn.leaving rfl (dI (dv 0)) (bB (i := 3) sc_whole_rows.nd rfl (Or.inl rfl)) (aK (fT (i := 2) (iZ (xs := ["number"]) (ys := ["factor"]) (js := [1]) (cl := [("factor", s.heap.objs.size + 1)]) rfl (dI (dv 3)) (lM (ys := ["factor"]) (js := [1]) rfl (List.forall_mem_cons.mpr ⟨rfl, (fun _ h => nomatch h)⟩) (bF ⟨rfl, .inl rfl, .inl rfl, rfl, rfl⟩ bL) (by decide +kernel) (by decide +kernel)) (bF ⟨rfl, .inl rfl, .inl rfl, rfl, rfl⟩ bL) (by decide +kernel) rfl (by decide +kernel) rfl (by decide) (fun C s₀ H₀ ex pn => (bB (i := 0) (show (["number", "factor"] : List Str).Nodup by decide +kernel) rfl (Or.inl rfl))) (fun C s₀ H₀ ex pn => gY) (fun C s₀ H₀ ex pn => (aJ c_whole hr mL (aA (dv 0) (aA (dv 1) aE))))) (fun t q => eP (mR PySem.F.plainAttrs_list PySem.F.slot_list_append PySem.F.type_list_append eS (pv 2) (dG q fY)))))) (aK (bM (dv 2)))))
theorem sc_through : aX ["slopes", "points", "in_order", "told", "least", "roof"] ["slopes", "points"] (aN lA) := ⟨rfl, rfl, rfl, by decide +kernel, rfl, by decide +kernel, by decide +kernel⟩
theorem xT {c : Cls} (Df : Def K mg "through" ["slopes", "points"] lA) (B : Blt mg) (C : j8 mg c) (O : j5 mg base c) (hk : iX K c) (c_minus : Cal P w K mg base 3 "minus" 2 (jQ K c)) (c_best : Cal P w K mg base 3 "best" 1 (oI K c)) (c_table_without : Cal P w K mg base 5 "table_without" 3 (cK K c)) (c_check_numbers : Cal P w K mg base 1 "check_numbers" 2 (bY K c)) : CalF P w K mg base 6 "through" 2 (fS K c) := by
 refine aNz (k := 5) Df sc_through rfl (fun f cdv A outer s H E hr => ⟨nB K c, ?_, xY K c⟩)
 exact (lC (aG9 (aJ c_check_numbers hr cI (aA (dv 0) (aA (dv 1) aE)))) aFw (lC (aW (i := 2) sc_through.nd rfl (Or.inr rfl) (bJ (SRT.pP rfl) sI pR rfl B.sorted_ rW (aA (dv 0) aE))) vT (yN 2 (lC (nZ (i := 3) sc_through.nd rfl (Or.inl rfl) (xs := ["slope"]) (ys := ["in_order", "points"]) (js := [2, 1]) (cl := [("points", s.heap.objs.size + 1), ("in_order", s.heap.objs.size + 1 + 1)]) rfl (dI (dv 2)) (lM (ys := ["in_order", "points"]) (js := [2, 1]) rfl (List.forall_mem_cons.mpr ⟨rfl, (List.forall_mem_cons.mpr ⟨rfl, (fun _ h => nomatch h)⟩)⟩) (bF ⟨rfl, .inl rfl, .inl rfl, rfl, rfl⟩ (bF ⟨rfl, .inl rfl, .inl rfl, rfl, rfl⟩ bL)) (by decide +kernel) (by decide +kernel)) (bF ⟨rfl, .inl rfl, .inl rfl, rfl, rfl⟩ (bF ⟨rfl, .inl rfl, .inl rfl, rfl, rfl⟩ bL)) (by decide +kernel) rfl (by decide +kernel) rfl (by decide) (fun C s₀ H₀ ex pn => (bB (i := 0) (show (["slope", "in_order", "points"] : List Str).Nodup by decide +kernel) rfl (Or.inl rfl))) (fun C s₀ H₀ ex pn => gY) (fun C s₀ H₀ ex pn => (aJ c_best hr mL (aA (aJ c_table_without hr mL (aA (dv 0) (aA (dv 1) (aA (dv 2) aE)))) aE)))) vT (yN 3 (lC (aW (i := 4) sc_through.nd rfl (Or.inr rfl) (aR (aR (dv 3) aD (fun _ _ => rfl)) aD (fun _ _ => rfl))) vT (lC (nZ (i := 5) sc_through.nd rfl (Or.inl rfl) (xs := ["slope", "row"]) (ys := ["least"]) (js := [4]) (cl := [("least", s.heap.objs.size + 1 + 1 + 1)]) rfl (aAe rfl B.zip_ (aA (dv 2) (aA (dv 3) aE))) (lM (ys := ["least"]) (js := [4]) rfl (List.forall_mem_cons.mpr ⟨rfl, (fun _ h => nomatch h)⟩) (bF ⟨rfl, .inl rfl, .inl rfl, rfl, rfl⟩ bL) (by decide +kernel) (by decide +kernel)) (bF ⟨rfl, .inl rfl, .inl rfl, rfl, rfl⟩ bL) (by decide +kernel) rfl (by decide +kernel) rfl (by decide) (fun C s₀ H₀ ex pn => (sN (n := 2) rfl (fJ (bB (i := 0) (show (["slope", "row", "least"] : List Str).Nodup by decide +kernel) rfl (Or.inl rfl)) (fJ (bB (i := 1) (show (["slope", "row", "least"] : List Str).Nodup by decide +kernel) rfl (Or.inl rfl)) nL)))) (fun C s₀ H₀ ex pn => gY) (fun C s₀ H₀ ex pn => (cW (aA (aR (dv 0) aD (fun _ _ => rfl)) (aA (aR (dv 0) aD (fun _ _ => rfl)) (aA (aJ c_minus hr mL (aA (aR (dv 1) aD (fun _ _ => rfl)) (aA (dv 2) aE))) aE)))))) vT (aD8 (i := 5) (iZ (xs := ["slope", "row"]) (ys := []) (js := []) (cl := []) rfl (aAe rfl B.zip_ (aA (dv 2) (aA (dv 3) aE))) (lM (ys := []) (js := []) rfl (fun _ h => nomatch h) bL (by decide +kernel) (by decide +kernel)) bL (by decide +kernel) rfl (by decide +kernel) rfl (by decide) (fun C s₀ H₀ ex pn => (sN (n := 2) rfl (fJ (bB (i := 0) (show (["slope", "row"] : List Str).Nodup by decide +kernel) rfl (Or.inl rfl)) (fJ (bB (i := 1) (show (["slope", "row"] : List Str).Nodup by decide +kernel) rfl (Or.inl rfl)) nL)))) (fun C s₀ H₀ ex pn => (pX (cT aD2 kL bQ (aR (dv 1) aD (fun _ _ => rfl)) aD (cU _)))) (fun C s₀ H₀ ex pn => (dv 0)))))))))))
theorem sc__law_mix : aX ["_law_cell", "_law_k", "_law_blend"] ["_law_cell", "_law_k"] (aN jY) := ⟨rfl, rfl, rfl, by decide +kernel, rfl, by decide +kernel, by decide +kernel⟩
theorem uD {c : Cls} (Df : Def K mg "_law_mix" ["_law_cell", "_law_k"] jY) (B : Blt mg) (C : j8 mg c) (O : j5 mg base c) (hk : iX K c) : Cal P w K mg base 1 "_law_mix" 2 (a8 K c) := by
 refine kW (k := 0) Df sc__law_mix rfl (fun f cdv A outer s H E hr => ⟨j6 K c, ?_, vH K c⟩)
 exact (aG (aW (i := 2) sc__law_mix.nd rfl (Or.inl rfl) (aT b9 dP cA (aT b9 dP cA (aT b7 dH aM (aT dX fO aM (dv 0) (aT zA yY aM aD aD)) (aT b9 dP cA (aT b7 dH aM aD (dv 1)) aD)) (aT b7 dH aM (aT b7 dH aM aD (dv 1)) (dv 1))) (dv 1))) (aK (bM (aT dX fO aM (aT b7 dH aM (aT dX fO aM (dv 2) aD) aD) aD))))
end
section
variable {P : Program} {w : World} {K : PySem.W.Frag} {mg : Str -> Option Value} {base : Heap}
theorem aHo : aX ["a", "b"] ["a", "b"] (aN wU) := ⟨rfl, rfl, rfl, by decide +kernel, rfl, by decide +kernel, by decide +kernel⟩
theorem aHp {c : Cls} (Df : Def K mg "plus" ["a", "b"] wU) (B : Blt mg) (C : j8 mg c) (O : j5 mg base c) (hk : iX K c) (c_fraction : Cal P w K mg base 2 "fraction" 2 (cF K c)) : Cal P w K mg base 3 "plus" 2 (lF K c) := by
 refine kW (k := 2) Df aHo rfl (fun f cdv A outer s H E hr => ⟨yO K c, ?_, aHv K c⟩)
 exact (aK (bM (aJ c_fraction hr cI (aA (aT b9 dP cA (aT b7 dH aM (aR (dv 0) aD (fun _ _ => rfl)) (aR (dv 1) aD (fun _ _ => rfl))) (aT b7 dH aM (aR (dv 1) aD (fun _ _ => rfl)) (aR (dv 0) aD (fun _ _ => rfl)))) (aA (aT b7 dH aM (aR (dv 0) aD (fun _ _ => rfl)) (aR (dv 1) aD (fun _ _ => rfl))) aE)))))
theorem sc__law_lowest : aX ["_law_top", "_law_bottom", "_law_one", "_law_other", "_law_rest"] ["_law_top", "_law_bottom"] (aN gE) := ⟨rfl, rfl, rfl, by decide +kernel, rfl, by decide +kernel, by decide +kernel⟩
theorem oV {c : Cls} (Df : Def K mg "_law_lowest" ["_law_top", "_law_bottom"] gE) (B : Blt mg) (C : j8 mg c) (O : j5 mg base c) (hk : iX K c) : Cal P w K mg base 1 "_law_lowest" 2 (bA K c) := by
 refine kW (k := 0) Df sc__law_lowest rfl (fun f cdv A outer s H E hr => ⟨i7 K c, ?_, o7 K c⟩)
 exact (aG (aW (i := 2) sc__law_lowest.nd rfl (Or.inl rfl) (bJ mY vU qA rfl B.abs_ vZ (aA (dv 0) aE))) (aG (aW (i := 3) sc__law_lowest.nd rfl (Or.inl rfl) (bJ mY vU qA rfl B.abs_ vZ (aA (dv 1) aE))) (aG (wD PassesOwn.leaving (cT (jU (u64 hr)) jJ fD (dv 3) aD (cU _)) (aG (aW (i := 4) sc__law_lowest.nd rfl (Or.inl rfl) (aT dX fO aM (dv 2) (dv 3))) (aG (aW (i := 2) sc__law_lowest.nd rfl (Or.inl rfl) (dv 3)) (aK (aW (i := 3) sc__law_lowest.nd rfl (Or.inl rfl) (dv 4)))))) (aG (iV (cT xV kL bQ (dv 1) aD (cU _)) (aK (aW (i := 2) sc__law_lowest.nd rfl (Or.inl rfl) (aBr (dv 2)))) cV) (aK (bM (cW (aA (aT j7 lT aM (dv 0) (dv 2)) (aA (aT j7 lT aM (dv 1) (dv 2)) aE)))))))))
theorem sc__law_is_roof : aX ["_law_found", "_law_plane"] ["_law_found"] (aN fM) := ⟨rfl, rfl, rfl, by decide +kernel, rfl, by decide +kernel, by decide +kernel⟩
theorem oB {c : Cls} (Df : Def K mg "_law_is_roof" ["_law_found"] fM) (B : Blt mg) (C : j8 mg c) (O : j5 mg base c) (hk : iX K c) (c__law_whole : Cal P w K mg base 1 "_law_whole" 1 (bC K c)) (c__law_is_fraction : Cal P w K mg base 2 "_law_is_fraction" 1 (bH K c)) : Cal P w K mg base 3 "_law_is_roof" 1 (cD K c) := by
 refine kW (k := 2) Df sc__law_is_roof rfl (fun f cdv A outer s H E hr => ⟨iN K c, ?_, nY K c hk⟩)
 exact (aG (iV (jM (jE (nW (cv := .type "list") rfl B.isinstance_ (.inl ⟨_, rfl⟩) rfl (dv 0) (kS (v := .ty "list") rfl B.list_ q0 rfl)))) (aK (bM tU)) cV) (aG (gB PassesOwn.leaving rfl (dI (dv 0)) (bB (i := 1) sc__law_is_roof.nd rfl (Or.inl rfl)) (aG (iV (DW.t (mP (jM (jE (nW (cv := .type "tuple") rfl B.isinstance_ (.inl ⟨_, rfl⟩) rfl (dv 1) (kS (v := .ty "tuple") rfl B.tuple_ qH rfl)))) (mP (cT (jU (u64 hr)) jJ fD (bJ a9 fZ d0 rfl B.len_ PySem.boot_len (aA (dv 1) aE)) aD (cU _)) (nG (jM (jE (aJ c__law_is_fraction hr cI (aA (aR (dv 1) aD (fun _ _ => rfl)) aE)))))))) (aK (bM tU)) cV) (aK (iV (DW.t (mP (jM (jE (aJ c__law_whole hr cI (aA (aR (dv 1) aD (fun _ _ => rfl)) aE)))) (nG (jM (jE (aJ c__law_whole hr cI (aA (aR (dv 1) aD (fun _ _ => rfl)) aE))))))) (aK (bM tU)) cV)))) (aK (bM tU))))
theorem sc__law_best : aX ["_law_others", "_law_points_here", "_law_worth_here", "_law_many", "_law_table", "_law_order", "_law_total", "_law_k"] ["_law_others", "_law_points_here"] (aN jD) := ⟨rfl, rfl, rfl, by decide +kernel, rfl, by decide +kernel, by decide +kernel⟩
theorem rY {c : Cls} (Df : Def K mg "_law_best" ["_law_others", "_law_points_here"] jD) (B : Blt mg) (C : j8 mg c) (O : j5 mg base c) (hk : iX K c) (c__law_orders : Cal P w K mg base 1 "_law_orders" 1 (cQ K c)) (c__law_before : Cal P w K mg base 1 "_law_before" 2 (bP K c)) (c__law_sum : Cal P w K mg base 2 "_law_sum" 2 (cH K c)) (c__law_worth : Cal P w K mg base 3 "_law_worth" 2 (cZ K c)) : Cal P w K mg base 4 "_law_best" 2 (dR K c) := by
 refine kW (k := 3) Df sc__law_best rfl (fun f cdv A outer s H E hr => ⟨i5 K c, ?_, sQ K c⟩)
 exact (aG (aW (i := 2) sc__law_best.nd rfl (Or.inl rfl) aIf) (aG (aW (i := 3) sc__law_best.nd rfl (Or.inl rfl) aD) (aG (aGw (i := 4) sc__law_best.nd rfl (Or.inl rfl) (xs := ["_law_point"]) (ys := ["_law_others"]) (z := "_law_point") (js := [0]) (cl := [("_law_others", s.heap.objs.size + 1)]) rfl (dI (dv 1)) (aLd (ys := ["_law_others"]) (js := [0]) rfl (List.forall_mem_cons.mpr ⟨rfl, (fun _ h => nomatch h)⟩) (bF ⟨rfl, .inl rfl, .inl rfl, rfl, rfl⟩ bL) (by decide +kernel) (by decide +kernel)) (by decide +kernel) (bF ⟨rfl, .inl rfl, .inl rfl, rfl, rfl⟩ bL) ⟨[(".0", .local)], [("_law_others", .free)], rfl, by decide +kernel, by decide +kernel⟩ rfl (by decide +kernel) rfl (by decide) (fun C s₀ H₀ ex pn => (bB (i := 0) (show (["_law_point", "_law_others"] : List Str).Nodup by decide +kernel) rfl (Or.inr rfl))) (fun C s₀ H₀ ex pn => gY) (fun C s₀ H₀ ex pn => (iZ (xs := ["_law_slope"]) (ys := ["_law_point"]) (js := [0]) (cl := [("_law_point", C + 1)]) rfl (dI (dv 1)) (lM (ys := ["_law_point"]) (js := [0]) rfl (List.forall_mem_cons.mpr ⟨rfl, (fun _ h => nomatch h)⟩) (bF ⟨rfl, .inl rfl, .inl rfl, rfl, rfl⟩ bL) (by decide +kernel) (by decide +kernel)) (bF ⟨rfl, .inl rfl, .inl rfl, rfl, rfl⟩ bL) (by decide +kernel) rfl (by decide +kernel) rfl (by decide) (fun C s₀ H₀ ex pn => (bB (i := 0) (show (["_law_slope", "_law_point"] : List Str).Nodup by decide +kernel) rfl (Or.inl rfl))) (fun C s₀ H₀ ex pn => gY) (fun C s₀ H₀ ex pn => (aJ c__law_worth hr mL (aA (dv 0) (aA (dv 1) aE))))))) (eQ 4 (aG (gB PassesOwn.leaving rfl (dI (aJ c__law_orders hr cI (aA (bJ a9 fZ d0 rfl B.len_ PySem.boot_len (aA (dv 1) aE)) aE))) (bB (i := 5) sc__law_best.nd rfl (Or.inl rfl)) (aG (aW (i := 6) sc__law_best.nd rfl (Or.inl rfl) (cW (aA aD (aA aD aE)))) (aG (gB PassesOwn.leaving rfl (fU rfl B.range_ (aA (bJ a9 fZ d0 rfl B.len_ PySem.boot_len (aA (dv 1) aE)) aE)) (bB (i := 7) sc__law_best.nd rfl (Or.inl rfl)) (aK (aW (i := 6) sc__law_best.nd rfl (Or.inl rfl) (aJ c__law_sum hr cI (aA (dv 6) (aA (aR (aR (dv 4) (dv 7) (fun _ _ => rfl)) (aR (dv 5) (dv 7) (fun _ _ => rfl)) (fun _ _ => rfl)) aE)))))) (aG (iV (DW.t (mP (aIo (dv 2)) (nG (jE (aJ c__law_before hr cI (aA (dv 2) (aA (dv 6) aE))))))) (aG (aW (i := 2) sc__law_best.nd rfl (Or.inl rfl) (dv 6)) (aK (aW (i := 3) sc__law_best.nd rfl (Or.inl rfl) aD))) cV) (aK (iV (cT (oJ (u64 hr)) jJ fD (dv 6) (dv 2) (cU _)) (aK (aIh (i := 3) sc__law_best.nd rfl (Or.inl rfl) aD)) cV)))))) (aK (bM (cW (aA (dv 2) (aA (dv 3) aE))))))))))
end
section
variable {P : Program} {w : World} {K : PySem.W.Frag} {mg : Str -> Option Value} {base : Heap}
theorem sc_plane_height : aX ["plane", "point", "along_x", "along_y"] ["plane", "point"] (aN fK) := ⟨rfl, rfl, rfl, by decide +kernel, rfl, by decide +kernel, by decide +kernel⟩
theorem nK {c : Cls} (Df : Def K mg "plane_height" ["plane", "point"] fK) (B : Blt mg) (C : j8 mg c) (O : j5 mg base c) (hk : iX K c) (c_plus : Cal P w K mg base 3 "plus" 2 (lF K c)) (c_times : Cal P w K mg base 3 "times" 2 (g8 K c)) : Cal P w K mg base 4 "plane_height" 2 (cS K c) := by
 refine kW (k := 3) Df sc_plane_height rfl (fun f cdv A outer s H E hr => ⟨iJ K c, ?_, oC K c⟩)
 exact (aG (aW (i := 2) sc_plane_height.nd rfl (Or.inl rfl) (aJ c_times hr cI (aA (cW (aA (aR (dv 0) aD (fun _ _ => rfl)) (aA aD aE))) (aA (aR (dv 1) aD (fun _ _ => rfl)) aE)))) (aG (aW (i := 3) sc_plane_height.nd rfl (Or.inl rfl) (aJ c_times hr cI (aA (cW (aA (aR (dv 0) aD (fun _ _ => rfl)) (aA aD aE))) (aA (aR (dv 1) aD (fun _ _ => rfl)) aE)))) (aK (bM (aJ c_plus hr cI (aA (aJ c_plus hr cI (aA (dv 2) (aA (dv 3) aE))) (aA (aR (dv 0) aD (fun _ _ => rfl)) aE)))))))
theorem qK : aX ["_law_found"] ["_law_found"] (aN iC) := ⟨rfl, rfl, rfl, by decide +kernel, rfl, by decide +kernel, by decide +kernel⟩
theorem pY {c : Cls} (Df : Def K mg "_law_whole" ["_law_found"] iC) (B : Blt mg) (C : j8 mg c) (O : j5 mg base c) (hk : iX K c) : Cal P w K mg base 1 "_law_whole" 1 (bC K c) := by
 refine kW (k := 0) Df qK rfl (fun f cdv A outer s H E hr => ⟨jV K c, ?_, pZ K c hk⟩)
 exact (aK (bM (aE0 (nW (cv := .type "int") rfl B.isinstance_ (.inl ⟨_, rfl⟩) rfl (dv 0) (kS (v := .ty "int") rfl B.int_ aKx rfl)) (aEj (aKy (nW (cv := .type "bool") rfl B.isinstance_ (.inl ⟨_, rfl⟩) rfl (dv 0) (kS (v := .ty "bool") rfl B.bool_ aHq rfl)))))))
theorem tW : aX ["_law_a", "_law_b"] ["_law_a", "_law_b"] (aN jZ) := ⟨rfl, rfl, rfl, by decide +kernel, rfl, by decide +kernel, by decide +kernel⟩
theorem uH {c : Cls} (Df : Def K mg "_law_sum" ["_law_a", "_law_b"] jZ) (B : Blt mg) (C : j8 mg c) (O : j5 mg base c) (hk : iX K c) (c__law_lowest : Cal P w K mg base 1 "_law_lowest" 2 (bA K c)) : Cal P w K mg base 2 "_law_sum" 2 (cH K c) := by
 refine kW (k := 1) Df tW rfl (fun f cdv A outer s H E hr => ⟨l5 K c, ?_, vF K c⟩)
 exact (aK (bM (aJ c__law_lowest hr cI (aA (aT b9 dP cA (aT b7 dH aM (aR (dv 0) aD (fun _ _ => rfl)) (aR (dv 1) aD (fun _ _ => rfl))) (aT b7 dH aM (aR (dv 1) aD (fun _ _ => rfl)) (aR (dv 0) aD (fun _ _ => rfl)))) (aA (aT b7 dH aM (aR (dv 0) aD (fun _ _ => rfl)) (aR (dv 1) aD (fun _ _ => rfl))) aE)))))
theorem sc__law_slopes : aX ["_law_cells", "_law_most", "_law_found", "_law_k", "_law_number_here", "_law_cell", "_law_slope"] ["_law_cells", "_law_most"] (aN gN) := ⟨rfl, rfl, rfl, by decide +kernel, rfl, by decide +kernel, by decide +kernel⟩
theorem o9 {c : Cls} (Df : Def K mg "_law_slopes" ["_law_cells", "_law_most"] gN) (B : Blt mg) (C : j8 mg c) (O : j5 mg base c) (hk : iX K c) (c__law_mix : Cal P w K mg base 1 "_law_mix" 2 (a8 K c)) : Cal P w K mg base 2 "_law_slopes" 2 (cC K c) := by
 refine kW (k := 1) Df sc__law_slopes rfl (fun f cdv A outer s H E hr => ⟨gJ K c, ?_, pG K c⟩)
 exact (aG (aW (i := 2) sc__law_slopes.nd rfl (Or.inl rfl) (gA aE)) (aG (gB PassesOwn.leaving rfl (aBw rfl B.enumerate_ (aA (dv 0) aE)) (sN (n := 2) rfl (fJ (bB (i := 3) sc__law_slopes.nd rfl (Or.inl rfl)) (fJ (bB (i := 4) sc__law_slopes.nd rfl (Or.inl rfl)) nL))) (aG (aW (i := 5) sc__law_slopes.nd rfl (Or.inl rfl) (aT b9 dP cA (dv 4) (aT b7 dH aM aD (dv 3)))) (aG (aW (i := 6) sc__law_slopes.nd rfl (Or.inl rfl) (cW (aA (aT dX fO aM (aJ c__law_mix hr cI (aA (dv 5) (aA aD aE))) (aT b9 dP cA (dv 1) aD)) (aA (aT dX fO aM (aJ c__law_mix hr cI (aA (dv 5) (aA aD aE))) (aT b9 dP cA (dv 1) aD)) aE)))) (aK (iV (cT (zG (u65 hr)) aEx aAx (dv 6) (dv 2) (by with_unfolding_all rfl)) (aK (fT (i := 2) (dv 6) (fun t q => eP (mR PySem.F.plainAttrs_list PySem.F.slot_list_append PySem.F.type_list_append eS (pv 2) (dG q fY))))) cV))))) (aK (bM (dv 2)))))
theorem sc__law_due : aX ["_law_slopes_here", "_law_points_here", "_law_ordered", "_law_found", "_law_slope", "_law_first", "_law_roof", "_law_doubles", "_law_k"] ["_law_slopes_here", "_law_points_here"] (aN j9) := ⟨rfl, rfl, rfl, by decide +kernel, rfl, by decide +kernel, by decide +kernel⟩
theorem tX {c : Cls} (Df : Def K mg "_law_due" ["_law_slopes_here", "_law_points_here"] j9) (B : Blt mg) (C : j8 mg c) (O : j5 mg base c) (hk : iX K c) (c__law_sum : Cal P w K mg base 2 "_law_sum" 2 (cH K c)) (c__law_best : Cal P w K mg base 4 "_law_best" 2 (dR K c)) : Cal P w K mg base 5 "_law_due" 2 (dY K c) := by
 refine kW (k := 4) Df sc__law_due rfl (fun f cdv A outer s H E hr => ⟨kA K c, ?_, tQ K c⟩)
 exact (aG (aW (i := 2) sc__law_due.nd rfl (Or.inl rfl) (bJ (SRT.pP rfl) sI pR rfl B.sorted_ rW (aA (dv 0) aE))) (aG (aW (i := 3) sc__law_due.nd rfl (Or.inl rfl) (gA aE)) (eQ 2 (aG (gB PassesOwn.leaving rfl (dI (dv 2)) (bB (i := 4) sc__law_due.nd rfl (Or.inr rfl)) (aK (fT (i := 3) (aJ c__law_best hr cI (aA (iZ (xs := ["_law_other"]) (ys := ["_law_slope"]) (js := [4]) (cl := [("_law_slope", s.heap.objs.size + 1)]) rfl (dI (dv 2)) (lM (ys := ["_law_slope"]) (js := [4]) rfl (List.forall_mem_cons.mpr ⟨rfl, (fun _ h => nomatch h)⟩) (bF ⟨rfl, .inl rfl, .inl rfl, rfl, rfl⟩ bL) (by decide +kernel) (by decide +kernel)) (bF ⟨rfl, .inl rfl, .inl rfl, rfl, rfl⟩ bL) (by decide +kernel) rfl (by decide +kernel) rfl (by decide) (fun C s₀ H₀ ex pn => (bB (i := 0) (show (["_law_other", "_law_slope"] : List Str).Nodup by decide +kernel) rfl (Or.inl rfl))) (fun C s₀ H₀ ex pn => (pX (cT (jU (u64 hr)) jJ fD (dv 0) (dv 1) (cU _)))) (fun C s₀ H₀ ex pn => (dv 0))) (aA (dv 1) aE))) (fun t q => eP (mR PySem.F.plainAttrs_list PySem.F.slot_list_append PySem.F.type_list_append eS (pv 3) (dG q fY)))))) (eQ 3 (aG (aW (i := 5) sc__law_due.nd rfl (Or.inl rfl) (aR (aR (dv 3) aD (fun _ _ => rfl)) aD (fun _ _ => rfl))) (aG (aW (i := 6) sc__law_due.nd rfl (Or.inl rfl) (gA aE)) (aG (aW (i := 7) sc__law_due.nd rfl (Or.inl rfl) (gA aE)) (aG (gB PassesOwn.leaving rfl (fU rfl B.range_ (aA (bJ a9 fZ d0 rfl B.len_ PySem.boot_len (aA (dv 2) aE)) aE)) (bB (i := 8) sc__law_due.nd rfl (Or.inl rfl)) (aG (fT (i := 6) (cW (aA (aR (aR (dv 2) (dv 8) (fun _ _ => rfl)) aD (fun _ _ => rfl)) (aA (aR (aR (dv 2) (dv 8) (fun _ _ => rfl)) aD (fun _ _ => rfl)) (aA (aJ c__law_sum hr cI (aA (aR (aR (dv 3) (dv 8) (fun _ _ => rfl)) aD (fun _ _ => rfl)) (aA (cW (aA (aBr (aR (dv 5) aD (fun _ _ => rfl))) (aA (aR (dv 5) aD (fun _ _ => rfl)) aE))) aE))) aE)))) (fun t q => eP (mR PySem.F.plainAttrs_list PySem.F.slot_list_append PySem.F.type_list_append eS (pv 6) (dG q fY)))) (aK (iV (cT aD2 kL bQ (aR (aR (dv 3) (dv 8) (fun _ _ => rfl)) aD (fun _ _ => rfl)) aD (cU _)) (aK (fT (i := 7) (aR (dv 2) (dv 8) (fun _ _ => rfl)) (fun t q => eP (mR PySem.F.plainAttrs_list PySem.F.slot_list_append PySem.F.type_list_append eS (pv 7) (dG q fY))))) cV)))) (eQ (f := (fun en => (fP (aF bV (aB (aC 6) (aB (aC 7) aL)))) (frz 6 en))) 7 (eQ (f := (fP (aF bV (aB (aC 6) (aB (aC 7) aL))))) 6 (aK (bM (cW (aA (dv 6) (aA (dv 7) aE))))))))))))))))
end
section
variable {P : Program} {w : World} {K : PySem.W.Frag} {mg : Str -> Option Value} {base : Heap}
theorem sc_best : aX ["table", "numbers", "row", "factor", "rows", "dealings", "worths", "top"] ["table"] (aN wO) := ⟨rfl, rfl, rfl, by decide +kernel, rfl, by decide +kernel, by decide +kernel⟩
theorem aGd {c : Cls} (Df : Def K mg "best" ["table"] wO) (B : Blt mg) (C : j8 mg c) (O : j5 mg base c) (hk : iX K c) (c_fraction : Cal P w K mg base 2 "fraction" 2 (cF K c)) (c_worth_of : Cal P w K mg base 1 "worth_of" 2 (fH K c)) (c_dealings_of : Cal P w K mg base 1 "dealings_of" 1 (cP K c)) (c_whole_rows : Cal P w K mg base 2 "whole_rows" 2 (cY K c)) (c_common_bottom : Cal P w K mg base 2 "common_bottom" 1 (bZ K c)) : Cal P w K mg base 3 "best" 1 (oI K c) := by
 refine kW (k := 2) Df sc_best rfl (fun f cdv A outer s H E hr => ⟨yJ K c, ?_, aHt K c⟩)
 exact (aG (aW (i := 1) sc_best.nd rfl (Or.inl rfl) (gA aE)) (aG (gB PassesOwn.leaving rfl (dI (dv 0)) (bB (i := 2) sc_best.nd rfl (Or.inl rfl)) (aK (aFv (i := 1) (dv 2) (fun t q => eP (mR PySem.F.plainAttrs_list PySem.F.slot_list_extend PySem.F.type_list_extend aF8 (pv 1) (dG q fY)))))) (aG (aW (i := 3) sc_best.nd rfl (Or.inl rfl) (aJ c_common_bottom hr cI (aA (dv 1) aE))) (aG (aW (i := 4) sc_best.nd rfl (Or.inr rfl) (aJ c_whole_rows hr cI (aA (dv 0) (aA (dv 3) aE)))) (aG (aW (i := 5) sc_best.nd rfl (Or.inl rfl) (aJ c_dealings_of hr cI (aA (bJ a9 fZ d0 rfl B.len_ PySem.boot_len (aA (dv 4) aE)) aE))) (eQ 4 (aG (nZ (i := 6) sc_best.nd rfl (Or.inl rfl) (xs := ["dealing"]) (ys := ["rows"]) (js := [4]) (cl := [("rows", s.heap.objs.size + 1)]) rfl (dI (dv 5)) (lM (ys := ["rows"]) (js := [4]) rfl (List.forall_mem_cons.mpr ⟨rfl, (fun _ h => nomatch h)⟩) (bF ⟨rfl, .inl rfl, .inl rfl, rfl, rfl⟩ bL) (by decide +kernel) (by decide +kernel)) (bF ⟨rfl, .inl rfl, .inl rfl, rfl, rfl⟩ bL) (by decide +kernel) rfl (by decide +kernel) rfl (by decide) (fun C s₀ H₀ ex pn => (bB (i := 0) (show (["dealing", "rows"] : List Str).Nodup by decide +kernel) rfl (Or.inl rfl))) (fun C s₀ H₀ ex pn => gY) (fun C s₀ H₀ ex pn => (aJ c_worth_of hr mL (aA (dv 1) (aA (dv 0) aE))))) (aG (aW (i := 7) sc_best.nd rfl (Or.inl rfl) (bJ (yV rfl rfl) aGg aHc rfl B.max_ aIt (aA (dv 6) aE))) (aK (bM (cW (aA (aJ c_fraction hr cI (aA (dv 7) (aA (dv 3) aE))) (aA (aJ3 PySem.F.slot_list_count PySem.F.type_list_count (aC0 rfl) aDm aAw (dv 6) (dv 7)) (aA (aR (dv 5) (aJ3 PySem.F.slot_list_index PySem.F.type_list_index (aCl rfl) aCy aAa (dv 6) (dv 7)) (fun _ _ => rfl)) aE))))))))))))))
theorem mM : aX ["slopes", "points"] ["slopes", "points"] (aN eW) := ⟨rfl, rfl, rfl, by decide +kernel, rfl, by decide +kernel, by decide +kernel⟩
theorem mT {c : Cls} (Df : Def K mg "check_numbers" ["slopes", "points"] eW) (B : Blt mg) (C : j8 mg c) (O : j5 mg base c) (hk : iX K c) {t_FEWEST_SLOPES : Tok} (c_FEWEST_SLOPES : mg "FEWEST_SLOPES" = some (.int 2 t_FEWEST_SLOPES)) {t_MOST_SLOPES : Tok} (c_MOST_SLOPES : mg "MOST_SLOPES" = some (.int 6 t_MOST_SLOPES)) : Cal P w K mg base 1 "check_numbers" 2 (bY K c) := by
 refine kW (k := 0) Df mM rfl (fun f cdv A outer s H E hr => ⟨gZ K c, ?_, mW K c⟩)
 exact (aG (iV (DW.t (mP (cT xV kL bQ (bJ a9 fZ d0 rfl B.len_ PySem.boot_len (aA (dv 0) aE)) (wZ rfl c_FEWEST_SLOPES) (cU _)) (nG (cT aD2 kL bQ (bJ a9 fZ d0 rfl B.len_ PySem.boot_len (aA (dv 0) aE)) (wZ rfl c_MOST_SLOPES) (cU _))))) (aK (nA qZ rfl rfl O.NoDealing PySem.F.excBase_ValueError (aA xE aE))) cV) (aG (iV (cT (jU (u64 hr)) jJ fD (aBn rfl (u64 hr) rfl B.len_ rfl B.set_ (dv 0)) (bJ a9 fZ d0 rfl B.len_ PySem.boot_len (aA (dv 0) aE)) (cU _)) (aK (nA qZ rfl rfl O.NoDealing PySem.F.excBase_ValueError (aA xE aE))) cV) (aK (iV (cT (jU (u64 hr)) jJ fD (bJ a9 fZ d0 rfl B.len_ PySem.boot_len (aA (dv 1) aE)) (aT l7 mF bQ (bJ a9 fZ d0 rfl B.len_ PySem.boot_len (aA (dv 0) aE)) aD) (cU _)) (aK (nA qZ rfl rfl O.NoDealing PySem.F.excBase_ValueError (aA xE aE))) cV))))
theorem nR : aX ["_law_script", "_law_k"] ["_law_script", "_law_k"] (aN fI) := ⟨rfl, rfl, rfl, by decide +kernel, rfl, by decide +kernel, by decide +kernel⟩
theorem nF {c : Cls} (Df : Def K mg "_law_cell_at" ["_law_script", "_law_k"] fI) (B : Blt mg) (C : j8 mg c) (O : j5 mg base c) (hk : iX K c) : Cal P w K mg base 1 "_law_cell_at" 2 (aS K c) := by
 refine kW (k := 0) Df nR rfl (fun f cdv A outer s H E hr => ⟨iM K c, ?_, nT K c⟩)
 exact (aG (iV (cT xV kL bQ (dv 1) (bJ a9 fZ d0 rfl B.len_ PySem.boot_len (aA (dv 0) aE)) (cU _)) (aK (bM (aR (dv 0) (dv 1) (fun _ _ => rfl)))) cV) (aK (bM aD)))
theorem pB : aX ["_law_cells"] ["_law_cells"] (aN gI) := ⟨rfl, rfl, rfl, by decide +kernel, rfl, by decide +kernel, by decide +kernel⟩
theorem oP {c : Cls} (Df : Def K mg "_law_points" ["_law_cells"] gI) (B : Blt mg) (C : j8 mg c) (O : j5 mg base c) (hk : iX K c) (c__law_number : Cal P w K mg base 2 "_law_number" 2 (cB K c)) : Cal P w K mg base 3 "_law_points" 1 (bU K c) := by
 refine kW (k := 2) Df pB rfl (fun f cdv A outer s H E hr => ⟨gS K c, ?_, oT K c⟩)
 exact (aK (bM (iZ (xs := ["_law_k", "_law_cell"]) (ys := []) (js := []) (cl := []) rfl (aBw rfl B.enumerate_ (aA (dv 0) aE)) (lM (ys := []) (js := []) rfl (fun _ h => nomatch h) bL (by decide +kernel) (by decide +kernel)) bL (by decide +kernel) rfl (by decide +kernel) rfl (by decide) (fun C s₀ H₀ ex pn => (sN (n := 2) rfl (fJ (bB (i := 0) (show (["_law_k", "_law_cell"] : List Str).Nodup by decide +kernel) rfl (Or.inl rfl)) (fJ (bB (i := 1) (show (["_law_k", "_law_cell"] : List Str).Nodup by decide +kernel) rfl (Or.inl rfl)) nL)))) (fun C s₀ H₀ ex pn => gY) (fun C s₀ H₀ ex pn => (cW (aA (aJ c__law_number hr mL (aA (aT b9 dP cA (dv 1) (aT b7 dH aM aD (dv 0))) (aA aD aE))) (aA (aJ c__law_number hr mL (aA (aT b9 dP cA (dv 1) (aT b7 dH aM aD (dv 0))) (aA aD aE))) aE)))))))
theorem qU : aX ["_law_slope", "_law_point"] ["_law_slope", "_law_point"] (aN iI) := ⟨rfl, rfl, rfl, by decide +kernel, rfl, by decide +kernel, by decide +kernel⟩
theorem qT {c : Cls} (Df : Def K mg "_law_worth" ["_law_slope", "_law_point"] iI) (B : Blt mg) (C : j8 mg c) (O : j5 mg base c) (hk : iX K c) (c__law_sum : Cal P w K mg base 2 "_law_sum" 2 (cH K c)) (c__law_product : Cal P w K mg base 2 "_law_product" 2 (bN K c)) : Cal P w K mg base 3 "_law_worth" 2 (cZ K c) := by
 refine kW (k := 2) Df qU rfl (fun f cdv A outer s H E hr => ⟨iG K c, ?_, rC K c⟩)
 exact (aK (bM (aJ c__law_sum hr cI (aA (aJ c__law_product hr cI (aA (cW (aA (aR (dv 0) aD (fun _ _ => rfl)) (aA aD aE))) (aA (aR (dv 1) aD (fun _ _ => rfl)) aE))) (aA (aJ c__law_product hr cI (aA (cW (aA (aR (dv 0) aD (fun _ _ => rfl)) (aA aD aE))) (aA (aR (dv 1) aD (fun _ _ => rfl)) aE))) aE)))))
end
section
variable {P : Program} {w : World} {K : PySem.W.Frag} {mg : Str -> Option Value} {base : Heap}
theorem sc_common_bottom : aX ["numbers", "common", "number"] ["numbers"] (aN eX) := ⟨rfl, rfl, rfl, by decide +kernel, rfl, by decide +kernel, by decide +kernel⟩
theorem mU {c : Cls} (Df : Def K mg "common_bottom" ["numbers"] eX) (B : Blt mg) (C : j8 mg c) (O : j5 mg base c) (hk : iX K c) (c_greatest_divisor : Cal P w K mg base 1 "greatest_divisor" 2 (aV K c)) : Cal P w K mg base 2 "common_bottom" 1 (bZ K c) := by
 refine kW (k := 1) Df sc_common_bottom rfl (fun f cdv A outer s H E hr => ⟨jW K c, ?_, mV K c⟩)
 exact (aG (aW (i := 1) sc_common_bottom.nd rfl (Or.inl rfl) aD) (aG (gB PassesOwn.leaving rfl (dI (dv 0)) (bB (i := 2) sc_common_bottom.nd rfl (Or.inl rfl)) (aK (aW (i := 1) sc_common_bottom.nd rfl (Or.inl rfl) (aT j7 lT aM (aT b7 dH aM (dv 1) (aR (dv 2) aD (fun _ _ => rfl))) (aJ c_greatest_divisor hr cI (aA (dv 1) (aA (aR (dv 2) aD (fun _ _ => rfl)) aE))))))) (aK (bM (dv 1)))))
theorem sc_dealings_of : aX ["n", "made", "row", "longer", "start"] ["n"] (aN gC) := ⟨rfl, rfl, rfl, by decide +kernel, rfl, by decide +kernel, by decide +kernel⟩
theorem o8 {c : Cls} (Df : Def K mg "dealings_of" ["n"] gC) (B : Blt mg) (C : j8 mg c) (O : j5 mg base c) (hk : iX K c) : Cal P w K mg base 1 "dealings_of" 1 (cP K c) := by
 refine kW (k := 0) Df sc_dealings_of rfl (fun f cdv A outer s H E hr => ⟨jB K c, ?_, oZ K c⟩)
 exact (aG (aW (i := 1) sc_dealings_of.nd rfl (Or.inl rfl) (gA (aA (gA aE) aE))) (eQ 1 (aG (gB PassesOwn.leaving rfl (fU rfl B.range_ (aA (dv 0) aE)) (bB (i := 2) sc_dealings_of.nd rfl (Or.inl rfl)) (aG (aW (i := 3) sc_dealings_of.nd rfl (Or.inl rfl) (gA aE)) (aG (gB PassesOwn.leaving rfl (dI (dv 1)) (bB (i := 4) sc_dealings_of.nd rfl (Or.inr rfl)) (aK (aAq (i := 3) (iZ (xs := ["column"]) (ys := ["start"]) (js := [4]) (cl := [("start", s.heap.objs.size + 1)]) rfl (fU rfl B.range_ (aA (dv 0) aE)) (lM (ys := ["start"]) (js := [4]) rfl (List.forall_mem_cons.mpr ⟨rfl, (fun _ h => nomatch h)⟩) (bF ⟨rfl, .inl rfl, .inl rfl, rfl, rfl⟩ bL) (by decide +kernel) (by decide +kernel)) (bF ⟨rfl, .inl rfl, .inl rfl, rfl, rfl⟩ bL) (by decide +kernel) rfl (by decide +kernel) rfl (by decide) (fun C s₀ H₀ ex pn => (bB (i := 0) (show (["column", "start"] : List Str).Nodup by decide +kernel) rfl (Or.inl rfl))) (fun C s₀ H₀ ex pn => (pX (cT (aBv rfl) aIi aE2 (dv 0) (dv 1) (by with_unfolding_all rfl)))) (fun C s₀ H₀ ex pn => (aT b9 dP cA (dv 1) (gA (aA (dv 0) aE))))) (fun t q => eP (mR PySem.F.plainAttrs_list PySem.F.slot_list_extend PySem.F.type_list_extend yW (pv 3) (dG q fY)))))) (eQ 3 (aK (aW (i := 1) sc_dealings_of.nd rfl (Or.inl rfl) (dv 3))))))) (aK (bM (dv 1))))))
theorem sc_table_without : aX ["slope", "slopes", "points", "level", "table", "point"] ["slope", "slopes", "points"] (aN eR) := ⟨rfl, rfl, rfl, by decide +kernel, rfl, by decide +kernel, by decide +kernel⟩
theorem mJ {c : Cls} (Df : Def K mg "table_without" ["slope", "slopes", "points"] eR) (B : Blt mg) (C : j8 mg c) (O : j5 mg base c) (hk : iX K c) (c_plane_height : Cal P w K mg base 4 "plane_height" 2 (cS K c)) : Cal P w K mg base 5 "table_without" 3 (cK K c) := by
 refine kW (k := 4) Df sc_table_without rfl (fun f cdv A outer s H E hr => ⟨gX K c, ?_, mO K c⟩)
 exact (aG (nZ (i := 3) sc_table_without.nd rfl (Or.inl rfl) (xs := ["other"]) (ys := ["slope"]) (js := [0]) (cl := [("slope", s.heap.objs.size + 1)]) rfl (dI (dv 1)) (lM (ys := ["slope"]) (js := [0]) rfl (List.forall_mem_cons.mpr ⟨rfl, (fun _ h => nomatch h)⟩) (bF ⟨rfl, .inl rfl, .inl rfl, rfl, rfl⟩ bL) (by decide +kernel) (by decide +kernel)) (bF ⟨rfl, .inl rfl, .inl rfl, rfl, rfl⟩ bL) (by decide +kernel) rfl (by decide +kernel) rfl (by decide) (fun C s₀ H₀ ex pn => (bB (i := 0) (show (["other", "slope"] : List Str).Nodup by decide +kernel) rfl (Or.inl rfl))) (fun C s₀ H₀ ex pn => (pX (cT (jU (u64 hr)) jJ fD (dv 0) (dv 1) (cU _)))) (fun C s₀ H₀ ex pn => (cW (aA (aR (dv 0) aD (fun _ _ => rfl)) (aA (aR (dv 0) aD (fun _ _ => rfl)) (aA (cW (aA aD (aA aD aE))) aE)))))) (aG (aW (i := 4) sc_table_without.nd rfl (Or.inl rfl) (gA aE)) (eQ 3 (aG (gB PassesOwn.leaving rfl (dI (dv 2)) (bB (i := 5) sc_table_without.nd rfl (Or.inr rfl)) (aK (fT (i := 4) (iZ (xs := ["plane"]) (ys := ["point"]) (js := [5]) (cl := [("point", s.heap.objs.size + 1 + 1)]) rfl (dI (dv 3)) (lM (ys := ["point"]) (js := [5]) rfl (List.forall_mem_cons.mpr ⟨rfl, (fun _ h => nomatch h)⟩) (bF ⟨rfl, .inl rfl, .inl rfl, rfl, rfl⟩ bL) (by decide +kernel) (by decide +kernel)) (bF ⟨rfl, .inl rfl, .inl rfl, rfl, rfl⟩ bL) (by decide +kernel) rfl (by decide +kernel) rfl (by decide) (fun C s₀ H₀ ex pn => (bB (i := 0) (show (["plane", "point"] : List Str).Nodup by decide +kernel) rfl (Or.inl rfl))) (fun C s₀ H₀ ex pn => gY) (fun C s₀ H₀ ex pn => (aJ c_plane_height hr mL (aA (dv 0) (aA (dv 1) aE))))) (fun t q => eP (mR PySem.F.plainAttrs_list PySem.F.slot_list_append PySem.F.type_list_append eS (pv 4) (dG q fY)))))) (aK (bM (dv 4)))))))
theorem pC : aX ["_law_a", "_law_b"] ["_law_a", "_law_b"] (aN gM) := ⟨rfl, rfl, rfl, by decide +kernel, rfl, by decide +kernel, by decide +kernel⟩
theorem o3 {c : Cls} (Df : Def K mg "_law_before" ["_law_a", "_law_b"] gM) (B : Blt mg) (C : j8 mg c) (O : j5 mg base c) (hk : iX K c) : Cal P w K mg base 1 "_law_before" 2 (bP K c) := by
 refine kW (k := 0) Df pC rfl (fun f cdv A outer s H E hr => ⟨iY K c, ?_, oQ K c⟩)
 exact (aK (bM (v7 xV kL bQ (aT b7 dH aM (aR (dv 0) aD (fun _ _ => rfl)) (aR (dv 1) aD (fun _ _ => rfl))) (aT b7 dH aM (aR (dv 1) aD (fun _ _ => rfl)) (aR (dv 0) aD (fun _ _ => rfl))) (cU _))))
theorem kR : aX ["_law_found"] ["_law_found"] (aN dN) := ⟨rfl, rfl, rfl, by decide +kernel, rfl, by decide +kernel, by decide +kernel⟩
theorem kQ {c : Cls} (Df : Def K mg "_law_is_fraction" ["_law_found"] dN) (B : Blt mg) (C : j8 mg c) (O : j5 mg base c) (hk : iX K c) (c__law_lowest : Cal P w K mg base 1 "_law_lowest" 2 (bA K c)) (c__law_whole : Cal P w K mg base 1 "_law_whole" 1 (bC K c)) : Cal P w K mg base 2 "_law_is_fraction" 1 (bH K c) := by
 refine kW (k := 1) Df kR rfl (fun f cdv A outer s H E hr => ⟨eV K c, ?_, kP K c hk⟩)
 exact (aG (iV (DW.t (mP (jM (jE (nW (cv := .type "tuple") rfl B.isinstance_ (.inl ⟨_, rfl⟩) rfl (dv 0) (kS (v := .ty "tuple") rfl B.tuple_ qH rfl)))) (mP (cT (jU (u64 hr)) jJ fD (bJ a9 fZ d0 rfl B.len_ PySem.boot_len (aA (dv 0) aE)) aD (cU _)) (mP (jM (jE (aJ c__law_whole hr cI (aA (aR (dv 0) aD (fun _ _ => rfl)) aE)))) (nG (jM (jE (aJ c__law_whole hr cI (aA (aR (dv 0) aD (fun _ _ => rfl)) aE))))))))) (aK (bM tU)) cV) (aK (bM (aE0 (v7 aD2 kL bQ (aR (dv 0) aD (fun _ _ => rfl)) aD (cU _)) (aEj (v7 (oJ (u64 hr)) jJ fD (aJ c__law_lowest hr cI (aA (aR (dv 0) aD (fun _ _ => rfl)) (aA (aR (dv 0) aD (fun _ _ => rfl)) aE))) (dv 0) (cU _)))))))
end
section
variable {P : Program} {w : World} {K : PySem.W.Frag} {mg : Str -> Option Value} {base : Heap}
theorem sc_fraction : aX ["top", "bottom", "divisor"] ["top", "bottom"] (aN kB) := ⟨rfl, rfl, rfl, by decide +kernel, rfl, by decide +kernel, by decide +kernel⟩
theorem vI {c : Cls} (Df : Def K mg "fraction" ["top", "bottom"] kB) (B : Blt mg) (C : j8 mg c) (O : j5 mg base c) (hk : iX K c) (c_greatest_divisor : Cal P w K mg base 1 "greatest_divisor" 2 (aV K c)) : Cal P w K mg base 2 "fraction" 2 (cF K c) := by
 refine kW (k := 1) Df sc_fraction rfl (fun f cdv A outer s H E hr => ⟨gU K c, ?_, uC K c⟩)
 exact (aG (iV (cT (oJ (u64 hr)) jJ fD (dv 1) aD (cU _)) (aK (nA qZ rfl rfl O.NoFraction PySem.F.excBase_ValueError (aA xE aE))) cV) (aG (aW (i := 2) sc_fraction.nd rfl (Or.inl rfl) (aJ c_greatest_divisor hr cI (aA (dv 0) (aA (dv 1) aE)))) (aG (iV (cT xV kL bQ (dv 1) aD (cU _)) (aK (aW (i := 2) sc_fraction.nd rfl (Or.inl rfl) (aBr (dv 2)))) cV) (aK (bM (cW (aA (aT j7 lT aM (dv 0) (dv 2)) (aA (aT j7 lT aM (dv 1) (dv 2)) aE))))))))
theorem oM : aX ["_law_a", "_law_b"] ["_law_a", "_law_b"] (aN fL) := ⟨rfl, rfl, rfl, by decide +kernel, rfl, by decide +kernel, by decide +kernel⟩
theorem nC {c : Cls} (Df : Def K mg "_law_product" ["_law_a", "_law_b"] fL) (B : Blt mg) (C : j8 mg c) (O : j5 mg base c) (hk : iX K c) (c__law_lowest : Cal P w K mg base 1 "_law_lowest" 2 (bA K c)) : Cal P w K mg base 2 "_law_product" 2 (bN K c) := by
 refine kW (k := 1) Df oM rfl (fun f cdv A outer s H E hr => ⟨iL K c, ?_, nX K c⟩)
 exact (aK (bM (aJ c__law_lowest hr cI (aA (aT b7 dH aM (aR (dv 0) aD (fun _ _ => rfl)) (aR (dv 1) aD (fun _ _ => rfl))) (aA (aT b7 dH aM (aR (dv 0) aD (fun _ _ => rfl)) (aR (dv 1) aD (fun _ _ => rfl))) aE)))))
theorem sc__law_number : aX ["_law_cell", "_law_k", "_law_way"] ["_law_cell", "_law_k"] (aN gL) := ⟨rfl, rfl, rfl, by decide +kernel, rfl, by decide +kernel, by decide +kernel⟩
theorem oU {c : Cls} (Df : Def K mg "_law_number" ["_law_cell", "_law_k"] gL) (B : Blt mg) (C : j8 mg c) (O : j5 mg base c) (hk : iX K c) (c__law_mix : Cal P w K mg base 1 "_law_mix" 2 (a8 K c)) (c__law_lowest : Cal P w K mg base 1 "_law_lowest" 2 (bA K c)) : Cal P w K mg base 2 "_law_number" 2 (cB K c) := by
 refine kW (k := 1) Df sc__law_number rfl (fun f cdv A outer s H E hr => ⟨eY K c, ?_, oX K c⟩)
 exact (aG (aW (i := 2) sc__law_number.nd rfl (Or.inl rfl) (aT dX fO aM (aJ c__law_mix hr cI (aA (dv 0) (aA (dv 1) aE))) aD)) (aG (iV (cT (oJ (u64 hr)) jJ fD (dv 2) aD (cU _)) (aK (bM (aJ c__law_lowest hr cI (aA (aT l7 mF bQ (aT dX fO aM (aT b9 dP cA (aT aBq zR aM (dv 0) aD) (dv 1)) (aT b9 dP cA (aT aBq zR aM aD (aT zA yY aM aD aD)) aD)) (aT zA yY aM aD aD)) (aA (aT b9 dP cA aD (aT dX fO aM (aJ c__law_mix hr cI (aA (dv 0) (aA (aT b9 dP cA (dv 1) aD) aE))) aD)) aE))))) cV) (aG (iV (cT (oJ (u64 hr)) jJ fD (dv 2) aD (cU _)) (aK (bM (aJ c__law_lowest hr cI (aA (aT l7 mF bQ (aT dX fO aM (aJ c__law_mix hr cI (aA (dv 0) (aA (aT b9 dP cA (dv 1) aD) aE))) aD) aD) (aA (aT b9 dP cA aD (aT dX fO aM (aJ c__law_mix hr cI (aA (dv 0) (aA (aT b9 dP cA (dv 1) aD) aE))) aD)) aE))))) cV) (aK (bM (cW (aA (aT l7 mF bQ (aT dX fO aM (aJ c__law_mix hr cI (aA (dv 0) (aA (aT b9 dP cA (dv 1) aD) aE))) aD) aD) (aA aD aE))))))))
theorem sc__law_orders : aX ["_law_size", "_law_found", "_law_k", "_law_longer", "_law_order", "_law_number_here"] ["_law_size"] (aN gF) := ⟨rfl, rfl, rfl, by decide +kernel, rfl, by decide +kernel, by decide +kernel⟩
theorem o6 {c : Cls} (Df : Def K mg "_law_orders" ["_law_size"] gF) (B : Blt mg) (C : j8 mg c) (O : j5 mg base c) (hk : iX K c) : Cal P w K mg base 1 "_law_orders" 1 (cQ K c) := by
 refine kW (k := 0) Df sc__law_orders rfl (fun f cdv A outer s H E hr => ⟨i6 K c, ?_, oO K c⟩)
 exact (aG (aW (i := 1) sc__law_orders.nd rfl (Or.inl rfl) (gA (aA (gA aE) aE))) (eQ 1 (aG (gB PassesOwn.leaving rfl (fU rfl B.range_ (aA (dv 0) aE)) (bB (i := 2) sc__law_orders.nd rfl (Or.inl rfl)) (aG (aW (i := 3) sc__law_orders.nd rfl (Or.inl rfl) (gA aE)) (aG (gB PassesOwn.leaving rfl (dI (dv 1)) (bB (i := 4) sc__law_orders.nd rfl (Or.inl rfl)) (aK (gB PassesOwn.leaving rfl (fU rfl B.range_ (aA (dv 0) aE)) (bB (i := 5) sc__law_orders.nd rfl (Or.inl rfl)) (aK (iV (cT (aBv rfl) aIi aE2 (dv 5) (dv 4) (by with_unfolding_all rfl)) (aK (fT (i := 3) (aT b9 dP cA (dv 4) (gA (aA (dv 5) aE))) (fun t q => eP (mR PySem.F.plainAttrs_list PySem.F.slot_list_append PySem.F.type_list_append eS (pv 3) (dG q fY))))) cV))))) (eQ 3 (aK (aW (i := 1) sc__law_orders.nd rfl (Or.inl rfl) (dv 3))))))) (aK (bM (dv 1))))))
theorem sc__law_drawn_slopes : aX ["_law_script", "_law_most", "_law_found", "_law_slope"] ["_law_script"] (aN dC) := ⟨rfl, rfl, rfl, by decide +kernel, rfl, by decide +kernel, by decide +kernel⟩
theorem kJ {c : Cls} (Df : Def K mg "_law_drawn_slopes" ["_law_script"] dC) (B : Blt mg) (C : j8 mg c) (O : j5 mg base c) (hk : iX K c) (c__law_slopes : Cal P w K mg base 2 "_law_slopes" 2 (cC K c)) (c__law_cell_at : Cal P w K mg base 1 "_law_cell_at" 2 (aS K c)) : Cal P w K mg base 3 "_law_drawn_slopes" 1 (aZ K c) := by
 refine kW (k := 2) Df sc__law_drawn_slopes rfl (fun f cdv A outer s H E hr => ⟨dB K c, ?_, kH K c⟩)
 exact (aG (aW (i := 1) sc__law_drawn_slopes.nd rfl (Or.inl rfl) (aR (cW (aA aD (aA aD (aA aD aE)))) (aT dX fO aM (aJ c__law_cell_at hr cI (aA (dv 0) (aA aD aE))) aD) (fun _ _ => rfl))) (aG (aW (i := 2) sc__law_drawn_slopes.nd rfl (Or.inl rfl) (aJ c__law_slopes hr cI (aA (aLy (dv 0) (zC aD) (zC (aT b9 dP cA aD (aR (cW (aA aD (aA aD (aA aD (aA aD (aA aD (aA aD aE))))))) (aT dX fO aM (aJ c__law_cell_at hr cI (aA (dv 0) (aA aD aE))) aD) (fun _ _ => rfl))))) (aA (dv 1) aE)))) (aG (gB PassesOwn.leaving rfl (dI (gA (aA (cW (aA aD (aA aD aE))) (aA (cW (aA aD (aA aD aE))) aE)))) (bB (i := 3) sc__law_drawn_slopes.nd rfl (Or.inl rfl)) (aK (iV (DW.t (aKb (cT xV kL bQ (bJ a9 fZ d0 rfl B.len_ PySem.boot_len (aA (dv 2) aE)) aD (cU _)) (aF0 (cT (zG (u65 hr)) aEx aAx (dv 3) (dv 2) (by with_unfolding_all rfl))))) (aK (fT (i := 2) (dv 3) (fun t q => eP (mR PySem.F.plainAttrs_list PySem.F.slot_list_append PySem.F.type_list_append eS (pv 2) (dG q fY))))) cV))) (aK (bM (dv 2))))))
end
theorem aE9 {K : PySem.W.Frag} {h₀ : Heap} {mg : Str -> Option Value} {x : Str} {C : Addr} {bmB : List Value} {newId : String} (X : K.In h₀) (G : h₀.Ns mainGlobals mg) (e : PySem.W.nsIn K mainGlobals x = some (some (.ref C))) (q : PySem.W.excIn K C bmB newId = true) : PyProof.Rows.OwnCls x C bmB newId mg h₀ := by
 refine ⟨PySem.W.mg_of X G e, ?_⟩
 unfold PySem.W.excIn at q
 split at q
 ·rename_i d1 cd1 sl1 ho1
  split at q
  ·rename_i C1 bm1 s0 s1 s2 s3 n1 s5 hm1 hs1
   simp only [Bool.and_eq_true, beq_iff_eq, Bool.not_eq_true'] at q
   obtain ⟨⟨⟨⟨⟨rfl, rfl⟩, hdl⟩, htl⟩, hnok⟩, hini⟩ := q
   obtain ⟨c1, c2, c3, c4, c5, c6, c7, c8, c9, c10, c11⟩ := cd1
   dsimp only at hm1 hdl hnok hini
   subst hm1 hdl
   obtain ⟨sll⟩ := sl1
   simp only at hs1
   subst hs1
   exact ⟨bm1, c4, c1, c5, c2, c6, c7, c8, c9, c10, d1, s0, s1, s2, s3, s5, _, X _ _ ho1, .of_isNs (PySem.W.isNs_of_in X hnok), PySem.W.nsMap_none_of_in X hnok hini, PySem.W.tail_of_in X htl⟩
  ·cases q
 ·cases q
theorem oY {α : Type} {us : List α} (h : us.length = 1) : ∃ a, us = [a] := List.length_eq_one_iff.mp h
theorem hU {α : Type} {us : List α} (h : us.length = 2) : ∃ a b, us = [a, b] := by
 cases us with
 | nil => cases h
 | cons a r => obtain ⟨b, rfl⟩ := oY (Nat.succ.inj h); exact ⟨a, b, rfl⟩
theorem aLu {α : Type} {us : List α} (h : us.length = 3) : ∃ a b c, us = [a, b, c] := by
 cases us with
 | nil => cases h
 | cons a r => obtain ⟨b, c, rfl⟩ := hU (Nat.succ.inj h); exact ⟨a, b, c, rfl⟩
def yU (K : PySem.W.Frag) : Bool := K.all fun p => match p.2.cls with
 | .type n => !(n == "list")
 | _ => true
theorem lookup_mem {a : Addr} {o : Obj} : ∀ {l : List (Addr × Obj)}, l.lookup a = some o -> (a, o) ∈ l
 | (k, v) :: r, h => by
  unfold List.lookup at h
  split at h
  ·rename_i z
   have e : a = k := by simpa using z
   cases h
   rw [e]
   exact .head _
  ·exact .tail _ (lookup_mem h)
theorem yA {K : PySem.W.Frag} (h : yU K = true) {a : Addr} {o : Obj} (e : K.lookup a = some o) (hc : o.cls = .type "list") : False := by
 have := List.all_eq_true.mp h (a, o) (lookup_mem e)
 dsimp only at this
 rw [hc] at this
 cases this
def aEb : Sp := fun vs H Q _ => ∃ (a : Addr) (ns : List Int), vs = [.ref a] /\ Rd H a (.lst (ns.map V.int)) /\ ns.length <= 63 /\ ∀ H', Q (.bl true) H'
theorem jL {K : PySem.W.Frag} {G : Hp} : ∀ ns : List Int, Reps K G (ns.map V.int) (ns.map PyData.int)
 | [] => .nil
 | i :: r => .cons (.int i) (jL r)
theorem aKd {P : Program} {w : World} {K : PySem.W.Frag} {mg : Str -> Option Value} {base : Heap} {f : Addr} {fd : FuncData} {c : Cls} (hk : iX K c) (F : FnOk P w K mg base (CXr P w) 7 f fd ["_law_script"] (spM K 1 (aBx K c))) : FnOk P w K mg base (CXr P w) 7 f fd ["_law_script"] aEb :=
 F.imp fun vs H Q E h => by
  obtain ⟨a, ns, rfl, rd, hl, hq⟩ := h
  refine ⟨rfl, H, [.p (.list (ns.map .int))], Same.refl _, ⟨.lst rd (jL ns), trivial⟩, ?_⟩
  rw [aJh K c hk ns hl]
  intro G' H' v st r
  cases r
  exact hq H'
structure FnAt (K : PySem.W.Frag) (x : Str) (st : Stmt) (f : Addr) (m : Value) (c : Addr) : Prop where
 a : PySem.W.nsIn K mainGlobals x = some (some (.ref f))
 l : K.lookup f = some ⟨.type "function", none, .func (PySem.W.fnOf x x (jR st) (fV st) (aN st) .none .none .none m none (.ref c) .none), #[]⟩
 c : PySem.W.codeIn K (.ref c) x = true
 k : PySem.W.keepIn K (.ref f) = true
theorem FnAt.df {K : PySem.W.Frag} {h : Heap} {mg : Str -> Option Value} {x : Str} {st : Stmt} {f c : Addr} {m : Value} {ps : List Str} (A : FnAt K x st f m c) (X : K.In h) (G : h.Ns mainGlobals mg)
  (hb : ∀ (kV doc pm : Value) (an : Option Addr) (cdv ct : Value) (us : List Value), us.length = ps.length -> bindArgs (PySem.W.fnOf x x (jR st) (fV st) (aN st) .none kV doc pm an cdv ct) ⟨us, []⟩ = pure (ps.zip us)) : Def K mg x ps st :=
 have F := aFk (st := st) A.l A.c A.k
 ⟨_, _, F, F.binds hb, A.k, PySem.W.mg_of X G A.a⟩
theorem all_mk {l : PySem.W.OpenLaw} {w : World} {K : PySem.W.Frag} {h : Heap} {mg : Str -> Option Value} {fa : Addr} {f1 c1 f2 c2 f3 c3 f4 c4 f5 c5 f6 c6 f7 c7 f8 c8 f9 c9 f10 c10 f11 c11 f12 c12 f13 c13 f14 c14 f15 c15 f16 c16 f17 c17 f18 c18 f19 c19 f20 c20 f21 c21 f22 c22 f23 c23 f24 c24 f25 c25 f26 c26 f27 c27 f28 c28 f29 c29 f30 c30 f31 c31 f32 c32 f33 c33 CRoofError CNoFraction CNoDealing : Addr} {tFEWEST_SLOPES tMOST_SLOPES : Tok} (X : K.In h) (G : h.Ns mainGlobals mg) (hfa : mg "law" = some (.ref fa))
  {m1 m2 m3 m4 m5 m6 m7 m8 m9 m10 m11 m12 m13 m14 m15 m16 m17 m18 m19 m20 m21 m22 m23 m24 m25 m26 m27 m28 m29 m30 m31 m32 m33 : Value}
  (h1 : FnAt K "greatest_divisor" dQ f1 m1 c1)
  (h2 : FnAt K "fraction" kB f2 m2 c2)
  (h3 : FnAt K "plus" wU f3 m3 c3)
  (h4 : FnAt K "minus" qQ f4 m4 c4)
  (h5 : FnAt K "times" qI f5 m5 c5)
  (h6 : FnAt K "common_bottom" eX f6 m6 c6)
  (h7 : FnAt K "whole" qP f7 m7 c7)
  (h8 : FnAt K "dealings_of" gC f8 m8 c8)
  (h9 : FnAt K "whole_rows" iA f9 m9 c9)
  (h10 : FnAt K "worth_of" j3 f10 m10 c10)
  (h11 : FnAt K "best" wO f11 m11 c11)
  (h12 : FnAt K "plane_height" fK f12 m12 c12)
  (h13 : FnAt K "check_numbers" eW f13 m13 c13)
  (h14 : FnAt K "table_without" eR f14 m14 c14)
  (h15 : FnAt K "through" lA f15 m15 c15)
  (h16 : FnAt K "_law_whole" iC f16 m16 c16)
  (h17 : FnAt K "_law_cell_at" fI f17 m17 c17)
  (h18 : FnAt K "_law_mix" jY f18 m18 c18)
  (h19 : FnAt K "_law_lowest" gE f19 m19 c19)
  (h20 : FnAt K "_law_sum" jZ f20 m20 c20)
  (h21 : FnAt K "_law_product" fL f21 m21 c21)
  (h22 : FnAt K "_law_before" gM f22 m22 c22)
  (h23 : FnAt K "_law_is_fraction" dN f23 m23 c23)
  (h24 : FnAt K "_law_number" gL f24 m24 c24)
  (h25 : FnAt K "_law_orders" gF f25 m25 c25)
  (h26 : FnAt K "_law_slopes" gN f26 m26 c26)
  (h27 : FnAt K "_law_points" gI f27 m27 c27)
  (h28 : FnAt K "_law_is_roof" fM f28 m28 c28)
  (h29 : FnAt K "_law_drawn_slopes" dC f29 m29 c29)
  (h30 : FnAt K "_law_worth" iI f30 m30 c30)
  (h31 : FnAt K "_law_best" jD f31 m31 c31)
  (h32 : FnAt K "_law_due" j9 f32 m32 c32)
  (h33 : FnAt K "law" rN f33 m33 c33)
  (z0 : PySem.W.nsIn K mainGlobals "abs" = some none)
  (z1 : PySem.W.nsIn K mainGlobals "bool" = some none)
  (z2 : PySem.W.nsIn K mainGlobals "enumerate" = some none)
  (z3 : PySem.W.nsIn K mainGlobals "int" = some none)
  (z4 : PySem.W.nsIn K mainGlobals "isinstance" = some none)
  (z5 : PySem.W.nsIn K mainGlobals "len" = some none)
  (z6 : PySem.W.nsIn K mainGlobals "list" = some none)
  (z7 : PySem.W.nsIn K mainGlobals "max" = some none)
  (z8 : PySem.W.nsIn K mainGlobals "range" = some none)
  (z9 : PySem.W.nsIn K mainGlobals "set" = some none)
  (z10 : PySem.W.nsIn K mainGlobals "sorted" = some none)
  (z11 : PySem.W.nsIn K mainGlobals "sum" = some none)
  (z12 : PySem.W.nsIn K mainGlobals "tuple" = some none)
  (z13 : PySem.W.nsIn K mainGlobals "zip" = some none)
  (vFEWEST_SLOPES : PySem.W.nsIn K mainGlobals "FEWEST_SLOPES" = some (some (.int 2 tFEWEST_SLOPES)))
  (vMOST_SLOPES : PySem.W.nsIn K mainGlobals "MOST_SLOPES" = some (some (.int 6 tMOST_SLOPES)))
  (nRoofError : PySem.W.nsIn K mainGlobals "RoofError" = some (some (.ref CRoofError)))
  (nNoFraction : PySem.W.nsIn K mainGlobals "NoFraction" = some (some (.ref CNoFraction)))
  (nNoDealing : PySem.W.nsIn K mainGlobals "NoDealing" = some (some (.ref CNoDealing)))
  (eNoDealing : PySem.W.excIn K CNoDealing [.type "ValueError", .type "Exception", .type "BaseException", .type "object"] "ValueError.__new__" = true)
  (eNoFraction : PySem.W.excIn K CNoFraction [.type "ValueError", .type "Exception", .type "BaseException", .type "object"] "ValueError.__new__" = true)
  (xii : PySem.W.kitOne K (.type "int") (.type "int") = some true)
  (xib : PySem.W.kitOne K (.type "int") (.type "bool") = some false)
  (xtt : PySem.W.kitOne K (.type "tuple") (.type "tuple") = some true)
  (xll : PySem.W.kitOne K (.type "list") (.type "list") = some true)
  : ∃ fd : FuncData, (∀ (s : Shared) (v : Value), BindsTo s fd ⟨[v], []⟩ [("_law_script", v)]) /\ ∀ base : Heap, K.In base -> base.Ns mainGlobals mg -> FnOk l.prog w K mg base (CXr l.prog w) 7 fa fd ["_law_script"] aEb := by
 have e := hfa.symm.trans (PySem.W.mg_of X G h33.a)
 cases e
 have D1 := h1.df (ps := ["a", "b"]) X G (fun _ _ _ _ _ _ us hl => by obtain ⟨_, _, rfl⟩ := hU hl; rfl)
 have D2 := h2.df (ps := ["top", "bottom"]) X G (fun _ _ _ _ _ _ us hl => by obtain ⟨_, _, rfl⟩ := hU hl; rfl)
 have D3 := h3.df (ps := ["a", "b"]) X G (fun _ _ _ _ _ _ us hl => by obtain ⟨_, _, rfl⟩ := hU hl; rfl)
 have D4 := h4.df (ps := ["a", "b"]) X G (fun _ _ _ _ _ _ us hl => by obtain ⟨_, _, rfl⟩ := hU hl; rfl)
 have D5 := h5.df (ps := ["a", "b"]) X G (fun _ _ _ _ _ _ us hl => by obtain ⟨_, _, rfl⟩ := hU hl; rfl)
 have D6 := h6.df (ps := ["numbers"]) X G (fun _ _ _ _ _ _ us hl => by obtain ⟨_, rfl⟩ := oY hl; rfl)
 have D7 := h7.df (ps := ["number", "factor"]) X G (fun _ _ _ _ _ _ us hl => by obtain ⟨_, _, rfl⟩ := hU hl; rfl)
 have D8 := h8.df (ps := ["n"]) X G (fun _ _ _ _ _ _ us hl => by obtain ⟨_, rfl⟩ := oY hl; rfl)
 have D9 := h9.df (ps := ["table", "factor"]) X G (fun _ _ _ _ _ _ us hl => by obtain ⟨_, _, rfl⟩ := hU hl; rfl)
 have D10 := h10.df (ps := ["rows", "dealing"]) X G (fun _ _ _ _ _ _ us hl => by obtain ⟨_, _, rfl⟩ := hU hl; rfl)
 have D11 := h11.df (ps := ["table"]) X G (fun _ _ _ _ _ _ us hl => by obtain ⟨_, rfl⟩ := oY hl; rfl)
 have D12 := h12.df (ps := ["plane", "point"]) X G (fun _ _ _ _ _ _ us hl => by obtain ⟨_, _, rfl⟩ := hU hl; rfl)
 have D13 := h13.df (ps := ["slopes", "points"]) X G (fun _ _ _ _ _ _ us hl => by obtain ⟨_, _, rfl⟩ := hU hl; rfl)
 have D14 := h14.df (ps := ["slope", "slopes", "points"]) X G (fun _ _ _ _ _ _ us hl => by obtain ⟨_, _, _, rfl⟩ := aLu hl; rfl)
 have D15 := h15.df (ps := ["slopes", "points"]) X G (fun _ _ _ _ _ _ us hl => by obtain ⟨_, _, rfl⟩ := hU hl; rfl)
 have D16 := h16.df (ps := ["_law_found"]) X G (fun _ _ _ _ _ _ us hl => by obtain ⟨_, rfl⟩ := oY hl; rfl)
 have D17 := h17.df (ps := ["_law_script", "_law_k"]) X G (fun _ _ _ _ _ _ us hl => by obtain ⟨_, _, rfl⟩ := hU hl; rfl)
 have D18 := h18.df (ps := ["_law_cell", "_law_k"]) X G (fun _ _ _ _ _ _ us hl => by obtain ⟨_, _, rfl⟩ := hU hl; rfl)
 have D19 := h19.df (ps := ["_law_top", "_law_bottom"]) X G (fun _ _ _ _ _ _ us hl => by obtain ⟨_, _, rfl⟩ := hU hl; rfl)
 have D20 := h20.df (ps := ["_law_a", "_law_b"]) X G (fun _ _ _ _ _ _ us hl => by obtain ⟨_, _, rfl⟩ := hU hl; rfl)
 have D21 := h21.df (ps := ["_law_a", "_law_b"]) X G (fun _ _ _ _ _ _ us hl => by obtain ⟨_, _, rfl⟩ := hU hl; rfl)
 have D22 := h22.df (ps := ["_law_a", "_law_b"]) X G (fun _ _ _ _ _ _ us hl => by obtain ⟨_, _, rfl⟩ := hU hl; rfl)
 have D23 := h23.df (ps := ["_law_found"]) X G (fun _ _ _ _ _ _ us hl => by obtain ⟨_, rfl⟩ := oY hl; rfl)
 have D24 := h24.df (ps := ["_law_cell", "_law_k"]) X G (fun _ _ _ _ _ _ us hl => by obtain ⟨_, _, rfl⟩ := hU hl; rfl)
 have D25 := h25.df (ps := ["_law_size"]) X G (fun _ _ _ _ _ _ us hl => by obtain ⟨_, rfl⟩ := oY hl; rfl)
 have D26 := h26.df (ps := ["_law_cells", "_law_most"]) X G (fun _ _ _ _ _ _ us hl => by obtain ⟨_, _, rfl⟩ := hU hl; rfl)
 have D27 := h27.df (ps := ["_law_cells"]) X G (fun _ _ _ _ _ _ us hl => by obtain ⟨_, rfl⟩ := oY hl; rfl)
 have D28 := h28.df (ps := ["_law_found"]) X G (fun _ _ _ _ _ _ us hl => by obtain ⟨_, rfl⟩ := oY hl; rfl)
 have D29 := h29.df (ps := ["_law_script"]) X G (fun _ _ _ _ _ _ us hl => by obtain ⟨_, rfl⟩ := oY hl; rfl)
 have D30 := h30.df (ps := ["_law_slope", "_law_point"]) X G (fun _ _ _ _ _ _ us hl => by obtain ⟨_, _, rfl⟩ := hU hl; rfl)
 have D31 := h31.df (ps := ["_law_others", "_law_points_here"]) X G (fun _ _ _ _ _ _ us hl => by obtain ⟨_, _, rfl⟩ := hU hl; rfl)
 have D32 := h32.df (ps := ["_law_slopes_here", "_law_points_here"]) X G (fun _ _ _ _ _ _ us hl => by obtain ⟨_, _, rfl⟩ := hU hl; rfl)
 have B : Blt mg := ⟨PySem.W.mg_none_of X G z0, PySem.W.mg_none_of X G z1, PySem.W.mg_none_of X G z2, PySem.W.mg_none_of X G z3, PySem.W.mg_none_of X G z4, PySem.W.mg_none_of X G z5, PySem.W.mg_none_of X G z6, PySem.W.mg_none_of X G z7, PySem.W.mg_none_of X G z8, PySem.W.mg_none_of X G z9, PySem.W.mg_none_of X G z10, PySem.W.mg_none_of X G z11, PySem.W.mg_none_of X G z12, PySem.W.mg_none_of X G z13⟩
 let c : Cls := ⟨CRoofError, CNoFraction, CNoDealing⟩
 have C : j8 mg c := ⟨PySem.W.mg_of X G nRoofError, PySem.W.mg_of X G nNoFraction, PySem.W.mg_of X G nNoDealing⟩
 have hk : iX K c := ⟨xii, xib, xtt, xll⟩
 refine ⟨PySem.W.fnOf "law" "law" (jR rN) (fV rN) (aN rN) .none .none .none m33 none (.ref c33) .none, fun s v => .of_eq rfl, fun base kb nb => ?_⟩
 have O : j5 mg base c := ⟨aE9 kb nb nNoDealing eNoDealing, aE9 kb nb nNoFraction eNoFraction⟩
 have G1 : Cal l.prog w K mg base 1 "greatest_divisor" 2 (aV K c) := kO D1 B C O hk
 have G7 : Cal l.prog w K mg base 1 "whole" 2 (kN K c) := aDq D7 B C O hk
 have G8 : Cal l.prog w K mg base 1 "dealings_of" 1 (cP K c) := o8 D8 B C O hk
 have G10 : Cal l.prog w K mg base 1 "worth_of" 2 (fH K c) := tM D10 B C O hk
 have G13 : Cal l.prog w K mg base 1 "check_numbers" 2 (bY K c) := mT D13 B C O hk (PySem.W.mg_of X G vFEWEST_SLOPES) (PySem.W.mg_of X G vMOST_SLOPES)
 have G16 : Cal l.prog w K mg base 1 "_law_whole" 1 (bC K c) := pY D16 B C O hk
 have G17 : Cal l.prog w K mg base 1 "_law_cell_at" 2 (aS K c) := nF D17 B C O hk
 have G18 : Cal l.prog w K mg base 1 "_law_mix" 2 (a8 K c) := uD D18 B C O hk
 have G19 : Cal l.prog w K mg base 1 "_law_lowest" 2 (bA K c) := oV D19 B C O hk
 have G22 : Cal l.prog w K mg base 1 "_law_before" 2 (bP K c) := o3 D22 B C O hk
 have G25 : Cal l.prog w K mg base 1 "_law_orders" 1 (cQ K c) := o6 D25 B C O hk
 have G2 : Cal l.prog w K mg base 2 "fraction" 2 (cF K c) := vI D2 B C O hk G1
 have G6 : Cal l.prog w K mg base 2 "common_bottom" 1 (bZ K c) := mU D6 B C O hk G1
 have G9 : Cal l.prog w K mg base 2 "whole_rows" 2 (cY K c) := p9 D9 B C O hk G7
 have G20 : Cal l.prog w K mg base 2 "_law_sum" 2 (cH K c) := uH D20 B C O hk G19
 have G21 : Cal l.prog w K mg base 2 "_law_product" 2 (bN K c) := nC D21 B C O hk G19
 have G23 : Cal l.prog w K mg base 2 "_law_is_fraction" 1 (bH K c) := kQ D23 B C O hk G19 G16
 have G24 : Cal l.prog w K mg base 2 "_law_number" 2 (cB K c) := oU D24 B C O hk G18 G19
 have G26 : Cal l.prog w K mg base 2 "_law_slopes" 2 (cC K c) := o9 D26 B C O hk G18
 have G3 : Cal l.prog w K mg base 3 "plus" 2 (lF K c) := aHp D3 B C O hk G2
 have G4 : Cal l.prog w K mg base 3 "minus" 2 (jQ K c) := aDl D4 B C O hk G2
 have G5 : Cal l.prog w K mg base 3 "times" 2 (g8 K c) := aDw D5 B C O hk G2
 have G11 : Cal l.prog w K mg base 3 "best" 1 (oI K c) := aGd D11 B C O hk G2 G10 G8 G9 G6
 have G27 : Cal l.prog w K mg base 3 "_law_points" 1 (bU K c) := oP D27 B C O hk G24
 have G28 : Cal l.prog w K mg base 3 "_law_is_roof" 1 (cD K c) := oB D28 B C O hk G16 G23
 have G29 : Cal l.prog w K mg base 3 "_law_drawn_slopes" 1 (aZ K c) := kJ D29 B C O hk G26 G17
 have G30 : Cal l.prog w K mg base 3 "_law_worth" 2 (cZ K c) := qT D30 B C O hk G20 G21
 have G12 : Cal l.prog w K mg base 4 "plane_height" 2 (cS K c) := nK D12 B C O hk G3 G5
 have G31 : Cal l.prog w K mg base 4 "_law_best" 2 (dR K c) := rY D31 B C O hk G25 G22 G20 G30
 have G14 : Cal l.prog w K mg base 5 "table_without" 3 (cK K c) := mJ D14 B C O hk G12
 have G32 : Cal l.prog w K mg base 5 "_law_due" 2 (dY K c) := tX D32 B C O hk G20 G31
 have G15 : CalF l.prog w K mg base 6 "through" 2 (fS K c) := xT D15 B C O hk G4 G11 G14 G13
 exact aKd hk (aJ9 (aFk (st := rN) h33.l h33.c h33.k) B C O hk G15 G28 G32 G18 G27 G17 G29)
theorem walk {l : PySem.W.OpenLaw} {q : Program} {loose : List Str} {XP : (Str -> Option Value) -> Heap -> Prop} {YP : World -> Heap -> Prop} {d : DefRec} {K : Params -> PySem.W.Frag} (hn : l.most = some 63) (hdf : d.params.defaults = [])
  (hY : ∀ (w : World) (h : Heap), YP w h -> (K w.params).In h) (hK : ∀ w : World, yU (K w.params) = true)
  (F : ∀ (w : World) (mg : Str -> Option Value) (fa : Addr) (h : Heap), (K w.params).In h -> h.Ns mainGlobals mg -> mg d.name = some (.ref fa) ->
   ∃ fd : FuncData, (∀ (s : Shared) (u : Value), BindsTo s fd ⟨[u], []⟩ [("_law_script", u)]) /\ ∀ base : Heap, (K w.params).In base -> base.Ns mainGlobals mg -> FnOk l.prog w (K w.params) mg base (CXr l.prog w) 7 fa fd ["_law_script"] aEb) :
  PySem.W.WalkO q loose XP YP l.row.toRowW d [] (fun f vs => PySem.call f vs) :=
 L2.aFp (n := 63) (k := 7) (x := "_law_script") (CX := fun w => CXr l.prog w) (sp := fun _ => aEb) hn (by decide) hdf ⟨rfl, by decide, by decide⟩ hY F (fun w _ a ns hl _ hS => ⟨a, ns, rfl, hS.elim id (fun ⟨_, _, _, e, hc, _⟩ => (yA (hK w) e hc).elim), hl, fun _ => rfl⟩) fun _ _ _ _ _ ⟨_, _, _, _, _, _, _, z⟩ => z
end My
namespace Hd
open PySem PySem.W PyProof.Rows L2 My
abbrev pr : Program := PySem.Challenge.pw_creasecurve_k43_heights_by_dealings
noncomputable def vs (s : String) (t : Nat) : Value := .str (Str.ofString s) t
noncomputable def en (P : Params) (s : String) (t : Nat) (v : Value) : DictEntry := ⟨PyData.keyHash P (Str.ofString s), .str (Str.ofString s) t, v⟩
noncomputable def fd (n q : String) (a : Arguments) (b : FuncBody) (s : Scope) (g : Nat) (c : List (Str × Nat)) (d k dc m : Value) (an : Option Nat) (co ct : Value) (bl : Nat) : FuncData := ⟨Str.ofString n, Str.ofString q, a, b, s, g, c, d, k, dc, m, an, co, ct, bl⟩
noncomputable def pE (e : DictEntry) : Obj -> Obj
 | ⟨c, d, .dict es n, s⟩ => ⟨c, d, .dict (es.push e) (n + 1), s⟩
 | o => o
noncomputable def rE (i : Nat) (v : Value) : Obj -> Obj
 | ⟨c, d, .dict es n, s⟩ => ⟨c, d, .dict (es.modify i fun e => ⟨e.hash, e.key, v⟩) n, s⟩
 | o => o
noncomputable def pF (vs : List Value) : Obj -> Obj
 | ⟨c, d, .fields xs, s⟩ => ⟨c, d, .fields (xs ++ vs.toArray), s⟩
 | o => o
noncomputable def tu (xs : List Value) : Obj := ⟨.type "tuple", none, .seq xs.toArray 0, #[]⟩
noncomputable def fl (xs : List Value) : Obj := ⟨.none, none, .fields xs.toArray, #[]⟩
noncomputable def fo (i : Nat) (nm : String) (g : Nat) (m co c : Value) : Obj := ⟨c, none, .func (fd nm nm (jR (top i)) (.stmts (fV (top i))) (aN (top i)) g [] .none .none .none m none co .none 0), #[]⟩
noncomputable def co (nm : String) (t u l k a c : Nat) (v x : Value) (f : Nat) : Obj := ⟨.type "code", none, .fields #[vs nm t, vs nm (t + 1), vs "/claim/cut.py" (t + 2), .int l 0, .int k 0, .int 0 0, .int 0 0, .int 3 0, .ref a, .bool true, .int 181 0, .ref c, .none, v, x, .ref f, .int u 0, .int l 0, vs "/claim/cut.py" (u + 1)], #[]⟩
noncomputable def vL (t : Nat) : List String -> List Value
 | [] => []
 | s :: r => vs s t :: vL (t + 1) r
noncomputable def d7 (P : Params) (i : Nat) (nm : String) (m : Value) (l k : Nat) (vn : List String) (n t u : Nat) (T : BT) : BT := ((((((((T.set 3 (pE (en P nm (u + 2) (.ref (n + 6))))).set 12 (pF [.int l 0, .int 0 0, .ref (n + 5)])).ins n (tu [])).ins (n + 1) (fl [])).ins (n + 2) (tu (vL (t + 3) vn))).ins (n + 3) (tu [])).ins (n + 4) (fo i nm 0 .none .none .none)).ins (n + 5) (co nm t u l k n (n + 1) (.ref (n + 2)) (.ref (n + 3)) (n + 4))).ins (n + 6) (fo i nm 3 m (.ref (n + 5)) (.type "function"))
noncomputable def d5 (P : Params) (i : Nat) (nm : String) (m : Value) (l k n t u : Nat) (T : BT) : BT := ((((((T.set 3 (pE (en P nm (u + 2) (.ref (n + 4))))).set 12 (pF [.int l 0, .int 0 0, .ref (n + 3)])).ins n (tu [])).ins (n + 1) (fl [])).ins (n + 2) (fo i nm 0 .none .none .none)).ins (n + 3) (co nm t u l k n (n + 1) .none .none (n + 2))).ins (n + 4) (fo i nm 3 m (.ref (n + 3)) (.type "function"))
noncomputable def aFc : Env := { scope := pr.main.scope, locals := mainNs, globals := mainNs, cells := [], code := (.ref 13), frame := some 14 }
noncomputable def cE : Code := .body (behindTheImports pr) aFc
noncomputable def ol (P : Params) : List Obj := [boot_o_0 P, boot_o_1 P, boot_o_2 P, boot_o_3 P, boot_o_4 P, boot_o_5 P, boot_o_6 P, boot_o_7 P, boot_o_8 P, boot_o_9 P, boot_o_10 P, (⟨(.type "tuple"), none, (.seq #[] 0), #[]⟩ : Obj), (⟨.none, none, (.fields #[]), #[]⟩ : Obj), (⟨(.type "code"), none, (.fields #[(vs "<module>" 182), (vs "<module>" 183), (vs "/claim/cut.py" 184), (.int 1 0), (.int 0 0), (.int 0 0), (.int 0 0), (.int 0 0), (.ref 11), (.bool false), (.int 181 0), (.ref 12), .none, .none, .none, .none, (.int 185 0), (.int 1 0), (vs "/claim/cut.py" 186)]), #[]⟩ : Obj), (⟨(.type "frame"), none, .plain, #[(some (.ref 13)), (some (.ref 3)), (some (.ref 3)), none, (some (vs "__main__" 164)), none, (some (.ref 0))]⟩ : Obj)]
noncomputable def bt : Nat -> List Obj -> BT -> BT
 | _, [], T => T
 | i, o :: r, T => bt (i + 1) r (T.ins i o)
noncomputable def t0 (P : Params) : BT := bt 0 (ol P) .nil
noncomputable abbrev sT (t : Params -> BT) (n k : Nat) (w : World) (os : OsState) : SharedT := ⟨t w.params, n, {}, ⟨[]⟩, boot_drawn, k, os⟩
abbrev B : List Frame := [topFrame ⟨0, 0, 0, 0⟩]
theorem aH1 (w : World) : (fun os => topGo treeTable pr w 11 (some (.ref 6)) 12 ⟨boot_heap w.params, ⟨[]⟩, boot_drawn, boot_toks, os⟩ (topStub pr)) = (fun os => some ((⟨⟨⟨ol w.params⟩, {}⟩, ⟨[]⟩, boot_drawn, 187, os⟩ : Shared), ⟨denote treeTable cE, cE, ⟨0, 0, 0, 0⟩, B⟩)) := by
 rw [PySem.W.Fast.te15667345088766844465, PySem.W.Fast.te14364793385576792824, PySem.W.Fast.te11892475500146522536]
 kernel_rfl
theorem aLe (w : World) : (fun os => segRun treeTable pr w 11 (some (.ref 6)) 1 1 ⟨⟨⟨ol w.params⟩, {}⟩, ⟨[]⟩, boot_drawn, 187, os⟩ (blockOf (behindTheImports pr) aFc cE ⟨0, 0, 0, 0⟩ B)) = (fun os => some (.next, (sT t0 15 187 w os).abs, cE, ⟨0, 0, 0, 0⟩)) := by
 rw [PySem.W.Fast.te14374325043358763698, PySem.W.Fast.te14364793385576792824]
 kernel_rfl
noncomputable def t1 (P : Params) : BT :=
 (t0 P) |>
 (fun T => T.set 3 (rE 0 (vs "creasecurve.errors" 187))) |>
 (fun T => T.set 3 (pE (en P "RoofError" 206 (.ref 24)))) |>
 (fun T => T.set 12 (pF [(.int 2 0), (.int 0 0), (.ref 20)])) |>
 (fun T => T.ins 15 (tu [(.type "ValueError")])) |>
 (fun T => T.ins 16 ⟨(.type "builtin_function_or_method"), none, (.fields #[(.builtin "type.__prepare__"), (.type "type")]), #[]⟩) |>
 (fun T => T.ins 17 ⟨(.type "dict"), none, (.dict #[en P "__module__" 196 (vs "creasecurve.errors" 187), en P "__qualname__" 198 (vs "RoofError" 197), en P "__firstlineno__" 200 (.int 2 199), en P "__static_attributes__" 201 (.ref 22)] 4), #[]⟩) |>
 (fun T => T.ins 18 (tu [])) |>
 (fun T => T.ins 19 (fl [])) |>
 (fun T => T.ins 20 ⟨(.type "code"), none, (.fields #[(vs "RoofError" 191), (vs "RoofError" 192), (vs "/claim/cut.py" 193), (.int 2 0), (.int 0 0), (.int 0 0), (.int 0 0), (.int 0 0), (.ref 18), (.bool false), (.int 181 0), (.ref 19), .none, .none, .none, .none, (.int 194 0), (.int 2 0), (vs "/claim/cut.py" 195)]), #[]⟩) |>
 (fun T => T.ins 21 ⟨(.type "frame"), none, .plain, #[(some (.ref 20)), (some (.ref 3)), (some (.ref 17)), none, (some (vs "creasecurve.errors" 187)), none, (some (.ref 0))]⟩) |>
 (fun T => T.ins 22 (tu [])) |>
 (fun T => T.ins 23 ⟨(.type "dict"), none, (.dict #[en P "__module__" 196 (vs "creasecurve.errors" 187), en P "__firstlineno__" 200 (.int 2 199), en P "__static_attributes__" 201 (.ref 22), en P "__weakref__" 203 (.ref 25), en P "__doc__" 204 .none] 3), #[]⟩) |>
 (fun T => T.ins 24 ⟨(.type "type"), none, (.cls ⟨"RoofError", [(.type "ValueError")], [(.ref 24), (.type "ValueError"), (.type "Exception"), (.type "BaseException"), (.type "object")], 23, "RoofError", true, [], [], false, none, false⟩), #[(some (.ref 15)), none, (some (vs "RoofError" 189)), (some (vs "RoofError" 197)), (some (.builtin "ValueError.__new__")), (some (.bool true))]⟩) |>
 (fun T => T.ins 25 ⟨(.type "getset_descriptor"), none, (.fields #[(vs "__weakref__" 202), (.ref 24), (.builtin "ExceptionGroup.__weakref__"), .none]), #[]⟩) |>
 (fun T => T.ins 26 ⟨(.type "super"), none, (.fields #[(.ref 24), (.ref 24), (.ref 24)]), #[]⟩) |>
 (fun T => T.ins 27 ⟨(.type "builtin_function_or_method"), none, (.fields #[(.builtin "object.__init_subclass__"), (.ref 24)]), #[]⟩)
noncomputable def g0 : List Stmt := [top 0, top 1]
theorem hg0 (w : World) : (fun os => segRunT treeTable pr w 11 (some (.ref 6)) 1 196 (sT t0 15 187 w os) (piecesOf g0 aFc cE ⟨0, 0, 0, 0⟩ B)) = (fun os => some (.next, sT t1 28 207 w os, cE, ⟨2, 0, 3, 8⟩)) := by
 rw [PySem.W.Fast.te10110043849684766642, PySem.W.Fast.te14364793385576792824]
 kernel_rfl
noncomputable def t2 (P : Params) : BT :=
 (t1 P) |>
 (fun T => T.set 3 (pE (en P "NoFraction" 222 (.ref 37)))) |>
 (fun T => T.set 12 (pF [(.int 4 0), (.int 0 0), (.ref 33)])) |>
 (fun T => T.set 24 (fun _ => ⟨(.type "type"), none, (.cls ⟨"RoofError", [(.type "ValueError")], [(.ref 24), (.type "ValueError"), (.type "Exception"), (.type "BaseException"), (.type "object")], 23, "RoofError", true, [], [(.ref 37)], false, none, false⟩), #[(some (.ref 15)), none, (some (vs "RoofError" 189)), (some (vs "RoofError" 197)), (some (.builtin "ValueError.__new__")), (some (.bool true))]⟩)) |>
 (fun T => T.ins 28 (tu [(.ref 24)])) |>
 (fun T => T.ins 29 ⟨(.type "builtin_function_or_method"), none, (.fields #[(.builtin "type.__prepare__"), (.type "type")]), #[]⟩) |>
 (fun T => T.ins 30 ⟨(.type "dict"), none, (.dict #[en P "__module__" 214 (vs "creasecurve.errors" 187), en P "__qualname__" 216 (vs "NoFraction" 215), en P "__firstlineno__" 218 (.int 4 217), en P "__static_attributes__" 219 (.ref 35)] 4), #[]⟩) |>
 (fun T => T.ins 31 (tu [])) |>
 (fun T => T.ins 32 (fl [])) |>
 (fun T => T.ins 33 ⟨(.type "code"), none, (.fields #[(vs "NoFraction" 209), (vs "NoFraction" 210), (vs "/claim/cut.py" 211), (.int 4 0), (.int 0 0), (.int 0 0), (.int 0 0), (.int 0 0), (.ref 31), (.bool false), (.int 181 0), (.ref 32), .none, .none, .none, .none, (.int 212 0), (.int 4 0), (vs "/claim/cut.py" 213)]), #[]⟩) |>
 (fun T => T.ins 34 ⟨(.type "frame"), none, .plain, #[(some (.ref 33)), (some (.ref 3)), (some (.ref 30)), none, (some (vs "creasecurve.errors" 187)), none, (some (.ref 0))]⟩) |>
 (fun T => T.ins 35 (tu [])) |>
 (fun T => T.ins 36 ⟨(.type "dict"), none, (.dict #[en P "__module__" 214 (vs "creasecurve.errors" 187), en P "__firstlineno__" 218 (.int 4 217), en P "__static_attributes__" 219 (.ref 35), en P "__doc__" 220 .none] 2), #[]⟩) |>
 (fun T => T.ins 37 ⟨(.type "type"), none, (.cls ⟨"NoFraction", [(.ref 24)], [(.ref 37), (.ref 24), (.type "ValueError"), (.type "Exception"), (.type "BaseException"), (.type "object")], 36, "NoFraction", true, [], [], false, none, false⟩), #[(some (.ref 28)), none, (some (vs "NoFraction" 207)), (some (vs "NoFraction" 215)), (some (.builtin "ValueError.__new__")), (some (.bool true))]⟩) |>
 (fun T => T.ins 38 ⟨(.type "super"), none, (.fields #[(.ref 37), (.ref 37), (.ref 37)]), #[]⟩) |>
 (fun T => T.ins 39 ⟨(.type "builtin_function_or_method"), none, (.fields #[(.builtin "object.__init_subclass__"), (.ref 37)]), #[]⟩)
noncomputable def g1 : List Stmt := [top 2]
theorem hg1 (w : World) : (fun os => segRunT treeTable pr w 11 (some (.ref 6)) 1 214 (sT t1 28 207 w os) (piecesOf g1 aFc cE ⟨2, 0, 3, 8⟩ B)) = (fun os => some (.next, sT t2 40 223 w os, cE, ⟨4, 0, 5, 8⟩)) := by
 rw [PySem.W.Fast.te10110043849684766642, PySem.W.Fast.te14364793385576792824]
 kernel_rfl
noncomputable def t3 (P : Params) : BT :=
 (t2 P) |>
 (fun T => T.set 3 (pE (en P "NoDealing" 238 (.ref 49)))) |>
 (fun T => T.set 12 (pF [(.int 6 0), (.int 0 0), (.ref 45)])) |>
 (fun T => T.set 24 (fun _ => ⟨(.type "type"), none, (.cls ⟨"RoofError", [(.type "ValueError")], [(.ref 24), (.type "ValueError"), (.type "Exception"), (.type "BaseException"), (.type "object")], 23, "RoofError", true, [], [(.ref 37), (.ref 49)], false, none, false⟩), #[(some (.ref 15)), none, (some (vs "RoofError" 189)), (some (vs "RoofError" 197)), (some (.builtin "ValueError.__new__")), (some (.bool true))]⟩)) |>
 (fun T => T.ins 40 (tu [(.ref 24)])) |>
 (fun T => T.ins 41 ⟨(.type "builtin_function_or_method"), none, (.fields #[(.builtin "type.__prepare__"), (.type "type")]), #[]⟩) |>
 (fun T => T.ins 42 ⟨(.type "dict"), none, (.dict #[en P "__module__" 230 (vs "creasecurve.errors" 187), en P "__qualname__" 232 (vs "NoDealing" 231), en P "__firstlineno__" 234 (.int 6 233), en P "__static_attributes__" 235 (.ref 47)] 4), #[]⟩) |>
 (fun T => T.ins 43 (tu [])) |>
 (fun T => T.ins 44 (fl [])) |>
 (fun T => T.ins 45 ⟨(.type "code"), none, (.fields #[(vs "NoDealing" 225), (vs "NoDealing" 226), (vs "/claim/cut.py" 227), (.int 6 0), (.int 0 0), (.int 0 0), (.int 0 0), (.int 0 0), (.ref 43), (.bool false), (.int 181 0), (.ref 44), .none, .none, .none, .none, (.int 228 0), (.int 6 0), (vs "/claim/cut.py" 229)]), #[]⟩) |>
 (fun T => T.ins 46 ⟨(.type "frame"), none, .plain, #[(some (.ref 45)), (some (.ref 3)), (some (.ref 42)), none, (some (vs "creasecurve.errors" 187)), none, (some (.ref 0))]⟩) |>
 (fun T => T.ins 47 (tu [])) |>
 (fun T => T.ins 48 ⟨(.type "dict"), none, (.dict #[en P "__module__" 230 (vs "creasecurve.errors" 187), en P "__firstlineno__" 234 (.int 6 233), en P "__static_attributes__" 235 (.ref 47), en P "__doc__" 236 .none] 2), #[]⟩) |>
 (fun T => T.ins 49 ⟨(.type "type"), none, (.cls ⟨"NoDealing", [(.ref 24)], [(.ref 49), (.ref 24), (.type "ValueError"), (.type "Exception"), (.type "BaseException"), (.type "object")], 48, "NoDealing", true, [], [], false, none, false⟩), #[(some (.ref 40)), none, (some (vs "NoDealing" 223)), (some (vs "NoDealing" 231)), (some (.builtin "ValueError.__new__")), (some (.bool true))]⟩) |>
 (fun T => T.ins 50 ⟨(.type "super"), none, (.fields #[(.ref 49), (.ref 49), (.ref 49)]), #[]⟩) |>
 (fun T => T.ins 51 ⟨(.type "builtin_function_or_method"), none, (.fields #[(.builtin "object.__init_subclass__"), (.ref 49)]), #[]⟩) |>
 (fun T => T.set 3 (rE 0 (vs "creasecurve.fractions" 239))) |>
 (d7 P 5 "greatest_divisor" (vs "creasecurve.fractions" 239) 9 2 ["a", "b", "larger", "smaller", "rest"] 52 241 249) |>
 (d7 P 6 "fraction" (vs "creasecurve.fractions" 239) 17 2 ["top", "bottom", "divisor"] 59 252 258) |>
 (d7 P 7 "plus" (vs "creasecurve.fractions" 239) 24 2 ["a", "b"] 66 261 266) |>
 (d7 P 8 "minus" (vs "creasecurve.fractions" 239) 26 2 ["a", "b"] 73 269 274) |>
 (d7 P 9 "times" (vs "creasecurve.fractions" 239) 28 2 ["a", "b"] 80 277 282)
noncomputable def g2 : List Stmt := [top 3, top 4, top 5, top 6, top 7, top 8, top 9]
theorem hg2 (w : World) : (fun os => segRunT treeTable pr w 11 (some (.ref 6)) 1 377 (sT t2 40 223 w os) (piecesOf g2 aFc cE ⟨4, 0, 5, 8⟩ B)) = (fun os => some (.next, sT t3 87 285 w os, cE, ⟨28, 0, 29, 45⟩)) := by
 rw [PySem.W.Fast.te10110043849684766642, PySem.W.Fast.te14364793385576792824]
 kernel_rfl
noncomputable def t4 (P : Params) : BT :=
 (t3 P) |>
 (d7 P 10 "common_bottom" (vs "creasecurve.fractions" 239) 30 1 ["numbers", "common", "number"] 87 285 291) |>
 (d7 P 11 "whole" (vs "creasecurve.fractions" 239) 35 2 ["number", "factor"] 94 294 299) |>
 (fun T => T.set 3 (rE 0 (vs "creasecurve.dealings" 302))) |>
 (d5 P 13 "dealings_of" (vs "creasecurve.dealings" 302) 38 1 101 304 307) |>
 (d5 P 14 "whole_rows" (vs "creasecurve.dealings" 302) 46 2 106 310 313) |>
 (d5 P 15 "worth_of" (vs "creasecurve.dealings" 302) 51 2 111 316 319) |>
 (d5 P 16 "best" (vs "creasecurve.dealings" 302) 53 1 116 322 325) |>
 (fun T => T.set 3 (rE 0 (vs "creasecurve.roofs" 328))) |>
 (d7 P 18 "plane_height" (vs "creasecurve.roofs" 328) 64 2 ["plane", "point", "along_x", "along_y"] 121 330 337) |>
 (fun T => T.set 3 (rE 0 (vs "creasecurve.through" 340))) |>
 (fun T => T.set 3 (pE (en P "FEWEST_SLOPES" 343 (.int 2 342)))) |>
 (fun T => T.set 3 (pE (en P "MOST_SLOPES" 345 (.int 6 344)))) |>
 (d7 P 22 "check_numbers" (vs "creasecurve.through" 340) 71 2 ["slopes", "points"] 128 346 351) |>
 (d5 P 23 "table_without" (vs "creasecurve.through" 340) 78 3 135 354 357) |>
 (d5 P 24 "through" (vs "creasecurve.through" 340) 84 2 140 360 363) |>
 (fun T => T.set 3 (rE 0 (vs "law_creasecurve_k43_heights_by_dealings" 366))) |>
 (d7 P 26 "_law_whole" (vs "law_creasecurve_k43_heights_by_dealings" 366) 92 1 ["_law_found"] 145 368 372) |>
 (d7 P 27 "_law_cell_at" (vs "law_creasecurve_k43_heights_by_dealings" 366) 94 2 ["_law_script", "_law_k"] 152 375 380)
noncomputable def g3 : List Stmt := [top 10, top 11, top 12, top 13, top 14, top 15, top 16, top 17, top 18, top 19, top 20, top 21, top 22, top 23, top 24, top 25, top 26, top 27]
theorem hg3 (w : World) : (fun os => segRunT treeTable pr w 11 (some (.ref 6)) 1 393 (sT t3 87 285 w os) (piecesOf g3 aFc cE ⟨28, 0, 29, 45⟩ B)) = (fun os => some (.next, sT t4 159 383 w os, cE, ⟨94, 0, 97, 12⟩)) := by
 rw [PySem.W.Fast.te10110043849684766642, PySem.W.Fast.te14364793385576792824]
 kernel_rfl
noncomputable def t5 (P : Params) : BT :=
 (t4 P) |>
 (d7 P 28 "_law_mix" (vs "law_creasecurve_k43_heights_by_dealings" 366) 98 2 ["_law_cell", "_law_k", "_law_blend"] 159 383 389) |>
 (d7 P 29 "_law_lowest" (vs "law_creasecurve_k43_heights_by_dealings" 366) 101 2 ["_law_top", "_law_bottom", "_law_one", "_law_other", "_law_rest"] 166 392 400) |>
 (d7 P 30 "_law_sum" (vs "law_creasecurve_k43_heights_by_dealings" 366) 111 2 ["_law_a", "_law_b"] 173 403 408) |>
 (d7 P 31 "_law_product" (vs "law_creasecurve_k43_heights_by_dealings" 366) 113 2 ["_law_a", "_law_b"] 180 411 416) |>
 (d7 P 32 "_law_before" (vs "law_creasecurve_k43_heights_by_dealings" 366) 115 2 ["_law_a", "_law_b"] 187 419 424) |>
 (d7 P 33 "_law_is_fraction" (vs "law_creasecurve_k43_heights_by_dealings" 366) 117 1 ["_law_found"] 194 427 431) |>
 (d7 P 34 "_law_number" (vs "law_creasecurve_k43_heights_by_dealings" 366) 121 2 ["_law_cell", "_law_k", "_law_way"] 201 434 440) |>
 (d7 P 35 "_law_orders" (vs "law_creasecurve_k43_heights_by_dealings" 366) 128 1 ["_law_size", "_law_found", "_law_k", "_law_longer", "_law_order", "_law_number_here"] 208 443 452) |>
 (d7 P 36 "_law_slopes" (vs "law_creasecurve_k43_heights_by_dealings" 366) 138 2 ["_law_cells", "_law_most", "_law_found", "_law_k", "_law_number_here", "_law_cell", "_law_slope"] 215 455 465) |>
 (d5 P 37 "_law_points" (vs "law_creasecurve_k43_heights_by_dealings" 366) 146 1 222 468 471) |>
 (d7 P 38 "_law_is_roof" (vs "law_creasecurve_k43_heights_by_dealings" 366) 148 1 ["_law_found", "_law_plane"] 227 474 479) |>
 (d7 P 39 "_law_drawn_slopes" (vs "law_creasecurve_k43_heights_by_dealings" 366) 157 1 ["_law_script", "_law_most", "_law_found", "_law_slope"] 234 482 489)
noncomputable def g4 : List Stmt := [top 28, top 29, top 30, top 31, top 32, top 33, top 34, top 35, top 36, top 37, top 38, top 39]
theorem hg4 (w : World) : (fun os => segRunT treeTable pr w 11 (some (.ref 6)) 1 372 (sT t4 159 383 w os) (piecesOf g4 aFc cE ⟨94, 0, 97, 12⟩ B)) = (fun os => some (.next, sT t5 241 492 w os, cE, ⟨157, 0, 163, 21⟩)) := by
 rw [PySem.W.Fast.te10110043849684766642, PySem.W.Fast.te14364793385576792824]
 kernel_rfl
noncomputable def t6 (P : Params) : BT :=
 (t5 P) |>
 (d7 P 40 "_law_worth" (vs "law_creasecurve_k43_heights_by_dealings" 366) 164 2 ["_law_slope", "_law_point"] 241 492 497) |>
 (d5 P 41 "_law_best" (vs "law_creasecurve_k43_heights_by_dealings" 366) 166 2 248 500 503) |>
 (d5 P 42 "_law_due" (vs "law_creasecurve_k43_heights_by_dealings" 366) 180 2 253 506 509) |>
 (d5 P 43 "law" (vs "law_creasecurve_k43_heights_by_dealings" 366) 193 1 258 512 515)
noncomputable def g5 : List Stmt := [top 40, top 41, top 42, top 43]
theorem hg5 (w : World) : (fun os => segRunT treeTable pr w 11 (some (.ref 6)) 1 109 (sT t5 241 492 w os) (piecesOf g5 aFc cE ⟨157, 0, 163, 21⟩ B)) = (fun os => some (.next, sT t6 263 518 w os, cE, ⟨193, 0, 209, 67⟩)) := by
 rw [PySem.W.Fast.te10110043849684766642, PySem.W.Fast.te14364793385576792824]
 kernel_rfl
noncomputable def hF (P : Params) : Heap := absHeap (t6 P) 263 {}
theorem aJe (w : World) : (fun os => topRun treeTable pr w 11 (some (.ref 6)) 2 (sT t6 263 518 w os).abs ⟨doneF .next, cE, ⟨193, 0, 209, 67⟩, B⟩) = (fun os => some ((⟨hF w.params, ⟨[]⟩, boot_drawn, 518, os⟩ : Shared))) := by
 rw [PySem.W.Fast.te14082659384304107361, PySem.W.Fast.te14364793385576792824]
 kernel_rfl
theorem hb : behindTheImports pr = g0 ++ (g1 ++ (g2 ++ (g3 ++ (g4 ++ (g5 ++ []))))) := by kernel_rfl
theorem aN1 (w : World) (os : OsState) : topRun treeTable pr w 11 (some (.ref 6)) (12 + (1 + (196 + (214 + (377 + (393 + (372 + (109 + (2))))))))) ⟨boot_heap w.params, ⟨[]⟩, boot_drawn, boot_toks, os⟩ (topStub pr) = some ⟨hF w.params, ⟨[]⟩, boot_drawn, 518, os⟩ := go_top (congrFun (aH1 w) os) (piece_block (congrFun (aLe w) os) (by
 rw [hb]
 exact piece_app (segRun_of (congrFun (hg0 w) os)) (piece_app (segRun_of (congrFun (hg1 w) os)) (piece_app (segRun_of (congrFun (hg2 w) os)) (piece_app (segRun_of (congrFun (hg3 w) os)) (piece_app (segRun_of (congrFun (hg4 w) os)) (piece_app (segRun_of (congrFun (hg5 w) os)) (piece_nil (congrFun (aJe w) os)))))))))
noncomputable def qv : Program := { pr with main := { pr.main with body := [top 1, top 2, top 3, top 5, top 6, top 7, top 8, top 9, top 10, top 11, top 13, top 14, top 15, top 16, top 18, top 20, top 21, top 22, top 23, top 24, top 26, top 27, top 28, top 29, top 30, top 31, top 32, top 33, top 34, top 35, top 36, top 37, top 38, top 39, top 40, top 41, top 42, top 43] } }
noncomputable def ks : List Nat := [3, 20, 23, 24, 33, 36, 37, 45, 48, 49, 57, 58, 64, 65, 71, 72, 78, 79, 85, 86, 92, 93, 99, 100, 104, 105, 109, 110, 114, 115, 119, 120, 126, 127, 133, 134, 138, 139, 143, 144, 150, 151, 157, 158, 164, 165, 171, 172, 178, 179, 185, 186, 192, 193, 199, 200, 206, 207, 213, 214, 220, 221, 225, 226, 232, 233, 239, 240, 246, 247, 251, 252, 256, 257, 261, 262]
noncomputable def K (P : Params) : Frag := ks.map fun a => (a, ((t6 P).get a).getD default)
theorem ksE (P : Params) : ks = (K P).map (·.1) := by kernel_rfl
noncomputable abbrev hk : Hook := kHook K ks ksE
noncomputable abbrev xt : Shared -> Bool := fun s => xlAt qv [] s && recOk [] s
theorem aM2 (w : World) : ((boot_heap w.params).isNs mainGlobals && (⟨[]⟩ : Array GenState).size == 0, (boot_heap w.params).objs.size, (boot_heap w.params).nsMap mainGlobals "__annotations__") = (true, 11, (some (.ref 6))) := by kernel_rfl
theorem aM3 (w : World) : (fun os : OsState => (staticsOk (importedModules pr.main.body) (boot_heap w.params) (hF w.params) && namesBound pr (hF w.params) && gensDone ⟨hF w.params, ⟨[]⟩, boot_drawn, 518, os⟩ && laidKept (boot_heap w.params) (hF w.params))) = fun _ => true := by
 rw [PySem.W.Fast.te5923862056798008813]
 kernel_rfl
theorem aMf (w : World) : (fun os : OsState => openSeen qv [] (importedModules pr.main.body) xt true ⟨hF w.params, ⟨[]⟩, boot_drawn, 518, os⟩) = fun _ => openGood qv [] := by
 rw [PySem.W.Fast.te4187177175401517315, PySem.W.Fast.te5923862056798008813]
 kernel_rfl
theorem aM0 (w : World) : (fun os : OsState => hk.obs ⟨hF w.params, ⟨[]⟩, boot_drawn, 518, os⟩) = fun _ => hk.val w := by kernel_rfl
theorem left : LeftO pr qv [] xt hk.obs hk.val 3436 := LeftO.of_pieces (boot_open (by kernel_rfl) (by decide) (fun _ => by kernel_rfl)) aM2 aN1 (by decide) fun w => funext fun os => looks_pair (congrFun (aM3 w) os) (looks_pair (congrFun (aMf w) os) (congrFun (aM0 w) os))
theorem h1 (w : World) : FnAt (K w.params) "greatest_divisor" dQ 58 (vs "creasecurve.fractions" 239) 57 := by constructor <;> kernel_rfl
theorem h2 (w : World) : FnAt (K w.params) "fraction" kB 65 (vs "creasecurve.fractions" 239) 64 := by constructor <;> kernel_rfl
theorem h3 (w : World) : FnAt (K w.params) "plus" wU 72 (vs "creasecurve.fractions" 239) 71 := by constructor <;> kernel_rfl
theorem h4 (w : World) : FnAt (K w.params) "minus" qQ 79 (vs "creasecurve.fractions" 239) 78 := by constructor <;> kernel_rfl
theorem h5 (w : World) : FnAt (K w.params) "times" qI 86 (vs "creasecurve.fractions" 239) 85 := by constructor <;> kernel_rfl
theorem h6 (w : World) : FnAt (K w.params) "common_bottom" eX 93 (vs "creasecurve.fractions" 239) 92 := by constructor <;> kernel_rfl
theorem h7 (w : World) : FnAt (K w.params) "whole" qP 100 (vs "creasecurve.fractions" 239) 99 := by constructor <;> kernel_rfl
theorem h8 (w : World) : FnAt (K w.params) "dealings_of" gC 105 (vs "creasecurve.dealings" 302) 104 := by constructor <;> kernel_rfl
theorem h9 (w : World) : FnAt (K w.params) "whole_rows" iA 110 (vs "creasecurve.dealings" 302) 109 := by constructor <;> kernel_rfl
theorem h10 (w : World) : FnAt (K w.params) "worth_of" j3 115 (vs "creasecurve.dealings" 302) 114 := by constructor <;> kernel_rfl
theorem h11 (w : World) : FnAt (K w.params) "best" wO 120 (vs "creasecurve.dealings" 302) 119 := by constructor <;> kernel_rfl
theorem h12 (w : World) : FnAt (K w.params) "plane_height" fK 127 (vs "creasecurve.roofs" 328) 126 := by constructor <;> kernel_rfl
theorem h13 (w : World) : FnAt (K w.params) "check_numbers" eW 134 (vs "creasecurve.through" 340) 133 := by constructor <;> kernel_rfl
theorem h14 (w : World) : FnAt (K w.params) "table_without" eR 139 (vs "creasecurve.through" 340) 138 := by constructor <;> kernel_rfl
theorem h15 (w : World) : FnAt (K w.params) "through" lA 144 (vs "creasecurve.through" 340) 143 := by constructor <;> kernel_rfl
theorem h16 (w : World) : FnAt (K w.params) "_law_whole" iC 151 (vs "law_creasecurve_k43_heights_by_dealings" 366) 150 := by constructor <;> kernel_rfl
theorem h17 (w : World) : FnAt (K w.params) "_law_cell_at" fI 158 (vs "law_creasecurve_k43_heights_by_dealings" 366) 157 := by constructor <;> kernel_rfl
theorem h18 (w : World) : FnAt (K w.params) "_law_mix" jY 165 (vs "law_creasecurve_k43_heights_by_dealings" 366) 164 := by constructor <;> kernel_rfl
theorem h19 (w : World) : FnAt (K w.params) "_law_lowest" gE 172 (vs "law_creasecurve_k43_heights_by_dealings" 366) 171 := by constructor <;> kernel_rfl
theorem h20 (w : World) : FnAt (K w.params) "_law_sum" jZ 179 (vs "law_creasecurve_k43_heights_by_dealings" 366) 178 := by constructor <;> kernel_rfl
theorem h21 (w : World) : FnAt (K w.params) "_law_product" fL 186 (vs "law_creasecurve_k43_heights_by_dealings" 366) 185 := by constructor <;> kernel_rfl
theorem h22 (w : World) : FnAt (K w.params) "_law_before" gM 193 (vs "law_creasecurve_k43_heights_by_dealings" 366) 192 := by constructor <;> kernel_rfl
theorem h23 (w : World) : FnAt (K w.params) "_law_is_fraction" dN 200 (vs "law_creasecurve_k43_heights_by_dealings" 366) 199 := by constructor <;> kernel_rfl
theorem h24 (w : World) : FnAt (K w.params) "_law_number" gL 207 (vs "law_creasecurve_k43_heights_by_dealings" 366) 206 := by constructor <;> kernel_rfl
theorem h25 (w : World) : FnAt (K w.params) "_law_orders" gF 214 (vs "law_creasecurve_k43_heights_by_dealings" 366) 213 := by constructor <;> kernel_rfl
theorem h26 (w : World) : FnAt (K w.params) "_law_slopes" gN 221 (vs "law_creasecurve_k43_heights_by_dealings" 366) 220 := by constructor <;> kernel_rfl
theorem h27 (w : World) : FnAt (K w.params) "_law_points" gI 226 (vs "law_creasecurve_k43_heights_by_dealings" 366) 225 := by constructor <;> kernel_rfl
theorem h28 (w : World) : FnAt (K w.params) "_law_is_roof" fM 233 (vs "law_creasecurve_k43_heights_by_dealings" 366) 232 := by constructor <;> kernel_rfl
theorem h29 (w : World) : FnAt (K w.params) "_law_drawn_slopes" dC 240 (vs "law_creasecurve_k43_heights_by_dealings" 366) 239 := by constructor <;> kernel_rfl
theorem h30 (w : World) : FnAt (K w.params) "_law_worth" iI 247 (vs "law_creasecurve_k43_heights_by_dealings" 366) 246 := by constructor <;> kernel_rfl
theorem h31 (w : World) : FnAt (K w.params) "_law_best" jD 252 (vs "law_creasecurve_k43_heights_by_dealings" 366) 251 := by constructor <;> kernel_rfl
theorem h32 (w : World) : FnAt (K w.params) "_law_due" j9 257 (vs "law_creasecurve_k43_heights_by_dealings" 366) 256 := by constructor <;> kernel_rfl
theorem h33 (w : World) : FnAt (K w.params) "law" rN 262 (vs "law_creasecurve_k43_heights_by_dealings" 366) 261 := by constructor <;> kernel_rfl
end Hd
open PySem PySem.W PyProof.Rows
theorem Hd.said : PySem.Challenge.rw_creasecurve_k43_heights_by_dealings.wellSaid = true := by kernel_rfl
set_option maxRecDepth 100000 in
set_option maxHeartbeats 0 in
theorem PySem.Challenge.cw_creasecurve_k43_heights_by_dealings_holds : PySem.Challenge.rw_creasecurve_k43_heights_by_dealings.Holds := by
 refine holds_law Hd.said fun said => ?_
 refine holds_open (q := Hd.qv) (Xt := Hd.xt) (XP := XL Hd.qv []) (YP := Hd.hk.says) (N := 3436) Hd.left Hd.hk.of Hd.hk.keeps (fun s e => xl_of s (Bool.and_eq_true_iff.mp e).1) XL.keeps (by rfl) (by rfl) (by rfl) (fun s e => recFacts_of (Bool.and_eq_true_iff.mp e).2) (by rfl) said (by decide +kernel) ⟨rfl, rfl, rfl, rfl, rfl, by decide +kernel⟩ ?hw ?hc
 case hw => w_witness2
 refine My.walk (l := PySem.Challenge.rw_creasecurve_k43_heights_by_dealings) rfl rfl (fun w h Y => PySem.W.kIn_of Y) (fun w => by kernel_rfl) ?F
 case F =>
  intro w mg fa h KX G hmg
  exact My.all_mk (CRoofError := 24) (CNoFraction := 37) (CNoDealing := 49) (tFEWEST_SLOPES := 342) (tMOST_SLOPES := 344) KX G hmg (Hd.h1 w) (Hd.h2 w) (Hd.h3 w) (Hd.h4 w) (Hd.h5 w) (Hd.h6 w) (Hd.h7 w) (Hd.h8 w) (Hd.h9 w) (Hd.h10 w) (Hd.h11 w) (Hd.h12 w) (Hd.h13 w) (Hd.h14 w) (Hd.h15 w) (Hd.h16 w) (Hd.h17 w) (Hd.h18 w) (Hd.h19 w) (Hd.h20 w) (Hd.h21 w) (Hd.h22 w) (Hd.h23 w) (Hd.h24 w) (Hd.h25 w) (Hd.h26 w) (Hd.h27 w) (Hd.h28 w) (Hd.h29 w) (Hd.h30 w) (Hd.h31 w) (Hd.h32 w) (Hd.h33 w) (by kernel_rfl) (by kernel_rfl) (by kernel_rfl) (by kernel_rfl) (by kernel_rfl) (by kernel_rfl) (by kernel_rfl) (by kernel_rfl) (by kernel_rfl) (by kernel_rfl) (by kernel_rfl) (by kernel_rfl) (by kernel_rfl) (by kernel_rfl) (by kernel_rfl) (by kernel_rfl) (by kernel_rfl) (by kernel_rfl) (by kernel_rfl) (by kernel_rfl) (by kernel_rfl) (by kernel_rfl) (by kernel_rfl) (by kernel_rfl) (by kernel_rfl)

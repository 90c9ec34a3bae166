import PyProof.Rows.All
import Wide.All
import OpenK.AllK
import Wide.FinOn
import Lean
import PyProof.EqAt
import PyProof.EqKinds
import PyProof.TupleCall
import PySem.Challenge.RW_creasecurve_k05_roofs_written
set_option Elab.async false
set_option linter.all false
set_option maxRecDepth 100000
namespace L2
open PySem PySem.Spec PyProof.Rows
abbrev Key := Sum Int Str
def wH : Key -> Value -> Bool
 | .inl k, v => Value.isInt k v
 | .inr x, v => Value.isStrOf x v
def aLo (w : World) : Key -> Int
 | .inl k => hashInt k
 | .inr x => hashStr w x
theorem cT : ∀ {k : Key} {v : Value}, wH k v = true -> (∃ i t, k = Sum.inl i /\ v = Value.int i t) \/ (∃ x t, k = Sum.inr x /\ v = Value.str x t)
 | .inl i, v, h => by
  obtain ⟨t, e⟩ := Value.isInt_shape (k := i) (v := v) h
  exact .inl ⟨i, t, rfl, e⟩
 | .inr x, v, h => by
  obtain ⟨t, e⟩ := Value.isStrOf_shape (x := x) (v := v) h
  exact .inr ⟨x, t, rfl, e⟩
theorem zJ (i : Int) (t : Tok) : wH (.inl i) (.int i t) = true := by simp [wH, Value.isInt]
theorem yM (x : Str) (t : Tok) : wH (.inr x) (.str x t) = true := by simp [wH, Value.isStrOf]
theorem aH8 (a b : Int) : decide ((Sum.inl a : Key) = Sum.inl b) = (a == b) := by
 by_cases e : a = b
 ·subst e; simp
 ·have h : ¬ (Sum.inl a : Key) = Sum.inl b := fun q => e (Sum.inl.inj q)
  rw [decide_eq_false h]
  exact (beq_eq_false_iff_ne.mpr e).symm
theorem aIa (a b : Str) : decide ((Sum.inr a : Key) = Sum.inr b) = decide (a = b) := by
 by_cases e : a = b
 ·subst e; simp
 ·have h : ¬ (Sum.inr a : Key) = Sum.inr b := fun q => e (Sum.inr.inj q)
  rw [decide_eq_false h, decide_eq_false e]
theorem aIz (a : Int) (b : Str) : decide ((Sum.inl a : Key) = Sum.inr b) = false := decide_eq_false (fun q => nomatch q)
theorem aIg (a : Str) (b : Int) : decide ((Sum.inr a : Key) = Sum.inl b) = false := decide_eq_false (fun q => nomatch q)
def eP (prog : Program) (w : World) : PySem.KeyKind prog w Key where
 is := wH
 hash := aLo w
 inj := fun v a b ha hb => by
  rcases cT ha with ⟨i, t, rfl, rfl⟩ | ⟨x, t, rfl, rfl⟩
  ·rcases cT hb with ⟨j, u, rfl, e⟩ | ⟨y, u, rfl, e⟩
   ·injection e with e1 _; rw [e1]
   ·exact nomatch e
  ·rcases cT hb with ⟨j, u, rfl, e⟩ | ⟨y, u, rfl, e⟩
   ·exact nomatch e
   ·injection e with e1 _; rw [e1]
 byValue := fun k v h => by
  rcases cT h with ⟨i, t, rfl, rfl⟩ | ⟨x, t, rfl, rfl⟩ <;> rfl
 pyHash := fun hv h => by
  rcases cT hv with ⟨i, t, rfl, rfl⟩ | ⟨x, t, rfl, rfl⟩
  ·exact wpAny_pyHash_int h
  ·exact wpAny_pyHash_str h
 eqBool := fun hu hv h => by
  rcases cT hu with ⟨i, t, rfl, rfl⟩ | ⟨x, t, rfl, rfl⟩
  ·rcases cT hv with ⟨j, u, rfl, rfl⟩ | ⟨y, u, rfl, rfl⟩
   ·rw [aH8] at h; exact wpAny_eqBool_int h
   ·rw [aIz] at h; exact SeqAt.EqAt.int_str i t y u _ _ _ _ h
  ·rcases cT hv with ⟨j, u, rfl, rfl⟩ | ⟨y, u, rfl, rfl⟩
   ·rw [aIg] at h; exact SeqAt.EqAt.str_int x t j u _ _ _ _ h
   ·rw [aIa] at h; exact wpAny_eqBool_str h
 «strs» := fun k x t v h => by
  rcases cT h with ⟨i, u, rfl, e⟩ | ⟨y, u, rfl, e⟩
  ·exact nomatch e
  ·injection e with e1 _
   subst e1
   cases v <;> rfl
theorem sC (prog : Program) (w : World) (i : Int) (t : Tok) : (eP prog w).is (.inl i) (.int i t) = true := zJ i t
theorem sD (prog : Program) (w : World) (x : Str) (t : Tok) : (eP prog w).is (.inr x) (.str x t) = true := yM x t
inductive V where
 | non | bl (b : Bool) | int (i : Int) | str (x : Str) | byt (b : Array UInt8) | flt (b : UInt64) | ref (a : Addr) | ty (n : String)
 deriving DecidableEq
def RelV : V -> Value -> Prop
 | .non, u => u = Value.none
 | .bl b, u => u = Value.bool b
 | .int i, u => ∃ t, u = Value.int i t
 | .str x, u => ∃ t, u = Value.str x t
 | .byt b, u => ∃ t, u = Value.bytes b t
 | .flt b, u => ∃ t, u = Value.float b t
 | .ref a, u => u = Value.ref a
 | .ty n, u => u = Value.type n
abbrev Vals : List V -> List Value -> Prop := Paired RelV
theorem Vals.length {xs : List V} {us : List Value} (r : Vals xs us) : xs.length = us.length := Paired.length r
theorem Vals.get : ∀ {xs : List V} {us : List Value} {i : Nat} {x : V}, Vals xs us -> xs[i]? = some x -> ∃ u, us[i]? = some u /\ RelV x u
 | _, _, _, _, .nil, e => by simp at e
 | _, _, 0, _, .cons r _, e => by simp at e; subst e; exact ⟨_, rfl, r⟩
 | _, _, i + 1, x, .cons _ t, e => by
  obtain ⟨u, h1, h2⟩ := Vals.get (i := i) (x := x) t (by simpa using e)
  exact ⟨u, by simpa using h1, h2⟩
theorem Vals.set {x : V} {u : Value} (r : RelV x u) : ∀ {xs : List V} {us : List Value} (i : Nat), Vals xs us -> Vals (xs.set i x) (us.set i u)
 | _, _, _, .nil => .nil
 | _, _, 0, .cons _ t => .cons r t
 | _, _, i + 1, .cons q t => .cons q (Vals.set r i t)
theorem Vals.append : ∀ {xs ys : List V} {us ws : List Value}, Vals xs us -> Vals ys ws -> Vals (xs ++ ys) (us ++ ws)
 | _, _, _, _, .nil, s => s
 | _, _, _, _, .cons r t, s => .cons r (Vals.append t s)
theorem Vals.take : ∀ {xs : List V} {us : List Value} (n : Nat), Vals xs us -> Vals (xs.take n) (us.take n)
 | _, _, 0, _ => .nil
 | _, _, _ + 1, .nil => .nil
 | _, _, n + 1, .cons r t => .cons r (Vals.take n t)
theorem Vals.drop : ∀ {xs : List V} {us : List Value} (n : Nat), Vals xs us -> Vals (xs.drop n) (us.drop n)
 | _, _, 0, r => r
 | _, _, _ + 1, .nil => .nil
 | _, _, n + 1, .cons _ t => Vals.drop n t
def RelO : Option V -> Option Value -> Prop
 | some v, some u => RelV v u
 | none, none => True
 | _, _ => False
def KV {κ : Type} : List (κ × V) -> List (κ × Value) -> Prop := Paired fun (p : κ × V) (q : κ × Value) => p.1 = q.1 /\ RelV p.2 q.2
def kV : Key -> V
 | .inl i => .int i
 | .inr x => .str x
inductive HO where
 /-- a list -/
 | lst (xs : List V)
 /-- a tuple (never changes) -/
 | tup (xs : List V)
 /-- a dict whose keys are ints and texts; one whose keys are tuples of ints and texts (the empty one is both) -/
 | dK (kvs : List (Key × V)) | dT (kvs : List (List Key × V))
 /-- a set of ints: its members, its size -/
 | set (S : Int -> Bool) (n : Nat)
 /-- an instance of the class at C, its dict at dx, its attributes -/
 | ins (C dx : Addr) (fs : List (Str × V))
 /-- the dict of the instance at x -/
 | own (x : Addr)
 /-- the dict of an exception -/
 | xd (fs : List (Str × V))
 /-- a bound method, f of x -/
 | met (f x : Addr)
 /-- a range object lo, lo + 1, .. below hi -/
 | rng (lo hi : Int)
 /-- a thing that is known to the object (the script; a dict while a loop walks it): read, never written while it is so -/
 | frz (o : Obj) (u : HO)
 /-- a code object's table -/
 | tbl (ps : Array Value)
 /-- any other thing, by what is true of its one object (a def of one's own: SetO a S n := HO.ext fun h => ..) -/
 | ext (φ : Heap -> Prop)
abbrev Hp := Addr -> Option HO
def upd (H : Hp) (a : Addr) (o : HO) : Hp := fun b => if b = a then some o else H b
theorem bM {H : Hp} {a : Addr} {o : HO} : upd H a o a = some o := by unfold upd; rw [if_pos rfl]
theorem bC {H : Hp} {a b : Addr} {o : HO} (h : b ≠ a) : upd H a o b = H b := by unfold upd; rw [if_neg h]
theorem aLr {H : Hp} {a b : Addr} {o u : HO} (h : H a = some o) (h' : H b = some u) (d : o ≠ u) : a ≠ b := by
 intro e; subst e; rw [h] at h'; exact d (Option.some.inj h')
theorem b0 {H : Hp} {a b : Addr} {o : HO} (h : H a = some o) (h' : H b = none) : a ≠ b := by
 intro e; subst e; rw [h] at h'; cases h'
section
variable (P : Program) (w : World)
def ObjOk (H : Hp) (h : Heap) (a : Addr) : HO -> Prop
 | .lst xs => xs.length <= sizeLine /\ ∃ (its : List Value) (n : Nat), Vals xs its /\ h.get? a = some { cls := .type "list", data := .seq its.toArray n }
 | .tup xs => xs.length <= sizeLine /\ ∃ its : List Value, Vals xs its /\ IsTup h a its.toArray
 | .dK kvs => kvs.length <= sizeLine /\ (a == sysModules) = false /\ ∃ vs, KV kvs vs /\ h.DictOf (eP P w) a vs
 | .dT kvs => kvs.length <= sizeLine /\ (a == sysModules) = false /\ ∃ xs : List (List Key × Addr × Value),
   Paired (fun (p : List Key × V) (q : List Key × Addr × Value) => p.1 = q.1 /\ H q.2.1 = some (.tup (p.1.map kV)) /\ RelV p.2 q.2.2) kvs xs /\
   ∃ o es ep, h.get? a = some o /\ o.ExactDict /\ o.data = .dict es ep /\ es.toList = xs.map (entryOfKey (tupleKind (eP P w))) /\ (xs.map (·.1)).Nodup
 | .set S n => h.SetOf (intKind P w) a S n
 | .ins C dx fs => H dx = some (.own a) /\ fs.length <= 1000 /\ dx ≠ a /\ h.get? a = some (PySem.W.instObj C dx) /\
   ∃ mA, h.Ns1 dx mA /\ (∀ f, RelO (fs.lookup f) (mA f)) /\ PySem.Within mA (fs.map (·.1))
 | .own _ => ∃ o, h.get? a = some o
 | .xd fs => ∃ mA, h.Ns1 a mA /\ ∀ f, RelO (fs.lookup f) (mA f)
 | .rng lo hi => ∃ t u v, h.get? a = some { cls := .type "range", data := .fields #[.int lo t, .int hi u, .int 1 v] }
 | .frz o u => h.get? a = some o /\ ObjOk H h a u
 | .tbl ps => ∃ qs, h.get? a = some { cls := .none, data := .fields qs } /\ TriplesOk qs.toList /\ ∀ n t, ps[0]? = some (.str n t) -> ∀ pos cv, codeAmong pos qs.toList = some cv ->
   ∃ c oc vs u, cv = .ref c /\ H c = some (.frz oc (.own a)) /\ oc.data = .fields vs /\ vs[1]? = some (.str (n ++ ".<locals>." ++ "<lambda>") u)
 | .met f x => h.get? a = some (PySem.W.methodObj (.ref f) (.ref x))
 | .ext φ => φ h /\ (∃ o, h.get? a = some o) /\ ∀ h1 h2 : Heap, φ h1 -> (∀ o, h1.get? a = some o -> h2.get? a = some o) -> φ h2
def HOk (H : Hp) (h : Heap) : Prop := ∀ a o, H a = some o -> ObjOk P w H h a o
end
section
variable {P : Program} {w : World} {H H' : Hp} {h h' : Heap} {a : Addr} {o : HO}
theorem ObjOk.lt (x : ObjOk P w H h a o) : a < h.objs.size := by
 cases o with
 | lst xs => obtain ⟨_, _, _, _, e⟩ := x; exact Heap.lt_size e
 | tup xs => obtain ⟨_, _, _, p⟩ := x; exact p.lt
 | dK kvs => obtain ⟨_, _, _, _, o, _, _, e, _⟩ := x; exact Heap.lt_size e
 | dT kvs => obtain ⟨_, _, _, _, o, _, _, e, _⟩ := x; exact Heap.lt_size e
 | set S n => obtain ⟨o, _, _, _, e, _⟩ := x; exact Heap.lt_size e
 | ins C dx fs => obtain ⟨_, _, _, e, _⟩ := x; exact Heap.lt_size e
 | own y => obtain ⟨_, e⟩ := x; exact Heap.lt_size e
 | xd fs => obtain ⟨_, ⟨_, _, _, e, _⟩, _⟩ := x; exact Heap.lt_size e
 | rng lo hi => obtain ⟨_, _, _, e⟩ := x; exact Heap.lt_size e
 | frz ob u => obtain ⟨e, _⟩ := x; exact Heap.lt_size e
 | tbl ps => obtain ⟨_, e, _⟩ := x; exact Heap.lt_size e
 | met f y => exact Heap.lt_size (show h.get? a = some _ from x)
 | ext φ => obtain ⟨_, ⟨_, e⟩, _⟩ := x; exact Heap.lt_size e
theorem Paired.mapP {α β : Type} {F G : α -> β -> Prop} : ∀ {l₁ : List α} {l₂ : List β}, Paired F l₁ l₂ -> (∀ a b, F a b -> G a b) -> Paired G l₁ l₂
 | _, _, .nil, _ => .nil
 | _, _, .cons r t, f => .cons (f _ _ r) (Paired.mapP t f)
theorem ObjOk.stay (x : ObjOk P w H h a o) (k : ∀ b u, (b = a \/ H b = some (.own a)) -> h.get? b = some u -> h'.get? b = some u)
  (ho : ∀ b, H b = some (.own a) -> H' b = some (.own a)) (ht : ∀ b xs, H b = some (.tup xs) -> H' b = some (.tup xs)) (hz : ∀ b o, H b = some (.frz o (.own a)) -> H' b = some (.frz o (.own a)) := by exact fun _ _ q => q) : ObjOk P w H' h' a o := by
 induction o with
 | lst xs => obtain ⟨z, its, n, r, e⟩ := x; exact ⟨z, its, n, r, k _ _ (.inl rfl) e⟩
 | tup xs => obtain ⟨z, its, r, ob, e, c⟩ := x; exact ⟨z, its, r, ob, k _ _ (.inl rfl) e, c⟩
 | dK kvs => obtain ⟨z, y, vs, r, ob, es, ep, e, c⟩ := x; exact ⟨z, y, vs, r, ob, es, ep, k _ _ (.inl rfl) e, c⟩
 | dT kvs =>
  obtain ⟨z, y, xs, r, ob, es, ep, e, c⟩ := x
  exact ⟨z, y, xs, Paired.mapP r fun p q z => ⟨z.1, ht _ _ z.2.1, z.2.2⟩, ob, es, ep, k _ _ (.inl rfl) e, c⟩
 | set S n => obtain ⟨ob, es, ep, t, e, c⟩ := x; exact ⟨ob, es, ep, t, k _ _ (.inl rfl) e, c⟩
 | ins C dx fs =>
  obtain ⟨d, z, ne, e, mA, ⟨od, es, ep, e2, c⟩, r⟩ := x
  exact ⟨ho _ d, z, ne, k _ _ (.inl rfl) e, mA, ⟨od, es, ep, k _ _ (.inr d) e2, c⟩, r⟩
 | own y => obtain ⟨ob, e⟩ := x; exact ⟨ob, k _ _ (.inl rfl) e⟩
 | xd fs => obtain ⟨mA, ⟨od, es, ep, e, c⟩, r⟩ := x; exact ⟨mA, ⟨od, es, ep, k _ _ (.inl rfl) e, c⟩, r⟩
 | rng lo hi => obtain ⟨t, u, v, e⟩ := x; exact ⟨t, u, v, k _ _ (.inl rfl) e⟩
 | frz ob u ih => obtain ⟨e, q⟩ := x; exact ⟨k _ _ (.inl rfl) e, ih q⟩
 | tbl ps =>
  obtain ⟨qs, e, t, z⟩ := x
  refine ⟨qs, k a _ (.inl rfl) e, t, fun n u en pos cv ec => ?_⟩
  obtain ⟨c, oc, vs, v, e1, e2, e3⟩ := z n u en pos cv ec
  exact ⟨c, oc, vs, v, e1, hz c oc e2, e3⟩
 | met f y =>
  have e : h.get? a = some (PySem.W.methodObj (.ref f) (.ref y)) := x
  show h'.get? a = some (PySem.W.methodObj (.ref f) (.ref y))
  exact k a _ (.inl rfl) e
 | ext φ => obtain ⟨p, ⟨o, e⟩, st⟩ := x; exact ⟨st _ _ p fun o q => k _ _ (.inl rfl) q, ⟨o, k _ _ (.inl rfl) e⟩, st⟩
theorem HOk.lt (x : HOk P w H h) (e : H a = some o) : a < h.objs.size := (x a o e).lt
theorem HOk.fresh (x : HOk P w H h) (e : h.objs.size <= a) : H a = none := by
 cases q : H a with
 | none => rfl
 | some u => exact absurd (Nat.lt_of_lt_of_le (x.lt q) e) (Nat.lt_irrefl _)
theorem HOk.kept (x : HOk P w H h) (k : ∀ b u, h.get? b = some u -> h'.get? b = some u) : HOk P w H h' := fun a o e =>
 (x a o e).stay (fun b u _ q => k b u q) (fun _ q => q) fun _ _ q => q
theorem HOk.laid (x : HOk P w H h) (k : ∀ b u, h.get? b = some u -> h'.get? b = some u) (hp : h.objs.size <= a) (new : ObjOk P w (upd H a o) h' a o) : HOk P w (upd H a o) h' := fun b u e => by
 have hn := x.fresh hp
 by_cases hb : b = a
 ·subst hb; rw [bM] at e; cases e; exact new
 ·rw [bC hb] at e
  exact (x b u e).stay (fun c v _ q => k c v q) (fun c q => by rw [bC (b0 q hn)]; exact q) (fun c xs q => by rw [bC (b0 q hn)]; exact q) fun c xs q => by rw [bC (b0 q hn)]; exact q
end
def Rd (H : Hp) (a : Addr) (u : HO) : Prop := H a = some u \/ ∃ o, H a = some (.frz o u)
theorem Rd.ok {P : Program} {w : World} {H : Hp} {h : Heap} {a : Addr} {u : HO} (r : Rd H a u) (x : HOk P w H h) : ObjOk P w H h a u := by
 rcases r with r | ⟨o, r⟩
 ·exact x a u r
 ·obtain ⟨_, q⟩ := x a _ r
  exact q
def Mut : Option HO -> Prop
 | some (.lst _) => True
 | some (.dK _) => True
 | some (.dT _) => True
 | some (.set _ _) => True
 | some (.ins _ _ _) => True
 | some (.ext _) => True
 | _ => False
section
variable {P : Program} {w : World} {H : Hp} {h h' : Heap} {x e : Addr} {o' : HO}
theorem HOk.write (ok : HOk P w H h) (mu : Mut (H x)) (he : e = x \/ H e = some (.own x)) (k : ∀ b u, b ≠ e -> h.get? b = some u -> h'.get? b = some u) (heo : ∃ u, h'.get? e = some u)
  (new : ObjOk P w (upd H x o') h' x o') : HOk P w (upd H x o') h' := fun b u q => by
 have nown : ∀ c y, H c = some (.own y) -> c ≠ x := fun c y r z => by subst z; rw [r] at mu; exact mu
 have ntup : ∀ c xs, H c = some (.tup xs) -> c ≠ x := fun c xs r z => by subst z; rw [r] at mu; exact mu
 by_cases hb : b = x
 ·subst hb; rw [bM] at q; cases q; exact new
 ·rw [bC hb] at q
  by_cases hbe : b = e
  ·have q' : H b = some (.own x) := by
    rcases he with z | z
    ·exact absurd (hbe.trans z) hb
    ·rw [hbe]; exact z
   rw [q] at q'; cases q'
   obtain ⟨v, hv⟩ := heo
   exact ⟨v, by rw [hbe]; exact hv⟩
  ·refine (ok b u q).stay (fun c v hc r => k c v ?_ r) (fun c r => by rw [bC (nown c b r)]; exact r) (fun c xs r => by rw [bC (ntup c xs r)]; exact r) fun c xs r => by rw [bC (by rintro rfl; rw [r] at mu; exact mu)]; exact r
   rcases hc with rfl | hc
   ·exact hbe
   ·rintro rfl
    rcases he with z | z
    ·exact nown c b hc z
    ·rw [hc] at z; cases z; exact hb rfl
end
structure Un (fs ex : List Addr) (H H' : Hp) (h h' : Heap) : Prop where
 keep : ∀ b o, h.get? b = some o -> H b = none -> b ∉ fs -> b ∉ ex -> h'.get? b = some o
 slot : ∀ b o, h.get? b = some o -> H b = none -> b ∈ fs -> b ∉ ex -> ∃ sl, h'.get? b = some { o with slots := sl }
 free : ∀ b o, h.get? b = some o -> H b = none -> b ∉ ex -> H' b = none
 there : ∀ b o, h.get? b = some o -> b ∉ ex -> ∃ o', h'.get? b = some o'
 tups : ∀ b xs, H b = some (.tup xs) -> H' b = some (.tup xs)
 frzs : ∀ b o u, H b = some (.frz o u) -> H' b = some (.frz o u)
 tbls : ∀ b ps, H b = some (.tbl ps) -> ∃ more, H' b = some (.tbl (ps ++ more))
section
variable {fs fs' ex ex' : List Addr} {H H1 H2 : Hp} {h h1 h2 h' : Heap} {a x e : Addr} {o : HO}
theorem Un.any (u : Un fs ex H H1 h h1) {b : Addr} {ob : Obj} (q : h.get? b = some ob) (n : H b = none) (hx : b ∉ ex) : ∃ sl, h1.get? b = some { ob with slots := sl } := by
 by_cases hb : b ∈ fs
 ·exact u.slot b ob q n hb hx
 ·exact ⟨ob.slots, u.keep b ob q n hb hx⟩
theorem Un.kept (k : ∀ b u, h.get? b = some u -> h'.get? b = some u) : Un fs ex H H h h' :=
 ⟨fun b ob q _ _ _ => k b ob q, fun b ob q _ _ _ => ⟨ob.slots, k b ob q⟩, fun _ _ _ n _ => n, fun b ob q _ => ⟨ob, k b ob q⟩, fun _ _ q => q, fun _ _ _ q => q, fun _ ps q => ⟨#[], by rw [q]; simp⟩⟩
theorem Un.refl : Un fs ex H H h h := Un.kept fun _ _ q => q
theorem Un.laid (k : ∀ b u, h.get? b = some u -> h'.get? b = some u) (hp : h.objs.size <= a) (hn : H a = none) : Un fs ex H (upd H a o) h h' where
 keep := fun b u q _ _ _ => k b u q
 slot := fun b u q _ _ _ => ⟨u.slots, k b u q⟩
 free := fun b u q n _ => by rw [bC (Nat.ne_of_lt (Nat.lt_of_lt_of_le (Heap.lt_size q) hp))]; exact n
 there := fun b u q _ => ⟨u, k b u q⟩
 tups := fun b xs q => by rw [bC (b0 q hn)]; exact q
 frzs := fun b u xs q => by rw [bC (b0 q hn)]; exact q
 tbls := fun b ps q => ⟨#[], by rw [bC (b0 q hn), q]; simp⟩
theorem Un.write (mu : Mut (H x)) (he : e = x \/ H e = some (.own x)) (k : ∀ b u, b ≠ e -> h.get? b = some u -> h'.get? b = some u) (heo : ∃ u, h'.get? e = some u) : Un fs ex H (upd H x o) h h' := by
 have hx : ∀ b, H b = none -> b ≠ x := fun b n z => by subst z; rw [n] at mu; exact mu
 have hb : ∀ b, H b = none -> b ≠ e := fun b n z => by
  subst z
  rcases he with r | r
  ·exact hx b n r
  ·rw [n] at r; cases r
 have hm : ∀ b u, H b = some u -> ¬ Mut (some u) -> b ≠ x := fun b u q nm z => by subst z; rw [q] at mu; exact nm mu
 refine ⟨fun b u q n _ _ => k b u (hb b n) q, fun b u q n _ _ => ⟨u.slots, k b u (hb b n) q⟩, fun b u q n _ => by rw [bC (hx b n)]; exact n, fun b u q _ => ?_,
  fun b xs q => by rw [bC (hm b _ q fun z => z)]; exact q, fun b u xs q => by rw [bC (hm b _ q fun z => z)]; exact q, fun b ps q => ⟨#[], by rw [bC (hm b _ q fun z => z), q]; simp⟩⟩
 by_cases hbe : b = e
 ·subst hbe; exact heo
 ·exact ⟨u, k b u hbe q⟩
end
def trk (h : Heap) (H : Hp) : List Addr := (List.range h.objs.size).filter fun a => (H a).isSome
def aB4 (h : Heap) (H : Hp) : Heap := PySem.W.hideAll h (trk h H)
theorem yQ (h : Heap) (H : Hp) : (aB4 h H).objs.size = h.objs.size := PySem.W.hideAll_size _ _
theorem aB6 {h : Heap} {H : Hp} {b : Addr} {o : Obj} (e : h.get? b = some o) (n : H b = none) : (aB4 h H).get? b = some o :=
 PySem.W.hideAll_get _ e fun hm => by
  have q : (H b).isSome = true := (List.mem_filter.mp hm).2
  rw [n] at q; simp at q
theorem aEk {h : Heap} {H : Hp} {b : Addr} {o : Obj} (e : (aB4 h H).get? b = some o) : h.get? b = some o /\ H b = none := by
 have e' : h.get? b = some o := PySem.W.of_hideAll (trk h H) e
 refine ⟨e', ?_⟩
 cases q : H b with
 | none => rfl
 | some x =>
  have hm : b ∈ trk h H := List.mem_filter.mpr ⟨List.mem_range.mpr (Heap.lt_size e'), by simp [q]⟩
  have z : (aB4 h H).get? b = none := PySem.W.hideAll_none (trk h H) hm
  rw [z] at e; cases e
def aE7 (g h : Heap) (L : Addr) : List (Addr × Obj) := (List.range h.objs.size).filterMap fun a => if a = L \/ (g.get? a).isSome = true then none else (h.get? a).map fun o => (a, o)
def rest (g h : Heap) (L d : Addr) : List (Addr × Obj) := (aE7 g h L).filter fun p => decide (p.1 ≠ d)
def lamsOf : List Str := ["rising", "points_in_order"]
def tbs (K : PySem.W.Frag) : List (Addr × Addr × Str) := K.filterMap fun p => match p.2.data with
 | .fields vs => match (vs[11]? : Option Value), (vs[1]? : Option Value) with
  | some (.ref P), some (.str n _) => if lamsOf.contains n then some (p.1, P, n) else none
  | _, _ => none
 | _ => none
def Tbs (K : PySem.W.Frag) (H : Hp) : Prop := ∀ p ∈ tbs K, ∃ more, H p.2.1 = some (.tbl (#[.str p.2.2 0] ++ more))
def aFh (K : PySem.W.Frag) (ts : List Addr) : Bool := (tbs K).all fun p => PySem.W.codeHdIn K p.1 p.2.1 && (K.lookup p.2.1).isNone && ts.contains p.2.1 && (tbs K).all fun q => p.2.1 != q.2.1 || p.2.2 == q.2.2
structure Mod (K : PySem.W.Frag) (mg : Str -> Option Value) (base : Heap) : Prop where
 kin : K.In base
 glob : base.Ns mainGlobals mg
 blt : ∃ mb, base.Ns builtinsNs mb /\ ∀ x : Str, x ≠ "__name__" -> mb x = bootBuiltins x
 nolimit : base.NoLimit
 bm : ∃ bm ob, mg "__builtins__" = some (.ref bm) /\ bm ≠ builtinsNs /\ base.get? bm = some ob /\ ob.cls = .type "module" /\ ob.dict = some builtinsNs /\ ob.data = .plain
structure Cx where
 prog : Program
 w : World
 K : PySem.W.Frag
 mg : Str -> Option Value
 base : Heap
 A : Around
 N : List Str
 s₀ : Shared
 H₀ : Hp
 env : Env
 outer : List Env
 stack : List Env
 ex : List Addr
 fn : Str -> Bool
 calm : Bool
 pn : List (Addr × Obj)
 xe : Value -> Shared -> Prop
def frs (l : List Env) : List Addr := l.filterMap (·.frame)
abbrev Cx.fs (X : Cx) : List Addr := frs X.outer
def Vis (sc : Scope) (x : Str) : Prop := sc.names.lookup x = some .local \/ sc.names.lookup x = some .cell \/ sc.names.lookup x = some .free
def Loc (sc : Scope) (x : Str) : Prop := sc.names.lookup x = some .local \/ sc.names.lookup x = some .cell
def Look (env : Env) (h : Heap) (m : Str -> Option Value) (x : Str) (u : Value) : Prop :=
 (env.kindOf x = some .local /\ m x = some u) \/ ((env.kindOf x = some .cell \/ env.kindOf x = some .free) /\ ∃ c, env.cells.lookup x = some c /\ h.IsCell c (some u))
structure Cx.Ok (X : Cx) : Prop where
 mod : Mod X.K X.mg X.base
 kind : X.env.scope.kind = .function
 glob : X.env.globals = mainGlobals
 blt : X.env.builtins = builtinsNs
 above : X.s₀.heap.objs.size <= X.env.locals
 inj : ∀ x y c, X.env.cells.lookup x = some c -> X.env.cells.lookup y = some c -> x = y
 has : ∀ x, (X.env.kindOf x = some .cell \/ X.env.kindOf x = some .free) -> ∃ c, X.env.cells.lookup x = some c
 cab : ∀ x c, X.fn x = true -> X.env.cells.lookup x = some c -> X.s₀.heap.objs.size <= c
 hd : X.calm = true -> X.A.handled = none
 frames : X.A.frames = some X.stack
 stk : X.stack = X.outer \/ (X.stack = X.env :: X.outer /\ X.env.frame = some X.env.locals)
 exf : ∀ b ∈ X.ex, b ≠ X.env.locals /\ ∀ x c, X.env.cells.lookup x = some c -> c ≠ b
 bs : ∀ b o, X.base.get? b = some o -> X.s₀.heap.get? b = some o /\ X.H₀ b = none
 bsz : X.base.objs.size <= X.s₀.heap.objs.size
 noex : ∀ b o, X.base.get? b = some o -> b ∉ X.ex
 exfs : ∀ b ∈ X.ex, b ∉ X.fs
 funs : X.s₀.heap.FunFrames X.base X.outer
 frf : ∀ b ∈ X.fs, X.H₀ b = none
 tab : Tbs X.K X.H₀
structure Inv (X : Cx) (pins : List (Addr × Obj)) (σ : List (Option V)) (H : Hp) (s : Shared) : Prop where
 ok : X.Ok
 os : s.os = X.s₀.os
 bare : AllBare s.gens
 base : Un X.fs X.ex X.H₀ H X.s₀.heap s.heap
 loc : ∃ m, s.heap.Ns X.env.locals m /\ ∀ (i : Nat) (x : Str) (v : V), X.N[i]? = some x -> σ[i]? = some (some v) -> Vis X.env.scope x -> ∃ u, RelV v u /\ Look X.env s.heap m x u
 cell : ∀ x c, X.env.cells.lookup x = some c -> ∃ v, s.heap.IsCell c v
 free : H X.env.locals = none
 freeC : ∀ x c, X.env.cells.lookup x = some c -> H c = none
 pin : ∀ p ∈ X.pn ++ pins, s.heap.get? p.1 = some p.2 /\ H p.1 = none /\ p.1 ≠ X.env.locals /\ p.1 ∉ X.fs /\ ∀ v, p.2.data ≠ .cell v
 hok : HOk X.prog X.w H s.heap
 len : σ.length = X.N.length
section
variable {X : Cx} {pins : List (Addr × Obj)} {σ : List (Option V)} {H H' : Hp} {s : Shared} {h' : Heap}
theorem Cx.Ok.nofr (ok : X.Ok) {b : Addr} {o : Obj} (e : X.base.get? b = some o) : b ∉ X.fs := fun hb => by
 have := (ok.funs.mem hb).1
 rw [e] at this; cases this
theorem Inv.tab (I : Inv X pins σ H s) : Tbs X.K H := fun p hp => by
 obtain ⟨m, e⟩ := I.ok.tab p hp
 obtain ⟨m2, e2⟩ := I.base.tbls _ _ e
 exact ⟨m ++ m2, by rw [e2, Array.append_assoc]⟩
theorem Inv.bs (I : Inv X pins σ H s) : ∀ b o, X.base.get? b = some o -> s.heap.get? b = some o /\ H b = none := fun b o e =>
 ⟨I.base.keep b o (I.ok.bs b o e).1 (I.ok.bs b o e).2 (I.ok.nofr e) (I.ok.noex b o e), I.base.free b o (I.ok.bs b o e).1 (I.ok.bs b o e).2 (I.ok.noex b o e)⟩
theorem Inv.bk (I : Inv X pins σ H s) : ∀ b o, X.base.get? b = some o -> s.heap.get? b = some o := fun b o e => (I.bs b o e).1
theorem Inv.mod (I : Inv X pins σ H s) : Mod X.K X.mg X.base := I.ok.mod
theorem Inv.kIn (I : Inv X pins σ H s) : X.K.In s.heap := I.ok.mod.kin.keeps I.bk
theorem Inv.lt (I : Inv X pins σ H s) : X.env.locals < s.heap.objs.size := let ⟨_, hn, _⟩ := I.loc; hn.lt
theorem Inv.sz (I : Inv X pins σ H s) : X.s₀.heap.objs.size <= s.heap.objs.size := Nat.le_trans I.ok.above (Nat.le_of_lt I.lt)
theorem Inv.nofs (I : Inv X pins σ H s) {a : Addr} (h : s.heap.objs.size <= a) : a ∉ X.fs := fun hb => by
 obtain ⟨_, o, ho, _⟩ := I.ok.funs.mem hb
 exact absurd (Nat.lt_of_lt_of_le (Heap.lt_size ho) (Nat.le_trans I.sz h)) (Nat.lt_irrefl _)
theorem Inv.cne (I : Inv X pins σ H s) : ∀ x c, X.env.cells.lookup x = some c -> c ≠ X.env.locals := fun x c e z => by
 obtain ⟨v, o, ho, hd⟩ := I.cell x c e
 obtain ⟨m, ⟨o', es, ep, ho', hd', _⟩, _⟩ := I.loc
 rw [z, ho'] at ho; cases ho; rw [hd'] at hd; cases hd
theorem Inv.funs (I : Inv X pins σ H s) : s.heap.FunFrames X.base X.outer := by
 have all : ∀ (l : List Env), (∀ b ∈ frs l, b ∈ X.fs) -> X.s₀.heap.FunFrames X.base l -> s.heap.FunFrames X.base l := by
  intro l
  induction l with
  | nil => intro _ _; trivial
  | cons env r ih =>
   intro hs hl
   obtain ⟨hk, ⟨L, o, hf, hn, ho, hd⟩, hr⟩ := hl
   have hL : L ∈ X.fs := hs L (by unfold frs; rw [List.filterMap_cons, hf]; exact List.mem_cons_self)
   obtain ⟨sl, e⟩ := I.base.slot L o ho (I.ok.frf L hL) hL fun z => I.ok.exfs L z hL
   exact ⟨hk, ⟨L, _, hf, hn, e, hd⟩, ih (fun b hb => hs b (by unfold frs; rw [List.filterMap_cons, hf]; exact List.mem_cons_of_mem _ hb)) hr⟩
 exact all X.outer (fun _ hb => hb) I.ok.funs
theorem Inv.stack (I : Inv X pins σ H s) : s.heap.FunFrames X.base X.stack := by
 rcases I.ok.stk with e | ⟨e, hf⟩
 ·rw [e]; exact I.funs
 ·rw [e]
  obtain ⟨m, hn, _⟩ := I.loc
  refine .cons (by rw [I.ok.kind]; decide) hf hn ?_ I.funs
  exact Heap.get?_none_of_le (Nat.le_trans I.ok.bsz I.ok.above)
theorem Inv.stkSub (I : Inv X pins σ H s) : ∀ b ∈ frs X.stack, b ∈ X.env.locals :: X.fs := fun b hb => by
 rcases I.ok.stk with e | ⟨e, hf⟩
 ·rw [e] at hb; exact List.mem_cons_of_mem _ hb
 ·rw [e] at hb
  unfold frs at hb
  rw [List.filterMap_cons, hf] at hb
  exact hb
theorem Inv.stkFree (I : Inv X pins σ H s) : ∀ b ∈ frs X.stack, H b = none := fun b hb => by
 rcases List.mem_cons.mp (I.stkSub b hb) with e | hb
 ·rw [e]; exact I.free
 ·obtain ⟨_, o, ho, _⟩ := I.ok.funs.mem hb
  exact I.base.free b o ho (I.ok.frf b hb) fun z => I.ok.exfs b z hb
theorem Inv.step {g' : Array GenState} {t' : Nat} {d' : Drawn} {ch : List Addr} (I : Inv X pins σ H s)
  (hch : ∀ b ∈ ch, (b ∈ X.ex \/ X.s₀.heap.objs.size <= b) /\ b ≠ X.env.locals /\ (∀ x c, X.env.cells.lookup x = some c -> c ≠ b) /\ ∀ p ∈ X.pn ++ pins, p.1 ≠ b)
  (keep : ∀ b o, b ≠ X.env.locals -> b ∉ X.fs -> b ∉ ch -> s.heap.get? b = some o -> H b = none -> h'.get? b = some o)
  (slot : ∀ b o, b ≠ X.env.locals -> b ∈ X.fs -> b ∉ ch -> s.heap.get? b = some o -> H b = none -> ∃ sl, h'.get? b = some { o with slots := sl }) (free : ∀ b o, b ∉ ch -> s.heap.get? b = some o -> H b = none -> H' b = none)
  (there : ∀ b o, b ∉ ch -> s.heap.get? b = some o -> ∃ o', h'.get? b = some o')
  (tups : ∀ b xs, H b = some (.tup xs) -> H' b = some (.tup xs)) (frzs : ∀ b o u, H b = some (.frz o u) -> H' b = some (.frz o u)) (tbls : ∀ b ps, H b = some (.tbl ps) -> ∃ more, H' b = some (.tbl (ps ++ more)))
  (ns : ∀ m, s.heap.Ns X.env.locals m -> h'.Ns X.env.locals m) (hok : HOk X.prog X.w H' h') (hg : AllBare g') :
  Inv X pins σ H' { s with heap := h', gens := g', drawn := d', toks := t' } := by
 have neL : ∀ b o, X.s₀.heap.get? b = some o -> b ≠ X.env.locals := fun b o e => Nat.ne_of_lt (Nat.lt_of_lt_of_le (Heap.lt_size e) I.ok.above)
 have neC : ∀ b o, X.s₀.heap.get? b = some o -> b ∉ X.ex -> b ∉ ch := fun b o e hx hb => by
  rcases (hch b hb).1 with z | z
  ·exact hx z
  ·exact absurd (Nat.lt_of_lt_of_le (Heap.lt_size e) z) (Nat.lt_irrefl _)
 have cellK : ∀ x c, X.env.cells.lookup x = some c -> ∀ v, s.heap.IsCell c v -> h'.IsCell c v := fun x c e v ⟨o, ho, hd⟩ => by
  have nch : c ∉ ch := fun z => (hch c z).2.2.1 x c e rfl
  by_cases hc : c ∈ X.fs
  ·obtain ⟨sl, q⟩ := slot c o (I.cne x c e) hc nch ho (I.freeC x c e)
   exact ⟨_, q, hd⟩
  ·exact ⟨o, keep c o (I.cne x c e) hc nch ho (I.freeC x c e), hd⟩
 refine ⟨I.ok, I.os, hg, ⟨fun b o e n hb hx => ?_, fun b o e n hb hx => ?_, fun b o e n hx => ?_, fun b o e hx => ?_, fun b xs e => tups b xs (I.base.tups b xs e), fun b o xs e => frzs b o xs (I.base.frzs b o xs e), fun b ps e => ?_⟩, ?_, fun x c e => ?_, ?_, fun x c e => ?_, fun p hp => ?_, hok, I.len⟩
 ·exact keep b o (neL b o e) hb (neC b o e hx) (I.base.keep b o e n hb hx) (I.base.free b o e n hx)
 ·obtain ⟨sl, e1⟩ := I.base.slot b o e n hb hx
  obtain ⟨sl', e2⟩ := slot b _ (neL b o e) hb (neC b o e hx) e1 (I.base.free b o e n hx)
  exact ⟨sl', e2⟩
 ·obtain ⟨o', e1⟩ := I.base.there b o e hx
  exact free b o' (neC b o e hx) e1 (I.base.free b o e n hx)
 ·obtain ⟨o', e1⟩ := I.base.there b o e hx
  exact there b o' (neC b o e hx) e1
 ·obtain ⟨m1, e1⟩ := I.base.tbls b ps e
  obtain ⟨m2, e2⟩ := tbls b _ e1
  exact ⟨m1 ++ m2, by rw [e2, Array.append_assoc]⟩
 ·obtain ⟨m, hn, hl⟩ := I.loc
  refine ⟨m, ns m hn, fun i x v e1 e2 e3 => ?_⟩
  obtain ⟨u, r, l⟩ := hl i x v e1 e2 e3
  refine ⟨u, r, ?_⟩
  rcases l with l | ⟨k, c, e, z⟩
  ·exact .inl l
  ·exact .inr ⟨k, c, e, cellK x c e _ z⟩
 ·obtain ⟨v, z⟩ := I.cell x c e
  exact ⟨v, cellK x c e v z⟩
 ·obtain ⟨m, ⟨o, _, _, ho, _⟩, _⟩ := I.loc
  exact free _ o (fun z => (hch _ z).2.1 rfl) ho I.free
 ·obtain ⟨v, o, ho, hd⟩ := I.cell x c e
  exact free c o (fun z => (hch c z).2.2.1 x c e rfl) ho (I.freeC x c e)
 ·obtain ⟨e, n, ne, nf, d⟩ := I.pin p hp
  have nch : p.1 ∉ ch := fun z => (hch p.1 z).2.2.2 p hp rfl
  exact ⟨keep p.1 p.2 ne nf nch e n, free p.1 p.2 nch e n, ne, nf, d⟩
theorem Inv.un {t' : Nat} (I : Inv X pins σ H s) (u : Un X.fs [] H H' s.heap h') (hok : HOk X.prog X.w H' h') : Inv X pins σ H' { s with heap := h', toks := t' } := by
 obtain ⟨m, ⟨o, es, ep, ho, r⟩, _⟩ := id I.loc
 obtain ⟨sl, hL⟩ := u.any ho I.free (by simp)
 exact I.step (g' := s.gens) (d' := s.drawn) (ch := []) (fun _ z => nomatch z) (fun b o _ hb _ e n => u.keep b o e n hb (by simp)) (fun b o _ hb _ e n => u.slot b o e n hb (by simp)) (fun b o _ e n => u.free b o e n (by simp)) (fun b o _ e => u.there b o e (by simp)) u.tups u.frzs u.tbls (fun m' hm => by
  obtain ⟨o', es', ep', ho', r'⟩ := hm
  rw [ho] at ho'; cases ho'
  exact ⟨_, es', ep', hL, r'⟩) hok I.bare
theorem Inv.call {g' : Array GenState} {t' : Nat} {d' : Drawn} {ch : List Addr} (I : Inv X pins σ H s) (u : Un (frs X.stack) ch H H' s.heap h') (hok : HOk X.prog X.w H' h') (hg : AllBare g')
  (hch : ∀ b ∈ ch, (b ∈ X.ex \/ X.s₀.heap.objs.size <= b) /\ b ≠ X.env.locals /\ (∀ x c, X.env.cells.lookup x = some c -> c ≠ b) /\ ∀ p ∈ X.pn ++ pins, p.1 ≠ b) :
  Inv X pins σ H' { s with heap := h', gens := g', drawn := d', toks := t' } := by
 obtain ⟨m, ⟨o, es, ep, ho, r⟩, _⟩ := id I.loc
 obtain ⟨sl, hL⟩ := u.any ho I.free fun z => (hch _ z).2.1 rfl
 exact I.step (ch := ch) hch (fun b o hL hb hc e n => u.keep b o e n (fun z => (List.mem_cons.mp (I.stkSub b z)).elim hL hb) hc) (fun b o _ _ hc e n => u.any e n hc) (fun b o hc e n => u.free b o e n hc) (fun b o hc e => u.there b o e hc) u.tups u.frzs u.tbls (fun m' hm => by
  obtain ⟨o', es', ep', ho', r'⟩ := hm
  rw [ho] at ho'; cases ho'
  exact ⟨_, es', ep', hL, r'⟩) hok hg
theorem Inv.turned {t' : Nat} {it : Addr} (I : Inv X pins σ H s) (k : ∀ b o, b ≠ it -> s.heap.get? b = some o -> h'.get? b = some o) (hn : H it = none) (hL : it ≠ X.env.locals)
  (h1 : it ∈ X.ex \/ X.s₀.heap.objs.size <= it) (h2 : ∀ x c, X.env.cells.lookup x = some c -> c ≠ it) (h3 : ∀ p ∈ X.pn ++ pins, p.1 ≠ it) : Inv X pins σ H { s with heap := h', toks := t' } := by
 have nit : ∀ b u, H b = some u -> b ≠ it := fun b u e z => by rw [z, hn] at e; cases e
 refine I.step (g' := s.gens) (d' := s.drawn) (ch := [it]) (fun b hb => ?_) (fun b o _ _ hc e _ => k b o (fun z => hc (by simp [z])) e) (fun b o _ _ hc e _ => ⟨o.slots, k b o (fun z => hc (by simp [z])) e⟩) (fun _ _ _ _ n => n)
  (fun b o hc e => ⟨o, k b o (fun z => hc (by simp [z])) e⟩) (fun _ _ e => e) (fun _ _ _ e => e) (fun b ps e => ⟨#[], by rw [e]; simp⟩) (fun m hm => ?_) (fun b u e => ?_) I.bare
 ·have e : b = it := by simpa using hb
  subst e
  exact ⟨h1, hL, h2, h3⟩
 ·obtain ⟨o, es, ep, ho, r⟩ := hm
  exact ⟨o, es, ep, k _ o (Ne.symm hL) ho, r⟩
 ·refine (I.hok b u e).stay (fun c v hc q => k c v ?_ q) (fun _ q => q) fun _ _ q => q
  rcases hc with z | z
  ·rw [z]; exact nit b u e
  ·exact nit c _ z
theorem Inv.tok (I : Inv X pins σ H s) (t : Nat) : Inv X pins σ H { s with toks := t } := I.un (h' := s.heap) (t' := t) Un.refl I.hok
theorem Inv.kept {t' : Nat} (I : Inv X pins σ H s) (k : ∀ b u, s.heap.get? b = some u -> h'.get? b = some u) : Inv X pins σ H { s with heap := h', toks := t' } := I.un (Un.kept k) (I.hok.kept k)
theorem Inv.laid {a : Addr} {o : HO} {t' : Nat} (I : Inv X pins σ H s) (k : ∀ b u, s.heap.get? b = some u -> h'.get? b = some u) (hp : s.heap.objs.size <= a) (new : ObjOk X.prog X.w (upd H a o) h' a o) :
  Inv X pins σ (upd H a o) { s with heap := h', toks := t' } := I.un (Un.laid k hp (I.hok.fresh hp)) (I.hok.laid k hp new)
theorem Inv.write {x e : Addr} {o : HO} {t' : Nat} (I : Inv X pins σ H s) (mu : Mut (H x)) (he : e = x \/ H e = some (.own x)) (k : ∀ b u, b ≠ e -> s.heap.get? b = some u -> h'.get? b = some u) (heo : ∃ u, h'.get? e = some u)
  (new : ObjOk X.prog X.w (upd H x o) h' x o) : Inv X pins σ (upd H x o) { s with heap := h', toks := t' } := I.un (Un.write mu he k heo) (I.hok.write mu he k heo new)
theorem Inv.weak {σ' : List (Option V)} (I : Inv X pins σ H s) (hl : σ'.length = σ.length) (w : ∀ (i : Nat) v, σ'[i]? = some (some v) -> σ[i]? = some (some v)) : Inv X pins σ' H s :=
 ⟨I.ok, I.os, I.bare, I.base, let ⟨m, hn, hl'⟩ := I.loc; ⟨m, hn, fun i x v e1 e2 e3 => hl' i x v e1 (w i v e2) e3⟩, I.cell, I.free, I.freeC, I.pin, I.hok, hl.trans I.len⟩
theorem Inv.pins_of {pins' : List (Addr × Obj)} (I : Inv X pins σ H s) (h : ∀ p ∈ pins', s.heap.get? p.1 = some p.2 /\ H p.1 = none /\ p.1 ≠ X.env.locals /\ p.1 ∉ X.fs /\ ∀ v, p.2.data ≠ .cell v) : Inv X pins' σ H s :=
 ⟨I.ok, I.os, I.bare, I.base, I.loc, I.cell, I.free, I.freeC, fun p hp => (List.mem_append.mp hp).elim (fun z => I.pin p (List.mem_append_left _ z)) (h p), I.hok, I.len⟩
theorem u3 {N : List Str} (hN : N.Nodup) {i j : Nat} {x : Str} (a : N[i]? = some x) (b : N[j]? = some x) : i = j := by
 obtain ⟨h1, e1⟩ := List.getElem?_eq_some_iff.mp a
 obtain ⟨h2, e2⟩ := List.getElem?_eq_some_iff.mp b
 exact (List.getElem_inj hN).mp (e1.trans e2.symm)
theorem y0 {M : Model} {A : Around} {E : Value -> Shared -> Prop} {i : Nat} {x : Str} {v : V} {u : Value} {Q : Unit -> Shared -> Prop} (I : Inv X pins σ H s) (hN : X.N.Nodup) (hi : X.N[i]? = some x) (hx : Loc X.env.scope x) (r : RelV v u)
  (h : ∀ s', Inv X pins (σ.set i (some v)) H s' -> (∃ a, Heap.SameBut a s.heap s'.heap /\ (a = X.env.locals \/ X.env.cells.lookup x = some a)) -> Q () s') (hf : X.fn x = true \/ X.env.scope.names.lookup x = some .local := by first | exact .inl rfl | exact .inr rfl | assumption) : wpAny M A (storeName X.env x u) Q E s := by
 obtain ⟨m, hn, hl⟩ := id I.loc
 have hcls : (X.env.scope.kind == .class || (X.env.scope.kind == .module && X.env.locals != X.env.globals)) = false := by rw [I.ok.kind]; rfl
 have hiσ : i < σ.length := by rw [I.len]; exact (List.getElem?_eq_some_iff.mp hi).1
 have cne := I.cne
 have tracked : ∀ {a : Addr} {h' : Heap}, (∃ o, s.heap.get? a = some o /\ H a = none) -> Heap.SameBut a s.heap h' -> HOk X.prog X.w H h' := fun {a h'} ha hs b ob e => by
  obtain ⟨_, _, hfree⟩ := ha
  refine (I.hok b ob e).stay (fun c w' hc q => (hs.2 c ?_).trans q) (fun _ q => q) fun _ _ q => q
  rintro rfl
  rcases hc with rfl | hc
  ·rw [hfree] at e; cases e
  ·rw [hfree] at hc; cases hc
 rcases hx with hk | hk
 ·refine wpAny_storeName_local hk hn (fun h' hn' hs => ?_) hcls
  obtain ⟨oL, _, _, hoL, _⟩ := id hn
  refine h _ ⟨I.ok, I.os, I.bare, ⟨fun b o e n hb hx => ?_, fun b o e n hb hx => ?_, I.base.free, fun b o e hx => ?_, I.base.tups, I.base.frzs, I.base.tbls⟩, ⟨_, hn', fun j y v' e1 e2 e3 => ?_⟩, fun y c e => ?_, I.free, I.freeC, fun p hp => ?_, tracked ⟨oL, hoL, I.free⟩ hs, by simpa using I.len⟩ ⟨_, hs, .inl rfl⟩
  ·exact (hs.2 b (Nat.ne_of_lt (Nat.lt_of_lt_of_le (Heap.lt_size e) I.ok.above))).trans (I.base.keep b o e n hb hx)
  ·obtain ⟨sl, e1⟩ := I.base.slot b o e n hb hx
   exact ⟨sl, (hs.2 b (Nat.ne_of_lt (Nat.lt_of_lt_of_le (Heap.lt_size e) I.ok.above))).trans e1⟩
  ·obtain ⟨o', e1⟩ := I.base.there b o e hx
   exact ⟨o', (hs.2 b (Nat.ne_of_lt (Nat.lt_of_lt_of_le (Heap.lt_size e) I.ok.above))).trans e1⟩
  ·by_cases hj : j = i
   ·subst hj
    rw [hi] at e1; cases e1
    rw [List.getElem?_set_self hiσ] at e2
    cases e2
    exact ⟨u, r, .inl ⟨hk, by simp⟩⟩
   ·rw [List.getElem?_set_ne (Ne.symm hj)] at e2
    obtain ⟨u', r', q⟩ := hl j y v' e1 e2 e3
    refine ⟨u', r', ?_⟩
    rcases q with ⟨k, e⟩ | ⟨k, c, e, z⟩
    ·refine .inl ⟨k, ?_⟩
     have : y ≠ x := fun e => hj (u3 hN e1 (e ▸ hi))
     simp [this, e]
    ·exact .inr ⟨k, c, e, z.sameBut hs (cne y c e)⟩
  ·obtain ⟨w', z⟩ := I.cell y c e
   exact ⟨w', z.sameBut hs (cne y c e)⟩
  ·obtain ⟨e, n, ne, nf, d⟩ := I.pin p hp
   exact ⟨(hs.2 p.1 ne).trans e, n, ne, nf, d⟩
 ·have hfn : X.fn x = true := by
   rcases hf with z | z
   ·exact z
   ·rw [z] at hk; cases hk
  obtain ⟨c, hc⟩ := I.ok.has x (.inl hk)
  obtain ⟨w', z⟩ := I.cell x c hc
  refine wpAny_storeName_cell I.ok.kind hk hc z (fun h' hc' hs => ?_)
  obtain ⟨oc, hoc, hocd⟩ := id z
  refine h { s with heap := h' } ⟨I.ok, I.os, I.bare, ⟨fun b o e n hb hx => ?_, fun b o e n hb hx => ?_, I.base.free, fun b o e hx => ?_, I.base.tups, I.base.frzs, I.base.tbls⟩, ⟨m, hn.sameBut hs (Ne.symm (cne x c hc)), fun j y v' e1 e2 e3 => ?_⟩, fun y c' e => ?_, I.free, I.freeC, fun p hp => ?_, tracked ⟨oc, hoc, I.freeC x c hc⟩ hs, by simpa using I.len⟩ ⟨c, hs, .inr hc⟩
  ·exact (hs.2 b (Nat.ne_of_lt (Nat.lt_of_lt_of_le (Heap.lt_size e) (I.ok.cab x c hfn hc)))).trans (I.base.keep b o e n hb hx)
  ·obtain ⟨sl, e1⟩ := I.base.slot b o e n hb hx
   exact ⟨sl, (hs.2 b (Nat.ne_of_lt (Nat.lt_of_lt_of_le (Heap.lt_size e) (I.ok.cab x c hfn hc)))).trans e1⟩
  ·obtain ⟨o', e1⟩ := I.base.there b o e hx
   exact ⟨o', (hs.2 b (Nat.ne_of_lt (Nat.lt_of_lt_of_le (Heap.lt_size e) (I.ok.cab x c hfn hc)))).trans e1⟩
  ·by_cases hj : j = i
   ·subst hj
    rw [hi] at e1; cases e1
    rw [List.getElem?_set_self hiσ] at e2
    cases e2
    exact ⟨u, r, .inr ⟨.inl hk, c, hc, hc'⟩⟩
   ·rw [List.getElem?_set_ne (Ne.symm hj)] at e2
    obtain ⟨u', r', q⟩ := hl j y v' e1 e2 e3
    refine ⟨u', r', ?_⟩
    rcases q with q | ⟨k, c', e, z'⟩
    ·exact .inl q
    ·refine .inr ⟨k, c', e, z'.sameBut hs ?_⟩
     rintro rfl
     exact hj (u3 hN e1 (I.ok.inj _ _ _ e hc ▸ hi))
  ·by_cases hcc : c' = c
   ·subst hcc; exact ⟨_, hc'⟩
   ·obtain ⟨w2, z2⟩ := I.cell y c' e
    exact ⟨w2, z2.sameBut hs hcc⟩
  ·obtain ⟨e, n, ne, nf, d⟩ := I.pin p hp
   refine ⟨(hs.2 p.1 ?_).trans e, n, ne, nf, d⟩
   intro q
   rw [q, hoc] at e
   have q' : oc = p.2 := Option.some.inj e
   exact d w' (by rw [<- q']; exact hocd)
theorem uW {M : Model} {A : Around} {E : Value -> Shared -> Prop} {i : Nat} {x : Str} {v : V} {u : Value} {Q : Unit -> Shared -> Prop} (I : Inv X pins σ H s) (hN : X.N.Nodup) (hi : X.N[i]? = some x) (hx : Loc X.env.scope x) (r : RelV v u)
  (h : ∀ s', Inv X pins (σ.set i (some v)) H s' -> Q () s') (hf : X.fn x = true \/ X.env.scope.names.lookup x = some .local := by first | exact .inl rfl | exact .inr rfl | assumption) : wpAny M A (storeName X.env x u) Q E s :=
 y0 I hN hi hx r (fun s' I' _ => h s' I') hf
theorem Inv.call' {s' : Shared} {ch : List Addr} (I : Inv X pins σ H s) (ho : s'.os = s.os) (u : Un (frs X.stack) ch H H' s.heap s'.heap) (hok : HOk X.prog X.w H' s'.heap) (hg : AllBare s'.gens)
  (hch : ∀ b ∈ ch, (b ∈ X.ex \/ X.s₀.heap.objs.size <= b) /\ b ≠ X.env.locals /\ (∀ x c, X.env.cells.lookup x = some c -> c ≠ b) /\ ∀ p ∈ X.pn ++ pins, p.1 ≠ b) : Inv X pins σ H' s' := by
 obtain ⟨h', g', d', t', o'⟩ := s'
 have e : o' = s.os := ho
 subst e
 exact I.call (g' := g') (t' := t') (d' := d') u hok hg hch
end
abbrev XK := Value -> Option Addr -> Hp -> Prop
abbrev St := List (Option V)
abbrev VK := V -> Hp -> Prop
abbrev TE := St -> Hp -> VK -> Prop
abbrev TT := St -> Hp -> (Bool -> Hp -> Prop) -> Prop
abbrev TA := St -> Hp -> (List V -> Hp -> Prop) -> Prop
structure Ends where
 nx : St -> Hp -> Prop
 rt : VK
 bk : St -> Hp -> Prop := fun _ _ => False
 ct : St -> Hp -> Prop := fun _ _ => False
abbrev TS := Ends -> St -> Hp -> Prop
def EP (X : Cx) (pins : List (Addr × Obj)) (σ : St) (Q : VK) (u : Value) (s' : Shared) : Prop := ∃ v H', Inv X pins σ H' s' /\ RelV v u /\ Q v H'
def TP (X : Cx) (pins : List (Addr × Obj)) (σ : St) (Q : Bool -> Hp -> Prop) (b : Bool) (s' : Shared) : Prop := ∃ H', Inv X pins σ H' s' /\ Q b H'
def AP (X : Cx) (pins : List (Addr × Obj)) (σ : St) (Q : List V -> Hp -> Prop) (us : List Value) (s' : Shared) : Prop := ∃ vs H', Inv X pins σ H' s' /\ Vals vs us /\ Q vs H'
def SP (X : Cx) (pins : List (Addr × Obj)) (D : Ends) (f : Flow) (s' : Shared) : Prop :=
 match f with
 | .next => ∃ σ' H', Inv X pins σ' H' s' /\ D.nx σ' H'
 | .brk => ∃ σ' H', Inv X pins σ' H' s' /\ D.bk σ' H'
 | .cont => ∃ σ' H', Inv X pins σ' H' s' /\ D.ct σ' H'
 | .ret u => ∃ v σ' H', Inv X pins σ' H' s' /\ RelV v u /\ D.rt v H'
def PE (X : Cx) (e : Expr) (t : TE) : Prop :=
 ∀ (pins : List (Addr × Obj)) (s : Shared) (σ : St) (H : Hp) (Q : VK), Inv X pins σ H s -> t σ H Q -> wpAny (model X.prog X.w) X.A (eval e X.env) (EP X pins σ Q) X.xe s
def PT (X : Cx) (e : Expr) (t : TT) : Prop :=
 ∀ (pins : List (Addr × Obj)) (s : Shared) (σ : St) (H : Hp) (Q : Bool -> Hp -> Prop), Inv X pins σ H s -> t σ H Q -> wpAny (model X.prog X.w) X.A (isTrue e X.env (eval e X.env)) (TP X pins σ Q) X.xe s
def PW (X : Cx) (e : Expr) (t : TT) : Prop :=
 ∀ (whole : Sem Value) (pins : List (Addr × Obj)) (s : Shared) (σ : St) (H : Hp) (Q : Bool -> Hp -> Prop), Inv X pins σ H s -> t σ H Q -> wpAny (model X.prog X.w) X.A (isTrue e X.env whole) (TP X pins σ Q) X.xe s
def PA (X : Cx) (es : List Expr) (t : TA) : Prop :=
 ∀ (pos : Pos) (pins : List (Addr × Obj)) (s : Shared) (σ : St) (H : Hp) (Q : List V -> Hp -> Prop), Inv X pins σ H s -> t σ H Q -> wpAny (model X.prog X.w) X.A (spliced (backTo pos (starEach es X.env))) (AP X pins σ Q) X.xe s
def PS (X : Cx) (st : Stmt) (t : TS) : Prop :=
 ∀ (pins : List (Addr × Obj)) (s : Shared) (σ : St) (H : Hp) (D : Ends), Inv X pins σ H s -> t D σ H -> wpAny (model X.prog X.w) X.A (exec st X.env) (SP X pins D) X.xe s
def PSs (X : Cx) (st : List Stmt) (t : TS) : Prop :=
 ∀ (pins : List (Addr × Obj)) (s : Shared) (σ : St) (H : Hp) (D : Ends), Inv X pins σ H s -> t D σ H -> wpAny (model X.prog X.w) X.A (execs st X.env) (SP X pins D) X.xe s
theorem thn {α : Type} {t : Sem α} {Q Q' : α -> Shared -> Prop} {M : Model} {A : Around} {E : Value -> Shared -> Prop} {s : Shared} (h : wpAny M A t Q E s) (hQ : ∀ a s, Q a s -> Q' a s) : wpAny M A t Q' E s := wpAny_mono h hQ fun _ _ x => x
section
variable {X : Cx}
def aJy (i : Nat) : TE := fun σ H Q => ∃ v, σ[i]? = some (some v) /\ Q v H
def tC (v : V) : TE := fun _ H Q => Q v H
theorem aD6 {i : Nat} {x : Str} {pos : Pos} (hN : X.N[i]? = some x) (hv : Vis X.env.scope x) (hd : (x == ("__debug__" : Str)) = false := by decide) (hcd : (x == ("__classdict__" : Str)) = false := by decide) : PE X (.Name x pos) (aJy i) := by
 intro pins s σ H Q I h
 obtain ⟨v, e, h⟩ := h
 obtain ⟨m, hn, hl⟩ := I.loc
 obtain ⟨u, r, l⟩ := hl i x v hN e hv
 have fin : EP X pins σ Q u s := ⟨v, H, I, r, h⟩
 rcases l with ⟨hk, hm⟩ | ⟨hk, c, hc, hcell⟩
 ·exact wpAny_Name (wpAny_loadName_local I.ok.kind hk hn hm fin) hd
 ·rcases hk with hk | hk
  ·exact wpAny_Name (wpAny_loadName_cell I.ok.kind hk hc hcell fin) hd
  ·exact wpAny_Name (wpAny_loadName_free I.ok.kind hk hc hcell fin hcd) hd
theorem aHa {i j pos} : PE X (.Constant (.int i) j pos) (tC (.int i)) := fun _ _ _ H _ I h => wpAny_Constant_int ⟨.int i, H, I.tok _, ⟨_, rfl⟩, h⟩
theorem aKs {b j pos} : PE X (.Constant (.bool b) j pos) (tC (.bl b)) := fun _ _ _ H _ I h => Constant_bool ⟨.bl b, H, I, rfl, h⟩
theorem aH6 {x j pos} : PE X (.Constant (.str x) j pos) (tC (.str x)) := fun _ _ _ H _ I h => Calls.Constant_str ⟨.str x, H, I.tok _, ⟨_, rfl⟩, h⟩
def Gl (X : Cx) (x : Str) : Prop := X.env.kindOf x = some .globalImplicit
theorem r0 {E : Value -> Shared -> Prop} {pins : List (Addr × Obj)} {s : Shared} {σ : St} {H : Hp} {x : Str} {u : Value} {pos : Pos} {Q : Value -> Shared -> Prop} (I : Inv X pins σ H s) (hg : Gl X x) (hm : X.mg x = some u) (h : Q u s)
  (hd : (x == ("__debug__" : Str)) = false := by decide) : wpAny (model X.prog X.w) X.A (eval (.Name x pos) X.env) Q E s :=
 Calls.Name_function_global I.ok.kind hg (Calls.loadGlobal_global (by rw [I.ok.glob]; exact I.mod.glob.keeps I.bk) hm h) hd
theorem qV {E : Value -> Shared -> Prop} {pins : List (Addr × Obj)} {s : Shared} {σ : St} {H : Hp} {x : Str} {u : Value} {pos : Pos} {Q : Value -> Shared -> Prop} (I : Inv X pins σ H s) (hg : Gl X x) (hm : X.mg x = none) (hv : bootBuiltins x = some u) (h : Q u s)
  (hn : x ≠ "__name__" := by decide) (hd : (x == ("__debug__" : Str)) = false := by decide) : wpAny (model X.prog X.w) X.A (eval (.Name x pos) X.env) Q E s := by
 obtain ⟨mb, h1, h2⟩ := I.mod.blt
 exact Calls.Name_function_global I.ok.kind hg (Calls.loadGlobal_builtin (by rw [I.ok.glob]; exact I.mod.glob.keeps I.bk) hm (by rw [I.ok.blt]; exact h1.keeps I.bk) ((h2 x hn).trans hv) h) hd
theorem aA5 {x : Str} {v : V} {u : Value} {pos : Pos} (hg : Gl X x) (hm : X.mg x = some u) (r : RelV v u) (hd : (x == ("__debug__" : Str)) = false := by decide) : PE X (.Name x pos) (tC v) :=
 fun _ _ _ H _ I h => r0 I hg hm ⟨v, H, I, r, h⟩ hd
theorem iI {x : Str} {v : V} {u : Value} {pos : Pos} (hg : Gl X x) (hm : X.mg x = none) (hv : bootBuiltins x = some u) (r : RelV v u) (hn : x ≠ "__name__" := by decide) (hd : (x == ("__debug__" : Str)) = false := by decide) : PE X (.Name x pos) (tC v) :=
 fun _ _ _ H _ I h => qV I hg hm hv ⟨v, H, I, r, h⟩ hn hd
variable {a b : Expr} {ta tb : TE} {pos : Pos}
def PC (X : Cx) (op : CmpOp) (a b : Expr) (t : TE) : Prop :=
 ∀ (pins : List (Addr × Obj)) (s : Shared) (σ : St) (H : Hp) (Q : VK), Inv X pins σ H s -> t σ H Q ->
  wpAny (model X.prog X.w) X.A (eval a X.env) (fun v s₁ => wpAny (model X.prog X.w) X.A (eval b X.env) (fun u s₂ => wpAny (model X.prog X.w) X.A (compareOp op v u) (EP X pins σ Q) X.xe s₂) X.xe s₁) X.xe s
theorem aCl (b : Expr) {op : CmpOp} (h : op ≠ .In) (h2 : op ≠ .NotIn) : behindInMarks op b = false := by
 have e1 : (op == CmpOp.In) = false := by cases op <;> first | rfl | exact absurd rfl h
 have e2 : (op == CmpOp.NotIn) = false := by cases op <;> first | rfl | exact absurd rfl h2
 cases b <;> simp [behindInMarks, e1, e2]
def tB (t : TE) : TT := fun σ H Q => t σ H fun x H1 => ∃ c, x = .bl c /\ Q c H1
theorem aHx {op : CmpOp} {t : TE} (h : PC X op a b t) (h1 : behindInMarks op b = false := by first | exact aCl _ (by decide) (by decide) | rfl) : PT X (.Compare a [op] [b] pos) (tB t) := by
 intro pins s σ H Q I hw
 refine wpAny_isTrue_Compare1 (thn (h pins s σ H _ I hw) fun v s1 h1 => thn h1 fun u s2 h2 => thn h2 fun c s3 ⟨x, H1, I1, r1, q1⟩ => ?_) h1
 obtain ⟨d, rfl, q⟩ := q1
 cases r1
 exact wpAny_truthy_bool ⟨H1, I1, q⟩
theorem aI3 {e : Expr} {t : TE} (h : PE X e t) (he : ∀ whole, isTrue e X.env whole = (do let v <- whole; standAt e.pos; holding [v] (truthy v)) := by intro _; rfl) : PT X e (tB t) := by
 intro pins s σ H Q I hw
 refine isTrue_plain (thn (h pins s σ H _ I hw) fun v s1 ⟨x, H1, I1, r1, q1⟩ => ?_) (he _)
 obtain ⟨d, rfl, q⟩ := q1
 cases r1
 exact wpAny_truthy_bool ⟨H1, I1, q⟩
variable {tA tB' : TT} {rest : List Expr}
def aNc (t u : TT) : TT := fun σ H Q => t σ H fun c H1 => if c = true then u σ H1 Q else Q false H1
def tOr (t u : TT) : TT := fun σ H Q => t σ H fun c H1 => if c = true then Q true H1 else u σ H1 Q
def aM6 (t : TT) : TT := fun σ H Q => t σ H fun c H1 => Q (!c) H1
theorem aEm (ha : PT X a tA) : PW X (.BoolOp .And [a] pos) tA := by
 intro wh pins s σ H Q I h
 refine isTrue_and (thn (ha pins s σ H Q I h) fun c s1 e => ?_)
 cases c with
 | true => exact isTrue_and_nil e
 | false => exact e
theorem aJz (ha : PT X a tA) : PW X (.BoolOp .Or [a] pos) tA := by
 intro wh pins s σ H Q I h
 refine isTrue_or (thn (ha pins s σ H Q I h) fun c s1 e => ?_)
 cases c with
 | false => exact isTrue_or_nil e
 | true => exact e
theorem aJ1 (ha : PT X a tA) (hb : PW X (.BoolOp .And (b :: rest) pos) tB') : PW X (.BoolOp .And (a :: b :: rest) pos) (aNc tA tB') := by
 intro wh pins s σ H Q I h
 refine isTrue_and (thn (ha pins s σ H _ I h) fun c s1 ⟨H1, I1, q1⟩ => ?_)
 cases c with
 | true => exact hb wh pins s1 σ H1 Q I1 q1
 | false => exact ⟨H1, I1, q1⟩
theorem aLq (ha : PT X a tA) (hb : PW X (.BoolOp .Or (b :: rest) pos) tB') : PW X (.BoolOp .Or (a :: b :: rest) pos) (tOr tA tB') := by
 intro wh pins s σ H Q I h
 refine isTrue_or (thn (ha pins s σ H _ I h) fun c s1 ⟨H1, I1, q1⟩ => ?_)
 cases c with
 | true => exact ⟨H1, I1, q1⟩
 | false => exact hb wh pins s1 σ H1 Q I1 q1
theorem aHw (ha : PT X a tA) : PT X (.UnaryOp .Not a pos) (aM6 tA) := by
 intro pins s σ H Q I h
 exact isTrue_not (ha pins s σ H (fun c H1 => Q (!c) H1) I h)
def aLj (ta tb : TE) : TE := fun σ H Q => ta σ H fun x H1 => ∃ c, x = .bl c /\ if c = true then tb σ H1 Q else Q (.bl false) H1
def aM8 (ta tb : TE) : TE := fun σ H Q => ta σ H fun x H1 => ∃ c, x = .bl c /\ if c = true then Q (.bl true) H1 else tb σ H1 Q
def aK9 (ta : TE) : TE := fun σ H Q => ta σ H fun x H1 => ∃ c, x = .bl c /\ Q (.bl (!c)) H1
theorem aHr {op} {t : TE} (h : PE X a t) : PE X (.BoolOp op [a] pos) t := fun pins s σ H Q I hw => BoolOp_one (h pins s σ H Q I hw)
theorem aIj (ha : PE X a ta) (hb : PE X (.BoolOp .And (b :: rest) pos) tb) : PE X (.BoolOp .And (a :: b :: rest) pos) (aLj ta tb) := by
 intro pins s σ H Q I h
 refine BoolOp_and (thn (ha pins s σ H _ I h) fun v s1 ⟨x, H1, I1, r1, q1⟩ => ?_)
 obtain ⟨c, rfl, q1⟩ := q1
 cases r1
 refine wpAny_truthy_bool ?_
 cases c with
 | true => exact hb pins s1 σ H1 Q I1 q1
 | false => exact ⟨.bl false, H1, I1, rfl, q1⟩
theorem aKm (ha : PE X a ta) (hb : PE X (.BoolOp .Or (b :: rest) pos) tb) : PE X (.BoolOp .Or (a :: b :: rest) pos) (aM8 ta tb) := by
 intro pins s σ H Q I h
 refine BoolOp_or (thn (ha pins s σ H _ I h) fun v s1 ⟨x, H1, I1, r1, q1⟩ => ?_)
 obtain ⟨c, rfl, q1⟩ := q1
 cases r1
 refine wpAny_truthy_bool ?_
 cases c with
 | false => exact hb pins s1 σ H1 Q I1 q1
 | true => exact ⟨.bl true, H1, I1, rfl, q1⟩
theorem aJ0 (ha : PE X a ta) : PE X (.UnaryOp .Not a pos) (aK9 ta) := by
 intro pins s σ H Q I h
 refine UnaryOp_ (thn (ha pins s σ H _ I h) fun v s1 ⟨x, H1, I1, r1, q1⟩ => ?_)
 obtain ⟨c, rfl, q1⟩ := q1
 cases r1
 exact not_of (wpAny_truthy_bool ⟨.bl (!c), H1, I1, rfl, q1⟩)
def tIf (t : TT) (ta tb : TE) : TE := fun σ H Q => t σ H fun c H1 => if c = true then ta σ H1 Q else tb σ H1 Q
theorem aBn {c : Expr} (hc : PT X c tA) (ha : PE X a ta) (hb : PE X b tb) : PE X (.IfExp c a b pos) (tIf tA ta tb) := by
 intro pins s σ H Q I h
 refine wpAny_IfExp (thn (hc pins s σ H _ I h) fun d s1 ⟨H1, I1, q1⟩ => ?_)
 cases d with
 | true => exact ha pins s1 σ H1 Q I1 q1
 | false => exact hb pins s1 σ H1 Q I1 q1
end
def SqL (K : PySem.W.Frag) (H : Hp) (a : Addr) (xs : List V) : Prop :=
 Rd H a (.lst xs) \/
  ∃ (o : Obj) (its : Array Value) (n : Nat), K.lookup a = some o /\ o.cls = .type "list" /\ o.dict = none /\ o.data = .seq its n /\ its.size <= sizeLine /\ Vals xs its.toList
def SqT (K : PySem.W.Frag) (H : Hp) (a : Addr) (xs : List V) : Prop :=
 Rd H a (.tup xs) \/
  ∃ (o : Obj) (its : Array Value) (n : Nat), K.lookup a = some o /\ o.cls = .type "tuple" /\ o.data = .seq its n /\ its.size <= sizeLine /\ Vals xs its.toList
def aMy : Value -> Option V
 | .none => some .non
 | .bool b => some (.bl b)
 | .int i _ => some (.int i)
 | .str x _ => some (.str x)
 | .bytes b _ => some (.byt b)
 | .float b _ => some (.flt b)
 | .ref a => some (.ref a)
 | .type n => some (.ty n)
 | _ => none
theorem RelV.abs {x : V} {u : Value} (r : RelV x u) : aMy u = some x := by
 cases x with
 | non => cases r; rfl
 | bl _ => cases r; rfl
 | int _ => obtain ⟨t, rfl⟩ := r; rfl
 | str _ => obtain ⟨t, rfl⟩ := r; rfl
 | byt _ => obtain ⟨t, rfl⟩ := r; rfl
 | flt _ => obtain ⟨t, rfl⟩ := r; rfl
 | ref _ => cases r; rfl
 | ty _ => cases r; rfl
theorem RelV.inj {x y : V} {u : Value} (r : RelV x u) (q : RelV y u) : x = y := Option.some.inj (r.abs.symm.trans q.abs)
theorem Vals.inj : ∀ {xs ys : List V} {us : List Value}, Vals xs us -> Vals ys us -> xs = ys
 | _, _, _, .nil, .nil => rfl
 | _, _, _, .cons r t, .cons r' t' => by rw [r.inj r', Vals.inj t t']
section
variable {X : Cx} {pins : List (Addr × Obj)} {σ : St} {H : Hp} {s : Shared} {a : Addr} {xs ys : List V}
theorem SqL.of {K : PySem.W.Frag} (h : H a = some (.lst xs)) : SqL K H a xs := .inl (.inl h)
theorem SqT.of {K : PySem.W.Frag} (h : H a = some (.tup xs)) : SqT K H a xs := .inl (.inl h)
theorem Inv.list (I : Inv X pins σ H s) (h : SqL X.K H a xs) : ∃ its : List Value, Vals xs its /\ PlainL s.heap a its.toArray /\ xs.length <= sizeLine := by
 rcases h with h | ⟨o, its, n, hk, hc, hd, hs, hz, r⟩
 ·obtain ⟨z, its, n, r, e⟩ := h.ok I.hok
  exact ⟨its, r, ⟨_, n, e, rfl, rfl, rfl⟩, z⟩
 ·refine ⟨its.toList, r, ⟨o, n, I.kIn a o hk, hc, hd, by simpa using hs⟩, ?_⟩
  have e := r.length
  simp only [Array.length_toList] at e
  omega
theorem Inv.tuple (I : Inv X pins σ H s) (h : SqT X.K H a xs) : ∃ its : List Value, Vals xs its /\ IsTup s.heap a its.toArray /\ xs.length <= sizeLine := by
 rcases h with h | ⟨o, its, n, hk, hc, hs, hz, r⟩
 ·obtain ⟨z, its, r, p⟩ := h.ok I.hok
  exact ⟨its, r, p, z⟩
 ·refine ⟨its.toList, r, ⟨o, I.kIn a o hk, hc, n, by simpa using hs⟩, ?_⟩
  have e := r.length
  simp only [Array.length_toList] at e
  omega
theorem Inv.list_inj (I : Inv X pins σ H s) (h : SqL X.K H a xs) (h' : SqL X.K H a ys) : xs = ys := by
 obtain ⟨its, r, ⟨o, n, e, _, _, d⟩, _⟩ := I.list h
 obtain ⟨its', r', ⟨o', n', e', _, _, d'⟩, _⟩ := I.list h'
 rw [e] at e'; cases e'
 rw [d] at d'
 injection d' with d1 _
 have : its = its' := by simpa using congrArg Array.toList d1
 subst this
 exact r.inj r'
theorem Inv.tuple_inj (I : Inv X pins σ H s) (h : SqT X.K H a xs) (h' : SqT X.K H a ys) : xs = ys := by
 obtain ⟨its, r, ⟨o, e, _, n, d⟩, _⟩ := I.tuple h
 obtain ⟨its', r', ⟨o', e', _, n', d'⟩, _⟩ := I.tuple h'
 rw [e] at e'; cases e'
 rw [d] at d'
 injection d' with d1 _
 have : its = its' := by simpa using congrArg Array.toList d1
 subst this
 exact r.inj r'
end
section
variable {X : Cx} {pins : List (Addr × Obj)} {σ : St} {H : Hp} {s : Shared} {E : Value -> Shared -> Prop}
end
section
variable {X : Cx} {st : Stmt} {rest : List Stmt} {t u : TS} {e : Expr} {te : TE} {pos : Pos}
def aKz : TS := fun D σ H => D.nx σ H
def aM1 (t u : TS) : TS := fun D σ H => t { D with nx := u D } σ H
theorem aGd : PSs X [] aKz := fun _ _ σ H _ I h => wpAny_execs_nil ⟨σ, H, I, h⟩
theorem aCq (h1 : PS X st t) (h2 : PSs X rest u) : PSs X (st :: rest) (aM1 t u) := by
 intro pins s σ H D I h
 refine wpAny_execs_cons (thn (h1 pins s σ H { D with nx := u D } I h) fun f s1 q => ?_)
 cases f with
 | next =>
  obtain ⟨σ', H', I', q⟩ := q
  exact h2 pins s1 σ' H' D I' q
 | ret v => exact q
 | brk => exact q
 | cont => exact q
theorem aFv (h1 : PS X st t) : PSs X [st] t := by
 intro pins s σ H D I h
 refine wpAny_execs_cons (thn (h1 pins s σ H D I h) fun f s1 q => ?_)
 cases f with
 | next => exact wpAny_execs_nil q
 | ret v => exact q
 | brk => exact q
 | cont => exact q
theorem Inv.quiet {pins : List (Addr × Obj)} {σ : St} {H : Hp} {s : Shared} (I : Inv X pins σ H s) : interactive X.env = false := by simp [interactive, I.ok.kind]
def aGv (te : TE) : TS := fun D σ H => te σ H fun _ H1 => D.nx σ H1
theorem aFg (he : PE X e te) (hs : swapsWith e none pos.line X.env = pure false := by rfl) : PS X (.Expr e pos) (aGv te) := by
 intro pins s σ H D I h
 exact wpAny_Expr_any (thn (he pins s σ H _ I h) fun v s1 ⟨x, H1, I1, r1, q1⟩ => ⟨σ, H1, I1, q1⟩) I.quiet hs
def aMv (te : TE) : TS := fun D σ H => te σ H D.rt
theorem aIy (he : PE X e te) : PS X (.Return (some e) pos) (aMv te) := by
 intro pins s σ H D I h
 exact wpAny_Return_some (thn (he pins s σ H _ I h) fun v s1 ⟨x, H1, I1, r1, q1⟩ => ⟨x, σ, H1, I1, r1, q1⟩)
def aM0 (c : TT) (t u : TS) : TS := fun D σ H => c σ H fun b H1 => if b = true then t D σ H1 else u D σ H1
theorem aKw {c : Expr} {a b : List Stmt} {tc : TT} (hc : PT X c tc) (ha : PSs X a t) (hb : PSs X b u) : PS X (.If c a b pos) (aM0 tc t u) := by
 intro pins s σ H D I h
 refine wpAny_If (thn (hc pins s σ H _ I h) fun d s1 ⟨H1, I1, q1⟩ => ?_)
 cases d with
 | true => exact ha pins s1 σ H1 D I1 q1
 | false => exact hb pins s1 σ H1 D I1 q1
end
abbrev TG := V -> St -> Hp -> (St -> Hp -> Prop) -> Prop
abbrev TGs := List V -> St -> Hp -> (St -> Hp -> Prop) -> Prop
def PG (X : Cx) (target : Expr) (t : TG) : Prop :=
 ∀ (pins : List (Addr × Obj)) (s : Shared) (σ : St) (H : Hp) (v : V) (u : Value) (Q : St -> Hp -> Prop), Inv X pins σ H s -> RelV v u -> t v σ H Q ->
  wpAny (model X.prog X.w) X.A (assign target X.env u) (fun _ s' => ∃ σ' H', Inv X pins σ' H' s' /\ Q σ' H') X.xe s
def PGs (X : Cx) (ts : List Expr) (t : TGs) : Prop :=
 ∀ (pins : List (Addr × Obj)) (s : Shared) (σ : St) (H : Hp) (vs : List V) (us : List Value) (Q : St -> Hp -> Prop), Inv X pins σ H s -> Vals vs us -> t vs σ H Q ->
  wpAny (model X.prog X.w) X.A (assignInOrder ((assignEach ts X.env).map (·.2)) us) (fun _ s' => ∃ σ' H', Inv X pins σ' H' s' /\ Q σ' H') X.xe s
abbrev aLc := V -> V -> V -> Hp -> (Hp -> Prop) -> Prop
def aMg (X : Cx) (t : aLc) : Prop :=
 ∀ (pins : List (Addr × Obj)) (s : Shared) (σ : St) (H : Hp) (o i v : V) (ov iv u : Value) (Q : Hp -> Prop), Inv X pins σ H s -> RelV o ov -> RelV i iv -> RelV v u -> t o i v H Q ->
  wpAny (model X.prog X.w) X.A (setItem ov iv u) (fun _ s' => ∃ H', Inv X pins σ H' s' /\ Q H') X.xe s
section
variable {X : Cx} {pos : Pos}
def aJ7 (i : Nat) : TG := fun v σ H Q => Q (σ.set i (some v)) H
theorem aFj {i : Nat} {x : Str} (hN : X.N.Nodup) (hi : X.N[i]? = some x) (hx : Loc X.env.scope x) (hf : X.fn x = true \/ X.env.scope.names.lookup x = some .local := by first | exact .inl rfl | exact .inr rfl | assumption) : PG X (.Name x pos) (aJ7 i) := by
 intro pins s σ H v u Q I r h
 exact wpAny_assign_Name (uW I hN hi hx r (fun s' I' => ⟨_, H, I', h⟩) hf)
def aMt : TGs := fun vs σ H Q => vs = [] /\ Q σ H
def aL8 (t : TG) (u : TGs) : TGs := fun vs σ H Q => ∃ v r, vs = v :: r /\ t v σ H fun σ' H' => u r σ' H' Q
theorem aFm : PGs X [] aMt := by
 intro pins s σ H vs us Q I r h
 obtain ⟨e, h⟩ := h
 subst e
 cases r
 exact assignInOrder_nil ⟨σ, H, I, h⟩
theorem aBf {e : Expr} {es : List Expr} {t : TG} {u : TGs} (h1 : PG X e t) (h2 : PGs X es u)
  (hs : (assignEach (e :: es) X.env).map (·.2) = assign e X.env :: (assignEach es X.env).map (·.2) := by rfl) : PGs X (e :: es) (aL8 t u) := by
 intro pins s σ H vs us Q I r h
 obtain ⟨v, vr, e1, h⟩ := h
 subst e1
 cases r with
 | cons r rr =>
  rw [hs]
  refine assignInOrder_cons (thn (h1 pins s σ H _ _ _ I r h) fun _ s1 ⟨σ1, H1, I1, q1⟩ => ?_)
  exact h2 pins s1 σ1 H1 _ _ Q I1 rr q1
def aMq (K : PySem.W.Frag) (n : Nat) (t : TGs) : TG := fun v σ H Q => ∃ a xs, v = .ref a /\ SqT K H a xs /\ xs.length = n /\ t xs σ H Q
theorem aJ5 {es : List Expr} {k : Nat} {t : TGs} {n : Nat} (hc : X.calm = true) (h : PGs X es t)
  (hn : (assignEach es X.env).length = n := by rfl) (hst : (assignEach es X.env).findIdx? (·.1) = none := by rfl) : PG X (.Tuple es k pos) (aMq X.K n t) := by
 intro pins s σ H v u Q I r hw
 obtain ⟨a, xs, e1, hq, hl, hw⟩ := hw
 subst e1
 cases r
 obtain ⟨its, rv, ht, hz⟩ := I.tuple hq
 refine assign_Tuple_tuple (I.ok.hd hc) ht (by simp [hn, <- hl, rv.length]) hst fun h' hx => ?_
 have I1 : Inv X pins σ H { s with heap := h' } := I.kept (t' := s.toks) fun b o e => hx b o (Nat.ne_of_lt (Heap.lt_size e)) e
 exact h pins _ σ H xs _ Q I1 (by simpa using rv) hw
def aMn (to ti : TE) (t : aLc) : TG := fun v σ H Q => to σ H fun o H1 => ti σ H1 fun i H2 => t o i v H2 fun H3 => Q σ H3
theorem aHd {o i : Expr} {to ti : TE} {t : aLc} (ho : PE X o to) (hi : PE X i ti) (hs : aMg X t)
  (ha : ∀ v, assign (.Subscript o i pos) X.env v = (do
   let ov <- holding [v] (eval o X.env)
   let iv <- holding [v, ov] (eval i X.env)
   standAt pos
   holding [v, ov, iv] (setItem ov iv v)
   release [v, ov, iv] []) := by intro _; rfl) : PG X (.Subscript o i pos) (aMn to ti t) := by
 intro pins s σ H v u Q I r h
 rw [ha]
 refine wpAny_bind (wpAny_holding (thn (ho pins s σ H _ I h) fun ov s1 ⟨x, H1, I1, r1, q1⟩ => ?_))
 refine wpAny_bind (wpAny_holding (thn (hi pins s1 σ H1 _ I1 q1) fun iv s2 ⟨y, H2, I2, r2, q2⟩ => ?_))
 refine wpAny_bind (wpAny_standAt (wpAny_bind (wpAny_holding (thn (hs pins s2 σ H2 x y v ov iv u _ I2 r1 r2 r q2) fun _ s3 ⟨H3, I3, q3⟩ => ?_))))
 exact wpAny_release ⟨σ, H3, I3, q3⟩
def aK0 (te : TE) (g : TG) : TS := fun D σ H => te σ H fun x H1 => g x σ H1 D.nx
theorem aJh {tg e : Expr} {te : TE} {g : TG} (he : PE X e te) (hg : PG X tg g) (hs : swapsWithSole [tg] e pos.line X.env = pure false := by rfl) (hw : swappedStores [tg] e X.env = pure none := by rfl)
  (h1 : (assignEach [tg] X.env).map (·.2) = [assign tg X.env] := by rfl) : PS X (.Assign [tg] e pos) (aK0 te g) := by
 intro pins s σ H D I h
 refine wpAny_Assign_stores (thn (he pins s σ H _ I h) fun v s1 ⟨x, H1, I1, r1, q1⟩ => ?_) hs hw
 rw [h1]
 exact thn (hg pins s1 σ H1 x v _ I1 r1 q1) fun _ s2 q => q
theorem aHv {i : Nat} {x : Str} {e : Expr} {te : TE} {pos' : Pos} (hN : X.N.Nodup) (hi : X.N[i]? = some x) (hx : Loc X.env.scope x) (he : PE X e te) (hs : swapsWith e (some (.Name x pos')) pos.line X.env = pure false := by rfl) (hf : X.fn x = true \/ X.env.scope.names.lookup x = some .local := by first | exact .inl rfl | exact .inr rfl | assumption) :
  PS X (.Assign [.Name x pos'] e pos) (aK0 te (aJ7 i)) := by
 intro pins s σ H D I h
 refine wpAny_Assign_Name (thn (he pins s σ H _ I h) fun v s1 ⟨y, H1, I1, r1, q1⟩ => ?_) hs
 exact uW I1 hN hi hx r1 (fun s2 I2 => ⟨_, H1, I2, q1⟩) hf
end
section
variable {X : Cx} {pos : Pos}
def aHf (c : TT) (tb : TS) : TS := fun D σ H => ∃ W : Nat -> St -> Hp -> Prop, (∃ m, W m σ H) /\ ∀ m σ H, W m σ H ->
 c σ H fun b H1 => if b = true then ∃ N : St -> Hp -> Prop, (∀ σ' H', N σ' H' -> ∃ m', m' < m /\ W m' σ' H') /\ tb { D with nx := N, ct := N, bk := D.nx } σ H1 else D.nx σ H1
theorem aBu {c : Expr} {body : List Stmt} {tc : TT} {tb : TS} (hp : PassesOwn (model X.prog X.w) X.A X.env X.xe) (hc : PT X c tc) (hb : PSs X body tb) : PS X (.While c body [] pos) (aHf tc tb) := by
 intro pins s σ H D I h
 obtain ⟨W, ⟨m0, w0⟩, turn⟩ := h
 refine wpAny_While (codeAny_whileLoop (fun n s' => ∃ σ' H', Inv X pins σ' H' s' /\ W n σ' H') ?_ m0 ⟨σ, H, I, w0⟩)
 rintro n s1 ⟨σ1, H1, I1, w1⟩
 refine wpAny_passesOwn hp (thn (hc pins s1 σ1 H1 _ I1 (turn n σ1 H1 w1)) fun b s2 ⟨H2, I2, q2⟩ => ?_)
 cases b with
 | true =>
  obtain ⟨N, hN, q2⟩ := q2
  rw [if_pos rfl]
  refine wpAny_passesOwn hp (thn (hb pins s2 σ1 H2 _ I2 q2) fun f s3 q3 => ?_)
  cases f with
  | next =>
   obtain ⟨σ3, H3, I3, n3⟩ := q3
   obtain ⟨m', hm, w3⟩ := hN σ3 H3 n3
   exact ⟨m', hm, σ3, H3, I3, w3⟩
  | cont =>
   obtain ⟨σ3, H3, I3, n3⟩ := q3
   obtain ⟨m', hm, w3⟩ := hN σ3 H3 n3
   exact ⟨m', hm, σ3, H3, I3, w3⟩
  | brk => exact q3
  | ret v => exact q3
 | false =>
  rw [if_neg Bool.false_ne_true]
  exact wpAny_execs_nil ⟨σ1, H2, I2, q2⟩
end
structure It where
 go : Nat -> Hp -> Prop
 yld : Nat -> Hp -> V -> Hp -> Prop
 stop : Nat -> Hp -> Prop
def aBw (X : Cx) (pins : List (Addr × Obj)) (H : Hp) (b : Addr) : Prop :=
 H b = none /\ b ≠ X.env.locals /\ b ∉ X.fs /\ (b ∈ X.ex \/ X.s₀.heap.objs.size <= b) /\ (∀ x c, X.env.cells.lookup x = some c -> c ≠ b) /\ ∀ p ∈ X.pn ++ pins, p.1 ≠ b
theorem Inv.fpOk {X : Cx} {pins : List (Addr × Obj)} {σ : St} {H H' : Hp} {s : Shared} {b : Addr} (I : Inv X pins σ H s) (hb : s.heap.objs.size <= b) (hn : H' b = none) : aBw X pins H' b := by
 refine ⟨hn, Nat.ne_of_gt (Nat.lt_of_lt_of_le I.lt hb), I.nofs hb, .inr (Nat.le_trans I.sz hb), fun x c e z => ?_, fun p hp z => ?_⟩
 ·obtain ⟨v, q⟩ := I.cell x c e
  exact absurd (Nat.lt_of_lt_of_le q.lt (by rw [z]; exact hb)) (Nat.lt_irrefl _)
 ·exact absurd (Nat.lt_of_lt_of_le (Heap.lt_size (I.pin p hp).1) (by rw [z]; exact hb)) (Nat.lt_irrefl _)
structure Turn (P : Program) (w : World) (K : PySem.W.Frag) (tg : Expr) (J : It) (fp : List Addr) (it : Addr) (tn : Nat -> Heap -> Prop) : Prop where
 mem : it ∈ fp
 obj : ∀ i h, tn i h -> ∀ b ∈ fp, ∃ o, h.get? b = some o /\ ∀ v, o.data ≠ .cell v
 keep : ∀ i h h', tn i h -> (∀ b ∈ fp, ∀ o, h.get? b = some o -> h'.get? b = some o) -> tn i h'
 item : ∀ (X : Cx), X.prog = P -> X.w = w -> X.K = K -> X.calm = true -> ∀ (i : Nat) (pins : List (Addr × Obj)) (s : Shared) (σ : St) (H : Hp) (E : Value -> Shared -> Prop), Inv X pins σ H s -> (∀ b ∈ fp, aBw X pins H b) -> tn i s.heap -> J.go i H ->
  wpAny (model P w) X.A (pyNext (.ref it)) (fun r s1 => ∃ u, r = some u /\
   wpAny (model P w) X.A (letOwnedTupleGo tg (.ref it) u) (fun _ s2 => ∃ x H', Inv X pins σ H' s2 /\ RelV x u /\ J.yld i H x H' /\ tn (i + 1) s2.heap /\ ∀ b ∈ fp, H' b = none) E s1) E s
 done : ∀ (X : Cx), X.prog = P -> X.w = w -> X.K = K -> X.calm = true -> ∀ (i : Nat) (pins : List (Addr × Obj)) (s : Shared) (σ : St) (H : Hp) (E : Value -> Shared -> Prop), Inv X pins σ H s -> (∀ b ∈ fp, aBw X pins H b) -> tn i s.heap -> J.stop i H ->
  wpAny (model P w) X.A (pyNext (.ref it)) (fun r s1 => r = none /\ Inv X pins σ H s1) E s
 self : ∀ (A : Around) (i : Nat) (s : Shared) (Q : Value -> Shared -> Prop) (E : Value -> Shared -> Prop), tn i s.heap -> Q (.ref it) s -> wpAny (model P w) A (pyIter (.ref it)) Q E s
abbrev TI := St -> Hp -> (It -> Hp -> Prop) -> Prop
def PIE (X : Cx) (pins : List (Addr × Obj)) (σ : St) (tg : Expr) (R : It -> Hp -> Prop) (itv : Value) (s2 : Shared) : Prop :=
 ∃ (it : Addr) (fp : List Addr) (tn : Nat -> Heap -> Prop) (J : It) (H' : Hp), itv = .ref it /\ Inv X pins σ H' s2 /\ Turn X.prog X.w X.K tg J fp it tn /\ tn 0 s2.heap /\ (∀ b ∈ fp, aBw X pins H' b) /\ R J H'
def PI (X : Cx) (tg iter : Expr) (wi : TI) : Prop :=
 ∀ (pins : List (Addr × Obj)) (s : Shared) (σ : St) (H : Hp) (R : It -> Hp -> Prop), Inv X pins σ H s -> wi σ H R ->
  wpAny (model X.prog X.w) X.A (eval iter X.env) (fun v s1 => wpAny (model X.prog X.w) X.A (pyIter v) (PIE X pins σ tg R) X.xe s1) X.xe s
theorem aCt {M : Model} {A : Around} {E : Value -> Shared -> Prop} {s : Shared} {tg : Expr} {it : Addr} {u : Value} {o : Obj} {n : String} {vs : Array Value} {Q : Unit -> Shared -> Prop} (ho : s.heap.get? it = some o) (hc : o.cls = .type n) (hd : o.data = .fields vs)
  (hn : ["enumerate", "zip", "dict_itemiterator", "dict_reverseitemiterator", "odict_iterator", "itertools.zip_longest", "itertools.pairwise"].contains n = false) (hQ : Q () s) : wpAny M A (letOwnedTupleGo tg (.ref it) u) Q E s := by
 unfold letOwnedTupleGo
 cases tg <;> first
  | exact wpAny_pure hQ
  | (cases u <;> first
    | exact wpAny_pure hQ
    | (refine wpAny_bind (wpAny_load ho ?_)
       rw [hc, hd]
       show wpAny M A (if (["enumerate", "zip", "dict_itemiterator", "dict_reverseitemiterator", "odict_iterator", "itertools.zip_longest", "itertools.pairwise"].contains n && vs[0]? == some (rawInt _)) = true then _ else _) Q E s
       rw [if_neg (by intro h; rw [hn, Bool.false_and] at h; cases h)]
       exact wpAny_pure hQ))
def Itl (K : PySem.W.Frag) (a : Addr) : It :=
 ⟨fun i H => ∃ xs x, SqL K H a xs /\ xs[i]? = some x, fun i H x H' => H' = H /\ ∀ xs, SqL K H a xs -> xs[i]? = some x, fun i H => ∃ xs, SqL K H a xs /\ xs.length <= i⟩
def Itt (K : PySem.W.Frag) (a : Addr) : It :=
 ⟨fun i H => ∃ xs x, SqT K H a xs /\ xs[i]? = some x, fun i H x H' => H' = H /\ ∀ xs, SqT K H a xs -> xs[i]? = some x, fun i H => ∃ xs, SqT K H a xs /\ xs.length <= i⟩
def Itr (lo : Int) (n : Nat) : It := ⟨fun i _ => i < n, fun i H x H' => H' = H /\ x = .int (lo + i), fun i _ => n <= i⟩
theorem zV {P : Program} {w : World} {K : PySem.W.Frag} {tg : Expr} (a it : Addr) : Turn P w K tg (Itl K a) [it] it (fun i h => h.IsListIter it a i) where
 mem := by simp
 obj := fun i h st b hb => by
  have e : b = it := by simpa using hb
  subst e
  obtain ⟨o, e, c, d⟩ := st
  exact ⟨o, e, fun v z => by rw [d] at z; cases z⟩
 keep := fun i h h' st k => st.at fun o e => k it (by simp) o e
 item := by
  intro X hP hw hK hc i pins s σ H E I hf st hg
  subst hP hw hK
  obtain ⟨xs, x, hq, hx⟩ := hg
  obtain ⟨its, rv, p, hz⟩ := I.list hq
  obtain ⟨u, hu, ru⟩ := rv.get hx
  obtain ⟨f0, f1, f2, f3, f4, f5⟩ := hf it (by simp)
  refine wpAny_pyNext_list_item st p.isList (x := u) (by simpa using hu) fun h' st' sb => ?_
  have I1 : Inv X pins σ H { s with heap := h' } := I.turned (t' := s.toks) (fun b o hb e => (sb.2 b hb).trans e) f0 f1 f3 f4 f5
  obtain ⟨o, e, c, d⟩ := id st'
  exact ⟨u, rfl, aCt (s := { s with heap := h' }) e c d (by decide) ⟨x, H, I1, ru, ⟨rfl, fun ys hy => by rw [I.list_inj hy hq]; exact hx⟩, st', fun b hb => (hf b hb).1⟩⟩
 done := by
  intro X hP hw hK hc i pins s σ H E I hf st hg
  subst hP hw hK
  obtain ⟨xs, hq, hx⟩ := hg
  obtain ⟨its, rv, p, hz⟩ := I.list hq
  obtain ⟨f0, f1, f2, f3, f4, f5⟩ := hf it (by simp)
  have hl := rv.length
  exact wpAny_pyNext_list_end (I.ok.hd hc) st p.isList (by simp; omega) fun h' eb => ⟨rfl, I.turned (t' := s.toks) (fun b o hb e => eb b o hb e) f0 f1 f3 f4 f5⟩
 self := fun _ _ _ _ _ st h => wpAny_pyIter_listiter st h
theorem v8 {P : Program} {w : World} {K : PySem.W.Frag} {tg : Expr} (a it : Addr) : Turn P w K tg (Itt K a) [it] it (fun i h => h.IsTupleIter it a i) where
 mem := by simp
 obj := fun i h st b hb => by
  have e : b = it := by simpa using hb
  subst e
  obtain ⟨o, e, c, d⟩ := st
  exact ⟨o, e, fun v z => by rw [d] at z; cases z⟩
 keep := fun i h h' st k => st.at fun o e => k it (by simp) o e
 item := by
  intro X hP hw hK hc i pins s σ H E I hf st hg
  subst hP hw hK
  obtain ⟨xs, x, hq, hx⟩ := hg
  obtain ⟨its, rv, p, hz⟩ := I.tuple hq
  obtain ⟨u, hu, ru⟩ := rv.get hx
  obtain ⟨f0, f1, f2, f3, f4, f5⟩ := hf it (by simp)
  refine wpAny_pyNext_tuple_item st (show s.heap.IsTuple a its.toArray from p) (x := u) (by simpa using hu) fun h' st' sb => ?_
  have I1 : Inv X pins σ H { s with heap := h' } := I.turned (t' := s.toks) (fun b o hb e => (sb.2 b hb).trans e) f0 f1 f3 f4 f5
  obtain ⟨o, e, c, d⟩ := id st'
  exact ⟨u, rfl, aCt (s := { s with heap := h' }) e c d (by decide) ⟨x, H, I1, ru, ⟨rfl, fun ys hy => by rw [I.tuple_inj hy hq]; exact hx⟩, st', fun b hb => (hf b hb).1⟩⟩
 done := by
  intro X hP hw hK hc i pins s σ H E I hf st hg
  subst hP hw hK
  obtain ⟨xs, hq, hx⟩ := hg
  obtain ⟨its, rv, p, hz⟩ := I.tuple hq
  obtain ⟨f0, f1, f2, f3, f4, f5⟩ := hf it (by simp)
  have hl := rv.length
  exact wpAny_pyNext_tuple_end (I.ok.hd hc) st (show s.heap.IsTuple a its.toArray from p) (by simp; omega) fun h' eb => ⟨rfl, I.turned (t' := s.toks) (fun b o hb e => eb b o hb e) f0 f1 f3 f4 f5⟩
 self := fun _ _ _ _ _ st h => wpAny_pyIter_tupleiter st h
theorem vT {P : Program} {w : World} {K : PySem.W.Frag} {tg : Expr} (it : Addr) (lo : Int) (n : Nat) : Turn P w K tg (Itr lo n) [it] it (fun i h => IsRangeIter h it (lo + (i : Nat) * 1) ((n : Int) - (i : Nat)) 1) where
 mem := by simp
 obj := fun i h st b hb => by
  have e : b = it := by simpa using hb
  subst e
  exact ⟨_, st, fun v z => by
   have z' : Data.fields _ = Data.cell v := z
   cases z'⟩
 keep := fun i h h' st k => k it (by simp) _ st
 item := by
  intro X hP hw hK hc i pins s σ H E I hf st hg
  subst hP hw hK
  obtain ⟨f0, f1, f2, f3, f4, f5⟩ := hf it (by simp)
  have W := Walks.range (prog := X.prog) (w := X.w) (I.ok.hd hc) it lo 1 n
  refine W.item i s _ _ hg st fun v h' tk hv st' kk => ?_
  obtain ⟨t, rfl⟩ := hv
  have I1 : Inv X pins σ H { s with heap := h', toks := tk } := I.turned (fun b o hb e => kk b o (by simpa using hb) e) f0 f1 f3 f4 f5
  refine ⟨_, rfl, aCt (s := { s with heap := h', toks := tk }) (n := "range_iterator") st' rfl rfl (by decide) ⟨.int (lo + i), H, I1, ⟨t, ?_⟩, ⟨rfl, rfl⟩, st', fun b hb => (hf b hb).1⟩⟩
  rw [Int.mul_one]
 done := by
  intro X hP hw hK hc i pins s σ H E I hf st hg
  subst hP hw hK
  obtain ⟨f0, f1, f2, f3, f4, f5⟩ := hf it (by simp)
  exact wpAny_pyNext_range_end (I.ok.hd hc) st (by have : n <= i := hg; omega) fun h' eb => ⟨rfl, I.turned (t' := s.toks) (fun b o hb e => eb b o hb e) f0 f1 f3 f4 f5⟩
 self := fun _ _ _ _ _ st h => wpAny_pyIter_rangeiter st h
section
variable {X : Cx} {tg : Expr}
def aKh (K : PySem.W.Frag) (tl : TE) : TI := fun σ H R => tl σ H fun x H1 => ∃ a, x = .ref a /\ (∃ xs, SqL K H1 a xs) /\ R (Itl K a) H1
def aMu (K : PySem.W.Frag) (tl : TE) : TI := fun σ H R => tl σ H fun x H1 => ∃ a, x = .ref a /\ (∃ xs, SqT K H1 a xs) /\ R (Itt K a) H1
theorem aEp {l : Expr} {tl : TE} (hl : PE X l tl) : PI X tg l (aKh X.K tl) := by
 intro pins s σ H R I h
 refine thn (hl pins s σ H _ I h) fun v s1 ⟨x, H1, I1, r1, q1⟩ => ?_
 obtain ⟨a, e, ⟨xs, hq⟩, q⟩ := q1
 subst e
 cases r1
 obtain ⟨its, rv, p, hz⟩ := I1.list hq
 refine wpAny_pyIter_list p.isList ?_
 refine ⟨s1.heap.objs.size, [s1.heap.objs.size], _, _, H1, rfl, I1.kept (t' := s1.toks) fun b o e => Heap.get?_push_of_some _ e, zV a _, ⟨_, Heap.get?_push_size _ rfl, rfl, rfl⟩, fun b hb => ?_, q⟩
 have e : b = s1.heap.objs.size := by simpa using hb
 subst e
 exact I1.fpOk (Nat.le_refl _) (I1.hok.fresh (Nat.le_refl _))
theorem aIw {l : Expr} {tl : TE} (hl : PE X l tl) : PI X tg l (aMu X.K tl) := by
 intro pins s σ H R I h
 refine thn (hl pins s σ H _ I h) fun v s1 ⟨x, H1, I1, r1, q1⟩ => ?_
 obtain ⟨a, e, ⟨xs, hq⟩, q⟩ := q1
 subst e
 cases r1
 obtain ⟨its, rv, p, hz⟩ := I1.tuple hq
 refine wpAny_pyIter_tuple (show s1.heap.IsTuple a its.toArray from p) ?_
 refine ⟨s1.heap.objs.size, [s1.heap.objs.size], _, _, H1, rfl, I1.kept (t' := s1.toks) fun b o e => Heap.get?_push_of_some _ e, v8 a _, ⟨_, Heap.get?_push_size _ rfl, rfl, rfl⟩, fun b hb => ?_, q⟩
 have e : b = s1.heap.objs.size := by simpa using hb
 subst e
 exact I1.fpOk (Nat.le_refl _) (I1.hok.fresh (Nat.le_refl _))
theorem aCx {pins : List (Addr × Obj)} {σ : St} {H : Hp} {s : Shared} {R : It -> Hp -> Prop} {E : Value -> Shared -> Prop} {lo hi : Int} {t u v : Tok} {tk : Nat} (I : Inv X pins σ H s) (h1 : -(2 ^ 62) <= lo) (h2 : lo < 2 ^ 62) (h3 : -(2 ^ 62) <= hi) (h4 : hi < 2 ^ 62)
  (q : R (Itr lo (hi - lo).toNat) H) : wpAny (model X.prog X.w) X.A (pyIter (.ref s.heap.objs.size)) (PIE X pins σ tg R) E { s with heap := s.heap.push { cls := .type "range", data := .fields #[.int lo t, .int hi u, .int 1 v] }, toks := tk } := by
 refine wpAny_pyIter_range (IsRange.new ..) (small_one h1 h2 h3 h4) ?_
 have I1 : Inv X pins σ H { s with heap := s.heap.push { cls := .type "range", data := .fields #[.int lo t, .int hi u, .int 1 v] }, toks := tk } := I.kept fun b o e => Heap.get?_push_of_some _ e
 refine ⟨(s.heap.push { cls := .type "range", data := .fields #[.int lo t, .int hi u, .int 1 v] }).objs.size, [(s.heap.push { cls := .type "range", data := .fields #[.int lo t, .int hi u, .int 1 v] }).objs.size], _, _, H, rfl,
  I1.kept (t' := tk) fun b o e => Heap.get?_push_of_some _ e, vT _ lo (hi - lo).toNat, ?_, fun b hb => ?_, q⟩
 ·have e1 : lo + ((0 : Nat) : Int) * 1 = lo := by simp
  have e2 : (((hi - lo).toNat : Nat) : Int) - ((0 : Nat) : Int) = Builtin.Range.rangeSize lo hi 1 := by rw [rangeSize_one]; split <;> omega
  show IsRangeIter _ _ (lo + ((0 : Nat) : Int) * 1) ((((hi - lo).toNat : Nat) : Int) - ((0 : Nat) : Int)) 1
  rw [e1, e2]
  exact Heap.get?_push_size _ rfl
 ·have e : b = (s.heap.push { cls := .type "range", data := .fields #[.int lo t, .int hi u, .int 1 v] }).objs.size := by simpa using hb
  subst e
  exact I1.fpOk (Nat.le_refl _) (I1.hok.fresh (Nat.le_refl _))
def aLd (ta : TA) : TI := fun σ H R => ta σ H fun vs H1 => ∃ i j : Int, vs = [.int i, .int j] /\ (-(2 ^ 62) <= i /\ i < 2 ^ 62 /\ -(2 ^ 62) <= j /\ j < 2 ^ 62) /\ R (Itr i (j - i).toNat) H1
theorem xV {a b : Expr} {ta : TA} {p pos : Pos} (hg : Gl X "range") (hm : X.mg "range" = none) (ha : PA X [a, b] ta) (hs : starEach [a, b] X.env = [(false, eval a X.env), (false, eval b X.env)] := by rfl) (hs2 : starEach [b] X.env = [(false, eval b X.env)] := by rfl) :
  PI X tg (.Call (.Name "range" p) [a, b] [] pos) (aLd ta) := by
 intro pins s σ H R I h
 refine Call_ (qV I hg hm boot_range (PyProof.Rows.callWith_type1 (thn (ha pos pins s σ H _ I h) fun us s1 ⟨vs, H1, I1, r1, q1⟩ => ?_) (by rw [hs, hs2]) (by rw [hs2]; rfl)))
 obtain ⟨i, j, e, ⟨q1, q2, q3, q4⟩, q⟩ := q1
 subst e
 cases r1 with
 | cons r rr =>
  cases rr with
  | cons r' rr =>
   cases rr
   obtain ⟨t, rfl⟩ := r
   obtain ⟨t', rfl⟩ := r'
   exact call_range_2 (aCx I1 q1 q2 q3 q4 q)
def aM5 (wi : TI) (g : TG) (tb : TS) : TS := fun D σ H => wi σ H fun J H1 => ∃ W : Nat -> Nat -> St -> Hp -> Prop, (∃ m, W 0 m σ H1) /\ ∀ i m σ H, W i m σ H ->
 (J.stop i H /\ D.nx σ H) \/ (J.go i H /\ ∃ N : St -> Hp -> Prop, (∀ σ' H', N σ' H' -> ∃ m', m' < m /\ W (i + 1) m' σ' H') /\ ∀ x H', J.yld i H x H' -> g x σ H' fun σ2 H2 => tb { D with nx := N, ct := N, bk := D.nx } σ2 H2)
def u5 (fp : List Addr) (h : Heap) : List (Addr × Obj) := fp.filterMap fun b => (h.get? b).map fun o => (b, o)
theorem fL {fp : List Addr} {h : Heap} {b : Addr} {o : Obj} (hb : b ∈ fp) (e : h.get? b = some o) : (b, o) ∈ u5 fp h := List.mem_filterMap.mpr ⟨b, hb, by rw [e]; rfl⟩
theorem y9 {fp : List Addr} {h : Heap} {p : Addr × Obj} (hp : p ∈ u5 fp h) : p.1 ∈ fp /\ h.get? p.1 = some p.2 := by
 obtain ⟨b, hb, e⟩ := List.mem_filterMap.mp hp
 cases q : h.get? b with
 | none => rw [q] at e; cases e
 | some o =>
  rw [q] at e
  have e' : (b, o) = p := Option.some.inj e
  subst e'
  exact ⟨hb, q⟩
theorem Inv.pinned {pins : List (Addr × Obj)} {σ : St} {H : Hp} {s : Shared} {fp : List Addr} (I : Inv X pins σ H s) (hf : ∀ b ∈ fp, aBw X pins H b) (ho : ∀ b ∈ fp, ∃ o, s.heap.get? b = some o /\ ∀ v, o.data ≠ .cell v) : Inv X (pins ++ u5 fp s.heap) σ H s :=
 I.pins_of fun p hp => (List.mem_append.mp hp).elim (fun z => I.pin p (List.mem_append_right _ z)) fun z => by
  obtain ⟨hb, e⟩ := y9 z
  obtain ⟨f0, f1, f2, _⟩ := hf p.1 hb
  obtain ⟨o, e', d⟩ := ho p.1 hb
  rw [e] at e'; cases e'
  exact ⟨e, f0, f1, f2, d⟩
theorem Inv.unpinned {pins pl : List (Addr × Obj)} {σ : St} {H : Hp} {s : Shared} (I : Inv X (pins ++ pl) σ H s) : Inv X pins σ H s := I.pins_of fun p hp => I.pin p (List.mem_append_right _ (List.mem_append_left _ hp))
theorem aH3 {iter : Expr} {body : List Stmt} {wi : TI} {g : TG} {tb : TS} {pos : Pos} (hp : PassesOwn (model X.prog X.w) X.A X.env X.xe) (hc : X.calm = true) (hi : PI X tg iter wi) (hg : PG X tg g) (hb : PSs X body tb)
  (hs : ∀ x, foldedSetIterable iter X.env x = pure x := by intro _; rfl) : PS X (.For tg iter body [] pos) (aM5 wi g tb) := by
 intro pins s σ H D I h
 refine wpAny_For (thn (hi pins s σ H _ I h) fun v s1 h1 => thn h1 fun itv s2 h2 => ?_) hs
 obtain ⟨it, fp, tn, J, H2, e, I2, T, st2, f2, W, ⟨m0, w0⟩, turn⟩ := h2
 subst e
 have stat : ∀ {H' : Hp}, (∀ b ∈ fp, H' b = none) -> ∀ b ∈ fp, aBw X pins H' b := fun hn b hb => ⟨hn b hb, (f2 b hb).2⟩
 refine codeAny_forLoop_any (fun n s' => ∃ i σ' H', Inv X pins σ' H' s' /\ tn i s'.heap /\ (∀ b ∈ fp, H' b = none) /\ W i n σ' H') ?_ m0 ⟨0, σ, H2, I2, st2, fun b hb => (f2 b hb).1, w0⟩
 rintro n s3 ⟨i, σ3, H3, I3, st3, fr3, w3⟩
 rcases turn i n σ3 H3 w3 with ⟨stop, qn⟩ | ⟨go, N, hN, step⟩
 ·refine wpAny_passesOwn hp (thn (T.done X rfl rfl rfl hc i pins s3 σ3 H3 X.xe I3 (stat fr3) st3 stop) fun r s4 ⟨hr, I4⟩ => ?_)
  subst hr
  exact wpAny_execs_nil ⟨σ3, H3, I4, qn⟩
 ·refine wpAny_passesOwn hp (thn (T.item X rfl rfl rfl hc i pins s3 σ3 H3 X.xe I3 (stat fr3) st3 go) fun r s4 ⟨u, hr, h4⟩ => ?_)
  subst hr
  refine wpAny_passesOwn hp (thn h4 fun _ s5 ⟨x, H5, I5, r5, y5, st5, fr5⟩ => ?_)
  have I5' := I5.pinned (stat fr5) (T.obj _ _ st5)
  refine wpAny_passesOwn hp (thn (hg _ s5 σ3 H5 x u _ I5' r5 (step x H5 y5)) fun _ s6 ⟨σ6, H6, I6, q6⟩ => ?_)
  refine wpAny_passesOwn hp (thn (hb _ s6 σ6 H6 _ I6 q6) fun f s7 q7 => ?_)
  have again : ∀ {σ7 : St} {H7 : Hp}, Inv X (pins ++ u5 fp s5.heap) σ7 H7 s7 -> N σ7 H7 -> ∃ m, m < n /\ ∃ i σ' H', Inv X pins σ' H' s7 /\ tn i s7.heap /\ (∀ b ∈ fp, H' b = none) /\ W i m σ' H' := fun {σ7 H7} I7 n7 => by
   obtain ⟨m', hm, w7⟩ := hN σ7 H7 n7
   refine ⟨m', hm, i + 1, σ7, H7, I7.unpinned, T.keep _ _ _ st5 fun b hb o e => (I7.pin (b, o) (List.mem_append_right _ (List.mem_append_right _ (fL hb e)))).1, fun b hb => ?_, w7⟩
   obtain ⟨o, e, d⟩ := T.obj _ _ st5 b hb
   exact (I7.pin (b, o) (List.mem_append_right _ (List.mem_append_right _ (fL hb e)))).2.1
  cases f with
  | next => obtain ⟨σ7, H7, I7, n7⟩ := q7; exact again I7 n7
  | cont => obtain ⟨σ7, H7, I7, n7⟩ := q7; exact again I7 n7
  | brk => obtain ⟨σ7, H7, I7, q7⟩ := q7; exact ⟨σ7, H7, I7.unpinned, q7⟩
  | ret v => obtain ⟨x7, σ7, H7, I7, r7, q7⟩ := q7; exact ⟨x7, σ7, H7, I7.unpinned, r7, q7⟩
end
abbrev R2 := V -> V -> Hp -> VK -> Prop
def OpR (X : Cx) (f : Value -> Value -> Sem Value) (r : R2) : Prop :=
 ∀ (pins : List (Addr × Obj)) (s : Shared) (σ : St) (H : Hp) (x y : V) (v u : Value) (Q : VK), Inv X pins σ H s -> RelV x v -> RelV y u -> r x y H Q ->
  wpAny (model X.prog X.w) X.A (f v u) (EP X pins σ Q) X.xe s
def CallR (X : Cx) (f : Value) (r : List V -> Hp -> VK -> Prop) : Prop :=
 ∀ (pins : List (Addr × Obj)) (s : Shared) (σ : St) (H : Hp) (xs : List V) (us : List Value) (Q : VK), Inv X pins σ H s -> Vals xs us -> r xs H Q ->
  wpAny (model X.prog X.w) X.A (call f us) (EP X pins σ Q) X.xe s
def tOp (r : R2) (ta tb : TE) : TE := fun σ H Q => ta σ H fun x H1 => tb σ H1 fun y H2 => r x y H2 Q
def rI (C : Int -> Int -> Prop) (g : Int -> Int -> V) : R2 := fun x y H Q => ∃ i j, x = .int i /\ y = .int j /\ C i j /\ Q (g i j) H
def rI0 (g : Int -> Int -> V) : R2 := fun x y H Q => ∃ i j, x = .int i /\ y = .int j /\ Q (g i j) H
section
variable {X : Cx} {a b c : Expr} {ta tb tc : TE} {pos : Pos}
theorem aKd (ha : PE X a ta) (hb : PE X b tb) {pins : List (Addr × Obj)} {s : Shared} {σ : St} {H : Hp} {R : V -> V -> Hp -> Prop} (I : Inv X pins σ H s)
  (h : ta σ H fun x H1 => tb σ H1 fun y H2 => R x y H2) {Q : Value -> Shared -> Prop} {f : Value -> Value -> Sem Value}
  (hf : ∀ v u s2 x y H2, Inv X pins σ H2 s2 -> RelV x v -> RelV y u -> R x y H2 -> wpAny (model X.prog X.w) X.A (f v u) Q X.xe s2) :
  wpAny (model X.prog X.w) X.A (eval a X.env) (fun v s₁ => wpAny (model X.prog X.w) X.A (eval b X.env) (fun u s₂ => wpAny (model X.prog X.w) X.A (f v u) Q X.xe s₂) X.xe s₁) X.xe s := by
 refine thn (ha pins s σ H _ I h) fun v s1 ⟨x, H1, I1, r1, q1⟩ => ?_
 refine thn (hb pins s1 σ H1 _ I1 q1) fun u s2 ⟨y, H2, I2, r2, q2⟩ => ?_
 exact hf v u s2 x y H2 I2 r1 r2 q2
theorem aKn {op : Operator} {r : R2} (ho : OpR X (binaryOp op) r) (ha : PE X a ta) (hb : PE X b tb) : PE X (.BinOp a op b pos) (tOp r ta tb) := by
 intro pins s σ H Q I h
 exact wpAny_BinOp (aKd ha hb I h fun v u s2 x y H2 I2 rx ry q => ho pins s2 σ H2 x y v u Q I2 rx ry q)
theorem opI {f : Value -> Value -> Sem Value} {C : Int -> Int -> Prop} {g : Int -> Int -> Int}
  (rule : ∀ (i j : Int) (t u : Tok) (s : Shared) (Q : Value -> Shared -> Prop) (E : Value -> Shared -> Prop), C i j -> Q (.int (g i j) s.toks) { s with toks := s.toks + 1 } -> wpAny (model X.prog X.w) X.A (f (.int i t) (.int j u)) Q E s) :
  OpR X f (rI C fun i j => .int (g i j)) := by
 intro pins s σ H x y v u Q I rx ry h
 obtain ⟨i, j, rfl, rfl, hc, q⟩ := h
 obtain ⟨t, rfl⟩ := rx
 obtain ⟨t', rfl⟩ := ry
 exact rule i j t t' s _ _ hc ⟨.int (g i j), H, I.tok _, ⟨_, rfl⟩, q⟩
theorem aMa {f : Value -> Value -> Sem Value} {g : Int -> Int -> Int}
  (rule : ∀ (i j : Int) (t u : Tok) (s : Shared) (Q : Value -> Shared -> Prop) (E : Value -> Shared -> Prop), Q (.int (g i j) s.toks) { s with toks := s.toks + 1 } -> wpAny (model X.prog X.w) X.A (f (.int i t) (.int j u)) Q E s) :
  OpR X f (rI0 fun i j => .int (g i j)) := by
 intro pins s σ H x y v u Q I rx ry h
 obtain ⟨i, j, rfl, rfl, q⟩ := h
 obtain ⟨t, rfl⟩ := rx
 obtain ⟨t', rfl⟩ := ry
 exact rule i j t t' s _ _ ⟨.int (g i j), H, I.tok _, ⟨_, rfl⟩, q⟩
theorem aMb {f : Value -> Value -> Sem Value} {g : Int -> Int -> Bool}
  (rule : ∀ (i j : Int) (t u : Tok) (s : Shared) (Q : Value -> Shared -> Prop) (E : Value -> Shared -> Prop), Q (.bool (g i j)) s -> wpAny (model X.prog X.w) X.A (f (.int i t) (.int j u)) Q E s) :
  OpR X f (rI0 fun i j => .bl (g i j)) := by
 intro pins s σ H x y v u Q I rx ry h
 obtain ⟨i, j, rfl, rfl, q⟩ := h
 obtain ⟨t, rfl⟩ := rx
 obtain ⟨t', rfl⟩ := ry
 exact rule i j t t' s _ _ ⟨.bl (g i j), H, I, rfl, q⟩
def aA9 (i j : Int) : Prop := 0 <= j /\ j <= 1000000 /\ i.natAbs < 2 ^ 64
theorem aGw : OpR X (binaryOp .Add) (rI0 fun i j => .int (i + j)) := aMa fun _ _ _ _ _ _ _ q => add_int q
theorem vS : OpR X (binaryOp .Sub) (rI0 fun i j => .int (i - j)) := aMa fun _ _ _ _ _ _ _ q => sub_int q
theorem bW : OpR X (binaryOp .Mod) (rI (fun _ j => j ≠ 0) fun i j => .int (i.fmod j)) := opI fun _ _ _ _ _ _ _ hc q => mod_int' hc q
theorem k7 : OpR X (binaryOp .Pow) (rI aA9 fun i j => .int (i ^ j.toNat)) := opI fun _ _ _ _ _ _ _ hc q => pow_int_small hc.1 hc.2.1 hc.2.2 q
end
section
variable {X : Cx} {a b c : Expr} {ta tb tc : TE} {pos : Pos}
theorem aIq {pins : List (Addr × Obj)} {σ : St} {H : Hp} {s : Shared} {Q : VK} {k k' : Bool} (I : Inv X pins σ H s) (q : Q (.bl k) H) (e : k = k') : EP X pins σ Q (.bool k') s := by
 subst e
 exact ⟨.bl k, H, I, rfl, q⟩
theorem xZ : OpR X (compareOp .Lt) (rI0 fun i j => .bl (decide (i < j))) := aMb fun _ _ _ _ _ _ _ q => lt_int q
theorem aAs : OpR X (compareOp .Gt) (rI0 fun i j => .bl (decide (j < i))) := aMb fun _ _ _ _ _ _ _ q => gt_int q
theorem qY : OpR X (compareOp .In) (fun x y H Q => ∃ i j, x = .str i /\ y = .str j /\ Q (.bl (!(Builtin.Str.occurrences j i 0 j.length 1).isEmpty)) H) := by
 intro pins s σ H x y v u Q I rx ry h
 obtain ⟨i, j, rfl, rfl, q⟩ := h
 obtain ⟨t, rfl⟩ := rx
 obtain ⟨t', rfl⟩ := ry
 exact in_str (aIq I q rfl)
theorem OpR.or {f : Value -> Value -> Sem Value} {r r' : R2} (h : OpR X f r) (h' : OpR X f r') : OpR X f (fun x y H Q => r x y H Q \/ r' x y H Q) := by
 intro pins s σ H x y v u Q I rx ry q
 rcases q with q | q
 ·exact h pins s σ H x y v u Q I rx ry q
 ·exact h' pins s σ H x y v u Q I rx ry q
theorem bL (b : Expr) {op : CmpOp} (h : op ≠ .In := by decide) (h2 : op ≠ .NotIn := by decide) : behindInMarks op b = false := by
 have e1 : (op == CmpOp.In) = false := by cases op <;> first | rfl | exact absurd rfl h
 have e2 : (op == CmpOp.NotIn) = false := by cases op <;> first | rfl | exact absurd rfl h2
 cases b <;> simp [behindInMarks, e1, e2]
theorem aFk {op : CmpOp} {r : R2} (ho : OpR X (compareOp op) r) (ha : PE X a ta) (hb : PE X b tb) (hm : behindInMarks op b = false) : PE X (.Compare a [op] [b] pos) (tOp r ta tb) := by
 intro pins s σ H Q I h
 exact wpAny_Compare1 (aKd ha hb I h fun v u s2 x y H2 I2 rx ry q => ho pins s2 σ H2 x y v u Q I2 rx ry q) hm
def aKf (t : TE) : TT := fun σ H Q => t σ H fun x H' => ∃ k, x = .bl k /\ Q k H'
theorem aFy {op : CmpOp} {r : R2} (ho : OpR X (compareOp op) r) (ha : PE X a ta) (hb : PE X b tb) (hm : behindInMarks op b = false) : PT X (.Compare a [op] [b] pos) (aKf (tOp r ta tb)) := by
 intro pins s σ H Q I h
 refine wpAny_isTrue_Compare1 (thn (ha pins s σ H _ I h) fun v s1 ⟨x, H1, I1, r1, q1⟩ => thn (hb pins s1 σ H1 _ I1 q1) fun u s2 ⟨y, H2, I2, r2, q2⟩ =>
  thn (ho pins s2 σ H2 x y v u _ I2 r1 r2 q2) fun c s3 ⟨z, H3, I3, r3, k, e, q3⟩ => ?_) hm
 subst e
 cases r3
 exact wpAny_truthy_bool ⟨H3, I3, q3⟩
theorem qL : (sizeLine : Nat) < 2 ^ 63 := by rw [sizeLine_eq]; decide
theorem v7 : OpR X (binaryOp .Add) (fun x y H Q => ∃ i j, x = .str i /\ y = .str j /\ i.length + j.length <= sizeLine /\ Q (.str (i ++ j)) H) := by
 intro pins s σ H x y v u Q I rx ry h
 obtain ⟨i, j, rfl, rfl, hz, q⟩ := h
 obtain ⟨t, rfl⟩ := rx
 obtain ⟨t', rfl⟩ := ry
 exact add_str (fun t' tk => ⟨.str (i ++ j), H, I.tok _, ⟨_, rfl⟩, q⟩) hz
def vC (b : Expr) : Prop := ∀ o i, subscripted b false o i = operate [o, i] (getItem o i)
theorem tJ (ha : PE X a ta) (hb : PE X b tb) (hs : vC b) :
  PE X (.Subscript a b pos) (tOp (fun x y H Q => ∃ z i c, x = .str z /\ y = .int i /\ 0 <= i /\ i < 2 ^ 63 /\ i < z.length /\ z.cps[i.toNat]? = some c /\ Q (.str ⟨#[c]⟩) H) ta tb) := by
 intro pins s σ H Q I h
 refine Subscript_ (aKd ha hb I h fun v u s2 x y H2 I2 rx ry q => ?_)
 obtain ⟨z, i, c, rfl, rfl, h0, h63, h1, hc, q⟩ := q
 obtain ⟨t, rfl⟩ := rx
 obtain ⟨t', rfl⟩ := ry
 have e : seqIndex? i z.length = some i.toNat := PySem.StrLaws.seqIndex_nonneg h0 h1
 exact tail_any (typeIs_str s2 z t) slot_str_getitem.lookup (getItem_str (c := c) (by
  have e1 : decide (i < -(2 ^ 63 : Int)) = false := decide_eq_false (by omega)
  have e2 : decide (i ≥ 2 ^ 63) = false := decide_eq_false (by omega)
  rw [e1, e2] <;> rfl) (by rw [e]; exact hc) ⟨.str ⟨#[c]⟩, H2, I2.tok _, ⟨_, rfl⟩, q⟩) (hs _ _)
theorem vals1 {x : V} {us : List Value} (r : Vals [x] us) : ∃ u, us = [u] /\ RelV x u := by
 cases r with
 | cons r1 r2 => cases r2; exact ⟨_, rfl, r1⟩
theorem vals2 {x y : V} {us : List Value} (r : Vals [x, y] us) : ∃ u w', us = [u, w'] /\ RelV x u /\ RelV y w' := by
 cases r with
 | cons r1 r2 =>
  cases r2 with
  | cons r3 r4 => cases r4; exact ⟨_, _, rfl, r1, r3⟩
theorem lO : CallR X (.builtin "abs") (fun xs H Q => ∃ i, xs = [.int i] /\ Q (.int (if i < 0 then -i else i)) H) := by
 intro pins s σ H xs us Q I r h
 obtain ⟨i, rfl, q⟩ := h
 obtain ⟨u, rfl, t, rfl⟩ := vals1 r
 exact call_abs_int fun u tk => ⟨.int (if i < 0 then -i else i), H, I.tok _, ⟨_, rfl⟩, q⟩
theorem aAx (hc : X.calm = true) : CallR X (.builtin "min") (fun xs H Q => ∃ i j, xs = [.int i, .int j] /\ Q (.int (if j < i then j else i)) H) := by
 intro pins s σ H xs us Q I r h
 obtain ⟨i, j, rfl, q⟩ := h
 obtain ⟨u, w', rfl, ⟨t, rfl⟩, ⟨t', rfl⟩⟩ := vals2 r
 refine min_two_ints (I.ok.hd hc) fun h' tk k => ⟨_, H, I.kept k, ?_, q⟩
 by_cases hj : j < i
 ·rw [if_pos hj, if_pos hj]; exact ⟨_, rfl⟩
 ·rw [if_neg hj, if_neg hj]; exact ⟨_, rfl⟩
theorem call_int1 : CallR X (.type "int") (fun xs H Q => (∃ i, xs = [.int i] /\ Q (.int i) H) \/ ∃ k, xs = [.bl k] /\ Q (.int (if k then 1 else 0)) H) := by
 intro pins s σ H xs us Q I r h
 rcases h with ⟨i, rfl, q⟩ | ⟨k, rfl, q⟩
 ·obtain ⟨u, rfl, t, rfl⟩ := vals1 r
  exact call_int_int ⟨.int i, H, I, ⟨_, rfl⟩, q⟩
 ·obtain ⟨u, rfl, r1⟩ := vals1 r
  cases r1
  exact call_int_bool ⟨.int (if k then 1 else 0), H, I.tok _, ⟨_, rfl⟩, q⟩
theorem cA : CallR X (.type "str") (fun xs H Q => ∃ i, xs = [.int i] /\ i.natAbs.log2 < 1920 /\ Q (.str (toString i)) H) := by
 intro pins s σ H xs us Q I r h
 obtain ⟨i, rfl, hz, q⟩ := h
 obtain ⟨u, rfl, t, rfl⟩ := vals1 r
 exact PySem.P.str_of_int hz ⟨.str _, H, I.tok _, ⟨_, rfl⟩, q⟩
end
structure ObjM (h : Heap) (x dx C : Addr) (mA : Str -> Option Value) : Prop where
 obj : h.get? x = some (PySem.W.instObj C dx)
 ns : h.Ns1 dx mA
 ne : dx ≠ x
theorem xK {h : Heap} {dx : Addr} {mA : Str -> Option Value} (n : h.Ns1 dx mA) : ∃ od, h.get? dx = some od /\ ∀ name, PySem.W.lookIn name od = some (mA name) := by
 obtain ⟨o, es, ep, ho, hd, hk, _, hm⟩ := n
 refine ⟨o, ho, fun name => ?_⟩
 have e := hm name
 unfold nsFind findBy at e
 rw [<- Array.find?_toList] at e
 unfold PySem.W.lookIn
 rw [hd]
 dsimp only
 split
 ·rename_i y q
  rw [q] at e
  exact congrArg some e
 ·rename_i q
  rw [q] at e
  have a : es.toList.any (·.refKey) = false := by
   rw [List.any_eq_false]
   intro y hy
   obtain ⟨z, t, hkey⟩ := hk y (Array.mem_toList_iff.mp hy)
   simp [DictEntry.refKey, hkey]
  have a' : ¬ es.toList.any (·.refKey) = true := by rw [a]; exact Bool.false_ne_true
  rw [if_neg a']
  exact congrArg some e
theorem ObjM.look {h : Heap} {x dx C : Addr} {mA : Str -> Option Value} (I : ObjM h x dx C mA) : ∃ od, PySem.W.InstAt h x (PySem.W.instObj C dx) C (some od) /\ ∀ name, PySem.W.lookIn name od = some (mA name) :=
 let ⟨od, ho, hl⟩ := xK I.ns
 ⟨od, ⟨I.obj, rfl, rfl, ho⟩, hl⟩
section
variable {prog : Program} {w : World} {A : Around} {E : Value -> Shared -> Prop} {s : Shared} {K : PySem.W.Frag} {x dx C f : Addr} {mA : Str -> Option Value} {name : Str} {v : Value}
end
theorem RelO.some_of {v : V} {o : Option Value} (r : RelO (some v) o) : ∃ u, o = some u /\ RelV v u := by
 cases o with
 | none => exact (show False from r).elim
 | some u => exact ⟨u, rfl, r⟩
section
variable {P : Program} {w : World} {H H' : Hp} {h h' : Heap} {a C dx : Addr} {fs fs' : List (Str × V)}
theorem aEe (hok : HOk P w H h) (e : H a = some (.ins C dx fs)) : ∃ mA, ObjM h a dx C mA /\ (∀ f, RelO (fs.lookup f) (mA f)) /\ PySem.Within mA (fs.map (·.1)) /\ fs.length <= 1000 /\ H dx = some (.own a) := by
 obtain ⟨d, z, ne, ob, mA, n, r, q⟩ := (show ObjOk P w H h a (.ins C dx fs) from hok a _ e)
 exact ⟨mA, ⟨ob, n, ne⟩, r, q, z, d⟩
end
structure Cls (K : PySem.W.Frag) (C : Addr) : Prop where
 pg : PySem.W.plainGet K C Str.empty = true
 hd : PySem.W.hasDictIn K C = true
 po : PySem.W.plainOver K C = true
 sa : PySem.W.findIn K (.ref C) "__setattr__" = some (some (.builtin "object.__setattr__"))
theorem Cls.get {K : PySem.W.Frag} {C : Addr} (c : Cls K C) (f : Str) : PySem.W.plainGet K C f = true := c.pg
section
variable {X : Cx} {pins : List (Addr × Obj)} {σ : St} {H : Hp} {s : Shared} {a C dx : Addr} {fs : List (Str × V)} {f : Str} {v : V} {A : Around} {E : Value -> Shared -> Prop}
end
section
variable {X : Cx} {o e value : Expr} {f : Str} {pos pos' tpos : Pos} {ta tv : TE}
end
section
variable {X : Cx} {pins : List (Addr × Obj)} {σ : St} {H : Hp} {s : Shared} {A : Around} {E : Value -> Shared -> Prop} {Q : Value -> Shared -> Prop} {c : Value} {b : Bool}
inductive uQ (K : PySem.W.Frag) (H : Hp) : V -> Value -> Prop where
 | non : uQ K H .non (.type "NoneType")
 | bl (x : Bool) : uQ K H (.bl x) (.type "bool")
 | int (i : Int) : uQ K H (.int i) (.type "int")
 | str (x : Str) : uQ K H (.str x) (.type "str")
 | flt (x : UInt64) : uQ K H (.flt x) (.type "float")
 | lst {a : Addr} {xs : List V} (e : H a = some (.lst xs)) : uQ K H (.ref a) (.type "list")
 | frz {a : Addr} {o : Obj} {xs : List V} (e : H a = some (.frz o (.lst xs))) : uQ K H (.ref a) (.type "list")
 | tup {a : Addr} {xs : List V} (e : H a = some (.tup xs)) : uQ K H (.ref a) (.type "tuple")
 | dK {a : Addr} {kvs : List (Key × V)} (e : H a = some (.dK kvs)) : uQ K H (.ref a) (.type "dict")
 | dT {a : Addr} {kvs : List (List Key × V)} (e : H a = some (.dT kvs)) : uQ K H (.ref a) (.type "dict")
 | ins {a C dx : Addr} {fs : List (Str × V)} (e : H a = some (.ins C dx fs)) (cl : Cls K C) (ha : PySem.W.findIn K (.ref C) "__class__" = some (some (.builtin "object.__class__")))
   (hn : PySem.W.specialIn K (.builtin "object.__class__") "__get__" = some (some (.builtin "getset_descriptor.__get__"))) (htk : PySem.W.takesIn K (.builtin "object.__class__") = some true)
   (hm : PySem.W.mroIn K C (.type "object") = some true) : uQ K H (.ref a) (.ref C)
theorem xY {x : V} {u t : Value} (I : Inv X pins σ H s) (rx : RelV x u) (ty : uQ X.K H x t) (e : PySem.W.kitOne X.K t c = some b) (h : ∀ tk, Q (.bool b) { s with toks := tk }) :
  wpAny (model X.prog X.w) A (call (.builtin "isinstance") [u, c]) Q E s := by
 cases ty with
 | non => cases (show u = Value.none from rx); exact PySem.W.kia_one PySem.W.kitx_none I.kIn True.intro e (fun z => nomatch z) h
 | bl y => cases (show u = Value.bool y from rx); exact PySem.W.kia_one PySem.W.kitx_bool I.kIn True.intro e (fun z => nomatch z) h
 | int i => obtain ⟨t, q⟩ := (show ∃ t, u = Value.int i t from rx); cases q; exact PySem.W.kia_one PySem.W.kitx_int I.kIn True.intro e (fun z => nomatch z) h
 | str y => obtain ⟨t, q⟩ := (show ∃ t, u = Value.str y t from rx); cases q; exact PySem.W.kia_one PySem.W.kitx_str I.kIn True.intro e (fun z => nomatch z) h
 | flt y => obtain ⟨t, q⟩ := (show ∃ t, u = Value.float y t from rx); cases q; exact PySem.W.kia_one PySem.W.kitx_float I.kIn True.intro e (fun z => nomatch z) h
 | @lst a xs ea =>
  cases (show u = Value.ref a from rx)
  obtain ⟨_, _, n, _, h1⟩ := (show ObjOk X.prog X.w H s.heap a (.lst xs) from I.hok a _ ea)
  exact PySem.W.kia_one PySem.W.kitx_list I.kIn ⟨_, h1, rfl⟩ e (fun z => nomatch z) h
 | @frz a ob xs ea =>
  cases (show u = Value.ref a from rx)
  obtain ⟨_, _, _, n, _, h1⟩ := (show ObjOk X.prog X.w H s.heap a (.frz ob (.lst xs)) from I.hok a _ ea)
  exact PySem.W.kia_one PySem.W.kitx_list I.kIn ⟨_, h1, rfl⟩ e (fun z => nomatch z) h
 | @tup a xs ea =>
  cases (show u = Value.ref a from rx)
  obtain ⟨_, _, _, p⟩ := (show ObjOk X.prog X.w H s.heap a (.tup xs) from I.hok a _ ea)
  obtain ⟨o, h1, h2, _⟩ := p
  exact PySem.W.kia_one PySem.W.kitx_tuple I.kIn ⟨o, h1, h2⟩ e (fun z => nomatch z) h
 | @dK a kvs ea =>
  cases (show u = Value.ref a from rx)
  obtain ⟨_, _, vs, _, p⟩ := (show ObjOk X.prog X.w H s.heap a (.dK kvs) from I.hok a _ ea)
  obtain ⟨o, es, ep, h1, h2, _⟩ := p
  exact PySem.W.kia_one PySem.W.kitx_dict I.kIn ⟨o, h1, h2.1⟩ e (fun z => nomatch z) h
 | @dT a kvs ea =>
  cases (show u = Value.ref a from rx)
  obtain ⟨_, _, xs, _, o, es, ep, h1, h2, _⟩ := (show ObjOk X.prog X.w H s.heap a (.dT kvs) from I.hok a _ ea)
  exact PySem.W.kia_one PySem.W.kitx_dict I.kIn ⟨o, h1, h2.1⟩ e (fun z => nomatch z) h
 | @ins a C dx fs ea cl ha hn htk hm =>
  cases (show u = Value.ref a from rx)
  obtain ⟨mA, O, _⟩ := aEe I.hok ea
  obtain ⟨od, J, _⟩ := O.look
  exact PySem.W.kia_one (PySem.W.kitx_own (cl.get _) cl.hd ha hn htk hm) I.kIn J e (fun z => nomatch z) h
end
structure Room (k : Nat) (A : Around) : Prop where
 hd : A.handled = none
 dp : A.depth + 3 * k + 5 < recursionLimit
 un : A.units + 16 * k + 200 < cLine
theorem Room.mono {j k : Nat} {A : Around} (r : Room k A) (h : j <= k) : Room j A := ⟨r.hd, by have := r.dp; omega, by have := r.un; omega⟩
theorem Room.deeper {k : Nat} {A : Around} (r : Room (k + 1) A) (env : Env) : Room k (A.deeper env) :=
 ⟨r.hd, by have := r.dp; show A.depth + 1 + 3 * k + 5 < _; omega, by have := r.un; show A.units + 3 + 16 * k + 200 < _; omega⟩
theorem Room.depth {k : Nat} {A : Around} (r : Room k A) : A.depth < recursionLimit := by have := r.dp; omega
def aMh : TA := fun _ H Q => Q [] H
def aGp (ta : TE) (tr : TA) : TA := fun σ H Q => ta σ H fun x H1 => tr σ H1 fun xs H2 => Q (x :: xs) H2
section
variable {X : Cx} {e : Expr} {es : List Expr} {te : TE} {t : TA} {pos : Pos}
theorem uS : PA X [] aMh := fun _ _ _ _ H Q I h => Calls.spliced_nil ⟨[], H, I, .nil, h⟩
theorem mK (ha : PE X e te) (hr : PA X es t) (hs : starEach (e :: es) X.env = (false, eval e X.env) :: starEach es X.env := by rfl) : PA X (e :: es) (aGp te t) := by
 intro pos pins s σ H Q I h
 rw [hs]
 show wpAny _ _ (spliced ((false, eval e X.env) :: backTo pos (starEach es X.env))) _ _ s
 refine Calls.spliced_cons (thn (ha pins s σ H _ I h) fun u s1 ⟨x, H1, I1, r1, q1⟩ => ?_)
 exact thn (hr pos pins s1 σ H1 _ I1 q1) fun us s2 ⟨xs, H2, I2, r2, q2⟩ => ⟨x :: xs, H2, I2, .cons r1 r2, q2⟩
def aMs (t : TA) : TE := fun σ H Q => t σ H fun xs H1 => xs.length <= sizeLine /\ ∀ p, H1 p = none -> Q (.ref p) (upd H1 p (.tup xs))
def aNd (t : TA) : TE := fun σ H Q => t σ H fun xs H1 => xs.length <= sizeLine /\ ∀ p, H1 p = none -> Q (.ref p) (upd H1 p (.lst xs))
theorem aJj {x1} (h : PA X es t) : PE X (.Tuple es x1 pos) (aMs t) := by
 intro pins s σ H Q I hq
 refine wpAny_Tuple_spliced (thn (h pos pins s σ H _ I hq) fun us s1 ⟨xs, H1, I1, r, z, q⟩ => ⟨by rw [<- r.length]; exact z, ?_⟩)
 have hf : H1 s1.heap.objs.size = none := I1.hok.fresh (Nat.le_refl _)
 refine ⟨.ref s1.heap.objs.size, upd H1 s1.heap.objs.size (.tup xs), I1.laid (t' := s1.toks) (fun b u e => Heap.get?_push_of_some _ e) (Nat.le_refl _) ?_, rfl, q _ hf⟩
 exact ⟨z, us, r, ⟨_, Heap.get?_push_size _ rfl, rfl, _, rfl⟩⟩
theorem aJo (h : PA X es t) : PE X (.List es pos) (aNd t) := by
 intro pins s σ H Q I hq
 refine wpAny_List_spliced (thn (h pos pins s σ H _ I hq) fun us s1 ⟨xs, H1, I1, r, z, q⟩ => ⟨by rw [<- r.length]; exact z, ?_⟩)
 have hf : H1 s1.heap.objs.size = none := I1.hok.fresh (Nat.le_refl _)
 refine ⟨.ref s1.heap.objs.size, upd H1 s1.heap.objs.size (.lst xs), I1.laid (t' := s1.toks) (fun b u e => Heap.get?_push_of_some _ e) (Nat.le_refl _) ?_, rfl, q _ hf⟩
 exact ⟨z, us, 0, r, Heap.get?_push_size _ rfl⟩
end
abbrev Sp := List V -> Hp -> VK -> XK -> Prop
abbrev CXT := List Env -> Hp -> Shared -> XK -> Value -> Shared -> Prop
structure aKb (P : Program) (w : World) (K : PySem.W.Frag) (mg : Str -> Option Value) (base : Heap) (A : Around) (outer : List Env) (s : Shared) (H : Hp) : Prop where
 frames : A.frames = some outer
 mod : Mod K mg base
 bs : ∀ b o, base.get? b = some o -> s.heap.get? b = some o /\ H b = none
 bsz : base.objs.size <= s.heap.objs.size
 funs : s.heap.FunFrames base outer
 frf : ∀ b ∈ frs outer, H b = none
 hok : HOk P w H s.heap
 bare : AllBare s.gens
 tab : Tbs K H
def CE (outer : List Env) (P : Program) (w : World) (H : Hp) (s : Shared) (Q : VK) (u : Value) (s' : Shared) : Prop :=
 ∃ v H', s'.os = s.os /\ AllBare s'.gens /\ Un (frs outer) [] H H' s.heap s'.heap /\ HOk P w H' s'.heap /\ RelV v u /\ Q v H'
def CR (CX : CXT) (outer : List Env) (P : Program) (w : World) (H : Hp) (s : Shared) (Q : VK) (E : XK) (r : Result) (s' : Shared) : Prop :=
 match r with
 | .ok (.ret u) => CE outer P w H s Q u s'
 | .ok _ => False
 | .error e => CX outer H s E e s'
structure FnOk (P : Program) (w : World) (K : PySem.W.Frag) (mg : Str -> Option Value) (base : Heap) (CX : CXT) (k : Nat) (f : Addr) (fd : FuncData) (ps : List Str) (sp : Sp) : Prop where
 len : ∀ vs H Q E, sp vs H Q E -> vs.length = ps.length
 run : ∀ (A : Around) (outer : List Env) (s : Shared) (H : Hp) (args : Args) (us : List Value) (vs : List V) (Q : VK) (E : XK), Room k A -> aKb P w K mg base A outer s H -> BindsTo s fd args (ps.zip us) -> Vals vs us -> sp vs H Q E ->
  codeAny (model P w) A (.call (.ref f) args) (CR CX outer P w H s Q E) s
theorem FnOk.mono {P : Program} {w : World} {K : PySem.W.Frag} {mg : Str -> Option Value} {base : Heap} {CX : CXT} {j k : Nat} {f : Addr} {fd : FuncData} {ps : List Str} {sp : Sp} (F : FnOk P w K mg base CX j f fd ps sp) (h : j <= k) :
  FnOk P w K mg base CX k f fd ps sp := ⟨F.len, fun A outer s H args us vs Q E hr => F.run A outer s H args us vs Q E (hr.mono h)⟩
theorem FnOk.imp {P : Program} {w : World} {K : PySem.W.Frag} {mg : Str -> Option Value} {base : Heap} {CX : CXT} {k : Nat} {f : Addr} {fd : FuncData} {ps : List Str} {sp sp' : Sp} (F : FnOk P w K mg base CX k f fd ps sp)
  (h : ∀ vs H Q E, sp' vs H Q E -> sp vs H Q E) : FnOk P w K mg base CX k f fd ps sp' :=
 ⟨fun vs H Q E q => F.len vs H Q E (h _ _ _ _ q), fun A outer s H args us vs Q E hr he hb hv hs => F.run A outer s H args us vs Q E hr he hb hv (h _ _ _ _ hs)⟩
section
variable {X : Cx} {pins : List (Addr × Obj)} {σ : St} {H : Hp} {s s' : Shared}
theorem Inv.env0 (I : Inv X pins σ H s) : aKb X.prog X.w X.K X.mg X.base X.A X.stack s H :=
 ⟨I.ok.frames, I.ok.mod, I.bs, Nat.le_trans I.ok.bsz I.sz, I.stack, I.stkFree, I.hok, I.bare, I.tab⟩
theorem Inv.after {Q : VK} {u : Value} (I : Inv X pins σ H s) (h : CE X.stack X.prog X.w H s Q u s') : EP X pins σ Q u s' := by
 obtain ⟨v, H', os, bare, un, hok, r, q⟩ := h
 obtain ⟨hh, g, d, t, os'⟩ := s'
 obtain rfl : os' = s.os := os
 exact ⟨v, H', I.call (h' := hh) (g' := g) (d' := d) (t' := t) (ch := []) un hok bare (fun b z => absurd z (by simp)), r, q⟩
end
def Binds (K : PySem.W.Frag) (fd : FuncData) (ps : List Str) (ds : List Value) : Prop :=
 ∀ (s : Shared) (us : List Value), K.In s.heap -> (us ++ ds).length = ps.length -> BindsTo s fd ⟨us, []⟩ (ps.zip (us ++ ds))
theorem Binds.all {K : PySem.W.Frag} {fd : FuncData} {ps : List Str} (h : ∀ us : List Value, us.length = ps.length -> bindArgs fd ⟨us, []⟩ = pure (ps.zip us)) : Binds K fd ps [] := fun s us _ hl => by
 rw [List.append_nil] at hl ⊢
 exact .of_eq (h us hl)
def aJ8 (CX : CXT) (X : Cx) (E : XK) : Prop := ∀ (pins : List (Addr × Obj)) (σ : St) (H : Hp) (s : Shared) (e : Value) (s' : Shared), Inv X pins σ H s -> CX X.stack H s E e s' -> X.xe e s'
section
variable {X : Cx} {CX : CXT} {k : Nat} {f C : Addr} {fd : FuncData} {ps : List Str} {sp : Sp} {dvs : List V} {ds : List Value} {E : XK} {x m : Str} {p pos apos : Pos} {e o : Expr} {es : List Expr} {ta : TE} {t : TA}
end
section
variable {X : Cx} {CX : CXT} {k : Nat} {f C : Addr} {fd : FuncData} {ps ks : List Str} {sp : Sp} {E : XK} {x m : Str} {p pos apos kpos : Pos} {e o : Expr} {es : List Expr} {kws : List Keyword} {te ta : TE} {t tk : TA} {nm : Option Str}
variable {g : List Value -> List Value -> List Value} {gV : List V -> List V -> List V}
end
structure aX (N P : List Str) (sc : Scope) : Prop where
 kind : sc.kind = .function
 co : sc.isCoroutine = false
 gen : sc.isGenerator = false
 nd : N.Nodup
 pre : N.take P.length = P
 par : ∀ x ∈ P, sc.names.lookup x = some .local \/ sc.names.lookup x = some .cell
 nofree : ∀ y ∈ sc.names, y.2 ≠ .free
theorem qX {kindOf : Str -> Option NameKind} {x : Str} : ∀ {binds : List (Str × Value)} {m : Str -> Option Value}, (∀ v, (x, v) ∉ binds) -> bindL kindOf binds m x = m x
 | [], _, _ => rfl
 | (n, v) :: r, m, h => by
  unfold bindL
  rw [qX fun w hw => h w (List.mem_cons_of_mem _ hw)]
  split
  ·have : x ≠ n := by rintro rfl; exact h v List.mem_cons_self
   simp [this]
  ·rfl
theorem qE {kindOf : Str -> Option NameKind} {x : Str} : ∀ {binds : List (Str × Value)} {m : Str -> Option Value}, (∀ v, (x, v) ∉ binds) -> bindC kindOf binds m x = m x
 | [], _, _ => rfl
 | (n, v) :: r, m, h => by
  unfold bindC
  rw [qE fun w hw => h w (List.mem_cons_of_mem _ hw)]
  split
  ·rfl
  ·have : x ≠ n := by rintro rfl; exact h v List.mem_cons_self
   simp [this]
theorem qF {kindOf : Str -> Option NameKind} {x : Str} {v : Value} : ∀ {P : List Str} {vs : List Value} {i : Nat} {m : Str -> Option Value}, P.Nodup -> P[i]? = some x -> vs[i]? = some v -> kindOf x = some .local ->
  bindL kindOf (P.zip vs) m x = some v
 | [], _, _, _, _, h, _, _ => by simp at h
 | _ :: _, [], _, _, _, _, h, _ => by simp at h
 | p :: P, w :: vs, 0, m, nd, h1, h2, hk => by
  simp at h1 h2; subst h1; subst h2
  show bindL kindOf ((p, w) :: P.zip vs) m p = _
  unfold bindL
  rw [qX fun v hv => (List.nodup_cons.mp nd).1 (List.of_mem_zip hv).1, if_pos hk]
  simp
 | p :: P, w :: vs, i + 1, m, nd, h1, h2, hk => by
  show bindL kindOf ((p, w) :: P.zip vs) m x = _
  unfold bindL
  exact qF (i := i) (List.nodup_cons.mp nd).2 (by simpa using h1) (by simpa using h2) hk
theorem rD {kindOf : Str -> Option NameKind} {x : Str} {v : Value} : ∀ {P : List Str} {vs : List Value} {i : Nat} {m : Str -> Option Value}, P.Nodup -> P[i]? = some x -> vs[i]? = some v -> kindOf x ≠ some .local ->
  bindC kindOf (P.zip vs) m x = some v
 | [], _, _, _, _, h, _, _ => by simp at h
 | _ :: _, [], _, _, _, _, h, _ => by simp at h
 | p :: P, w :: vs, 0, m, nd, h1, h2, hk => by
  simp at h1 h2; subst h1; subst h2
  show bindC kindOf ((p, w) :: P.zip vs) m p = _
  unfold bindC
  rw [qE fun v hv => (List.nodup_cons.mp nd).1 (List.of_mem_zip hv).1, if_neg hk]
  simp
 | p :: P, w :: vs, i + 1, m, nd, h1, h2, hk => by
  show bindC kindOf ((p, w) :: P.zip vs) m x = _
  unfold bindC
  exact rD (i := i) (List.nodup_cons.mp nd).2 (by simpa using h1) (by simpa using h2) hk
def start (N : List Str) (vs : List V) : St := vs.map some ++ List.replicate (N.length - vs.length) none
def pI (CX : CXT) (P : Program) (w : World) (K : PySem.W.Frag) (mg : Str -> Option Value) (base : Heap) (N : List Str) (qual : Str) (scope : Scope) (f : Addr) (cd : Value) (A : Around) (outer : List Env) (s : Shared) (H : Hp) (E : XK) : Cx where
 prog := P
 w := w
 K := K
 mg := mg
 base := base
 A := A.deeper (envOfC qual scope s.heap.objs.size f cd)
 N := N
 s₀ := s
 H₀ := H
 env := envOfC qual scope s.heap.objs.size f cd
 outer := outer
 stack := envOfC qual scope s.heap.objs.size f cd :: outer
 ex := []
 calm := true
 fn := fun _ => true
 pn := []
 xe := fun e s' => wpAny (model P w) (A.deeper (envOfC qual scope s.heap.objs.size f cd)) (leaving (envOfC qual scope s.heap.objs.size f cd) e) (fun _ s'' => CX outer H s E e s'') (fun e' s'' => CX outer H s E e' s'') s'
theorem uJ {sc : Scope} {n : Nat} {x : Str} (h : sc.names.lookup x = some .cell) : ∃ c, (cellsFrom n sc.names []).lookup x = some c := by
 have q := PySem.W.cellsFrom_some sc.names n [] (.inl h)
 exact Option.isSome_iff_exists.mp q
theorem xN {CX : CXT} {P : Program} {w : World} {K : PySem.W.Frag} {mg : Str -> Option Value} {base : Heap} {N ps : List Str} {qual : Str} {scope : Scope} {f : Addr} {cd : Value} {A : Around} {outer : List Env} {s s1 : Shared} {H : Hp} {E : XK} {us : List Value} {vs : List V}
  (S : aX N ps scope) (hd : A.handled = none) (e0 : aKb P w K mg base A outer s H) (hl : vs.length = ps.length) (r : Vals vs us)
  (x : InCallC s s.heap.objs.size (bindL (envOfC qual scope s.heap.objs.size f cd).kindOf (ps.zip us) fun _ => none) (cellsFrom (s.heap.objs.size + 1) scope.names []) (bindC (envOfC qual scope s.heap.objs.size f cd).kindOf (ps.zip us) fun _ => none) s1) :
  Inv (pI CX P w K mg base N qual scope f cd A outer s H E) [] (start N vs) H s1 := by
 have hpl : ps.length <= N.length := by have := congrArg List.length S.pre; rw [List.length_take] at this; omega
 obtain ⟨h1, tk, rfl, hk⟩ := x.done
 have noA : ∀ b : Addr, b ∉ (pI CX P w K mg base N qual scope f cd A outer s H E).ex := fun b z => absurd (show b ∈ ([] : List Addr) from z) (by simp)
 refine ⟨⟨e0.mod, S.kind, rfl, rfl, Nat.le_refl _, fun y z c h1 h2 => ?_, fun y hy => ?_, fun y c _ h => ?_, fun _ => hd, Around.frames_deeper e0.frames, .inr ⟨rfl, rfl⟩, fun b z => absurd z (noA b), e0.bs, e0.bsz, fun b _ _ => noA b, fun b z => absurd z (noA b), e0.funs, e0.frf, e0.tab⟩,
  rfl, e0.bare, Un.kept hk, ⟨_, x.toInCall.ns, fun i y v h1 h2 h3 => ?_⟩, fun y c h => ⟨_, x.cell y c h⟩, e0.hok.fresh (Nat.le_refl _), fun y c h => ?_, fun p hp => absurd (show p ∈ ([] : List (Addr × Obj)) from hp) (by simp), e0.hok.kept hk, ?_⟩
 ·exact name_of_addr x.apart (PySem.mem_of_lookup h1) (PySem.mem_of_lookup h2)
 ·have hy : scope.names.lookup y = some .cell \/ scope.names.lookup y = some .free := hy
  rcases hy with hy | hy
  ·exact uJ hy
  ·exact absurd rfl (S.nofree _ (PySem.mem_of_lookup hy))
 ·exact Nat.le_of_lt (x.above y c (PySem.mem_of_lookup h))
 ·have hi : i < vs.length := by
   unfold start at h2
   by_cases hi : i < vs.length
   ·exact hi
   ·rw [List.getElem?_append_right (by simpa using hi)] at h2
    rw [List.getElem?_replicate] at h2
    split at h2 <;> cases h2
  have ha : vs[i]? = some v := by
   unfold start at h2
   rw [List.getElem?_append_left (by simpa using hi), List.getElem?_map] at h2
   cases e : vs[i]? with
   | none => rw [e] at h2; cases h2
   | some a => rw [e] at h2; cases h2; rfl
  obtain ⟨u, hu, rv⟩ := r.get ha
  have hp : ps[i]? = some y := by
   rw [<- S.pre, List.getElem?_take_of_lt (by omega)]; exact h1
  have ndP : ps.Nodup := by rw [<- S.pre]; exact S.nd.sublist (List.take_sublist _ _)
  refine ⟨u, rv, ?_⟩
  rcases S.par y (List.mem_of_getElem? hp) with k | k
  ·exact .inl ⟨k, qF ndP hp hu k⟩
  ·obtain ⟨c, e⟩ := uJ (n := s.heap.objs.size + 1) k
   refine .inr ⟨.inl k, c, e, ?_⟩
   have q := x.cell y c e
   rw [rD ndP hp hu (by show scope.names.lookup y ≠ _; rw [k]; decide)] at q
   exact q
 ·exact e0.hok.fresh (Nat.le_of_lt (x.above y c (PySem.mem_of_lookup h)))
 ·unfold start
  show _ = N.length
  rw [List.length_append, List.length_map, List.length_replicate]
  omega
theorem aLn {CX : CXT} {P : Program} {w : World} {K : PySem.W.Frag} {mg : Str -> Option Value} {base : Heap} {k : Nat} {f : Addr} {name qual : Str} {params : Arguments} {body : List Stmt} {scope : Scope} {dV kV doc pm cdv ct oc : Value} {an od : Option Addr}
  {osl : Array (Option Value)} {N ps : List Str} {sp : Sp} (lk : K.lookup f = some ⟨oc, od, .func (PySem.W.fnOf name qual params body scope dV kV doc pm an cdv ct), osl⟩) (hcd : PySem.W.codeIn K cdv qual = true) (S : aX N ps scope)
  (len : ∀ vs H Q E, sp vs H Q E -> vs.length = ps.length)
  (hbody : ∀ (A : Around) (outer : List Env) (s : Shared) (H : Hp) (vs : List V) (Q : VK) (E : XK), Room k (A.deeper (envOfC qual scope s.heap.objs.size f cdv)) -> sp vs H Q E ->
   ∃ t, PSs (pI CX P w K mg base N qual scope f cdv A outer s H E) body t /\ t { nx := fun _ H' => Q .non H', rt := Q } (start N vs) H) :
  FnOk P w K mg base CX (k + 1) f (PySem.W.fnOf name qual params body scope dV kV doc pm an cdv ct) ps sp := by
 refine ⟨len, fun A outer s H args us vs Q E hr e0 hb r hsp => ?_⟩
 have hl := len _ _ _ _ hsp
 have KX : K.In s.heap := e0.mod.kin.keeps fun b o e => (e0.bs b o e).1
 have lim : s.heap.NoLimit := e0.mod.nolimit.keeps fun b o e => (e0.bs b o e).1
 have hkind : ∀ y ∈ ps.zip us, scope.names.lookup y.1 = some .local \/ (scope.names.lookup y.1 = some .cell /\ ((cellsFrom (s.heap.objs.size + 1) scope.names []).lookup y.1).isSome = true) := fun ⟨n, v⟩ hy => by
  rcases S.par n (List.of_mem_zip hy).1 with q | q
  ·exact .inl q
  ·exact .inr ⟨q, PySem.W.cellsFrom_some _ _ _ (.inl q)⟩
 refine codeAny_call_function hr.depth (KX _ _ lk) rfl S.co S.gen rfl (PySem.W.codeRec_of KX hcd) (hb _ _ _ _ ?_)
 refine wpAny_newFunctionEnv_cells S.kind hkind fun env he s1 x => ?_
 subst he
 refine ⟨lim.keeps x.toInCall.keep, codeAny_func ?_⟩
 obtain ⟨t, ht, hq⟩ := hbody A outer s H vs Q E (hr.deeper _) hsp
 have I : Inv (pI CX P w K mg base N qual scope f cdv A outer s H E) [] (start N vs) H s1 := xN S hr.hd e0 hl r x
 refine wpAny_mono (ht [] s1 (start N vs) H _ I hq) (fun fl s' hs => ?_) fun e s' hs => hs
 have fin : ∀ {σ' : St} {H' : Hp} {v : V} {u : Value}, Inv (pI CX P w K mg base N qual scope f cdv A outer s H E) [] σ' H' s' -> RelV v u -> Q v H' -> CE outer P w H s Q u s' :=
  fun {σ' H' v u} J rv q => ⟨v, H', J.os, J.bare, J.base, J.hok, rv, q⟩
 cases fl with
 | ret u =>
  obtain ⟨v, σ', H', J, rv, q⟩ := hs
  exact fin J rv q
 | next =>
  obtain ⟨σ', H', J, q⟩ := hs
  exact fin (v := V.non) (u := Value.none) J rfl q
 | brk =>
  obtain ⟨_, _, _, q⟩ := hs
  exact False.elim q
 | cont =>
  obtain ⟨_, _, _, q⟩ := hs
  exact False.elim q
section
variable {X : Cx} {x : Str} {p pos : Pos} {e : Expr} {es : List Expr} {t : TA} {id T : String} {r : List V -> Hp -> VK -> Prop}
def tCB (r : List V -> Hp -> VK -> Prop) (t : TA) : TE := fun σ H Q => t σ H fun vs H1 => r vs H1 Q
theorem uO (hc : CallR X (.builtin id) r) (hg : Gl X x) (hm : X.mg x = none) (hv : bootBuiltins x = some (.builtin id)) (ha : PA X (e :: es) t) (hn : x ≠ "__name__" := by decide) (hdb : (x == ("__debug__" : Str)) = false := by decide)
  (he : starEach (e :: es) X.env = (false, eval e X.env) :: starEach es X.env := by rfl) (hpl : (backTo pos (starEach es X.env)).any (·.1) = false := by rfl) : PE X (.Call (.Name x p) (e :: es) [] pos) (tCB r t) := by
 intro pins s σ H Q I h
 refine wpAny_Call_Name_kw (qV I hg hm hv ?_ hn hdb)
 exact PyProof.Rows.callWith_builtin1 (thn (ha pos pins s σ H _ I h) fun us s1 ⟨vs, H1, I1, r1, q1⟩ => hc pins s1 σ H1 vs us Q I1 r1 q1) he hpl
theorem zW (hc : CallR X (.type T) r) (hg : Gl X x) (hm : X.mg x = none) (hv : bootBuiltins x = some (.type T)) (ha : PA X (e :: es) t) (hn : x ≠ "__name__" := by decide) (hdb : (x == ("__debug__" : Str)) = false := by decide)
  (he : starEach (e :: es) X.env = (false, eval e X.env) :: starEach es X.env := by rfl) (hpl : (backTo pos (starEach es X.env)).any (·.1) = false := by rfl) : PE X (.Call (.Name x p) (e :: es) [] pos) (tCB r t) := by
 intro pins s σ H Q I h
 refine wpAny_Call_Name_kw (qV I hg hm hv ?_ hn hdb)
 exact PyProof.Rows.callWith_type1 (thn (ha pos pins s σ H _ I h) fun us s1 ⟨vs, H1, I1, r1, q1⟩ => hc pins s1 σ H1 vs us Q I1 r1 q1) he hpl
end
end L2
namespace HT
open PySem PyProof.Rows
def lexLt : List Int -> List Int -> Bool
 | [], [] => false
 | [], _ :: _ => true
 | _ :: _, [] => false
 | x :: xs, y :: ys => if x = y then lexLt xs ys else decide (x < y)
theorem iU (x y : Int) (xs ys : List Int) : lexLt (x :: xs) (y :: ys) = if x = y then lexLt xs ys else decide (x < y) := rfl
section
open PySem.SeqAt
open PySem.AutoSeq1 (wpAny_loadPart')
open PySem.MeetsSeq PySem.MeetsSeq2 PySem.MeetsSeq3
end
section
variable {prog : Program} {w : World} {A : Around} {E : Value -> Shared -> Prop} {s : Shared}
def sIx (n d : Nat) : Option Int -> Nat
 | none => d
 | some v => if v < 0 then (v + (n : Int)).toNat else min v.toNat n
theorem aAf (n d k : Nat) : sIx n d (some (k : Int)) = min k n := by
 show (if (k : Int) < 0 then ((k : Int) + (n : Int)).toNat else min (k : Int).toNat n) = min k n
 rw [if_neg (by omega), Int.toNat_natCast]
end
end HT
namespace L2
open PySem PySem.Spec PyProof.Rows
abbrev TO := St -> Hp -> (Option Int -> Hp -> Prop) -> Prop
def PO (X : Cx) (e : Option Expr) (t : TO) : Prop :=
 ∀ (pins : List (Addr × Obj)) (s : Shared) (σ : St) (H : Hp) (Q : Option Int -> Hp -> Prop), Inv X pins σ H s -> t σ H Q ->
  wpAny (model X.prog X.w) X.A (evalPart e X.env) (fun u s' => ∃ o H', Inv X pins σ H' s' /\ IsPart u o /\ Q o H') X.xe s
def aFn : TO := fun _ H Q => Q none H
def aLe (t : TE) : TO := fun σ H Q => t σ H fun x H1 => ∃ i, x = .int i /\ Q (some i) H1
theorem intsAre_of {ns : List Int} : ∀ {us : List Value}, Vals (ns.map V.int) us -> IntsAre us ns := by
 induction ns with
 | nil => intro us r; rw [List.map_nil] at r; cases r; exact .nil
 | cons n ns ih =>
  intro us r
  rw [List.map_cons] at r
  cases r with
  | cons r1 r2 =>
   obtain ⟨t, e⟩ := r1
   subst e
   exact .cons n t (ih r2)
section
variable {X : Cx} {e : Expr} {te : TE} {lo hi : Option Expr} {tl th : TO} {pos p2 : Pos}
theorem aEf : PO X none aFn := by
 intro pins s σ H Q I h
 rw [evalPart_none]
 exact wpAny_pure ⟨none, H, I, .none, h⟩
theorem aE0 (h : PE X e te) : PO X (some e) (aLe te) := by
 intro pins s σ H Q I hw
 rw [evalPart_some]
 refine thn (h pins s σ H _ I hw) fun u s1 ⟨x, H1, I1, r1, q1⟩ => ?_
 obtain ⟨i, rfl, q⟩ := q1
 obtain ⟨t, rfl⟩ := r1
 exact ⟨some i, H1, I1, .int i t, q⟩
def SlR (X : Cx) (r : V -> Option Int -> Option Int -> Hp -> VK -> Prop) : Prop :=
 ∀ (pins : List (Addr × Obj)) (s : Shared) (σ : St) (H : Hp) (x : V) (v vl vu : Value) (lo hi : Option Int) (sl : Addr) (Q : VK), Inv X pins σ H s -> RelV x v -> s.heap.IsSliceOf sl vl vu .none -> IsPart vl lo -> IsPart vu hi -> r x lo hi H Q ->
  ∃ T id, typeLookup (.type T) "__getitem__" = pure (some (.builtin id)) /\ s.TypeIs v T /\ wpAny (model X.prog X.w) X.A (getItem v (.ref sl)) (EP X pins σ Q) X.xe s
def tSl (r : V -> Option Int -> Option Int -> Hp -> VK -> Prop) (te : TE) (tl th : TO) : TE := fun σ H Q => te σ H fun x H1 => tl σ H1 fun l H2 => th σ H2 fun u H3 => r x l u H3 Q
theorem uU {r : V -> Option Int -> Option Int -> Hp -> VK -> Prop} (hr : SlR X r) (he : PE X e te) (hl : PO X lo tl) (hu : PO X hi th) : PE X (.Subscript e (.Slice lo hi none p2) pos) (tSl r te tl th) := by
 intro pins s σ H Q I h
 refine Subscript_ (thn (he pins s σ H _ I h) fun v s1 ⟨x, H1, I1, r1, q1⟩ => ?_)
 refine wpAny_Slice (thn (hl pins s1 σ H1 _ I1 q1) fun vl s2 ⟨l, H2, I2, pl, q2⟩ => thn (hu pins s2 σ H2 _ I2 q2) fun vu s3 ⟨u, H3, I3, pu, q3⟩ => ?_)
 rw [evalPart_none]
 refine wpAny_pure ?_
 have I4 : Inv X pins σ H3 { s3 with heap := s3.heap.push { cls := .type "slice", data := .fields #[vl, vu, .none] } } := I3.kept (t' := s3.toks) fun b ob q => Heap.get?_push_of_some _ q
 obtain ⟨T, id, hT, ht, hg⟩ := hr pins { s3 with heap := s3.heap.push { cls := .type "slice", data := .fields #[vl, vu, .none] } } σ H3 x v vl vu l u s3.heap.objs.size Q I4 r1 (Heap.IsSliceOf.new ..) pl pu q3
 show wpAny (model X.prog X.w) X.A (subscriptTail e (.Slice lo hi none p2) v (.ref s3.heap.objs.size)) (EP X pins σ Q) X.xe { s3 with heap := s3.heap.push { cls := .type "slice", data := .fields #[vl, vu, .none] } }
 exact tail_any (ops := [.ref s3.heap.objs.size, v]) ht hT hg (by with_unfolding_all rfl)
def aGl (xs : List V) (lo hi : Option Int) : List V := (xs.drop (HT.sIx xs.length 0 lo)).take (HT.sIx xs.length xs.length hi - HT.sIx xs.length 0 lo)
theorem sV (xs : List V) (lo hi : Option Int) : (aGl xs lo hi).length <= xs.length := by
 unfold aGl
 rw [List.length_take, List.length_drop]
 omega
end
def ixN (n : Nat) (i : Int) : Option Nat := if 0 <= i then (if i < n then some i.toNat else none) else if -(n : Int) <= i then some (i + n).toNat else none
def atI {α : Type} (xs : List α) (i : Int) : Option α := (ixN xs.length i).bind fun j => xs[j]?
theorem xU {n : Nat} {i : Int} {j : Nat} (h : ixN n i = some j) : seqIndex? i n = some j /\ j < n /\ -(n : Int) <= i /\ i < n := by
 unfold ixN at h
 by_cases h0 : 0 <= i
 ·rw [if_pos h0] at h
  by_cases h1 : i < n
  ·rw [if_pos h1] at h
   have e : i.toNat = j := Option.some.inj h
   exact ⟨by rw [seqIndex_of h0 h1, e], by omega, by omega, h1⟩
  ·rw [if_neg h1] at h; cases h
 ·rw [if_neg h0] at h
  by_cases h1 : -(n : Int) <= i
  ·rw [if_pos h1] at h
   have e : (i + n).toNat = j := Option.some.inj h
   exact ⟨by rw [seqIndex_neg (by omega) h1, e], by omega, h1, by omega⟩
  ·rw [if_neg h1] at h; cases h
theorem aAo {α : Type} {xs : List α} {i : Int} {v : α} (h : atI xs i = some v) : ∃ j, seqIndex? i xs.length = some j /\ xs[j]? = some v /\ j < xs.length /\ -(xs.length : Int) <= i /\ i < xs.length := by
 unfold atI at h
 cases e : ixN xs.length i with
 | none => rw [e] at h; cases h
 | some j =>
  rw [e] at h
  obtain ⟨h1, h2, h3, h4⟩ := xU e
  exact ⟨j, h1, h, h2, h3, h4⟩
theorem tL {α : Type} {xs : List α} {j : Nat} {v : α} (h : xs[j]? = some v) : atI xs (j : Int) = some v := by
 have hj : j < xs.length := (List.getElem?_eq_some_iff.mp h).1
 have e : ixN xs.length (j : Int) = some j := by
  unfold ixN
  rw [if_pos (by omega), if_pos (by omega)]; simp
 unfold atI; rw [e]; exact h
def aAg (b : Expr) : Prop := ∀ o i, subscripted b false o i = operate [o, i] (getItem o i)
def IxR (X : Cx) (r : R2) : Prop :=
 ∀ (value slice : Expr) (pins : List (Addr × Obj)) (s : Shared) (σ : St) (H : Hp) (x y : V) (v u : Value) (Q : VK), Inv X pins σ H s -> RelV x v -> RelV y u -> r x y H Q ->
  subscripted slice false v u = operate [v, u] (getItem v u) -> wpAny (model X.prog X.w) X.A (subscriptTail value slice v u) (EP X pins σ Q) X.xe s
def MtR (X : Cx) (id : String) (r : V -> List V -> Hp -> VK -> Prop) : Prop :=
 ∀ (pins : List (Addr × Obj)) (s : Shared) (σ : St) (H : Hp) (x : V) (xs : List V) (v : Value) (us : List Value) (Q : VK), Inv X pins σ H s -> RelV x v -> Vals xs us -> r x xs H Q ->
  wpAny (model X.prog X.w) X.A (call (.builtin id) (v :: us)) (EP X pins σ Q) X.xe s
section
variable {X : Cx} {a b : Expr} {ta tb : TE} {pos : Pos}
theorem IxR.or {r r' : R2} (h : IxR X r) (h' : IxR X r') : IxR X (fun x y H Q => r x y H Q \/ r' x y H Q) := by
 intro value slice pins s σ H x y v u Q I rx ry q hs
 rcases q with q | q
 ·exact h value slice pins s σ H x y v u Q I rx ry q hs
 ·exact h' value slice pins s σ H x y v u Q I rx ry q hs
theorem aL4 {r : R2} (hr : IxR X r) (ha : PE X a ta) (hb : PE X b tb) (hs : aAg b) : PE X (.Subscript a b pos) (tOp r ta tb) := by
 intro pins s σ H Q I h
 exact Subscript_ (aKd ha hb I h fun v u s2 x y H2 I2 rx ry q => hr a b pins s2 σ H2 x y v u Q I2 rx ry q (hs _ _))
def aMk (K : PySem.W.Frag) : R2 := fun x y H Q => ∃ p xs i v, x = .ref p /\ y = .int i /\ SqL K H p xs /\ atI xs i = some v /\ Q v H
def aMm (K : PySem.W.Frag) : R2 := fun x y H Q => ∃ p xs i v, x = .ref p /\ y = .int i /\ SqT K H p xs /\ atI xs i = some v /\ Q v H
theorem ix_list : IxR X (aMk X.K) := by
 intro value slice pins s σ H x y v u Q I rx ry h hs
 obtain ⟨p, xs, i, z, rfl, rfl, hq, he, q⟩ := h
 cases rx
 obtain ⟨t, rfl⟩ := ry
 obtain ⟨its, r, pl, hz⟩ := I.list hq
 obtain ⟨j, h1, h2, h3, h4, h5⟩ := aAo he
 obtain ⟨w, ew, rw'⟩ := r.get h2
 have hl := r.length
 have hn := qL
 have fin : EP X pins σ Q w s := ⟨z, H, I, rw', q⟩
 by_cases h0 : 0 <= i
 ·have hj : i.toNat = j := by
   rw [seqIndex_of h0 h5] at h1
   exact Option.some.inj h1
  exact item_listR pl.isList h0 (by omega) (by rw [hj]; simpa using ew) fin hs
 ·have hj : (i + (its.toArray.size : Int)).toNat = j := by
   rw [seqIndex_neg (by omega) h4] at h1
   rw [List.size_toArray, <- hl]
   exact Option.some.inj h1
  exact subscriptTail_builtinR (x := w) pl.isList.typeIs slot_list_getitem.lookup
   (wpAny_getItem_list_neg (Q := fun r s' => r = w /\ EP X pins σ Q r s') pl.isList (by omega) (by rw [List.size_toArray] <;> omega) (by omega) (by rw [hj]; simpa using ew) ⟨rfl, fin⟩) hs
theorem aG0 : IxR X (aMm X.K) := by
 intro value slice pins s σ H x y v u Q I rx ry h hs
 obtain ⟨p, xs, i, z, rfl, rfl, hq, he, q⟩ := h
 cases rx
 obtain ⟨t, rfl⟩ := ry
 obtain ⟨its, r, pl, hz⟩ := I.tuple hq
 obtain ⟨j, h1, h2, h3, h4, h5⟩ := aAo he
 obtain ⟨w, ew, rw'⟩ := r.get h2
 have hl := r.length
 have hn := qL
 have fin : EP X pins σ Q w s := ⟨z, H, I, rw', q⟩
 exact subscriptTail_builtinR (x := w) pl.typeIs slot_tuple_getitem.lookup
  (getItem_tuple (j := j) (Q := fun r s' => r = w /\ EP X pins σ Q r s') pl (by omega) (by omega) (by rw [List.size_toArray, <- hl]; exact h1) (by simpa using ew) ⟨rfl, fin⟩) hs
theorem wJ (its : List Value) (n j : Nat) (u : Value) : Obj.mapSeq (·.setIfInBounds j u) { cls := .type "list", data := .seq its.toArray n } = { cls := .type "list", data := .seq (its.set j u).toArray n } := by
 simp [Obj.mapSeq]
theorem Inv.lst {pins : List (Addr × Obj)} {σ : St} {H : Hp} {s : Shared} {p : Addr} {xs : List V} (I : Inv X pins σ H s) (h : H p = some (.lst xs)) :
  ∃ (its : List Value) (n : Nat), Vals xs its /\ s.heap.get? p = some { cls := .type "list", data := .seq its.toArray n } /\ xs.length <= sizeLine := by
 obtain ⟨z, its, n, r, e⟩ := I.hok p _ h
 exact ⟨its, n, r, e, z⟩
theorem Inv.lstUpd {pins : List (Addr × Obj)} {σ : St} {H : Hp} {s : Shared} {p : Addr} {xs ys : List V} {its its' : List Value} {n n' : Nat} {f : Obj -> Obj} (I : Inv X pins σ H s) (h : H p = some (.lst xs))
  (ho : s.heap.get? p = some { cls := .type "list", data := .seq its.toArray n }) (hf : f { cls := .type "list", data := .seq its.toArray n } = { cls := .type "list", data := .seq its'.toArray n' }) (r : Vals ys its') (hz : ys.length <= sizeLine) (t : Nat) :
  Inv X pins σ (upd H p (.lst ys)) { s with heap := s.heap.update p f, toks := t } := by
 have e : (s.heap.update p f).get? p = some { cls := .type "list", data := .seq its'.toArray n' } := by
  rw [Heap.get?_update_self f ho (by rw [hf] <;> rfl), hf]
 refine I.write (x := p) (e := p) (by rw [h]; trivial) (.inl rfl) (fun b u hb q => (Heap.get?_update_other _ _ (Ne.symm hb)).trans q) ⟨_, e⟩ ?_
 exact ⟨hz, its', n', r, e⟩
def aJn : V -> V -> V -> Hp -> (Hp -> Prop) -> Prop := fun o i v H Q => ∃ p xs k j, o = .ref p /\ i = .int k /\ H p = some (.lst xs) /\ ixN xs.length k = some j /\ Q (upd H p (.lst (xs.set j v)))
theorem set_list : aMg X aJn := by
 intro pins s σ H o i v ov iv u Q I ro ri rv h
 obtain ⟨p, xs, k, j, rfl, rfl, hp, hj, q⟩ := h
 cases ro
 obtain ⟨t, rfl⟩ := ri
 obtain ⟨its, n, r, ho, hz⟩ := I.lst hp
 obtain ⟨h1, h2, h3, h4⟩ := xU hj
 have hl := r.length
 have hn := qL
 have I' : Inv X pins σ (upd H p (.lst (xs.set j v))) { s with heap := s.heap.update p (Obj.mapSeq (·.setIfInBounds j u)) } :=
  I.lstUpd hp ho (wJ its n j u) (r.set rv j) (by rw [List.length_set]; exact hz) s.toks
 by_cases h0 : 0 <= k
 ·have hk : k.toNat = j := by
   rw [seqIndex_of h0 h4] at h1
   exact Option.some.inj h1
  exact PySem.W.ki_setAt ho h0 (by omega) (by rw [List.size_toArray, <- hl]; exact h4) (by rw [hk]; exact ⟨_, I', q⟩)
 ·have hk : (k + (its.toArray.size : Int)).toNat = j := by
   rw [seqIndex_neg (by omega) h3] at h1
   rw [List.size_toArray, <- hl]
   exact Option.some.inj h1
  exact PySem.W.ki_setBack ho (by omega) (by rw [List.size_toArray, <- hl]; exact h3) (by omega) (by rw [hk]; exact ⟨_, I', q⟩)
theorem rP (lo hi : Option Int) (n : Nat) : (sliceBounds lo hi none n).1 = ((HT.sIx n 0 lo : Nat) : Int) /\ (sliceBounds lo hi none n).2.1 = ((HT.sIx n n hi : Nat) : Int) /\ (sliceBounds lo hi none n).2.2 = 1 := by
 refine ⟨?_, ?_, rfl⟩
 ·cases lo with
  | none => simp [sliceBounds, HT.sIx]
  | some i =>
   simp only [sliceBounds, HT.sIx, Option.getD_none, show (1 : Int) > 0 by decide, if_true]
   by_cases h : i < 0
   ·simp only [h, if_true] <;> omega
   ·simp only [h, if_false] <;> omega
 ·cases hi with
  | none => simp [sliceBounds, HT.sIx]
  | some i =>
   simp only [sliceBounds, HT.sIx, Option.getD_none, show (1 : Int) > 0 by decide, if_true]
   by_cases h : i < 0
   ·simp only [h, if_true] <;> omega
   ·simp only [h, if_false] <;> omega
theorem pD (its : List Value) (lo hi : Option Int) : slicePick its.toArray lo hi none = ((its.drop (HT.sIx its.length 0 lo)).take (HT.sIx its.length its.length hi - HT.sIx its.length 0 lo)).toArray := by
 obtain ⟨h1, h2, h3⟩ := rP lo hi its.toArray.size
 unfold slicePick
 rw [h1, h2, h3]
 simp only [sliceRange_one, pick_run, List.size_toArray] <;> rfl
def aMx (K : PySem.W.Frag) : V -> Option Int -> Option Int -> Hp -> VK -> Prop := fun x lo hi H Q => ∃ a xs, x = .ref a /\ SqL K H a xs /\ ∀ p, H p = none -> Q (.ref p) (upd H p (.lst (aGl xs lo hi)))
theorem aGa : SlR X (aMx X.K) := by
 intro pins s σ H x v vl vu lo hi sl Q I rx hs pl pu h
 obtain ⟨a, xs, rfl, hx, q⟩ := h
 cases rx
 obtain ⟨its, r, ht, hz⟩ := I.list hx
 have hlen := r.length
 refine ⟨"list", _, slot_list_getitem.lookup, ht.isList.typeIs, ?_⟩
 refine wpAny_getItem_list_slice ht.isList hs pl pu .none (by simp) ?_ (by rw [List.size_toArray] <;> omega)
 rw [pD, <- hlen]
 refine ⟨.ref s.heap.objs.size, _, I.laid (t' := s.toks) (o := .lst (aGl xs lo hi)) (fun b ob q => Heap.get?_push_of_some _ q) (Nat.le_refl _) ?_, rfl, q _ (I.hok.fresh (Nat.le_refl _))⟩
 exact ⟨Nat.le_trans (sV xs lo hi) hz, _, 0, (r.drop (HT.sIx xs.length 0 lo)).take (HT.sIx xs.length xs.length hi - HT.sIx xs.length 0 lo), Heap.get?_push_size _ rfl⟩
def mT : V -> Bool
 | .non => true
 | .bl _ => true
 | .int _ => true
 | .str _ => true
 | _ => false
def eqV : V -> V -> Bool
 | .non, .non => true
 | .bl a, .bl b => a == b
 | .bl a, .int b => (if a then 1 else 0) == b
 | .int a, .bl b => a == (if b then 1 else 0)
 | .int a, .int b => a == b
 | .str a, .str b => a == b
 | _, _ => false
theorem aHb {A : Around} {s : Shared} {y x : V} {u v : Value} (ry : RelV y u) (rx : RelV x v) (fy : mT y = true) (fx : mT x = true) : SeqAt.EqAt A s u v (eqV y x) := by
 cases y with
 | non =>
  cases ry
  cases x with
  | non => cases rx; exact SeqAt.EqAt.same _
  | bl b => cases rx; exact SeqAt.EqAt.none_bool b
  | int b => obtain ⟨t, rfl⟩ := rx; exact SeqAt.EqAt.none_int b t
  | str b => obtain ⟨t, rfl⟩ := rx; exact SeqAt.EqAt.none_str b t
  | _ => exact absurd (show false = true from fx) Bool.false_ne_true
 | bl a =>
  cases ry
  cases x with
  | non => cases rx; exact SeqAt.EqAt.bool_none a
  | bl b => cases rx; exact SeqAt.EqAt.bool_bool a b
  | int b => obtain ⟨t, rfl⟩ := rx; exact SeqAt.EqAt.bool_int a b t
  | str b => obtain ⟨t, rfl⟩ := rx; exact SeqAt.EqAt.bool_str a b t
  | _ => exact absurd (show false = true from fx) Bool.false_ne_true
 | int a =>
  obtain ⟨t', rfl⟩ := ry
  cases x with
  | non => cases rx; exact SeqAt.EqAt.int_none a t'
  | bl b => cases rx; exact SeqAt.EqAt.int_bool a t' b
  | int b => obtain ⟨t, rfl⟩ := rx; exact SeqAt.EqAt.int_int a t' b t
  | str b => obtain ⟨t, rfl⟩ := rx; exact SeqAt.EqAt.int_str a t' b t
  | _ => exact absurd (show false = true from fx) Bool.false_ne_true
 | str a =>
  obtain ⟨t', rfl⟩ := ry
  cases x with
  | non => cases rx; exact SeqAt.EqAt.str_none a t'
  | bl b => cases rx; exact SeqAt.EqAt.str_bool a t' b
  | int b => obtain ⟨t, rfl⟩ := rx; exact SeqAt.EqAt.str_int a t' b t
  | str b => obtain ⟨t, rfl⟩ := rx; exact SeqAt.EqAt.str_str a t' b t
  | _ => exact absurd (show false = true from fx) Bool.false_ne_true
 | _ => exact absurd (show false = true from fy) Bool.false_ne_true
def eqU (x : V) (u : Value) : Bool := match u with
 | .none => eqV .non x
 | .bool b => eqV (.bl b) x
 | .int i _ => eqV (.int i) x
 | .str z _ => eqV (.str z) x
 | _ => false
theorem aD1 {x y : V} {u : Value} (r : RelV y u) (f : mT y = true) : eqU x u = eqV y x := by
 cases y with
 | non => cases r; rfl
 | bl b => cases r; rfl
 | int i => obtain ⟨t, rfl⟩ := r; rfl
 | str z => obtain ⟨t, rfl⟩ := r; rfl
 | _ => exact absurd (show false = true from f) Bool.false_ne_true
theorem r9 {x : V} : ∀ {xs : List V} {us : List Value}, Vals xs us -> xs.all mT = true -> us.any (eqU x) = xs.any fun y => eqV y x
 | _, _, .nil, _ => rfl
 | y :: xs, u :: us, .cons r t, f => by
  rw [List.all_cons, Bool.and_eq_true] at f
  rw [List.any_cons, List.any_cons, aD1 r f.1, r9 t f.2]
theorem oY {A : Around} {s : Shared} {x : V} {v : Value} (rx : RelV x v) (fx : mT x = true) : ∀ {xs : List V} {us : List Value}, Vals xs us -> xs.all mT = true -> ∀ u ∈ us, SeqAt.EqAt A s u v (eqU x u)
 | _, _, .nil, _ => fun u hu => by cases hu
 | y :: xs, u :: us, .cons r t, f => fun u' hu => by
  rw [List.all_cons, Bool.and_eq_true] at f
  rcases List.mem_cons.mp hu with rfl | hu
  ·rw [aD1 r f.1]; exact aHb r rx f.1 fx
  ·exact oY rx fx t f.2 u' hu
def inV (x : V) (xs : List V) : Bool := xs.any fun y => eqV y x
def rIn (K : PySem.W.Frag) (neg : Bool) : R2 := fun x y H Q => ∃ p xs, y = .ref p /\ (SqL K H p xs \/ SqT K H p xs) /\ mT x = true /\ xs.all mT = true /\ Q (.bl (if neg then !inV x xs else inV x xs)) H
theorem qK : OpR X (compareOp .NotIn) (rIn X.K true) := by
 intro pins s σ H x y v u Q I rx ry h
 obtain ⟨p, xs, rfl, hq, fx, fs, q⟩ := h
 cases ry
 rcases hq with hq | hq
 ·obtain ⟨its, r, pl, hz⟩ := I.list hq
  refine SeqAt.notIn_listAt (eqU x) pl.isList (fun w hw => oY rx fx r fs w (by simpa using hw)) ⟨.bl _, H, I, rfl, ?_⟩
  rw [show its.toArray.any (eqU x) = its.any (eqU x) by simp, r9 r fs]
  exact q
 ·obtain ⟨its, r, pl, hz⟩ := I.tuple hq
  refine SeqAt.notIn_tupleAt (eqU x) pl (fun w hw => oY rx fx r fs w (by simpa using hw)) ⟨.bl _, H, I, rfl, ?_⟩
  rw [show its.toArray.any (eqU x) = its.any (eqU x) by simp, r9 r fs]
  exact q
theorem bD : CallR X (.builtin "len") (fun xs H Q => ∃ p ys, xs = [.ref p] /\ (SqL X.K H p ys \/ SqT X.K H p ys) /\ Q (.int ys.length) H) := by
 intro pins s σ H xs us Q I r h
 obtain ⟨p, ys, rfl, hq, q⟩ := h
 obtain ⟨u, rfl, rx⟩ := vals1 r
 cases rx
 have hn := qL
 rcases hq with hq | hq
 ·obtain ⟨its, r', pl, hz⟩ := I.list hq
  have hlen := r'.length
  exact Calls.call_len_list pl.isList (by simp only [List.size_toArray] <;> omega) ⟨.int ys.length, H, I.tok _, ⟨s.toks + 1, by rw [List.size_toArray, hlen]⟩, q⟩
 ·obtain ⟨its, r', pl, hz⟩ := I.tuple hq
  have hlen := r'.length
  exact len_tuple pl (by simp only [List.size_toArray] <;> omega) ⟨.int ys.length, H, I.tok _, ⟨s.toks + 1, by rw [List.size_toArray, hlen]⟩, q⟩
theorem iH : CallR X (.builtin "len") (fun xs H Q => ∃ z, xs = [.str z] /\ z.length <= sizeLine /\ Q (.int z.length) H) := by
 intro pins s σ H xs us Q I r h
 obtain ⟨z, rfl, hz, q⟩ := h
 obtain ⟨u, rfl, t, rfl⟩ := vals1 r
 have hn := qL
 exact len_str (by omega) ⟨.int z.length, H, I.tok _, ⟨_, rfl⟩, q⟩
theorem CallR.or {f : Value} {r r' : List V -> Hp -> VK -> Prop} (h : CallR X f r) (h' : CallR X f r') : CallR X f (fun xs H Q => r xs H Q \/ r' xs H Q) := by
 intro pins s σ H xs us Q I rs q
 rcases q with q | q
 ·exact h pins s σ H xs us Q I rs q
 ·exact h' pins s σ H xs us Q I rs q
theorem qP : CallR X (.type "list") (fun xs H Q => ∃ p ys, xs = [.ref p] /\ (SqL X.K H p ys \/ SqT X.K H p ys) /\ ∀ l, H l = none -> Q (.ref l) (upd H l (.lst ys))) := by
 intro pins s σ H xs us Q I r h
 obtain ⟨p, ys, rfl, hq, q⟩ := h
 obtain ⟨u, rfl, rx⟩ := vals1 r
 cases rx
 have fin : ∀ (its : List Value), Vals ys its -> ys.length <= sizeLine -> ∀ (h' : Heap) (c' : Nat), (∀ b o', s.heap.get? b = some o' -> h'.get? b = some o') ->
   h'.get? s.heap.objs.size = some { cls := .type "list", dict := none, data := .seq its.toArray c', slots := #[] } -> EP X pins σ Q (.ref s.heap.objs.size) { s with heap := h' } := fun its r' hz h' c' kp e =>
  ⟨.ref s.heap.objs.size, _, I.laid (t' := s.toks) kp (Nat.le_refl _) (show ObjOk X.prog X.w _ h' _ (.lst ys) from ⟨hz, its, c', r', e⟩), rfl, q _ (I.hok.fresh (Nat.le_refl _))⟩
 rcases hq with hq | hq
 ·obtain ⟨its, r', pl, hz⟩ := I.list hq
  have hlen := r'.length
  obtain ⟨o, ho, hc, n, hd⟩ := pl.isList
  exact call_list_seq p (.inl rfl) ho hc hd (fun h' c' kp e => fin its r' hz h' c' kp e) (by simp only [List.size_toArray] <;> omega)
 ·obtain ⟨its, r', pl, hz⟩ := I.tuple hq
  have hlen := r'.length
  obtain ⟨o, ho, hc, n, hd⟩ := pl
  exact call_list_seq p (.inr rfl) ho hc hd (fun h' c' kp e => fin its r' hz h' c' kp e) (by simp only [List.size_toArray] <;> omega)
def tyV (K : PySem.W.Frag) (T : String) (x : V) (H : Hp) : Prop := match x with
 | .str _ => T = "str"
 | .int _ => T = "int"
 | .ref p => (T = "list" /\ ∃ xs, SqL K H p xs) \/ (T = "tuple" /\ ∃ o, K.lookup p = some o /\ o.cls = .type "tuple" /\ o.dict = none) \/
   (T = "dict" /\ ((∃ kvs, H p = some (.dK kvs)) \/ ∃ kvs, H p = some (.dT kvs))) \/ (T = "set" /\ ∃ S n, H p = some (.set S n))
 | _ => False
theorem aHs {pins : List (Addr × Obj)} {σ : St} {H : Hp} {s : Shared} {T : String} {x : V} {v : Value} (I : Inv X pins σ H s) (r : RelV x v) (ty : tyV X.K T x H) :
  s.TypeIs v T /\ ∀ a, v = .ref a -> ∃ ob, s.heap.get? a = some ob /\ ob.dict = none := by
 cases x with
 | str z =>
  obtain ⟨t, rfl⟩ := r
  cases (show T = "str" from ty)
  exact ⟨typeIs_str s z t, fun _ e => nomatch e⟩
 | int i =>
  obtain ⟨t, rfl⟩ := r
  cases (show T = "int" from ty)
  exact ⟨typeIs_int s i t, fun _ e => nomatch e⟩
 | ref p =>
  cases r
  rcases ty with ⟨rfl, xs, hq⟩ | ⟨rfl, o, hk, hc, hd⟩ | ⟨rfl, hk⟩ | ⟨rfl, S, n, hk⟩
  ·obtain ⟨its, _, pl, _⟩ := I.list hq
   refine ⟨pl.isList.typeIs, fun a e => ?_⟩
   cases e
   obtain ⟨o, n, e, c, hd, _⟩ := pl
   exact ⟨o, e, hd⟩
  ·refine ⟨⟨o, I.kIn p o hk, hc⟩, fun a e => ?_⟩
   cases e
   exact ⟨o, I.kIn _ o hk, hd⟩
  ·have z : ∃ o, s.heap.get? p = some o /\ o.ExactDict := by
    rcases hk with ⟨kvs, hk⟩ | ⟨kvs, hk⟩
    ·obtain ⟨_, _, _, _, o, _, _, e, ex, _⟩ := I.hok p _ hk
     exact ⟨o, e, ex⟩
    ·obtain ⟨_, _, _, _, o, _, _, e, ex, _⟩ := I.hok p _ hk
     exact ⟨o, e, ex⟩
   obtain ⟨o, e, ex⟩ := z
   refine ⟨⟨o, e, ex.1⟩, fun a e2 => ?_⟩
   cases e2
   exact ⟨o, e, ex.2.1⟩
  ·obtain ⟨o, _, _, _, e, ex, _⟩ := I.hok p _ hk
   refine ⟨⟨o, e, ex.1⟩, fun a e2 => ?_⟩
   cases e2
   exact ⟨o, e, ex.2.1⟩
 | _ => exact False.elim ty
def tBM (K : PySem.W.Frag) (T : String) (r : V -> List V -> Hp -> VK -> Prop) (to : TE) (t : TA) : TE := fun σ H Q => to σ H fun x H1 => tyV K T x H1 /\ t σ H1 fun xs H2 => r x xs H2 Q
variable {o e : Expr} {es : List Expr} {to : TE} {t : TA} {name : Str} {apos cpos : Pos} {T id : String} {r : V -> List V -> Hp -> VK -> Prop}
theorem aJi (pa : PlainAttrs T) (slot : Slot T name id) (hty : typeOf (.builtin id) = pure (.type "method_descriptor")) (hm : MtR X id r) (ho : PE X o to) (ha : PA X (e :: es) t)
  (hbase : attributeBase o name X.env (eval o X.env) = eval o X.env := by rfl)
  (hfew : ((backTo cpos (starEach (e :: es) X.env)).all (fun x => !x.1) && (backToKw cpos (keywordEach [] X.env)).all (fun x => x.1.isSome)
   && decide ((e :: es).length + ([] : List Keyword).length + (if ([] : List Keyword).isEmpty then 0 else 1) < 30)) = true := by rfl)
  (hline : (apos.endLine == cpos.line) = true := by rfl) (hs : starEach (e :: es) X.env = (false, eval e X.env) :: starEach es X.env := by rfl) (hplain : (backTo cpos (starEach es X.env)).any (·.1) = false := by rfl) :
  PE X (.Call (.Attribute o name apos) (e :: es) [] cpos) (tBM X.K T r to t) := by
 intro pins s σ H Q I h
 refine wpAny_Call_method_late hbase hfew hline rfl (thn (ho pins s σ H _ I h) fun v s1 ⟨x, H1, I1, r1, ty, q1⟩ => ?_)
 obtain ⟨h1, h2⟩ := aHs I1 r1 ty
 refine ⟨T, id, pa, slot, hty, h1, h2, ?_⟩
 have hA := ha cpos pins s1 σ H1 _ I1 q1
 rw [hs] at hA ⊢
 refine Calls.callWith_builtin (by show (false || (backTo cpos (starEach es X.env)).any (·.1)) = false; rw [hplain] <;> rfl) (Calls.evalArgs_plain ?_)
 exact thn hA fun us s2 ⟨vs, H2, I2, r2, q2⟩ => hm pins s2 σ H2 x vs v us Q I2 r1 r2 q2
end
def MtM (X : Cx) (id : String) (r : V -> List V -> Hp -> VK -> Prop) : Prop :=
 ∀ (pins : List (Addr × Obj)) (s : Shared) (σ : St) (H : Hp) (x : V) (xs : List V) (v : Value) (us : List Value) (Q : VK), Inv X pins σ H s -> RelV x v -> Vals xs us -> r x xs H Q ->
  wpAny (model X.prog X.w) X.A (call (.builtin id) (v :: us)) (EP X pins σ Q) X.xe s
theorem Vals.one : ∀ {x : V} {us : List Value}, Vals [x] us -> ∃ u, us = [u] /\ RelV x u
 | _, _, .cons r .nil => ⟨_, rfl, r⟩
section
variable {X : Cx} {pins : List (Addr × Obj)} {σ : St} {H : Hp} {s : Shared} {l b : Addr} {xs ys zs : List V}
theorem Inv.lset {its its' : List Value} {n : Nat} {f : Array Value -> Array Value} {t' : Nat} (I : Inv X pins σ H s) (hH : H l = some (.lst xs))
  (e : s.heap.get? l = some { cls := .type "list", data := .seq its.toArray n }) (hf : f its.toArray = its'.toArray) (hv : Vals ys its') (hz : ys.length <= sizeLine) :
  Inv X pins σ (upd H l (.lst ys)) { s with heap := s.heap.update l (Obj.mapSeq f), toks := t' } := by
 have q := PySem.IsL.update e f
 rw [hf] at q
 refine I.write (x := l) (e := l) (by rw [hH]; exact trivial) (.inl rfl) (fun b' u hb hu => (Heap.get?_update_other s.heap (Obj.mapSeq f) (Ne.symm hb)).trans hu) ⟨_, q⟩ ?_
 exact ⟨hz, its', _, hv, q⟩
theorem Inv.lnew {its : List Value} {t' : Nat} (I : Inv X pins σ H s) (hv : Vals ys its) (hz : ys.length <= sizeLine) :
  Inv X pins σ (upd H s.heap.objs.size (.lst ys)) { s with heap := s.heap.push { cls := .type "list", data := .seq its.toArray }, toks := t' } :=
 I.laid (fun _ _ q => Heap.get?_push_of_some _ q) (Nat.le_refl _) ⟨hz, its, 0, hv, Heap.get?_push_size _ rfl⟩
theorem Inv.fresh (I : Inv X pins σ H s) : H s.heap.objs.size = none := I.hok.fresh (Nat.le_refl _)
theorem Inv.lstM (I : Inv X pins σ H s) (hH : H l = some (.lst xs)) : xs.length <= sizeLine /\ ∃ (its : List Value) (n : Nat), Vals xs its /\ xs.length = its.length /\ s.heap.get? l = some { cls := .type "list", data := .seq its.toArray n } := by
 obtain ⟨z, its, n, r, e⟩ := I.hok l _ hH
 exact ⟨z, its, n, r, r.length, e⟩
end
section
variable {X : Cx}
def aA7 : V -> List V -> Hp -> VK -> Prop := fun x vs H Q => ∃ l xs y, x = .ref l /\ vs = [y] /\ H l = some (.lst xs) /\ xs.length < sizeLine /\ Q .non (upd H l (.lst (xs ++ [y])))
theorem yW : MtM X "list.append" aA7 := by
 intro pins s σ H x vs v us Q I rx rv h
 obtain ⟨l, xs, y, rfl, rfl, hH, hz, q⟩ := h
 cases rx
 obtain ⟨u, rfl, ru⟩ := rv.one
 obtain ⟨z, its, n, r, hl, e⟩ := I.lstM hH
 refine call_meets F.slot_list_append ⟨_, e, rfl⟩ F.entry_list_append (F.args_list_append_2 _ _) (PySem.list_append l its.toArray n u (by rw [List.size_toArray]; omega)) ⟨e, ?_⟩
 refine ⟨.non, _, I.lset (its' := its ++ [u]) hH e (by simp) (r.append (.cons ru .nil)) ?_, rfl, q⟩
 rw [List.length_append, List.length_singleton]
 omega
end
section
variable {prog : Program} {w : World} {A : Around} {E : Value -> Shared -> Prop} {s : Shared}
set_option maxRecDepth 100000 in
end
section
variable {X : Cx}
end
section
variable {κ : Type} [DecidableEq κ]
def pQ (kvs : List (κ × V)) (k : κ) : Option V := (kvs.find? fun kv => decide (kv.1 = k)).map (·.2)
def putK (kvs : List (κ × V)) (k : κ) (v : V) : List (κ × V) :=
 if (kvs.any fun kv => decide (kv.1 = k)) = true then kvs.map (fun kv => if kv.1 = k then (kv.1, v) else kv) else kvs ++ [(k, v)]
theorem j8 {p : κ × V} {r : List (κ × V)} {k : κ} (e : p.1 = k) : pQ (p :: r) k = some p.2 := by simp [pQ, List.find?_cons, e]
theorem kM {p : κ × V} {r : List (κ × V)} {k : κ} (e : ¬ p.1 = k) : pQ (p :: r) k = pQ r k := by simp [pQ, List.find?_cons, e]
theorem lM (k : κ) : ∀ kvs : List (κ × V), (kvs.any fun kv => decide (kv.1 = k)) = (pQ kvs k).isSome
 | [] => rfl
 | p :: r => by
  rw [List.any_cons]
  by_cases e : p.1 = k
  ·simp only [j8 e, decide_eq_true e, Bool.true_or, Option.isSome_some]
  ·rw [kM e, decide_eq_false e, Bool.false_or]; exact lM k r
theorem l6 (kvs : List (κ × V)) (k : κ) (v : V) : (putK kvs k v).length <= kvs.length + 1 := by
 unfold putK
 split
 ·rw [List.length_map]; omega
 ·rw [List.length_append, List.length_cons, List.length_nil]; omega
theorem RelO.isSome_eq {o : Option V} {u : Option Value} (r : RelO o u) : o.isSome = u.isSome := by
 cases o with
 | none => cases u with
  | none => rfl
  | some _ => exact (show False from r).elim
 | some _ => cases u with
  | none => exact (show False from r).elim
  | some _ => rfl
theorem KV.val {kvs : List (κ × V)} {vs : List (κ × Value)} (r : KV kvs vs) (k : κ) : RelO (pQ kvs k) (valueAt vs k) := by
 unfold KV at r
 induction r with
 | nil => exact True.intro
 | @cons p q ps qs h t ih =>
  obtain ⟨h1, h2⟩ := h
  by_cases e : p.1 = k
  ·have e' : q.1 = k := h1.symm.trans e
   have b : valueAt (q :: qs) k = some q.2 := by simp [valueAt, List.find?_cons, e']
   rw [j8 e, b]; exact h2
  ·have e' : ¬ q.1 = k := fun z => e (h1.trans z)
   have b : valueAt (q :: qs) k = valueAt qs k := by simp [valueAt, List.find?_cons, e']
   rw [kM e, b]; exact ih
theorem KV.any {kvs : List (κ × V)} {vs : List (κ × Value)} (r : KV kvs vs) (k : κ) : (kvs.any fun kv => decide (kv.1 = k)) = vs.any fun kv => decide (kv.1 = k) := by
 unfold KV at r
 induction r with
 | nil => rfl
 | cons h t ih => rw [List.any_cons, List.any_cons, ih, h.1]
theorem KV.repl {kvs : List (κ × V)} {vs : List (κ × Value)} (r : KV kvs vs) (k : κ) {y : V} {u : Value} (ry : RelV y u) :
  KV (kvs.map fun kv => if kv.1 = k then (kv.1, y) else kv) (vs.map fun kv => if kv.1 = k then (kv.1, u) else kv) := by
 unfold KV at r ⊢
 induction r with
 | nil => exact .nil
 | @cons p q ps qs h t ih =>
  rw [List.map_cons, List.map_cons]
  refine .cons ?_ ih
  obtain ⟨h1, h2⟩ := h
  by_cases e : p.1 = k
  ·rw [if_pos e, if_pos (h1.symm.trans e)]; exact ⟨h1, ry⟩
  ·rw [if_neg e, if_neg (fun z => e (h1.trans z))]; exact ⟨h1, h2⟩
theorem KV.put {kvs : List (κ × V)} {vs : List (κ × Value)} (r : KV kvs vs) (k : κ) {y : V} {u : Value} (ry : RelV y u) : KV (putK kvs k y) (stored vs k u) := by
 unfold putK stored
 rw [r.any k]
 by_cases e : (vs.any fun kv => decide (kv.1 = k)) = true
 ·rw [if_pos e, if_pos e]; exact r.repl k ry
 ·rw [if_neg e, if_neg e]; exact Paired.snoc r ⟨rfl, ry⟩
theorem KV.length {kvs : List (κ × V)} {vs : List (κ × Value)} (r : KV kvs vs) : kvs.length = vs.length := Paired.length r
end
theorem aCm {P : Program} {w : World} {k : Key} {u : Value} (r : RelV (kV k) u) : (eP P w).is k u = true := by
 cases k with
 | inl i => obtain ⟨t, e⟩ := (show ∃ t, u = Value.int i t from r); subst e; exact sC P w i t
 | inr x => obtain ⟨t, e⟩ := (show ∃ t, u = Value.str x t from r); subst e; exact sD P w x t
theorem qG {P : Program} {w : World} : ∀ {ks : List Key} {us : List Value}, Vals (ks.map kV) us -> ItemsAre (eP P w) ks us
 | [], _, r => by rw [List.map_nil] at r; cases r; exact .nil
 | k :: ks, _, r => by
  rw [List.map_cons] at r
  cases r with
  | cons h t => exact .cons (aCm h) (qG t)
abbrev KT (H : Hp) : List (List Key × V) -> List (List Key × Addr × Value) -> Prop := Paired fun p q => p.1 = q.1 /\ H q.2.1 = some (.tup (p.1.map kV)) /\ RelV p.2 q.2.2
theorem KT.val {H : Hp} {kvs : List (List Key × V)} {xs : List (List Key × Addr × Value)} (r : KT H kvs xs) (k : List Key) : RelO (pQ kvs k) ((atKey xs k).map (·.2)) := by
 induction r with
 | nil => exact True.intro
 | @cons p q ps qs h t ih =>
  obtain ⟨h1, _, h2⟩ := h
  by_cases e : p.1 = k
  ·have e' : q.1 = k := h1.symm.trans e
   have b : atKey (q :: qs) k = some q.2 := by simp [atKey, List.find?_cons, e']
   rw [j8 e, b]; exact h2
  ·have e' : ¬ q.1 = k := fun z => e (h1.trans z)
   have b : atKey (q :: qs) k = atKey qs k := by simp [atKey, List.find?_cons, e']
   rw [kM e, b]; exact ih
theorem KT.repl {H : Hp} {kvs : List (List Key × V)} {xs : List (List Key × Addr × Value)} (r : KT H kvs xs) (k : List Key) {y : V} {u : Value} (ry : RelV y u) :
  KT H (kvs.map fun kv => if kv.1 = k then (kv.1, y) else kv) (xs.map (putAt k u)) := by
 induction r with
 | nil => exact .nil
 | @cons p q ps qs h t ih =>
  rw [List.map_cons, List.map_cons]
  refine .cons ?_ ih
  obtain ⟨h1, h2, h3⟩ := h
  unfold putAt
  by_cases e : p.1 = k
  ·rw [if_pos e, if_pos (h1.symm.trans e)]; exact ⟨h1, h2, ry⟩
  ·rw [if_neg e, if_neg (fun z => e (h1.trans z))]; exact ⟨h1, h2, h3⟩
theorem KT.put {H : Hp} {kvs : List (List Key × V)} {xs : List (List Key × Addr × Value)} (r : KT H kvs xs) (k : List Key) {b : Addr} {y : V} {u : Value} (hb : H b = some (.tup (k.map kV))) (ry : RelV y u) :
  KT H (putK kvs k y) (storedH xs k b u) := by
 have e : (kvs.any fun kv => decide (kv.1 = k)) = (atKey xs k).isSome := by
  rw [lM, (r.val k).isSome_eq, Option.isSome_map]
 unfold putK storedH
 rw [e]
 by_cases q : (atKey xs k).isSome = true
 ·rw [if_pos q, if_pos q]; exact r.repl k ry
 ·rw [if_neg q, if_neg q]; exact Paired.snoc r ⟨rfl, hb, ry⟩
theorem KT.keeps {H H' : Hp} {kvs : List (List Key × V)} {xs : List (List Key × Addr × Value)} (r : KT H kvs xs) (ht : ∀ b ys, H b = some (.tup ys) -> H' b = some (.tup ys)) : KT H' kvs xs :=
 Paired.mapP r fun _ _ z => ⟨z.1, ht _ _ z.2.1, z.2.2⟩
section
variable {P : Program} {w : World} {H : Hp} {h : Heap} {a : Addr}
theorem aIn {u : HO} (ok : HOk P w H h) (e : Rd H a u) : ObjOk P w H h a u := e.ok ok
theorem yU {kvs : List (Key × V)} (ok : HOk P w H h) (e : Rd H a (.dK kvs)) : kvs.length <= sizeLine /\ (a == sysModules) = false /\ ∃ vs, KV kvs vs /\ h.DictOf (eP P w) a vs :=
 show ObjOk P w H h a (.dK kvs) from aIn ok e
theorem aLs {kvs : List (Key × V)} (ok : HOk P w H h) (e : H a = some (.dK kvs)) : kvs.length <= sizeLine /\ (a == sysModules) = false /\ ∃ vs, KV kvs vs /\ h.DictOf (eP P w) a vs := yU ok (.inl e)
theorem vN {ks : List Key} (ok : HOk P w H h) (e : H a = some (.tup (ks.map kV))) : (tupleKind (eP P w)).is h ks a := by
 obtain ⟨_, its, r, o, h1, h2, n, h3⟩ := (show ObjOk P w H h a (.tup (ks.map kV)) from ok a _ e)
 exact ⟨o, its.toArray, n, h1, h2, h3, by simpa using qG r⟩
theorem aCb {kvs : List (List Key × V)} (ok : HOk P w H h) (e : Rd H a (.dT kvs)) : kvs.length <= sizeLine /\ (a == sysModules) = false /\
  ∃ xs, KT H kvs xs /\ h.DictOfH (tupleKind (eP P w)) a xs := by
 obtain ⟨z, y, xs, r, o, es, ep, h1, h2, h3, h4, h5⟩ := (show ObjOk P w H h a (.dT kvs) from aIn ok e)
 refine ⟨z, y, xs, r, o, es, ep, h1, h2, h3, h4, fun x hx => ?_, h5⟩
 have all : ∀ {l : List (List Key × V)} {m : List (List Key × Addr × Value)}, KT H l m -> ∀ x ∈ m, (tupleKind (eP P w)).is h x.1 x.2.1 := by
  intro l m q
  induction q with
  | nil => intro x hx; exact nomatch hx
  | @cons p q ps qs hq t ih =>
   intro x hx
   rcases List.mem_cons.mp hx with e | hx
   ·subst e
    exact vN ok (by rw [<- hq.1]; exact hq.2.1)
   ·exact ih x hx
 exact all r x hx
theorem aK8 {kvs : List (List Key × V)} (ok : HOk P w H h) (e : H a = some (.dT kvs)) : kvs.length <= sizeLine /\ (a == sysModules) = false /\
  ∃ xs, KT H kvs xs /\ h.DictOfH (tupleKind (eP P w)) a xs := aCb ok (.inl e)
end
def DGet (H : Hp) (a : Addr) (y : V) (r : Option V) : Prop :=
 (∃ kvs k, Rd H a (.dK kvs) /\ y = kV k /\ r = pQ kvs k) \/ ∃ kvs k b, Rd H a (.dT kvs) /\ y = .ref b /\ H b = some (.tup (k.map kV)) /\ r = pQ kvs k
def DPut (H : Hp) (a : Addr) (y v : V) (H' : Hp) : Prop :=
 (∃ kvs k, H a = some (.dK kvs) /\ y = kV k /\ kvs.length < sizeLine /\ H' = upd H a (.dK (putK kvs k v))) \/
 ∃ kvs k b, H a = some (.dT kvs) /\ y = .ref b /\ H b = some (.tup (k.map kV)) /\ kvs.length < sizeLine /\ H' = upd H a (.dT (putK kvs k v))
theorem DGet.k {H : Hp} {a : Addr} {kvs : List (Key × V)} {k : Key} (e : H a = some (.dK kvs)) : DGet H a (kV k) (pQ kvs k) := .inl ⟨kvs, k, .inl e, rfl, rfl⟩
theorem DGet.t {H : Hp} {a b : Addr} {kvs : List (List Key × V)} {k : List Key} (e : H a = some (.dT kvs)) (eb : H b = some (.tup (k.map kV))) : DGet H a (.ref b) (pQ kvs k) := .inr ⟨kvs, k, b, .inl e, rfl, eb, rfl⟩
theorem DPut.k {H : Hp} {a : Addr} {kvs : List (Key × V)} {k : Key} {v : V} (e : H a = some (.dK kvs)) (hl : kvs.length < sizeLine) : DPut H a (kV k) v (upd H a (.dK (putK kvs k v))) := .inl ⟨kvs, k, e, rfl, hl, rfl⟩
theorem DPut.t {H : Hp} {a b : Addr} {kvs : List (List Key × V)} {k : List Key} {v : V} (e : H a = some (.dT kvs)) (eb : H b = some (.tup (k.map kV))) (hl : kvs.length < sizeLine) :
  DPut H a (.ref b) v (upd H a (.dT (putK kvs k v))) := .inr ⟨kvs, k, b, e, rfl, eb, hl, rfl⟩
section
variable {X : Cx} {pins : List (Addr × Obj)} {σ : St} {H : Hp} {s : Shared} {a : Addr} {y v : V} {u r : Value} {o : Option V} {A : Around} {E : Value -> Shared -> Prop}
theorem Inv.big (I : Inv X pins σ H s) : sysModules < s.heap.objs.size := by
 have h : mainGlobals < s.heap.objs.size := (I.mod.glob.keeps I.bk).lt
 exact Nat.lt_trans (by decide) h
theorem zM {Q : Value -> Shared -> Prop} (hu : A.units + 1 < cLine) (I : Inv X pins σ H s) (g : DGet H a y (some v)) (ry : RelV y u) (h : ∀ w' s', Inv X pins σ H s' -> RelV v w' -> Q w' s') :
  wpAny (model X.prog X.w) A (getItem (.ref a) u) Q E s := by
 rcases g with ⟨kvs, k, e, ey, l⟩ | ⟨kvs, k, b, e, ey, eb, l⟩
 ·subst ey
  obtain ⟨z, hd, vs, rel, dd⟩ := yU I.hok e
  obtain ⟨w', hw, rw'⟩ := RelO.some_of (v := v) (o := valueAt vs k) (by rw [l]; exact rel.val k)
  exact wpAny_getItem_of (aCm ry) dd.mapOf hw (h w' _ (I.tok _) rw')
 ·subst ey
  cases (show u = Value.ref b from ry)
  obtain ⟨z, hd, xs, rel, dd⟩ := aCb I.hok e
  obtain ⟨w', hw, rw'⟩ := RelO.some_of (v := v) (o := (atKey xs k).map (·.2)) (by rw [l]; exact rel.val k)
  obtain ⟨p, hp, hp2⟩ := Option.map_eq_some_iff.mp hw
  refine wpAny_getItem_heap (tupleKind_room_in1 hu) (vN I.hok eb) dd hp ?_
  rw [hp2]
  exact h w' _ (I.tok _) rw'
theorem aEx {Q : Value -> Shared -> Prop} (hu : A.units + 1 < cLine) (I : Inv X pins σ H s) (g : DGet H a y o) (ry : RelV y u) (h : ∀ s', Inv X pins σ H s' -> Q (.bool (!o.isSome)) s') :
  wpAny (model X.prog X.w) A (compareOp .NotIn u (.ref a)) Q E s := by
 rcases g with ⟨kvs, k, e, ey, l⟩ | ⟨kvs, k, b, e, ey, eb, l⟩
 ·subst ey
  obtain ⟨z, hd, vs, rel, dd⟩ := yU I.hok e
  refine wpAny_notIn_of (aCm ry) hd dd.mapOf ?_
  rw [<- (rel.val k).isSome_eq, <- l]
  exact h _ (I.tok _)
 ·subst ey
  cases (show u = Value.ref b from ry)
  obtain ⟨z, hd, xs, rel, dd⟩ := aCb I.hok e
  refine wpAny_notIn_heap (tupleKind_room_in1 hu) (vN I.hok eb) hd dd ?_
  have q := (rel.val k).isSome_eq
  rw [Option.isSome_map] at q
  rw [<- q, <- l]
  exact h _ (I.tok _)
theorem aAb {h' : Heap} {t' : Nat} {ob : HO} (I : Inv X pins σ H s) (mu : Mut (H a)) (hs : Heap.SameBut a s.heap h') (he : ∃ q, h'.get? a = some q) (new : ObjOk X.prog X.w (upd H a ob) h' a ob) :
  Inv X pins σ (upd H a ob) { s with heap := h', toks := t' } :=
 I.write (x := a) (e := a) mu (.inl rfl) (fun b q hb z => (hs.2 b hb).trans z) he new
theorem aI7 {P : Program} {w : World} {H' : Hp} {h' : Heap} {kvs : List (Key × V)} {vs : List (Key × Value)} (z : kvs.length <= sizeLine) (hd : (a == sysModules) = false) (rel : KV kvs vs) (dd : h'.DictOf (eP P w) a vs) :
  ObjOk P w H' h' a (.dK kvs) := ⟨z, hd, vs, rel, dd⟩
theorem w8 {H' : Hp} {Q : Unit -> Shared -> Prop} (hu : A.units + 1 < cLine) (I : Inv X pins σ H s) (g : DPut H a y v H') (ry : RelV y u) (rv : RelV v r) (h : ∀ s', Inv X pins σ H' s' -> Q () s') :
  wpAny (model X.prog X.w) A (setItem (.ref a) u r) Q E s := by
 rcases g with ⟨kvs, k, e, ey, l, eH⟩ | ⟨kvs, k, b, e, ey, eb, l, eH⟩
 ·subst ey eH
  obtain ⟨z, hd, vs, rel, dd⟩ := aLs I.hok e
  have hz : vs.length <= sizeLine := by rw [<- rel.length]; exact z
  have hl : (putK kvs k v).length <= sizeLine := by have := l6 kvs k v; omega
  refine wpAny_setItem_pairs (hsz := hz) (aCm ry) dd fun h' dd' hs => h _ ?_
  have he : ∃ q, h'.get? a = some q := let ⟨q, _, _, hq, _⟩ := dd'; ⟨q, hq⟩
  exact aAb I (by rw [e]; exact True.intro) hs he (aI7 hl hd (rel.put k rv) dd')
 ·subst ey eH
  cases (show u = Value.ref b from ry)
  obtain ⟨z, hd, xs, rel, dd⟩ := aK8 I.hok e
  have hz : xs.length <= sizeLine := by rw [<- Paired.length rel]; exact z
  have hl : (putK kvs k v).length <= sizeLine := by have := l6 kvs k v; omega
  refine wpAny_setItem_heap (hsz := hz) (tupleKind_room_in1 hu) (vN I.hok eb) dd fun h' dd' hs => h _ ?_
  obtain ⟨q, es, ep, hq, h2, h3, h4, _, h5⟩ := dd'
  refine aAb I (by rw [e]; exact True.intro) hs ⟨q, hq⟩ ⟨hl, hd, _, (rel.put k eb rv).keeps fun c ys ec => ?_, q, es, ep, hq, h2, h3, h4, h5⟩
  rw [bC (aLr ec e (fun z => nomatch z))]
  exact ec
end
section
variable {X : Cx} {pins : List (Addr × Obj)} {σ : St} {H : Hp} {s : Shared} {a : Addr} {kvs : List (Key × V)} {k : Key} {u : Value} {A : Around} {E : Value -> Shared -> Prop}
theorem aKp {Q : Value -> Shared -> Prop} (I : Inv X pins σ H s) (e : Rd H a (.dK kvs)) (h : ∀ t s', Inv X pins σ H s' -> Q (.int kvs.length t) s') : wpAny (model X.prog X.w) A (call (.builtin "len") [.ref a]) Q E s := by
 obtain ⟨z, hd, vs, rel, dd⟩ := yU I.hok e
 refine call_len_dict hd dd (by rw [<- rel.length]; rw [sizeLine_eq] at z; omega) ?_
 rw [<- rel.length]
 exact h _ _ (I.tok _)
end
def aLa (i : Expr) : Prop := ∀ ov iv, subscripted i false ov iv = operate [ov, iv] (getItem ov iv)
theorem aFx {prog : Program} {w : World} {A : Around} {E : Value -> Shared -> Prop} {s : Shared} {env : Env} {value slice : Expr} {pos : Pos} {T id : String} {Q : Value -> Shared -> Prop}
  (hl : typeLookup (.type T) "__getitem__" = pure (some (.builtin id))) (hs : aLa slice)
  (h : wpAny (model prog w) A (eval value env) (fun o s₁ => wpAny (model prog w) A (eval slice env) (fun i s₂ => s₂.TypeIs o T /\ wpAny (model prog w) A (getItem o i) Q E s₂) E s₁) E s) :
  wpAny (model prog w) A (eval (.Subscript value slice pos) env) Q E s := by
 refine Subscript_ (wpAny_mono h (fun o s₁ h₁ => wpAny_mono h₁ (fun i s₂ h₂ => ?_) fun _ _ x => x) fun _ _ x => x)
 obtain ⟨hT, h₂⟩ := h₂
 unfold subscriptTail
 refine wpAny_bind ?_
 rw [getitemInPython_of_ne hT.not_modules]
 refine wpAny_bind (wpAny_specialOf hT hl ?_)
 have fin : wpAny (model prog w) A (subscripted slice false o i) (fun r s₃ => wpAny (model prog w) A (letTemporaryGo value o r >>= fun _ => pure r) Q E s₃) E s₂ := by
  rw [hs o i]
  exact wpAny_operating (wpAny_mono h₂ (fun r s₃ h₃ => wpAny_bind (wpAny_letTemporaryGo (wpAny_pure h₃))) fun _ _ x => x)
 first
  | exact wpAny_pure (wpAny_bind fin)
  | exact wpAny_bind (wpAny_pure (wpAny_bind fin))
  | exact wpAny_bind fin
theorem tN {X : Cx} {pins : List (Addr × Obj)} {σ : St} {H : Hp} {s : Shared} {a : Addr} {y : V} {o : Option V} (I : Inv X pins σ H s) (g : DGet H a y o) : s.TypeIs (.ref a) "dict" := by
 rcases g with ⟨kvs, k, e, _, _⟩ | ⟨kvs, k, b, e, _, _, _⟩
 ·obtain ⟨_, _, vs, _, dd⟩ := yU I.hok e
  exact dd.typeIs
 ·obtain ⟨_, _, xs, _, dd⟩ := aCb I.hok e
  exact dd.typeIs
def aLg (td ty : TE) : TE := fun σ H Q => td σ H fun x H1 => ty σ H1 fun y H2 => ∃ a v, x = .ref a /\ DGet H2 a y (some v) /\ Q v H2
def x6 (ty td : TE) : TE := fun σ H Q => ty σ H fun y H1 => td σ H1 fun x H2 => ∃ a o, x = .ref a /\ DGet H2 a y o /\ Q (.bl (!o.isSome)) H2
def aLm (td ty tv : TE) : TS := fun D σ H => tv σ H fun v H1 => td σ H1 fun x H2 => ty σ H2 fun y H3 => ∃ a H4, x = .ref a /\ DPut H3 a y v H4 /\ D.nx σ H4
section
variable {X : Cx} {o i e value : Expr} {pos pos' tpos : Pos} {td ty tv : TE}
theorem aGf (hu : X.A.units + 1 < cLine) (ho : PE X o td) (hi : PE X i ty) (hs : aLa i) : PE X (.Subscript o i pos) (aLg td ty) := by
 intro pins s σ H Q I h
 refine aFx PySem.F.slot_dict_getitem.lookup hs (thn (ho pins s σ H _ I h) fun u s1 ⟨x, H1, I1, rx, q1⟩ => thn (hi pins s1 σ H1 _ I1 q1) fun iv s2 ⟨y, H2, I2, ry, a, v, ex, g, q2⟩ => ?_)
 subst ex
 obtain rfl : u = Value.ref a := rx
 exact ⟨tN I2 g, zM hu I2 g ry fun w' s3 I3 rw' => ⟨v, H2, I3, rw', q2⟩⟩
theorem xH (hu : X.A.units + 1 < cLine) (hi : PE X i ty) (ho : PE X o td) : PC X .NotIn i o (x6 ty td) := by
 intro pins s σ H Q I h
 refine thn (hi pins s σ H _ I h) fun iv s1 ⟨y, H1, I1, ry, q1⟩ => thn (ho pins s1 σ H1 _ I1 q1) fun u s2 ⟨x, H2, I2, rx, a, ov, ex, g, q2⟩ => ?_
 subst ex
 obtain rfl : u = Value.ref a := rx
 exact aEx hu I2 g ry fun s3 I3 => ⟨.bl (!ov.isSome), H2, I3, rfl, q2⟩
theorem aFb (hu : X.A.units + 1 < cLine) (ho : PE X o td) (hi : PE X i ty) (hv : PE X value tv) (hs : swapsWith value (some (.Subscript o i pos')) pos.line X.env = pure false) :
  PS X (.Assign [.Subscript o i pos'] value pos) (aLm td ty tv) := by
 intro pins s σ H D I h
 refine wpAny_Assign_Subscript (thn (hv pins s σ H _ I h) fun r s1 ⟨v, H1, I1, rv, q1⟩ => thn (ho pins s1 σ H1 _ I1 q1) fun u s2 ⟨x, H2, I2, rx, q2⟩ => thn (hi pins s2 σ H2 _ I2 q2) fun iv s3 ⟨y, H3, I3, ry, a, H4, ex, g, q3⟩ => ?_) hs
 subst ex
 obtain rfl : u = Value.ref a := rx
 exact w8 hu I3 g ry rv fun s4 I4 => ⟨σ, H4, I4, q3⟩
end
theorem aBl {P : Program} {w : World} {H : Hp} (h : Heap) (hb : sysModules < h.objs.size) : ObjOk P w H (h.push { cls := .type "dict", data := .dict #[] }) h.objs.size (.dT []) :=
 ⟨Nat.zero_le _, beq_eq_false_iff_ne.mpr (Ne.symm (Nat.ne_of_lt hb)), [], .nil, _, #[], 0, Heap.get?_push_size _ rfl, ⟨rfl, rfl, rfl⟩, rfl, rfl, List.nodup_nil⟩
def aIm : TE := fun _ H Q => ∀ p, H p = none -> Q (.ref p) (upd H p (.dT []))
section
variable {X : Cx} {pos : Pos}
theorem aB0 : PE X (.Dict [] [] pos) aIm := fun pins s σ H Q I h =>
 wpAny_Dict_empty ⟨.ref s.heap.objs.size, _, I.laid (a := s.heap.objs.size) (o := .dT []) (t' := s.toks) (fun _ _ q => Heap.get?_push_of_some _ q) (Nat.le_refl _) (aBl s.heap I.big), rfl, h _ (I.hok.fresh (Nat.le_refl _))⟩
end
section
variable {X : Cx} {pins : List (Addr × Obj)} {σ : St} {H : Hp} {s : Shared} {a : Addr} {y d : V} {u r : Value} {o : Option V} {A : Around} {E : Value -> Shared -> Prop}
end
section
variable {X : Cx} {o e f : Expr} {apos cpos : Pos} {td ty tx : TE}
end
section
variable {X : Cx} {pins : List (Addr × Obj)} {σ : St} {H : Hp} {s : Shared} {a : Addr} {kvs : List (Key × V)} {A : Around} {E : Value -> Shared -> Prop}
end
section
variable {X : Cx} {pins : List (Addr × Obj)} {σ : St} {H : Hp} {s : Shared} {a : Addr} {y : V} {u : Value} {A : Around} {E : Value -> Shared -> Prop}
end
end L2
namespace Att
open PySem PySem.W PySem.Calls PyProof.Rows
theorem mQ {P : Params} {h : Heap} : ∀ (ns : List Int) (vs : List Value), WellAll P h vs (ns.map WData.int) -> IntsAre vs ns := by
 intro ns
 induction ns with
 | nil =>
  intro vs w
  rw [List.map_nil] at w
  cases w
  exact .nil
 | cons n ns ih =>
  intro vs w
  rw [List.map_cons] at w
  cases w with
  | cons a b =>
   cases a
   exact .cons _ _ (ih _ b)
theorem yO {l : OpenLaw} {n : Nat} (hn : l.most = some n) {P : Params} {h : Heap} {args : List WData} {vals : List Value}
  (aGi : l.row.toRowW.claim.pre args = true) (hwl : WellAll P h vals args) :
  ∃ a vs ns, vals = [Value.ref a] /\ args = [WData.list (ns.map WData.int)] /\ h.get? a = some { cls := .type "list", data := .seq vs.toArray } /\ IntsAre vs ns /\ ns.length <= n := by
 have hsh : WShape.hasAll [] args [.list .int] = true := (pre_splitW aGi).1
 have hc : l.pre.holds [] { args := args } = true := (pre_splitW aGi).2
 obtain ⟨d, r, rfl, h1, h2⟩ := hasAllW_cons hsh
 obtain rfl := hasAllW_nil h2
 obtain ⟨xs, rfl, h3⟩ := hasW_list h1
 obtain ⟨ns, rfl⟩ := items_int h3
 have hlen : ns.length <= n := by
  unfold OpenLaw.pre at hc
  have h4 : (WTm.not (.lt (.lit (.int (n : Int))) (.len (.arg 0)))).holds [] { args := [.list (ns.map .int)] } = true := by
   have h4 := (holds_andW hc).1
   rw [hn] at h4
   exact h4
  have h5 := condW_of h4 (w_not (w_lt w_lit (w_len_list (w_arg rfl))))
  rw [List.length_map] at h5
  refine Nat.le_of_not_lt fun q => ?_
  have q' : (n : Int) < ((ns.length : Nat) : Int) := by omega
  first
   | (rw [decide_eq_true q'] at h5; exact absurd h5 (by decide))
   | (simp at h5; omega)
 cases hwl with
 | cons w1 w2 =>
  cases w2
  cases w1 with
  | list ho hall => exact ⟨_, _, ns, rfl, rfl, ho, mQ ns _ hall, hlen⟩
theorem xS (l : OpenLaw) (args : List WData) : l.row.toRowW.claim.post args (.bool true) args = true :=
 postW_of (r := l.row.toRowW) (X := (true == true))
  (show WShape.has [] (.bool true) .bool = true by first | rfl | decide | simp [WShape.has, WShape.arms, WShape.armsAll])
  (show (WTm.eq .res (.lit (.bool true))).value [] { args := args, res := some (.bool true), after := args } = some (.bool (true == true)) from w_eq_bool (w_res rfl) w_lit) rfl
theorem tR {l : OpenLaw} {n : Nat} {q : Program} {loose : List Str} {XP : (Str -> Option Value) -> Heap -> Prop} {YP : World -> Heap -> Prop} {d : DefRec}
  (hn : l.most = some n) (hdf : d.params.defaults = [])
  (call : ∀ (w : World) (s₀ s₁ : Shared) (mg mb : Str -> Option Value) (fa : Addr) (o : Obj) (pm cd doc : Value) (a : Addr) (vs : List Value) (ns : List Int),
   Ground q loose [] XP w s₀ mg mb s₁.heap -> YP w s₁.heap ->
   s₁.heap.get? fa = some o -> o.data = .func (docDef d.name d.params d.body d.scope pm cd doc) -> s₁.heap.CodeRec cd d.name -> mg d.name = some (.ref fa) ->
   s₁.heap.get? a = some { cls := .type "list", data := .seq vs.toArray } -> IntsAre vs ns -> ns.length <= n -> s₁.gens = #[] ->
   codeAny (model l.prog w) callerA (.call (.ref fa) ⟨[.ref a], []⟩) (fun r s' => r = .ok (.ret (.bool true)) /\ OldK s₁.heap s'.heap /\ s'.os = s₁.os /\ AllBare s'.gens) s₁) :
  WalkO q loose XP YP l.row.toRowW d [] (fun f vs => PySem.call f vs) := by
 intro w s₀ s₁ mg mb G Y fa o pm cd doc dV kV ho hd hcd hD hmg hg args vals as aGi hlay hrd hwl hlo
 obtain rfl : dV = .none := Dflts.none hD hdf
 obtain rfl : kV = .none := Dflts.noKw hD
 obtain ⟨a, vs, ns, rfl, rfl, hobj, hints, hlen⟩ := yO hn aGi hwl
 refine enter_call (codeAny_mono (call w s₀ s₁ mg mb fa o pm cd doc a vs ns G Y ho (fd_plain hd) hcd hmg hobj hints hlen hg) fun r s' hq => ?_)
 obtain ⟨rfl, h2, h3, h4⟩ := hq
 exact ⟨.inl ⟨.bool true, .bool true, [], rfl, fun _ => rfl, .bool true, xS l _, fun _ => ⟨List.Pairwise.nil, fun _ hm => (nomatch hm)⟩⟩, h2, h3, h4⟩
section
variable {prog : Program} {w : World} {A : Around} {E : Value -> Shared -> Prop} {s : Shared} {K : Frag}
end
end Att
namespace L2
open PySem PySem.Spec PyProof.Rows
theorem rL : ∀ {vs : List Value} {ns : List Int}, IntsAre vs ns -> Vals (ns.map V.int) vs
 | _, _, .nil => .nil
 | _, _, .cons n t h => .cons ⟨t, rfl⟩ (rL h)
def aK5 (H : Hp) : Prop := ∀ b, H b = none \/ (∃ o xs, H b = some (.frz o (.lst xs))) \/ ∃ ps, H b = some (.tbl ps)
theorem aCr {P : Program} {w : World} {K : PySem.W.Frag} {mg mb : Str -> Option Value} {CX : CXT} {k : Nat} {fa a : Addr} {fd : FuncData} {x : Str} {sp : Sp} {s₁ : Shared} {vs : List Value} {ns : List Int} {ts : List Addr}
  (hT : aFh K ts = true) (hT2 : ∀ P ∈ ts, s₁.heap.get? P = some (PySem.W.tabObj #[])) (hbm : ∃ bm ob, mg "__builtins__" = some (.ref bm) /\ bm ≠ builtinsNs /\ s₁.heap.get? bm = some ob /\ ob.cls = .type "module" /\ ob.dict = some builtinsNs /\ ob.data = .plain)
  (KX : K.In s₁.heap) (hns : s₁.heap.Ns mainGlobals mg) (hb : s₁.heap.Ns builtinsNs mb) (hbb : ∀ x : Str, x ≠ "__name__" -> mb x = bootBuiltins x) (hlim : s₁.heap.NoLimit) (hg : s₁.gens = #[])
  (ha : s₁.heap.get? a = some { cls := .type "list", data := .seq vs.toArray }) (hi : IntsAre vs ns) (hl : ns.length <= sizeLine) (hr : Room k callerA)
  (F : ∀ base : Heap, K.In base -> base.Ns mainGlobals mg -> FnOk P w K mg base CX k fa fd [x] sp) (hbind : ∀ (s : Shared) (u : Value), BindsTo s fd ⟨[u], []⟩ [(x, u)])
  (hsp : ∀ H : Hp, aK5 H -> SqL K H a (ns.map V.int) -> sp [.ref a] H (fun v _ => v = .bl true) fun _ _ _ => False)
  (hCX : ∀ H e s', CX [] H s₁ (fun _ _ _ => False) e s' -> False) :
  codeAny (model P w) callerA (.call (.ref fa) ⟨[.ref a], []⟩) (fun r s' => r = .ok (.ret (.bool true)) /\ OldK s₁.heap s'.heap /\ s'.os = s₁.os /\ AllBare s'.gens) s₁ := by
 have rv := rL hi
 have lenV := hi.length
 have tk : ∀ p ∈ tbs K, PySem.W.CodeHd s₁.heap p.1 p.2.1 /\ K.lookup p.2.1 = none /\ s₁.heap.get? p.2.1 = some (PySem.W.tabObj #[]) /\ ∀ q ∈ tbs K, p.2.1 = q.2.1 -> p.2.2 = q.2.2 := fun p hp => by
  have z := List.all_eq_true.mp hT p hp
  simp only [Bool.and_eq_true] at z
  obtain ⟨⟨⟨z1, z2⟩, z3⟩, z4⟩ := z
  refine ⟨PySem.W.codeHd_of_K KX z1, by simpa using z2, hT2 _ (by simpa using z3), fun q hq e => ?_⟩
  have y := List.all_eq_true.mp z4 q hq
  rw [Bool.or_eq_true] at y
  rcases y with y | y
  ·rw [e] at y; simp at y
  ·exact beq_iff_eq.mp y
 have aP : ∀ p ∈ tbs K, a ≠ p.2.1 := fun p hp z => by
  have e := (tk p hp).2.2.1
  rw [<- z, ha] at e
  cases e
 have core : ∀ H : Hp, aK5 H -> SqL K H a (ns.map V.int) -> HOk P w H s₁.heap -> (∀ b, H b ≠ none -> b = a \/ ∃ p ∈ tbs K, b = p.2.1) -> (H a ≠ none -> K.lookup a = none) -> Tbs K H ->
   codeAny (model P w) callerA (.call (.ref fa) ⟨[.ref a], []⟩) (fun r s' => r = .ok (.ret (.bool true)) /\ OldK s₁.heap s'.heap /\ s'.os = s₁.os /\ AllBare s'.gens) s₁ := by
  intro H hO hS hok hA hK hTb
  have base_of : ∀ {b : Addr} {o : Obj}, s₁.heap.get? b = some o -> H b = none -> (aB4 s₁.heap H).get? b = some o := fun e n => aB6 e n
  have noT : ∀ {b : Addr} {o : Obj}, s₁.heap.get? b = some o -> o ≠ { cls := .type "list", data := .seq vs.toArray } -> o ≠ PySem.W.tabObj #[] -> H b = none := fun {b o} e d1 d2 => by
   cases q : H b with
   | none => rfl
   | some u =>
    rcases hA b (by rw [q]; simp) with e' | ⟨p, hp, e'⟩
    ·subst e'
     rw [ha] at e; cases e
     exact absurd rfl d1
    ·subst e'
     rw [(tk p hp).2.2.1] at e; cases e
     exact absurd rfl d2
  have noA : ∀ {b : Addr} {o : Obj} {es : Array DictEntry} {ep : Nat}, s₁.heap.get? b = some o -> o.data = .dict es ep -> H b = none := fun {b o es ep} e d =>
   noT e (fun z => by subst z; cases d) fun z => by subst z; cases d
  have nsK : ∀ {b : Addr} {m : Str -> Option Value}, s₁.heap.Ns b m -> (aB4 s₁.heap H).Ns b m := fun {b m} ⟨o, es, ep, e, d, r⟩ => ⟨o, es, ep, base_of e (noA e d), d, r⟩
  have hKb : K.In (aB4 s₁.heap H) := fun b o e => base_of (KX b o e) (by
   cases q : H b with
   | none => rfl
   | some u =>
    rcases hA b (by rw [q]; simp) with e' | ⟨p, hp, e'⟩
    ·subst e'
     rw [hK (by rw [q]; simp)] at e; cases e
    ·subst e'
     rw [(tk p hp).2.1] at e; cases e)
  have hM : Mod K mg (aB4 s₁.heap H) := ⟨hKb, nsK hns, ⟨mb, nsK hb, hbb⟩, (let ⟨mc, h1, h2⟩ := hlim; ⟨mc, nsK h1, h2⟩), (let ⟨bm, ob, b1, b2, b3, b4, b5⟩ := hbm; ⟨bm, ob, b1, b2, base_of b3 (noT b3 (fun z => by subst z; simp at b4) fun z => by subst z; simp at b4), b4, b5⟩)⟩
  have e0 : aKb P w K mg (aB4 s₁.heap H) callerA [] s₁ H := ⟨rfl, hM, fun b o e => aEk e, Nat.le_of_eq (yQ _ _), trivial, fun b hb => absurd (show b ∈ ([] : List Addr) from hb) (by simp), hok, .of_eq hg, hTb⟩
  refine codeAny_mono ((F _ hKb (nsK hns)).run callerA [] s₁ H ⟨[.ref a], []⟩ [.ref a] [.ref a] _ _ hr e0 (hbind s₁ (.ref a)) (.cons rfl .nil) (hsp H hO hS)) fun r s' h => ?_
  cases r with
  | error e => exact (hCX H e s' h).elim
  | ok fl =>
   cases fl with
   | next => exact False.elim h
   | brk => exact False.elim h
   | cont => exact False.elim h
   | ret u =>
    obtain ⟨v, H', os, bare, un, hok', r', q⟩ := h
    have q' : v = .bl true := q
    subst q'
    obtain rfl : u = Value.bool true := r'
    have old : ∀ b o, s₁.heap.get? b = some o -> s'.heap.get? b = some o \/ ∃ p ∈ tbs K, ∃ qs, b = p.2.1 /\ o = PySem.W.tabObj #[] /\ s'.heap.get? b = some (PySem.W.tabObj qs) := fun b o e => by
     cases q : H b with
     | none => exact .inl (un.keep b o e q (by intro z; exact absurd (show b ∈ ([] : List Addr) from z) (by simp)) (by simp))
     | some u =>
      rcases hO b with z | ⟨ob, xs, z⟩ | ⟨ps, z⟩
      ·rw [q] at z; cases z
      ·have z2 := un.frzs b ob _ z
       obtain ⟨e1, _⟩ := hok b _ z
       obtain ⟨e2, _⟩ := hok' b _ z2
       rw [e] at e1; cases e1
       exact .inl e2
      ·obtain ⟨more, z2⟩ := un.tbls b ps z
       obtain ⟨qs, e2, _⟩ := hok' b _ z2
       rcases hA b (by rw [z]; simp) with e' | ⟨p, hp, e'⟩
       ·subst e'
        obtain ⟨qs0, e3, _⟩ := hok b _ z
        rw [ha] at e3; cases e3
       ·subst e'
        rw [(tk p hp).2.2.1] at e; cases e
        exact .inr ⟨p, hp, qs, rfl, rfl, e2⟩
    refine ⟨rfl, ⟨fun b o e => ?_, fun b o e => ?_⟩, os, bare⟩
    ·rcases old b o e with z | ⟨p, hp, qs, rfl, rfl, z⟩
     ·exact .inl z
     ·exact .inr (.inl ⟨((tk p hp).1.tab (tk p hp).2.2.1).isCodeTable, rfl, #[], qs, rfl, by rw [z]; simp⟩)
    ·rcases old b o e with z | ⟨p, hp, qs, rfl, rfl, z⟩
     ·exact ⟨_, z⟩
     ·exact ⟨_, z⟩
 have tab : ∀ {b : Addr} {u : HO}, ((tbs K).find? (fun p => p.2.1 == b)).map (fun p => HO.tbl #[.str p.2.2 0]) = some u -> ∃ p ∈ tbs K, b = p.2.1 /\ u = .tbl #[.str p.2.2 0] := fun {b u} e => by
  obtain ⟨p, e1, e2⟩ := Option.map_eq_some_iff.mp e
  have := List.find?_some e1
  exact ⟨p, List.mem_of_find?_eq_some e1, (beq_iff_eq.mp this).symm, e2.symm⟩
 have tabTb : ∀ p ∈ tbs K, ((tbs K).find? (fun q => q.2.1 == p.2.1)).map (fun p => HO.tbl #[.str p.2.2 0]) = some (.tbl (#[.str p.2.2 0] ++ #[])) := fun p hp => by
  cases e : (tbs K).find? (fun q => q.2.1 == p.2.1) with
  | none => exact absurd (List.find?_eq_none.mp e p hp) (by simp)
  | some q =>
   have e1 := List.find?_some e
   have e2 := (tk p hp).2.2.2 q (List.mem_of_find?_eq_some e) (beq_iff_eq.mp e1).symm
   simp [e2]
 have tabOk : ∀ {H : Hp} {p : Addr × Addr × Str}, p ∈ tbs K -> ObjOk P w H s₁.heap p.2.1 (.tbl #[.str p.2.2 0]) := fun hp => ⟨#[], (tk _ hp).2.2.1, trivial, fun n t _ pos cv e => by cases e⟩
 have tabA : ((tbs K).find? (fun p => p.2.1 == a)).map (fun p => HO.tbl #[.str p.2.2 0]) = none := by
  cases e : ((tbs K).find? (fun p => p.2.1 == a)).map (fun p => HO.tbl #[.str p.2.2 0]) with
  | none => rfl
  | some u => obtain ⟨p, hp, z, _⟩ := tab e; exact absurd z (aP p hp)
 cases hk : K.lookup a with
 | some o =>
  have e := KX a o hk
  rw [ha] at e
  cases e
  refine core (fun b => ((tbs K).find? (fun p => p.2.1 == b)).map (fun p => HO.tbl #[.str p.2.2 0])) (fun b => ?_) (.inr ⟨_, vs.toArray, _, hk, rfl, rfl, rfl, by rw [List.size_toArray, lenV]; exact hl, by simpa using rv⟩) (fun b u z => ?_) (fun b z => ?_) (fun z => absurd tabA z) fun p hp => ⟨#[], tabTb p hp⟩
  ·dsimp only
   cases e : ((tbs K).find? (fun p => p.2.1 == b)).map (fun p => HO.tbl #[.str p.2.2 0]) with
   | none => exact .inl rfl
   | some u => obtain ⟨p, _, _, rfl⟩ := tab e; exact .inr (.inr ⟨_, rfl⟩)
  ·obtain ⟨p, hp, rfl, rfl⟩ := tab z
   exact tabOk hp
  ·obtain ⟨u, e⟩ := Option.ne_none_iff_exists'.mp z
   obtain ⟨p, hp, e1, _⟩ := tab e
   exact .inr ⟨p, hp, e1⟩
 | none =>
  refine core (fun b => if b = a then some (.frz { cls := .type "list", data := .seq vs.toArray } (.lst (ns.map V.int))) else ((tbs K).find? (fun p => p.2.1 == b)).map (fun p => HO.tbl #[.str p.2.2 0])) (fun b => ?_) (.inl (.inr ⟨{ cls := .type "list", data := .seq vs.toArray }, if_pos rfl⟩)) (fun b u z => ?_) (fun b z => ?_) (fun _ => hk) fun p hp => ⟨#[], (if_neg (aP p hp).symm).trans (tabTb p hp)⟩
  ·dsimp only
   by_cases hb : b = a
   ·exact .inr (.inl ⟨_, _, if_pos hb⟩)
   ·rw [if_neg hb]
    cases e : ((tbs K).find? (fun p => p.2.1 == b)).map (fun p => HO.tbl #[.str p.2.2 0]) with
    | none => exact .inl rfl
    | some u => obtain ⟨p, _, _, rfl⟩ := tab e; exact .inr (.inr ⟨_, rfl⟩)
  ·by_cases hb : b = a
   ·have z' := (if_pos hb).symm.trans z
    cases z'
    subst hb
    exact ⟨ha, by rw [List.length_map]; exact hl, vs, _, rv, ha⟩
   ·have z' := (if_neg hb).symm.trans z
    obtain ⟨p, hp, rfl, rfl⟩ := tab z'
    exact tabOk hp
  ·by_cases hb : b = a
   ·exact .inl hb
   ·rw [if_neg hb] at z
    obtain ⟨u, e⟩ := Option.ne_none_iff_exists'.mp z
    obtain ⟨p, hp, e1, _⟩ := tab e
    exact .inr ⟨p, hp, e1⟩
theorem aGh {l : PySem.W.OpenLaw} {n k : Nat} {q : Program} {loose : List Str} {XP : (Str -> Option Value) -> Heap -> Prop} {YP : World -> Heap -> Prop} {d : DefRec} {K : Params -> PySem.W.Frag} {CX : World -> CXT} {sp : World -> Sp} {x : Str}
  (hn : l.most = some n) (hn2 : n <= sizeLine) (hdf : d.params.defaults = []) (hr : Room k callerA)
  {ts : List Addr} (hY : ∀ (w : World) (h : Heap), YP w h -> (K w.params).In h /\ ∀ P ∈ ts, h.get? P = some (PySem.W.tabObj #[])) (hK : ∀ w : World, aFh (K w.params) ts = true)
  (F : ∀ (w : World) (mg : Str -> Option Value) (fa : Addr) (h : Heap), (K w.params).In h -> h.Ns mainGlobals mg -> mg d.name = some (.ref fa) ->
   ∃ fd : FuncData, (∀ (s : Shared) (u : Value), BindsTo s fd ⟨[u], []⟩ [(x, u)]) /\
    ∀ base : Heap, (K w.params).In base -> base.Ns mainGlobals mg -> FnOk l.prog w (K w.params) mg base (CX w) k fa fd [x] (sp w))
  (hsp : ∀ (w : World) (H : Hp) (a : Addr) (ns : List Int), ns.length <= n -> aK5 H -> SqL (K w.params) H a (ns.map V.int) -> sp w [.ref a] H (fun v _ => v = .bl true) fun _ _ _ => False)
  (hCX : ∀ (w : World) (H : Hp) (s : Shared) (e : Value) (s' : Shared), CX w [] H s (fun _ _ _ => False) e s' -> False) :
  PySem.W.WalkO q loose XP YP l.row.toRowW d [] (fun f vs => PySem.call f vs) := by
 refine Att.tR hn hdf fun w s₀ s₁ mg mb fa o pm cd doc a vs ns G Y ho hd hcd hmg hobj hints hlen hg => ?_
 obtain ⟨KX, TX⟩ := hY w _ Y
 obtain ⟨fd, hb, hF⟩ := F w mg fa _ KX G.T.g hmg
 exact aCr (hK w) TX G.T.bmain KX G.T.g G.T.b G.T.builtins G.T.nolimit hg hobj hints (Nat.le_trans hlen hn2) hr hF hb (fun H hO hS => hsp w H a ns hlen hO hS) fun H e s' => hCX w H s₁ e s'
def gE (s : Stmt) : Arguments := match s with
 | .FunctionDef _ a _ _ _ _ _ _ _ _ => a
 | _ => { posonlyargs := [], args := [], vararg := none, kwonlyargs := [], kw_defaults := [], kwarg := none, defaults := [] }
def eU (s : Stmt) : List Stmt := match s with
 | .FunctionDef _ _ b _ _ _ _ _ _ _ => b
 | _ => []
def aK (s : Stmt) : Scope := match s with
 | .FunctionDef _ _ _ _ _ _ sc _ _ _ => sc
 | _ => { kind := .function, names := [], isGenerator := false, isCoroutine := false }
abbrev E0 : XK := fun _ _ _ => False
structure Fun (K : PySem.W.Frag) (x qual : Str) (st : Stmt) (f : Addr) (fd : FuncData) : Prop where
 ex : ∃ (oc : Value) (od : Option Addr) (kV doc pm : Value) (an : Option Addr) (cdv ct : Value) (osl : Array (Option Value)),
  fd = PySem.W.fnOf x qual (gE st) (eU st) (aK st) .none kV doc pm an cdv ct /\ K.lookup f = some ⟨oc, od, .func fd, osl⟩ /\ PySem.W.codeIn K cdv qual = true
 kp : PySem.W.keepIn K (.ref f) = true
section
variable {P : Program} {w : World} {K : PySem.W.Frag} {mg : Str -> Option Value} {base : Heap}
theorem Fun.binds {x qual : Str} {st : Stmt} {f : Addr} {fd : FuncData} {ps : List Str} (F : Fun K x qual st f fd)
  (h : ∀ (kV doc pm : Value) (an : Option Addr) (cdv ct : Value) (us : List Value), us.length = ps.length -> bindArgs (PySem.W.fnOf x qual (gE st) (eU st) (aK st) .none kV doc pm an cdv ct) ⟨us, []⟩ = pure (ps.zip us)) : Binds K fd ps [] := by
 obtain ⟨oc, od, kV, doc, pm, an, cdv, ct, osl, rfl, lk, hcd⟩ := F.ex
 exact .all (h kV doc pm an cdv ct)
theorem aDk {x qual : Str} {st : Stmt} {f : Addr} {oc : Value} {od an : Option Addr} {osl : Array (Option Value)} {kV doc pm cdv ct : Value} (l : K.lookup f = some ⟨oc, od, .func (PySem.W.fnOf x qual (gE st) (eU st) (aK st) .none kV doc pm an cdv ct), osl⟩)
  (c : PySem.W.codeIn K cdv qual = true) (k : PySem.W.keepIn K (.ref f) = true) : Fun K x qual st f (PySem.W.fnOf x qual (gE st) (eU st) (aK st) .none kV doc pm an cdv ct) := ⟨⟨oc, od, kV, doc, pm, an, cdv, ct, osl, rfl, l, c⟩, k⟩
end
section
variable {X : Cx}
theorem pv (i : Nat) {x : Str} {pos : Pos} (hN : X.N[i]? = some x := by rfl) (hv : Vis X.env.scope x := by first | exact Or.inl rfl | exact Or.inr (Or.inl rfl) | exact Or.inr (Or.inr rfl)) (hd : (x == ("__debug__" : Str)) = false := by decide)
  (hcd : (x == ("__classdict__" : Str)) = false := by decide) : PE X (.Name x pos) (aJy i) := aD6 hN hv hd hcd
end
def Same (H H' : Hp) : Prop := ∀ b o, H b = some o -> H' b = some o
theorem Same.refl (H : Hp) : Same H H := fun _ _ h => h
theorem Same.trans {H H1 H2 : Hp} (a : Same H H1) (b : Same H1 H2) : Same H H2 := fun c o h => b c o (a c o h)
theorem Same.free {H H' : Hp} (e : Same H H') {l : Addr} (h : H' l = Option.none) : H l = Option.none := by
 cases q : H l with
 | none => rfl
 | some o =>
  rw [e l o q] at h
  cases h
theorem Same.seq {K : PySem.W.Frag} {H H' : Hp} {a : Addr} {xs : List V} (e : Same H H') (h : SqL K H a xs) : SqL K H' a xs := by
 rcases h with (h | ⟨o, h⟩) | h
 ·exact .inl (.inl (e _ _ h))
 ·exact .inl (.inr ⟨o, e _ _ h⟩)
 ·exact .inr h
section
variable {X : Cx}
end
section
variable {κ : Type} [DecidableEq κ]
end
end L2
set_option maxHeartbeats 4000000
namespace PySem.W
open PySem PySem.Spec PySem.Calls PyProof.Rows Builtin Builtin.ObjectAttr Builtin.Getset_descriptor
section
variable {prog : Program} {w : World} {A : Around} {E : Value -> Shared -> Prop} {K : Frag} {h : Heap} {g : Array GenState} {d : Drawn} {t : Nat} {os : OsState} {a C : Addr}
structure ExcK (K : Frag) (C : Addr) : Prop where
 ga : findIn K (.ref C) "__getattribute__" = some (some (.builtin "BaseException.__getattribute__"))
 gt : findIn K (.ref C) "__getattr__" = some none
 cl : findIn K (.ref C) "__class__" = some (some (.builtin "object.__class__"))
 mo : mroIn K C (.type "object") = some true
 mb : mroIn K C (.type "BaseException") = some true
 ic : (clsIn K C).isSome = true
def ExcAt (a : Addr) (cls : Value) (h : Heap) : Prop := ∃ o, h.get? a = some o /\ o.cls = cls /\ ∃ vs, o.data = .fields vs
theorem ExcAt.ty {cls : Value} (p : ExcAt a cls h) (M : Model) : Looks M h (typeOf (.ref a)) cls := by
 obtain ⟨o, h1, h2, _⟩ := p
 exact h2 ▸ (Looks.ld h1).andThen .now
theorem aGr {tp : Value} {R : Result -> Shared -> Prop} (X : K.In h) (T : ExcK K C) (p : ExcAt a (.ref C) h) (hq : R (.ok (.ret (.ref C))) ⟨h, g, d, t, os⟩) :
  codeAny (model prog w) A (.call (.builtin "getset_descriptor.__get__") ⟨[.builtin "object.__class__", .ref a, tp], []⟩) R ⟨h, g, d, t, os⟩ := by
 have La := p.ty (model prog w)
 have Lb := looks_mroIn (M := model prog w) X T.mo
 refine codeAny_call_builtin KF.slot_gs.plain KF.entry_gs (KF.slot_gs.check _ _ _ _ _ _ _ _ KF.type_class (KF.args_gs _ _ _) ?_)
 unfold Builtin.«getset_descriptor.__get__» descrGet
 rw [dga_obj]
 refine wpAny_bind (wpAny_pure ?_)
 unfold descrGetter descrCheckInstance descrNameAndClass isInstance
 simp only [KF.owner_class]
 repeat lk
 refine ⟨Code.quiet_builtin _ (by decide +kernel), codeAny_builtin KF.entry_class ?_⟩
 unfold Builtin.«object.__class__» shownTypeOf
 repeat lk
 exact hq
theorem aBg {tk : Tok} {Q : Fin -> Shared -> Prop} (X : K.In h) (T : ExcK K C) (p : ExcAt a (.ref C) h) (hq : Q (.done (.ret (.ref C))) ⟨h, g, d, t, os⟩) :
  wpAny (model prog w) A (Builtin.«object.__getattribute__» ⟨[.ref a, .str "__class__" tk], []⟩) Q E ⟨h, g, d, t, os⟩ := by
 have La := p.ty (model prog w)
 have Lc := looks_findIn (M := model prog w) X T.cl
 have hT5 : (⟨h, g, d, t, os⟩ : Shared).TypeIs (.builtin "object.__class__") "getset_descriptor" := F.typeOf_object_class
 have e5 := F.typeOf_object_class
 have e6 := F.slot_gs_get.lookup
 have e7 := F.slot_gs_set.lookup
 repeat (any_goals (first | assumption | with_reducible refine Looks.at (by assumption) ?_ | wp_step))
 refine aGr X T p ?_
 repeat (any_goals (first | assumption | wp_step))
theorem aCh {M : Model} {nameV : Value} {Q : Unit -> Shared -> Prop} (X : K.In h) (T : ExcK K C) (p : ExcAt a (.ref C) h) (hq : Q () ⟨h, g, d, t, os⟩) :
  wpAny M A (checkBuiltinCall "BaseException.__getattribute__" ⟨[.ref a, nameV], []⟩) Q E ⟨h, g, d, t, os⟩ := by
 have hk : builtinKind "BaseException.__getattribute__" = some .slot := by decide +kernel
 have hsp : splitId "BaseException.__getattribute__" = some ("BaseException", "__getattribute__") := by decide +kernel
 have La := p.ty M
 have Lb := looks_mroIn (M := M) X T.mb
 have ha := F.args_bexc_ga (.ref a) nameV
 simp only [checkBuiltinCall, hk, hsp]
 refine wpAny_bind ?_
 unfold isInstance
 repeat (any_goals (first | assumption | with_reducible refine Looks.at (by assumption) ?_ | wp_step))
theorem aEz {tk : Tok} {R : Result -> Shared -> Prop} (X : K.In h) (T : ExcK K C) (p : ExcAt a (.ref C) h) (hq : R (.ok (.ret (.ref C))) ⟨h, g, d, t, os⟩) :
  codeAny (model prog w) A (.call (.builtin "BaseException.__getattribute__") ⟨[.ref a, .str "__class__" tk], []⟩) R ⟨h, g, d, t, os⟩ :=
 codeAny_call_builtin F.attr_ValueError.ga.plain F.entry_bexc_ga (aCh X T p (aBg X T p hq))
theorem aLh {tk : Tok} {Q : Value -> Shared -> Prop} (X : K.In h) (T : ExcK K C) (p : ExcAt a (.ref C) h) (hq : Q (.ref C) ⟨h, g, d, t, os⟩) : wpAny (model prog w) A (getAttrBy (.ref a) (.str "__class__" tk) false) Q E ⟨h, g, d, t, os⟩ := by
 have La := p.ty (model prog w)
 have Lg := looks_findIn (M := model prog w) X T.ga
 have Lt := looks_findIn (M := model prog w) X T.gt
 have f3 := F.attr_ValueError.ga.bind (.ref a)
 have hx0 : (false && onTheHeap (Value.builtin "BaseException.__getattribute__")) = false := rfl
 have hx2 : (Value.builtin "BaseException.__getattribute__" == Value.builtin "object.__getattribute__") = false := by decide +kernel
 have hx1 : (onTheHeap (Value.ref C) && Value.builtin "BaseException.__getattribute__" == Value.builtin "object.__getattribute__") = false := by rw [hx2]; rfl
 repeat (any_goals (first | assumption | with_reducible refine Looks.at (by assumption) ?_ | wp_step))
 refine aEz X T p ?_
 repeat (any_goals (first | assumption | wp_step))
theorem aF6 {Q : Option Value -> Shared -> Prop} (X : K.In h) (T : ExcK K C) (p : ExcAt a (.ref C) h) (hq : Q (some (.ref C)) ⟨h, g, d, t + 1, os⟩) : wpAny (model prog w) A (getAttr? (.ref a) "__class__") Q E ⟨h, g, d, t, os⟩ := by
 unfold getAttr? getAttrBy?
 repeat (any_goals (first | assumption | with_reducible apply aLh X T p | wp_step))
theorem kitx_exc (T : ExcK K C) : KitX K (.ref a) (.ref C) (ExcAt a (.ref C)) where
 ty := fun M _ _ p => p.ty M
 it := fun _ _ X _ => by
  have hs := T.ic
  unfold clsIn at hs
  split at hs
  ·rename_i ho
   intro A' Q' E' s' k q
   unfold isType loadHead
   exact wpAny_bind (wpAny_loadPart (k _ _ (X _ _ ho)) (wpAny_pure q))
  ·cases hs
 ne := fun h tp dd its n sl X htp => by
  refine Bool.eq_false_iff.mpr fun q => ?_
  have e : C = tp := Value.ref.inj (beq_iff_eq.mp q)
  have hs := T.ic
  unfold clsIn at hs
  split at hs
  ·rename_i ho
   have z := X _ _ ho
   rw [e, htp] at z
   cases z
  ·cases hs
 ca := fun {_ _ _ _ _ s} X p k => by
  obtain ⟨hh, gg, dd, tt, oo⟩ := s
  exact aF6 X T p k
end
end PySem.W
namespace L2
open PySem PySem.Spec PyProof.Rows
structure aJe (P : Program) (w : World) (outer : List Env) (H : Hp) (s : Shared) (ea : Addr) (cls : Value) (H' : Hp) (B : Heap) (a0 : Value) (s' : Shared) : Prop where
 os : s'.os = s.os
 bare : AllBare s'.gens
 un : Un (frs outer) [] H H' s.heap s'.heap
 hok : HOk P w H' s'.heap
 fly : Heap.FlyingW B outer ea cls a0 s'.heap
 inB : ∀ b o, s'.heap.get? b = some o -> (H' b ≠ none \/ ((∃ u, s.heap.get? b = some u) /\ b ∉ frs outer)) -> B.get? b = some o
 new : s.heap.get? ea = none
 nt : H' ea = none
def CXr (P : Program) (w : World) : CXT := fun outer H s E e s' =>
 ∃ (ea : Addr) (cls : Value) (H' : Hp) (B : Heap) (a0 : Value), e = .ref ea /\ aJe P w outer H s ea cls H' B a0 s' /\ E cls none H'
theorem oC {P : Program} {w : World} {H : Hp} {h h' : Heap} (ok : HOk P w H h) (k : ∀ b o, H b ≠ none -> h.get? b = some o -> h'.get? b = some o) : HOk P w H h' := fun a o e =>
 (ok a o e).stay (fun b u hb q => k b u (by
  rcases hb with z | z
  ·rw [z, e]; exact fun q => nomatch q
  ·rw [z]; exact fun q => nomatch q) q) (fun _ q => q) fun _ _ q => q
theorem l4 {P : Program} {w : World} {H : Hp} {h : Heap} {a : Addr} {o : HO} (x : ObjOk P w H h a o) : ∃ ob, h.get? a = some ob := by
 cases o with
 | lst xs => obtain ⟨_, _, _, _, e⟩ := x; exact ⟨_, e⟩
 | tup xs => obtain ⟨_, _, _, ob, e, _⟩ := x; exact ⟨_, e⟩
 | dK kvs => obtain ⟨_, _, _, _, o, _, _, e, _⟩ := x; exact ⟨_, e⟩
 | dT kvs => obtain ⟨_, _, _, _, o, _, _, e, _⟩ := x; exact ⟨_, e⟩
 | set S n => obtain ⟨o, _, _, _, e, _⟩ := x; exact ⟨_, e⟩
 | ins C dx fs => obtain ⟨_, _, _, e, _⟩ := x; exact ⟨_, e⟩
 | own y => exact x
 | xd fs => obtain ⟨_, ⟨_, _, _, e, _⟩, _⟩ := x; exact ⟨_, e⟩
 | rng lo hi => obtain ⟨_, _, _, e⟩ := x; exact ⟨_, e⟩
 | frz ob u => obtain ⟨e, _⟩ := x; exact ⟨_, e⟩
 | tbl ps => obtain ⟨_, e, _⟩ := x; exact ⟨_, e⟩
 | met f y => exact ⟨_, (show h.get? a = some _ from x)⟩
 | ext φ => obtain ⟨_, e, _⟩ := x; exact e
theorem HOk.there {P : Program} {w : World} {H : Hp} {h : Heap} {a : Addr} (x : HOk P w H h) (n : H a ≠ none) : ∃ ob, h.get? a = some ob := by
 cases q : H a with
 | none => exact absurd q n
 | some u => exact l4 (x a u q)
section
variable {P : Program} {w : World} {K : PySem.W.Frag} {mg : Str -> Option Value} {base : Heap} {N : List Str} {qual : Str} {scope : Scope} {f : Addr} {cd : Value} {A : Around} {outer : List Env} {s : Shared} {H : Hp} {E : XK}
theorem oO {env : Env} {l : List Env} {L : Addr} (h : env.frame = some L) : frs (env :: l) = L :: frs l := by
 unfold frs
 rw [List.filterMap_cons, h]
theorem uP {X : Cx} {pins : List (Addr × Obj)} {σ : St} {H1 H' : Hp} {s1 : Shared} {B h'' : Heap} {ea : Addr} {cls a0 : Value} {g' : Array GenState} {d' : Drawn} {t' : Nat} {os' : OsState}
  (I : Inv X pins σ H1 s1) (hx : X.ex = []) (hs : X.env.locals ∉ frs X.outer)
  (ho : os' = X.s₀.os) (hg : AllBare g')
  (fly : Heap.FlyingW B X.outer ea cls a0 h'')
  (kp : ∀ b o, s1.heap.get? b = some o -> H1 b = none -> b ∉ frs X.outer -> b ≠ X.env.locals -> B.get? b = some o)
  (sl : ∀ b o, s1.heap.get? b = some o -> b ∈ frs X.outer -> ∃ sl, h''.get? b = some { o with slots := sl })
  (fr : ∀ b o, s1.heap.get? b = some o -> H1 b = none -> H' b = none)
  (tups : ∀ b xs, H1 b = some (.tup xs) -> H' b = some (.tup xs)) (frzs : ∀ b o u, H1 b = some (.frz o u) -> H' b = some (.frz o u)) (tbls : ∀ b ps, H1 b = some (.tbl ps) -> ∃ more, H' b = some (.tbl (ps ++ more)))
  (hok : HOk X.prog X.w H' h'') (inH : ∀ b o, h''.get? b = some o -> H' b ≠ none -> B.get? b = some o)
  (th : ∀ b o, s1.heap.get? b = some o -> H1 b ≠ none -> ∃ o', h''.get? b = some o')
  (inB : ∀ b o, s1.heap.get? b = some o -> b ∉ frs X.outer -> b ≠ X.env.locals -> ∃ o', B.get? b = some o')
  (new : s1.heap.get? ea = none) (nt : H' ea = none) :
  aJe X.prog X.w X.outer X.H₀ X.s₀ ea cls H' B a0 ⟨h'', g', d', t', os'⟩ := by
 have hxn : ∀ b : Addr, b ∉ X.ex := fun b z => by rw [hx] at z; cases z
 have neL : ∀ b o, X.s₀.heap.get? b = some o -> b ≠ X.env.locals := fun b o e => Nat.ne_of_lt (Nat.lt_of_lt_of_le (Heap.lt_size e) I.ok.above)
 have st := fly.1
 refine ⟨ho, hg, ⟨fun b o e n hb _ => ?_, fun b o e n hb _ => ?_, fun b o e n _ => ?_, fun b o e _ => ?_, fun b xs e => tups b xs (I.base.tups b xs e), fun b o u e => frzs b o u (I.base.frzs b o u e), fun b ps e => ?_⟩, hok, fly, fun b o e hb => ?_, ?_, nt⟩
 ·exact st b o (kp b o (I.base.keep b o e n hb (hxn b)) (I.base.free b o e n (hxn b)) hb (neL b o e))
 ·obtain ⟨l1, e1⟩ := I.base.slot b o e n hb (hxn b)
  obtain ⟨l2, e2⟩ := sl b _ e1 hb
  exact ⟨l2, e2⟩
 ·obtain ⟨o1, e1⟩ := I.base.there b o e (hxn b)
  exact fr b o1 e1 (I.base.free b o e n (hxn b))
 ·obtain ⟨o1, e1⟩ := I.base.there b o e (hxn b)
  by_cases hb : b ∈ frs X.outer
  ·obtain ⟨l2, e2⟩ := sl b o1 e1 hb
   exact ⟨_, e2⟩
  ·obtain ⟨o2, e2⟩ := inB b o1 e1 hb (neL b o e)
   exact ⟨o2, st b o2 e2⟩
 ·obtain ⟨m1, e1⟩ := I.base.tbls b ps e
  obtain ⟨m2, e2⟩ := tbls b _ e1
  exact ⟨m1 ++ m2, by rw [e2, Array.append_assoc]⟩
 ·rcases hb with hb | ⟨⟨u, hu⟩, hb⟩
  ·exact inH b o e hb
  ·obtain ⟨o1, e1⟩ := I.base.there b u hu (hxn b)
   obtain ⟨o2, e2⟩ := inB b o1 e1 hb (neL b u hu)
   have e3 := st b o2 e2
   have e4 : h''.get? b = some o := e
   rw [e3] at e4
   cases e4
   exact e2
 ·cases q : X.s₀.heap.get? ea with
  | none => rfl
  | some o =>
   obtain ⟨o', e'⟩ := I.base.there ea o q (hxn ea)
   rw [new] at e'
   cases e'
theorem aLt : aJ8 (CXr P w) (pI (CXr P w) P w K mg base N qual scope f cd A outer s H E) E := by
 intro pins σ H1 s1 e s1' I h
 obtain ⟨ea, cls, H', B, a0, rfl, F, want⟩ := h
 have hfr : (pI (CXr P w) P w K mg base N qual scope f cd A outer s H E).A.frames = some (envOfC qual scope s.heap.objs.size f cd :: outer) := I.ok.frames
 have hstk : frs (pI (CXr P w) P w K mg base N qual scope f cd A outer s H E).stack = s.heap.objs.size :: frs outer := oO rfl
 have hLo : s.heap.objs.size ∉ frs outer := fun z => by
  obtain ⟨_, o, ho, _⟩ := I.ok.funs.mem z
  exact absurd (Heap.lt_size ho) (Nat.lt_irrefl _)
 have nst : ∀ {b : Addr}, b ∉ frs outer -> b ≠ s.heap.objs.size -> b ∉ frs (pI (CXr P w) P w K mg base N qual scope f cd A outer s H E).stack := fun h1 h2 z => by
  rw [hstk] at z
  rcases List.mem_cons.mp z with z | z
  ·exact h2 z
  ·exact h1 z
 show wpAny (model P w) _ (leaving _ (.ref ea)) _ _ s1'
 refine wpAny_leaves_onW hfr rfl F.fly fun h'' fl' up => ?_
 have inB' : ∀ b o, s1'.heap.get? b = some o -> H' b ≠ none -> h''.get? b = some o := fun b o e n => fl'.1 b o (F.inB b o e (.inl n))
 refine ⟨ea, cls, H', B, a0, rfl, uP (X := pI (CXr P w) P w K mg base N qual scope f cd A outer s H E) I rfl hLo (F.os.trans I.os) F.bare fl' (fun b o e n hb hL => ?_) (fun b o e hb => ?_) (fun b o e n => F.un.free b o e n (by simp)) F.un.tups F.un.frzs F.un.tbls
  (oC F.hok fun b o n e => inB' b o e n) (fun b o e n => ?_) (fun b o e n => ?_) (fun b o e hb hL => ?_) F.new F.nt, want⟩
 ·exact F.inB b o (F.un.keep b o e n (nst hb hL) (by simp)) (.inr ⟨⟨o, e⟩, nst hb hL⟩)
 ·have hb' : b ∈ frs outer := hb
  have n : H1 b = none := by
   have := I.stkFree b (by rw [hstk]; exact List.mem_cons_of_mem _ hb')
   exact this
  obtain ⟨l1, e1⟩ := F.un.slot b o e n (by rw [hstk]; exact List.mem_cons_of_mem _ hb') (by simp)
  obtain ⟨_, o', ho', hd'⟩ := F.fly.2.2.1.mem (b := b) (by
   have : b ∈ frs (pI (CXr P w) P w K mg base N qual scope f cd A outer s H E).stack := by rw [hstk]; exact List.mem_cons_of_mem _ hb'
   exact this)
  rw [e1] at ho'
  cases ho'
  obtain ⟨l2, e2⟩ := up b _ e1 hd'
  exact ⟨l2, e2⟩
 ·obtain ⟨o1, e1⟩ := F.hok.there n
  have e2 := F.inB b o1 e1 (.inl n)
  have e3 := fl'.1 b o1 e2
  rw [e] at e3
  cases e3
  exact e2
 ·obtain ⟨o1, e1⟩ := F.un.there b o e (by simp)
  by_cases hb : b ∈ frs outer
  ·have hz : H1 b = none := I.stkFree b (by rw [hstk]; exact List.mem_cons_of_mem _ hb)
   exact absurd hz n
  ·by_cases hL : b = s.heap.objs.size
   ·have hz : H1 b = none := I.stkFree b (by rw [hstk, hL]; exact List.mem_cons_self)
    exact absurd hz n
   ·exact ⟨o1, fl'.1 b o1 (F.inB b o1 e1 (.inr ⟨⟨o, e⟩, nst hb hL⟩))⟩
 ·obtain ⟨o1, e1⟩ := F.un.there b o e (by simp)
  exact ⟨o1, F.inB b o1 e1 (.inr ⟨⟨o, e⟩, nst hb hL⟩)⟩
def aAe (X : Cx) (E : XK) : Prop := ∀ (pins : List (Addr × Obj)) (σ : St) (H : Hp) (s : Shared) (C : Addr) (h' : Heap) (e : Addr) (vs : List Value), Inv X pins σ H s -> Heap.MadeExcOf s.heap h' e (.ref C) vs -> E (.ref C) none H -> X.xe (.ref e) { s with heap := h' }
theorem sO : aAe (pI (CXr P w) P w K mg base N qual scope f cd A outer s H E) E := by
 intro pins σ H1 s1 C h' e vs I hx want
 have hstk : frs (pI (CXr P w) P w K mg base N qual scope f cd A outer s H E).stack = s.heap.objs.size :: frs outer := oO rfl
 have hfr : (pI (CXr P w) P w K mg base N qual scope f cd A outer s H E).A.frames = some (envOfC qual scope s.heap.objs.size f cd :: outer) := I.ok.frames
 have hLo : s.heap.objs.size ∉ frs outer := fun z => by
  obtain ⟨_, o, ho, _⟩ := I.ok.funs.mem z
  exact absurd (Heap.lt_size ho) (Nat.lt_irrefl _)
 have st : s1.heap.FunFrames base (envOfC qual scope s.heap.objs.size f cd :: outer) := I.stack
 have fin : s1.heap.FunFrames (PySem.W.hideAll s1.heap (s.heap.objs.size :: frs outer)) (envOfC qual scope s.heap.objs.size f cd :: outer) :=
  PySem.W.funFrames_hide st fun env he a ha => by
   rw [<- hstk]
   exact List.mem_filterMap.mpr ⟨env, he, ha⟩
 have nfr : ∀ {b : Addr}, H1 b ≠ none -> b ∉ s.heap.objs.size :: frs outer := fun n z => n (I.stkFree _ (by rw [hstk]; exact z))
 have nin : ∀ {b : Addr}, b ∉ frs outer -> b ≠ s.heap.objs.size -> b ∉ s.heap.objs.size :: frs outer := fun h1 h2 z => (List.mem_cons.mp z).elim h2 h1
 show wpAny (model P w) _ (leaving _ (.ref e)) _ _ { s1 with heap := h' }
 refine wpAny_leaves_madeW (base := PySem.W.hideAll s1.heap (s.heap.objs.size :: frs outer)) (h := s1.heap) hfr rfl (fun b o q => PySem.W.of_hideAll _ q) fin hx fun h'' t fl _ _ up => ?_
 refine ⟨e, .ref C, H1, _, .ref t, rfl, uP (X := pI (CXr P w) P w K mg base N qual scope f cd A outer s H E) I rfl hLo I.os I.bare fl (fun b o q n hb hL => PySem.W.hideAll_get _ q (nin hb hL)) (fun b o q hb => ?_) (fun _ _ _ n => n) (fun _ _ q => q) (fun _ _ _ q => q)
  (fun b ps q => ⟨#[], by rw [q]; simp⟩) (oC I.hok fun b o n q => fl.1 b o (PySem.W.hideAll_get _ q (nfr n))) (fun b o q n => ?_) (fun b o q n => ⟨o, fl.1 b o (PySem.W.hideAll_get _ q (nfr n))⟩) (fun b o q hb hL => ⟨o, PySem.W.hideAll_get _ q (nin hb hL)⟩) hx.new ?_, want⟩
 ·obtain ⟨_, o', ho', hd'⟩ := st.mem (b := b) (by
   have : b ∈ frs (envOfC qual scope s.heap.objs.size f cd :: outer) := by
    rw [oO rfl]
    exact List.mem_cons_of_mem _ hb
   exact this)
  rw [q] at ho'
  cases ho'
  exact up b o (hx.keeps b o q) hd'
 ·obtain ⟨o1, e1⟩ := I.hok.there n
  have e2 := PySem.W.hideAll_get _ e1 (nfr n)
  have e3 := fl.1 b o1 e2
  rw [q] at e3
  cases e3
  exact e2
 ·cases q : H1 e with
  | none => rfl
  | some u =>
   obtain ⟨ob, eo⟩ := l4 (I.hok e u q)
   rw [hx.new] at eo
   cases eo
end
section
variable {X : Cx} {E : XK}
def aGu (C : Addr) (E : XK) (t : TA) : TS := fun _ σ H => t σ H fun vs H1 => vs.length <= sizeLine /\ E (.ref C) none H1
theorem aB5 {x : Str} {e₀ : Expr} {rest : List Expr} {t : TA} {C : Addr} {bm : List Value} {B newId initId : String} {np cpos pos : Pos} (hx : aAe X E) (hc : X.calm = true) (hg : Gl X x) (O : OwnCls x C bm newId X.mg X.base)
  (FB : ExcBaseFacts B newId initId bm) (ha : PA X (e₀ :: rest) t) (hdb : (x == ("__debug__" : Str)) = false := by decide)
  (he : starEach (e₀ :: rest) X.env = (false, eval e₀ X.env) :: starEach rest X.env := by rfl) (hpl : (backTo cpos (starEach rest X.env)).any (·.1) = false := by rfl) :
  PS X (.Raise (some (.Call (.Name x np) (e₀ :: rest) [] cpos)) none pos) (aGu C E t) := by
 intro pins s σ H D I h
 obtain ⟨tl, NN, nm, qn, bs, hdc, sn, sb, ab, cl, dd, z0, z1, z2, z3, z5, mN, hC, hN, hni, T⟩ := O.obj
 have hp : (backTo cpos (starEach (e₀ :: rest) X.env)).any (·.1) = false := by
  rw [he]
  show (false || (backTo cpos (starEach rest X.env)).any (·.1)) = false
  rw [hpl]
  all_goals rfl
 have h2 := ha cpos pins s σ H _ I h
 refine wpAny_Raise_call_subT (bm := tl) (N := NN) (nm := nm) (q := qn) (bs := bs) (hdct := hdc) (sn := sn) (sub := sb) (ab := ab) (col := cl) (dd := dd) (k0 := z0) (k1 := z1) (k2 := z2) (k3 := z3) (k5 := z5) FB (T.hasType FB.hasBase) (I.ok.hd hc) hp hni
  (r0 I hg O.bound ⟨rfl, ?_⟩ hdb)
 rw [he] at h2 ⊢
 refine Calls.evalArgs_plain (thn h2 fun us s2 ⟨vs, H1, I1, r, z, w'⟩ => ?_)
 exact ⟨rfl, by rw [<- r.length]; exact z, I1.bk _ _ hC, hN.keeps I1.bk, T.keeps I1.bk, fun h' e hm => hx pins σ H1 s2 C h' e us I1 hm w'⟩
end
def lW (CX : CXT) (X : Cx) (E : St -> XK) : Prop := ∀ (pins : List (Addr × Obj)) (σ : St) (H : Hp) (s : Shared) (e : Value) (s' : Shared), Inv X pins σ H s -> CX X.stack H s (E σ) e s' -> X.xe e s'
def aHt (sp : Sp) (E : St -> XK) (t : TA) : TE := fun σ H Q => t σ H fun vs H1 => sp vs H1 Q (E σ)
section
variable {X : Cx} {CX : CXT} {k : Nat} {f : Addr} {fd : FuncData} {ps : List Str} {sp : Sp} {E : St -> XK} {x : Str} {p pos : Pos} {e : Expr} {es : List Expr} {t : TA}
theorem aCc (F : FnOk X.prog X.w X.K X.mg X.base CX k f fd ps sp) (hr : Room k X.A) (hg : Gl X x) (hm : X.mg x = some (.ref f)) (hk : PySem.W.keepIn X.K (.ref f) = true) (hb : Binds X.K fd ps []) (hx : lW CX X E)
  (ha : PA X (e :: es) t) (hdb : (x == ("__debug__" : Str)) = false := by decide) (he : starEach (e :: es) X.env = (false, eval e X.env) :: starEach es X.env := by rfl) (hpl : (backTo pos (starEach es X.env)).any (·.1) = false := by rfl) :
  PE X (.Call (.Name x p) (e :: es) [] pos) (aHt sp E t) := by
 intro pins s σ H Q I h
 refine wpAny_Call_Name_kw (r0 I hg hm ?_ hdb)
 refine PySem.W.callWith_K (h₀ := X.base) I.ok.mod.kin hk (thn (ha pos pins s σ H _ I h) fun us s1 ⟨vs, H1, I1, r, q⟩ => ⟨I1.kIn, ?_⟩) he hpl
 have hl : us.length = ps.length := by rw [<- r.length]; exact F.len _ _ _ _ q
 have hb' := hb s1 us I1.kIn (by rw [List.append_nil]; exact hl)
 rw [List.append_nil] at hb'
 refine wpAny_call (codeAny_mono (F.run X.A X.stack s1 H1 ⟨us, []⟩ us vs Q (E σ) hr I1.env0 hb' r q) fun rr s' hq => ?_)
 cases rr with
 | error e' => exact hx pins σ H1 s1 e' s' I1 hq
 | ok fl =>
  cases fl with
  | ret u => exact I1.after hq
  | next => exact False.elim hq
  | brk => exact False.elim hq
  | cont => exact False.elim hq
end
section
variable {X : Cx} {k : Nat} {f : Addr} {fd : FuncData} {ps : List Str} {sp : Sp} {x : Str} {p pos : Pos} {e : Expr} {es : List Expr} {t : TA}
end
def aGk (e : Addr) (cls : Value) : HO := .ext fun h => ∃ o, h.get? e = some o /\ o.cls = cls /\ ∃ vs, o.data = .fields vs
abbrev cD (X : Cx) (scope : Scope) (cl : List (Str × Addr)) (C : Addr) (N : List Str) (s₀ : Shared) (H₀ : Hp) (ex : List Addr) (pn : List (Addr × Obj)) : Cx :=
 { X with env := compEnvC scope cl C X.env, N := N, s₀ := s₀, H₀ := H₀, outer := X.stack, stack := X.stack, ex := ex, fn := fun _ => false, pn := pn, xe := fun _ _ => False }
structure aJa (X : Cx) (scope : Scope) (cl : List (Str × Addr)) : Prop where
 clos : closureFor scope X.env = pure cl
 sub : ∀ y c, cl.lookup y = some c -> X.env.cells.lookup y = some c
 has : ∀ y, (relabel scope X.env).names.lookup y = some .cell \/ (relabel scope X.env).names.lookup y = some .free -> ∃ c, cl.lookup y = some c
def vO (js : List Nat) (σ : St) : St := js.map fun j => (σ[j]?).getD none
structure rA (X : Cx) (scope : Scope) (cl : List (Str × Addr)) (ys : List Str) (js : List Nat) : Prop where
 len : ys.length = js.length
 at_ : ∀ (i : Nat) (y : Str) (j : Nat), ys[i]? = some y -> js[i]? = some j -> X.N[j]? = some y /\ (X.env.kindOf y = some .cell \/ X.env.kindOf y = some .free) /\ ((relabel scope X.env).names.lookup y = some .cell \/ (relabel scope X.env).names.lookup y = some .free) /\ (X.env.cells.lookup y).isSome = true /\ cl.lookup y = X.env.cells.lookup y
section
variable {X : Cx}
end
def Sz (n : Nat) (x : Int) : Prop := x.natAbs < 2 ^ n
theorem Sz.mono {m n : Nat} {x : Int} (h : Sz m x) (l : m <= n) : Sz n x := Nat.lt_of_lt_of_le h (Nat.pow_le_pow_right (by decide) l)
theorem Sz.mul {m n : Nat} {x y : Int} (hx : Sz m x) (hy : Sz n y) : Sz (m + n) (x * y) := by
 unfold Sz at *
 rw [Int.natAbs_mul, Nat.pow_add]
 exact Nat.mul_lt_mul'' hx hy
theorem Sz.add {n : Nat} {x y : Int} (hx : Sz n x) (hy : Sz n y) : Sz (n + 1) (x + y) := by
 unfold Sz at *
 have := Int.natAbs_add_le x y
 rw [Nat.pow_succ]
 omega
theorem Sz.le {n : Nat} {x y : Int} (hy : Sz n y) (h : x.natAbs <= y.natAbs) : Sz n x := Nat.lt_of_le_of_lt h hy
def CMulW (i j : Int) : Prop := Sz 60000 i /\ Sz 60000 j
theorem CMulW.ok {i j : Int} (h : CMulW i j) : IntMulOk i j := .of_le (intBits_le_iff.mpr h.1) (intBits_le_iff.mpr h.2) (by decide)
def kW (i j : Int) : Prop := j ≠ 0 /\ Sz 8000 j
section
variable {X : Cx}
theorem eT : OpR X (binaryOp .Mult) (rI CMulW fun i j => .int (i * j)) := opI fun _ _ _ _ _ _ _ hc q => mul_int q hc.ok
theorem log2_small {n : Nat} (h : n < 2 ^ 8000) : n.log2 < 9000 := by
 by_cases z : n = 0
 ·rw [z]; decide
 ·have : n.log2 < 8000 := (Nat.log2_lt z).mpr h
  omega
theorem fS : OpR X (binaryOp .FloorDiv) (rI kW fun i j => .int (i.fdiv j)) := opI fun _ _ _ _ _ _ _ hc q => floordiv_int hc.1 q (.inl (PyProof.noPylong_of_log2 (log2_small hc.2)))
inductive TyX (K : PySem.W.Frag) (H : Hp) : V -> Value -> Prop where
 | plain {x : V} {t : Value} (h : uQ K H x t) : TyX K H x t
 | exc {a C : Addr} (e : H a = some (aGk a (.ref C))) (T : PySem.W.ExcK K C) : TyX K H (.ref a) (.ref C)
theorem RelV.tyOrRef {y : V} {c u : Value} (h : (∃ n, y = .ty n) \/ ∃ a, y = .ref a) (r : RelV y c) (r' : RelV y u) : u = c := by
 rcases h with ⟨n, rfl⟩ | ⟨n, rfl⟩
 ·cases r; cases r'; rfl
 ·cases r; cases r'; rfl
def aJs (K : PySem.W.Frag) : List V -> Hp -> VK -> Prop := fun xs H Q => ∃ x y t c b, xs = [x, y] /\ ((∃ n, y = .ty n) \/ ∃ a, y = .ref a) /\ TyX K H x t /\ RelV y c /\ PySem.W.kitOne K t c = some b /\ Q (.bl b) H
theorem aCs : CallR X (.builtin "isinstance") (aJs X.K) := by
 intro pins s σ H xs us Q I r h
 obtain ⟨x, y, t, c, b, rfl, hy, ty, rc, e, q⟩ := h
 obtain ⟨u, w', rfl, r1, r2⟩ := vals2 r
 have ec := RelV.tyOrRef hy rc r2
 subst ec
 cases ty with
 | plain ty => exact xY I r1 ty e fun tk => ⟨.bl b, H, I.tok _, rfl, q⟩
 | @exc a C ea T =>
  cases (show u = Value.ref a from r1)
  obtain ⟨p, _, _⟩ := (show ObjOk X.prog X.w H s.heap a (aGk a (.ref C)) from I.hok a _ ea)
  exact PySem.W.kia_one (PySem.W.kitx_exc T) I.kIn p e (fun z => nomatch z) fun tk => ⟨.bl b, H, I.tok _, rfl, q⟩
end
def aM7 (K : PySem.W.Frag) (te : TE) (v : V) : TE := fun σ H Q => te σ H fun x H1 => aJs K [x, v] H1 Q
theorem aH7 {X : Cx} {e c : Expr} {te : TE} {v : V} {p pos : Pos} (hg : Gl X "isinstance") (hm : X.mg "isinstance" = none) (he : PE X e te) (hc : PE X c (tC v)) (h1 : starEach [e, c] X.env = (false, eval e X.env) :: starEach [c] X.env := by rfl)
  (h2 : (backTo pos (starEach [c] X.env)).any (·.1) = false := by rfl) (h3 : starEach [c] X.env = (false, eval c X.env) :: starEach [] X.env := by rfl) : PE X (.Call (.Name "isinstance" p) [e, c] [] pos) (aM7 X.K te v) := fun pins s σ H Q I h =>
 uO aCs hg hm (by decide +kernel) (mK he (mK hc uS h3) h1) (by decide) (by decide) h1 h2 pins s σ H Q I h
theorem Fun.okX {P : Program} {w : World} {K : PySem.W.Frag} {mg : Str -> Option Value} {base : Heap} {x qual : Str} {st : Stmt} {f : Addr} {fd : FuncData} {N ps : List Str} {k : Nat} {sp : Sp} (F : Fun K x qual st f fd) (S : aX N ps (aK st)) (len : ∀ vs H Q E, sp vs H Q E -> vs.length = ps.length)
  (hbody : ∀ (cdv : Value) (A : Around) (outer : List Env) (s : Shared) (H : Hp) (vs : List V) (Q : VK) (E : XK), Room k (A.deeper (envOfC qual (aK st) s.heap.objs.size f cdv)) -> sp vs H Q E ->
   ∃ t, PSs (pI (CXr P w) P w K mg base N qual (aK st) f cdv A outer s H E) (eU st) t /\ t { nx := fun _ H' => Q .non H', rt := Q } (start N vs) H) : FnOk P w K mg base (CXr P w) (k + 1) f fd ps sp := by
 obtain ⟨oc, od, kV, doc, pm, an, cdv, ct, osl, rfl, lk, hcd⟩ := F.ex
 exact aLn lk hcd S len fun A outer s H vs Q E hr hsp => hbody cdv A outer s H vs Q E hr hsp
theorem Same.upd {H H' : Hp} {p : Addr} (h : Same H H') (hp : H' p = none) (o : HO) : Same H (upd H' p o) := fun b u q => by
 have := h b u q
 rw [bC (b0 this hp)]
 exact this
end L2
namespace FR
theorem vG {a b : Int} (ha : 0 <= a) (hb : 0 <= b) : Int.gcd b (a % b) = Int.gcd a b := by
 obtain ⟨m, rfl⟩ := Int.eq_ofNat_of_zero_le ha
 obtain ⟨n, rfl⟩ := Int.eq_ofNat_of_zero_le hb
 rw [<- Int.natCast_emod, Int.gcd_natCast_natCast, Int.gcd_natCast_natCast, Nat.gcd_comm n, <- Nat.gcd_rec, Nat.gcd_comm]
theorem xQ (a b : Int) : Int.gcd (if a < 0 then -a else a) (if b < 0 then -b else b) = Int.gcd a b := by
 split <;> split <;> simp [Int.gcd_neg, Int.neg_gcd]
theorem yR {a : Int} (ha : 0 <= a) : ((Int.gcd a 0 : Nat) : Int) = a := by
 rw [Int.gcd_zero_right]
 omega
def sgn (b : Int) (g : Int) : Int := if b < 0 then -g else g
def mk (t b : Int) : Int × Int := (t.fdiv (sgn b (Int.gcd t b)), b.fdiv (sgn b (Int.gcd t b)))
theorem sE {t b : Int} (hb : b ≠ 0) : 0 < Int.gcd t b := Int.gcd_pos_of_ne_zero_right t hb
theorem parts (t b : Int) (hb : b ≠ 0) : ∃ t' b' : Int, t = (Int.gcd t b : Int) * t' /\ b = (Int.gcd t b : Int) * b' /\ Int.gcd t' b' = 1 := by
 obtain ⟨t', ht⟩ := Int.gcd_dvd_left t b
 obtain ⟨b', hb'⟩ := Int.gcd_dvd_right t b
 refine ⟨t', b', ht, hb', ?_⟩
 have g0 := sE (t := t) hb
 have e : Int.gcd t b = Int.gcd t b * Int.gcd t' b' := by
  have h : Int.gcd ((Int.gcd t b : Int) * t') ((Int.gcd t b : Int) * b') = (Int.gcd t b : Int).natAbs * Int.gcd t' b' := Int.gcd_mul_left ..
  rw [<- ht, <- hb'] at h
  simpa using h
 have e2 : Int.gcd t b * 1 = Int.gcd t b * Int.gcd t' b' := by omega
 exact (Nat.eq_of_mul_eq_mul_left g0 e2).symm
theorem aBy {t b g t' b' : Int} (g0 : 0 < g) (ht : t = g * t') (hb : b = g * b') : (t.fdiv (sgn b g) = (if b < 0 then -t' else t')) /\ (b.fdiv (sgn b g) = if b < 0 then -b' else b') := by
 unfold sgn
 by_cases h : b < 0
 ·rw [if_pos h, if_pos h, if_pos h]
  have e1 : t = (-g) * (-t') := by rw [ht, Int.neg_mul_neg]
  have e2 : b = (-g) * (-b') := by rw [hb, Int.neg_mul_neg]
  constructor
  ·conv => lhs; rw [e1]
   exact Int.mul_fdiv_cancel_left _ (by omega)
  ·conv => lhs; rw [e2]
   exact Int.mul_fdiv_cancel_left _ (by omega)
 ·rw [if_neg h, if_neg h, if_neg h]
  constructor
  ·conv => lhs; rw [ht]
   exact Int.mul_fdiv_cancel_left _ (by omega)
  ·conv => lhs; rw [hb]
   exact Int.mul_fdiv_cancel_left _ (by omega)
structure Fr (f : Int × Int) : Prop where
 pos : 1 <= f.2
 low : Int.gcd f.1 f.2 = 1
theorem aLy {t b : Int} (hb : b ≠ 0) : Fr (mk t b) /\ (mk t b).1 * b = t * (mk t b).2 := by
 obtain ⟨t', b', e1, e2, e3⟩ := parts t b hb
 have g0 : (0 : Int) < (Int.gcd t b : Int) := by have := sE (t := t) hb; omega
 obtain ⟨p1, p2⟩ := aBy g0 e1 e2
 have q1 : (mk t b).1 = if b < 0 then -t' else t' := p1
 have q2 : (mk t b).2 = if b < 0 then -b' else b' := p2
 have hs : b < 0 ↔ b' < 0 := by
  constructor
  ·intro h
   rcases Int.lt_or_le b' 0 with z | z
   ·exact z
   ·have := Int.mul_nonneg (Int.le_of_lt g0) z
    omega
  ·intro h
   have := Int.mul_neg_of_pos_of_neg g0 h
   omega
 have hb' : b' ≠ 0 := by
  rintro rfl
  rw [Int.mul_zero] at e2
  exact hb e2
 refine ⟨⟨?_, ?_⟩, ?_⟩
 ·rw [q2]
  split
  ·rename_i h
   have := hs.mp h
   omega
  ·rename_i h
   have : ¬ b' < 0 := fun z => h (hs.mpr z)
   omega
 ·rw [q1, q2]
  split
  ·rw [Int.gcd_neg, Int.neg_gcd, e3]
  ·exact e3
 ·rw [q1, q2]
  generalize hg : (Int.gcd t b : Int) = g at *
  rw [e1, e2]
  split
  ·rw [Int.neg_mul, Int.mul_neg, Int.mul_left_comm, Int.mul_assoc]
  ·rw [Int.mul_left_comm, Int.mul_assoc]
end FR
namespace L2
open PySem PySem.Spec PyProof.Rows
theorem kA {h h' : Heap} {o : Obj} (hk : ∀ b x, b ∉ [h.objs.size] -> (h.push o).get? b = some x -> h'.get? b = some x) : ∀ b x, h.get? b = some x -> h'.get? b = some x := fun b x e =>
 hk b x (fun m => Nat.lt_irrefl _ (List.mem_singleton.mp m ▸ Heap.lt_size e)) (Heap.get?_push_of_some _ e)
theorem vF {h : Heap} {o : Obj} {l : Addr} (hl : l < h.objs.size) : ∀ b ∈ [h.objs.size, l], b < (h.push o).objs.size := fun b hb => by
 rw [Heap.size_push]
 rcases List.mem_cons.mp hb with e | hb
 ·subst e; exact Nat.lt_succ_self _
 ·rcases List.mem_cons.mp hb with e | hb
  ·subst e; exact Nat.lt_succ_of_lt hl
  ·cases hb
section
variable {X : Cx}
def aMf (K : PySem.W.Frag) : List V -> Hp -> VK -> Prop := fun xs H Q => ∃ (a : Addr) (bs : List Bool), xs = [.ref a] /\ SqL K H a (bs.map V.bl) /\ Q (.bl (bs.any id)) H
theorem sR : ∀ {bs : List Bool} {us : List Value}, Vals (bs.map V.bl) us -> us = bs.map Value.bool
 | [], _, .nil => rfl
 | _ :: _, _, .cons r t => by
  have e : _ = Value.bool _ := r
  rw [e, sR t]; rfl
theorem any_range (bs : List Bool) : ((List.range bs.length).any fun i => (bs[i]?).getD false) = bs.any id := by
 rw [Bool.eq_iff_iff, List.any_eq_true, List.any_eq_true]
 constructor
 ·rintro ⟨i, hi, e⟩
  have hi := List.mem_range.mp hi
  exact ⟨bs[i], List.getElem_mem hi, by simpa [hi] using e⟩
 ·rintro ⟨b, hb, e⟩
  obtain ⟨i, hi, e2⟩ := List.mem_iff_getElem.mp hb
  exact ⟨i, List.mem_range.mpr hi, by simp [hi, e2]; simpa using e⟩
theorem aBt (hc : X.calm = true) {K : PySem.W.Frag} (hK : X.K = K) : CallR X (.builtin "any") (aMf K) := by
 subst hK
 intro pins s σ H xs us Q I r h
 obtain ⟨a, bs, rfl, hq, q⟩ := h
 obtain ⟨u, rfl, ru⟩ := vals1 r
 cases ru
 obtain ⟨its, rv, p, hz⟩ := I.list hq
 have ei := sR rv
 have hl := p.isList
 have lt : a < s.heap.objs.size := by obtain ⟨_, e, _⟩ := hl; exact Heap.lt_size e
 refine call_any_walk (wpAny_pyIter_list hl ?_)
 refine ⟨s.heap.objs.size, [s.heap.objs.size, a], [s.heap.objs.size], its.toArray.size, _, _, fun i => (bs[i]?).getD false, rfl, Walks.list (A := X.A.in1) (I.ok.hd hc) _ a (Nat.ne_of_lt lt) its.toArray,
  ⟨⟨_, Heap.get?_push_size _ rfl, rfl, rfl⟩, hl.push _⟩, fun i v s' Q' E' hP hQ => ?_, fun h' tk hk => ?_⟩
 ·have e : its[i]? = some v := by simpa using hP
  rw [ei, List.getElem?_map] at e
  cases eb : bs[i]? with
  | none => rw [eb] at e; cases e
  | some b =>
   have hQ : Q' ((bs[i]?).getD false) s' := hQ
   rw [eb] at e hQ
   cases e
   exact wpAny_truthy_bool hQ
 ·have e : its.toArray.size = bs.length := by rw [List.size_toArray, ei, List.length_map]
  rw [e, any_range]
  exact ⟨.bl (bs.any id), H, I.kept (kA hk), rfl, q⟩
def sP (K : PySem.W.Frag) (f : Int -> Int -> Int) : List V -> Hp -> VK -> Prop := fun xs H Q => ∃ a i j, xs = [.ref a] /\ SqT K H a [.int i, .int j] /\ Q (.int (f i j)) H
theorem qO {i j : Int} {us : List Value} (r : Vals [.int i, .int j] us) : ∃ t u, us.toArray = intItems #[(i, t), (j, u)] := by
 obtain ⟨a, b, rfl, ⟨t, rfl⟩, ⟨u, rfl⟩⟩ := vals2 r
 exact ⟨t, u, by simp [intItems]⟩
theorem zS (hc : X.calm = true) {K : PySem.W.Frag} (hK : X.K = K) : CallR X (.builtin "min") (sP K fun i j => if j < i then j else i) := by
 subst hK
 intro pins s σ H xs us Q I r h
 obtain ⟨a, i, j, rfl, hq, q⟩ := h
 obtain ⟨u, rfl, ru⟩ := vals1 r
 cases ru
 obtain ⟨its, rv, p, hz⟩ := I.tuple hq
 obtain ⟨t1, t2, ei⟩ := qO rv
 have hT : s.heap.IsTuple a (intItems #[(i, t1), (j, t2)]) := ei ▸ p
 have lt : a < s.heap.objs.size := by obtain ⟨_, e, _⟩ := p; exact Heap.lt_size e
 refine call_min_walk (wpAny_pyIter_tuple hT ?_)
 refine ⟨_, [_, a], [_], _, _, _, _, rfl, Walks.tuple (A := X.A.in1) (I.ok.hd hc) _ a (Nat.ne_of_lt lt) (intItems #[(i, t1), (j, t2)]), ⟨⟨_, Heap.get?_push_size _ rfl, rfl, rfl⟩, hT.push _⟩, vF lt, by simp [intItems],
  CmpOf.ints_lt (numAt #[(i, t1), (j, t2)]) (fun _ _ => intItems_at), fun v h' tk hP hk => ⟨_, H, I.kept (kA hk), ?_, q⟩⟩
 obtain ⟨t, rfl⟩ := intItems_at hP
 have z : (intItems #[(i, t1), (j, t2)]).size - 1 = 1 := by simp [intItems]
 rw [z]
 by_cases hj : j < i
 ·exact ⟨t, by simp [argBest, numAt, hj]⟩
 ·exact ⟨t, by simp [argBest, numAt, hj]⟩
theorem yN (hc : X.calm = true) {K : PySem.W.Frag} (hK : X.K = K) : CallR X (.builtin "max") (sP K fun i j => if i < j then j else i) := by
 subst hK
 intro pins s σ H xs us Q I r h
 obtain ⟨a, i, j, rfl, hq, q⟩ := h
 obtain ⟨u, rfl, ru⟩ := vals1 r
 cases ru
 obtain ⟨its, rv, p, hz⟩ := I.tuple hq
 obtain ⟨t1, t2, ei⟩ := qO rv
 have hT : s.heap.IsTuple a (intItems #[(i, t1), (j, t2)]) := ei ▸ p
 have lt : a < s.heap.objs.size := by obtain ⟨_, e, _⟩ := p; exact Heap.lt_size e
 refine call_max_walk (wpAny_pyIter_tuple hT ?_)
 refine ⟨_, [_, a], [_], _, _, _, _, rfl, Walks.tuple (A := X.A.in1) (I.ok.hd hc) _ a (Nat.ne_of_lt lt) (intItems #[(i, t1), (j, t2)]), ⟨⟨_, Heap.get?_push_size _ rfl, rfl, rfl⟩, hT.push _⟩, vF lt, by simp [intItems],
  CmpOf.ints_gt (numAt #[(i, t1), (j, t2)]) (fun _ _ => intItems_at), fun v h' tk hP hk => ⟨_, H, I.kept (kA hk), ?_, q⟩⟩
 obtain ⟨t, rfl⟩ := intItems_at hP
 have z : (intItems #[(i, t1), (j, t2)]).size - 1 = 1 := by simp [intItems]
 rw [z]
 by_cases hj : i < j
 ·exact ⟨t, by simp [argBest, numAt, hj]⟩
 ·exact ⟨t, by simp [argBest, numAt, hj]⟩
end
open PySem.W (Dat kqdP kqdPs kqdOk kqd_lay kqd_eqv)
mutual
inductive HasD (H : Hp) : V -> Dat -> Prop
 | int (i : Int) : HasD H (.int i) (.int i)
 | tup {a : Addr} {xs : List V} {ds : List Dat} : H a = some (.tup xs) -> HasDs H xs ds -> HasD H (.ref a) (.tuple ds)
 | lst {a : Addr} {xs : List V} {ds : List Dat} : H a = some (.lst xs) -> HasDs H xs ds -> HasD H (.ref a) (.list ds)
inductive HasDs (H : Hp) : List V -> List Dat -> Prop
 | nil : HasDs H [] []
 | cons {x : V} {xs : List V} {d : Dat} {ds : List Dat} : HasD H x d -> HasDs H xs ds -> HasDs H (x :: xs) (d :: ds)
end
mutual
theorem HasD.keep {H H' : Hp} (k : ∀ a o, H a = some o -> H' a = some o) : ∀ {v : V} {d : Dat}, HasD H v d -> HasD H' v d
 | _, _, .int i => .int i
 | _, _, .tup h r => .tup (k _ _ h) (HasDs.keep k r)
 | _, _, .lst h r => .lst (k _ _ h) (HasDs.keep k r)
theorem HasDs.keep {H H' : Hp} (k : ∀ a o, H a = some o -> H' a = some o) : ∀ {v : List V} {d : List Dat}, HasDs H v d -> HasDs H' v d
 | _, _, .nil => .nil
 | _, _, .cons h r => .cons (HasD.keep k h) (HasDs.keep k r)
end
mutual
theorem HasD.reads {P : Program} {w : World} {H : Hp} {h : Heap} (ok : HOk P w H h) : ∀ {v : V} {d : Dat}, HasD H v d -> ∀ {u : Value}, RelV v u -> ∃ as, Reads h u (kqdP d) as
 | _, _, .int i, _, ⟨t, e⟩ => by subst e; exact ⟨_, Reads.int i t⟩
 | _, _, .tup hh r, _, e => by
  have e : _ = Value.ref _ := e
  subst e
  obtain ⟨_, its, rv, o, ho, hc, n, hd⟩ := (show ObjOk P w H h _ _ from ok _ _ hh)
  obtain ⟨as, q⟩ := HasDs.reads ok r rv
  rw [kqdP]
  exact ⟨as, reads_tuple_at ho hc hd (by simpa using q)⟩
 | _, _, .lst hh r, _, e => by
  have e : _ = Value.ref _ := e
  subst e
  obtain ⟨_, its, n, rv, ho⟩ := (show ObjOk P w H h _ _ from ok _ _ hh)
  obtain ⟨as, q⟩ := HasDs.reads ok r rv
  rw [kqdP]
  exact ⟨_, reads_list_at ho rfl rfl (by simpa using q)⟩
theorem HasDs.reads {P : Program} {w : World} {H : Hp} {h : Heap} (ok : HOk P w H h) : ∀ {vs : List V} {ds : List Dat}, HasDs H vs ds -> ∀ {us : List Value}, Vals vs us -> ∃ as, ReadsAll h us (kqdPs ds) as
 | _, _, .nil, _, .nil => ⟨_, ReadsAll.nil⟩
 | _, _, .cons hd r, _, .cons rv rt => by
  obtain ⟨as, q⟩ := HasD.reads ok hd rv
  obtain ⟨bs, p⟩ := HasDs.reads ok r rt
  rw [kqdPs]
  exact ⟨_, ReadsAll.cons q p⟩
end
section
variable {X : Cx}
end
def RawD (h : Heap) (d : Addr) (es : Array DictEntry) (ep : Nat) : Prop := ∃ o, h.get? d = some o /\ o.ExactDict /\ o.data = .dict es ep
theorem RawD.at {h h' : Heap} {d : Addr} {es : Array DictEntry} {ep : Nat} (x : RawD h d es ep) (k : ∀ o, h.get? d = some o -> h'.get? d = some o) : RawD h' d es ep := let ⟨o, ho, r⟩ := x; ⟨o, k o ho, r⟩
theorem RawD.lt {h : Heap} {d : Addr} {es : Array DictEntry} {ep : Nat} (x : RawD h d es ep) : d < h.objs.size := let ⟨_, ho, _⟩ := x; Heap.lt_size ho
theorem RawD.ty {s : Shared} {d : Addr} {es : Array DictEntry} {ep : Nat} (x : RawD s.heap d es ep) : s.TypeIs (.ref d) "dict" := let ⟨o, ho, hc, _⟩ := x; ⟨o, ho, hc.1⟩
section
variable {prog : Program} {w : World} {A : Around} {E : Value -> Shared -> Prop} {s : Shared} {d it : Addr} {es : Array DictEntry} {ep i : Nat}
theorem aBx {Q : Value -> Shared -> Prop} (hd : (d == sysModules) = false) (hm : RawD s.heap d es ep)
  (q : Q (.ref s.heap.objs.size) { s with heap := s.heap.push { cls := .type "dict_keyiterator", data := .fields #[.ref d, .int 0 0, .int es.size 0, .int ep 0] } }) : wpAny (model prog w) A (pyIter (.ref d)) Q E s := by
 have ty := hm.ty
 obtain ⟨o, ho, hc, hdat⟩ := hm
 refine wpAny_pyIter_slot ty F.slot_dict_iter (wpAny_call_entry F.slot_dict_iter ty F.entry_dict_iter ?_ (F.args_dict_iter_1 _))
 unfold Builtin.«dict.__iter__» Builtin.Dict.dictSlotNone
 refine wpAny_bind (wpAny_bind (wpAny_notOrdered_dict ty (wpAny_pure ?_)))
 unfold Builtin.Dict.showsAll
 refine wpAny_bind (m := Builtin.Dict.addrOf (Value.ref d)) (wpAny_pure ?_)
 rw [if_neg (by rw [hd]; exact Bool.false_ne_true)]
 refine wpAny_bind (wpAny_pure (wpAny_bind (wpAny_dictEntries ho hdat (wpAny_bind (wpAny_dictEpoch ho hdat ?_)))))
 exact wpAny_bind (wpAny_newObj_type (wpAny_pure ⟨_, rfl, _, _, ⟨_, Heap.get?_push_size _ rfl, rfl⟩, F.slot_dict_keyiterator_next.lookup, q⟩))
theorem aCj {Q : Option Value -> Shared -> Prop} (hit : s.heap.IsKeyIter it d i es.size ep) (hm : RawD s.heap d es ep) (lt : i < es.size)
  (q : ∀ h', h'.IsKeyIter it d (i + 1) es.size ep -> Heap.SameBut it s.heap h' -> Q (some es[i].key) { s with heap := h' }) : wpAny (model prog w) A (pyNext (.ref it)) Q E s := by
 have ty := hit.typeIs
 obtain ⟨o, ho, hc, hd⟩ := hit
 obtain ⟨od, hod, _, hdd⟩ := hm
 have own : Builtin.Dict_items.ownsTuple "dict_keyiterator" = false := by decide
 have nn : ¬ ((i : Int) < 0) := Int.not_lt.mpr (Int.natCast_nonneg i)
 unfold pyNext
 refine wpAny_bind (wpAny_attempt (wpAny_callSpecial?_slot (name := Str.ofString "__next__") ty F.slot_dict_keyiterator_next (wpAny_call_entry F.slot_dict_keyiterator_next ty F.entry_dict_keyiterator_next ?_ (F.args_dict_keyiterator_next_1 _))))
 refine wpAny_bind (wpAny_pure (wpAny_bind (wpAny_bind ?_)))
 first | refine wpAny_bind (wpAny_typeNameOfWhole_keyiter ty (wpAny_pure ?_)) | refine wpAny_bind (wpAny_typeNameOf_keyiter ty (wpAny_pure ?_))
 refine wpAny_bind (wpAny_fieldsOf ho hd ?_)
 simp only [own, Bool.false_eq_true, if_false]
 show wpAny _ _ (if (Value.ref d == Value.none) = true then _ else _) _ _ s
 rw [if_neg (by intro z; cases z)]
 refine wpAny_bind (wpAny_pure (wpAny_bind (wpAny_dictEntries hod hdd ?_)))
 rw [if_neg (by simp)]
 refine wpAny_bind (wpAny_pure (wpAny_bind (wpAny_dictEpoch hod hdd ?_)))
 rw [if_neg (by simp)]
 refine wpAny_pure ?_
 simp only [nn, if_false, Int.toNat_natCast, Array.getElem?_eq_getElem lt]
 refine wpAny_bind ?_
 first | refine wpAny_bind (wpAny_typeNameOfWhole_keyiter ty (wpAny_pure ?_)) | refine wpAny_bind (wpAny_typeNameOf_keyiter ty (wpAny_pure ?_))
 refine wpAny_bind (wpAny_isOneOf_keyiter ty ?_)
 refine wpAny_bind (m := setField (.ref it) 1 (rawInt ((i : Int) + 1))) (wpAny_setField ho hd (by simp) ?_)
 have hit' : (s.heap.update it (Obj.mapFields (·.setIfInBounds 1 (rawInt ((i : Int) + 1))))).IsKeyIter it d (i + 1) es.size ep :=
  ⟨_, Heap.get?_update_self _ ho (Obj.isFreed_of_fields (Obj.data_mapFields hd _)), (Obj.cls_mapFields ..).trans hc, (Obj.data_mapFields hd _).trans (by simp [rawInt])⟩
 refine wpAny_bind (wpAny_holding (wpAny_bind (wpAny_isOneOf_keyiter (s := { s with heap := s.heap.update it (Obj.mapFields (·.setIfInBounds 1 (rawInt ((i : Int) + 1)))) }) hit'.typeIs ?_)))
 exact wpAny_pure (wpAny_pure ⟨_, rfl, wpAny_pure (q _ hit' (Heap.SameBut.update ..))⟩)
theorem aE1 {Q : Option Value -> Shared -> Prop} (hh : A.handled = none) (hit : s.heap.IsKeyIter it d es.size es.size ep) (hm : RawD s.heap d es ep) (q : ∀ h', Heap.ExtBut it s.heap h' -> Q none { s with heap := h' }) : wpAny (model prog w) A (pyNext (.ref it)) Q E s := by
 have ty := hit.typeIs
 obtain ⟨o, ho, hc, hd⟩ := hit
 obtain ⟨od, hod, _, hdd⟩ := hm
 have own : Builtin.Dict_items.ownsTuple "dict_keyiterator" = false := by decide
 have nn : ¬ ((es.size : Int) < 0) := Int.not_lt.mpr (Int.natCast_nonneg _)
 unfold pyNext
 refine wpAny_bind (wpAny_attempt (wpAny_callSpecial?_slot (name := Str.ofString "__next__") ty F.slot_dict_keyiterator_next (wpAny_call_entry F.slot_dict_keyiterator_next ty F.entry_dict_keyiterator_next ?_ (F.args_dict_keyiterator_next_1 _))))
 refine wpAny_bind (wpAny_pure (wpAny_bind (wpAny_bind ?_)))
 first | refine wpAny_bind (wpAny_typeNameOfWhole_keyiter ty (wpAny_pure ?_)) | refine wpAny_bind (wpAny_typeNameOf_keyiter ty (wpAny_pure ?_))
 refine wpAny_bind (wpAny_fieldsOf ho hd ?_)
 simp only [own, Bool.false_eq_true, if_false]
 show wpAny _ _ (if (Value.ref d == Value.none) = true then _ else _) _ _ s
 rw [if_neg (by intro z; cases z)]
 refine wpAny_bind (wpAny_pure (wpAny_bind (wpAny_dictEntries hod hdd ?_)))
 rw [if_neg (by simp)]
 refine wpAny_bind (wpAny_pure (wpAny_bind (wpAny_dictEpoch hod hdd ?_)))
 rw [if_neg (by simp)]
 refine wpAny_pure ?_
 simp only [nn, if_false, Int.toNat_natCast, Array.getElem?_eq_none (Nat.le_refl es.size)]
 refine wpAny_bind ?_
 first | refine wpAny_bind (wpAny_typeNameOfWhole_keyiter ty (wpAny_pure ?_)) | refine wpAny_bind (wpAny_typeNameOf_keyiter ty (wpAny_pure ?_))
 refine wpAny_bind (m := setField (.ref it) 0 .none) (wpAny_setField ho hd (by simp) ?_)
 refine wpAny_bind (m := newExc (.type "StopIteration") []) ?_
 simp only [newExc, newTuple]
 refine wpAny_bind (wpAny_newObj_type (wpAny_bind (m := firstArgMember _ _) (wpAny_of_eq (a := Value.none) (by first | rfl | (simp only [firstArgMember]; rfl)) ?_)) (by size_fits))
 refine wpAny_newObj_type ?_ (by size_fits)
 simp only [raiseNew]
 refine wpAny_bind (wpAny_handled ?_)
 rw [show A.in1.handled = none from hh]
 refine wpAny_bind (wpAny_pure (wpAny_throw ?_))
 refine wpAny_bind (wpAny_isInstance (T := "StopIteration") (b := true) ⟨_, Heap.get?_push_size _ rfl, rfl⟩ isSubtype_stop ?_)
 exact wpAny_pure (q _ (((Heap.SameBut.update ..).extBut.push _).push _))
theorem aA4 (hh : A.handled = none) (I d : Addr) (hne : d ≠ I) (es : Array DictEntry) (ep : Nat) :
  Walks prog w A I [I, d] [I] es.size (fun i v => ∃ e, es[i]? = some e /\ v = e.key) (fun i h => h.IsKeyIter I d i es.size ep /\ RawD h d es ep) where
 sub := fun b hb => List.mem_cons.mpr (.inl (List.mem_singleton.mp hb))
 frame := fun _ _ _ st hk => ⟨st.1.at fun o e => hk I (by simp) o e, st.2.at fun o e => hk d (by simp) o e⟩
 item := fun i s Q E hi st hQ => aCj st.1 st.2 hi fun h' hit' sb => hQ _ h' s.toks ⟨es[i], by simp [hi], rfl⟩ ⟨hit', st.2.at fun o e => (sb.2 d hne).trans e⟩ fun b o hb e => (sb.2 b fun z => hb (by simp [z])).trans e
 done := fun s Q E st hQ => aE1 hh st.1 st.2 fun h' he' => hQ h' s.toks fun b o hb e => he' b o (fun z => hb (by simp [z])) e
 self := fun _ _ _ _ st hQ => wpAny_pyIter_keyiter st.1 hQ
theorem aE8 (lo : (d == sysModules) = false) : PySem.W.KdlSrc prog w "dict" d d es.size (fun i v => ∃ e, es[i]? = some e /\ v = e.key) (fun h => RawD h d es ep) where
 type := fun _ hm => hm.ty
 there := fun _ hm => ⟨hm.lt, hm.lt⟩
 keep := fun _ _ hm hk => hm.at fun o e => hk d (.inl rfl) o e
 notList := by decide
 notTuple := by decide
 hint := fun _ _ _ _ hm hq => PySem.W.kdl_hint_dict hm.ty hq
 iter := fun _ _ hh hm => ⟨_, _, (fun _ _ hq => aBx lo hm hq), aA4 hh _ d (Nat.ne_of_lt hm.lt) es ep, ⟨⟨_, Heap.get?_push_size _ rfl, rfl, rfl⟩, hm.at fun o e => Heap.get?_push_of_some _ e⟩⟩
end
section
variable {prog : Program} {w : World} {A : Around} {R : Result -> Shared -> Prop} {s : Shared}
abbrev xD (ifs : List Expr) (env : Env) : Sem Bool := forIn ifs true fun c r => if r = true then do let ok <- isTrue c env (eval c env); pure (ForInStep.yield ok) else pure (ForInStep.yield r)
theorem aAa {elt target iter : Expr} {ifs : List Expr} {scope : Scope} {pos : Pos} {it acc : Value} {env : Env} (I : Nat -> Shared -> Prop)
  (turn : ∀ n s, I n s -> wpAny (model prog w) A (pyNext it) (fun r s₁ => match r with
   | none => R (.ok .next) s₁
   | some v => wpAny (model prog w) A (letOwnedTupleGo target it v) (fun _ s₀ => wpAny (model prog w) A (assign target env v) (fun _ s₂ =>
     wpAny (model prog w) A (xD ifs env) (fun ok s₃ =>
      if ok = true then wpAny (model prog w) A (eval elt env) (fun x s₄ =>
       wpAny (model prog w) A (call (.builtin "list.append") [acc, x]) (fun _ s₅ => ∃ m, m < n /\ I m s₅) (fun _ _ => False) s₄) (fun _ _ => False) s₃
      else ∃ m, m < n /\ I m s₃) (fun _ _ => False) s₂) (fun _ _ => False) s₀) (fun _ _ => False) s₁) (fun _ _ => False) s)
  (n : Nat) (h : I n s) : codeAny (model prog w) A (.compLoop (.ListComp elt [⟨target, iter, ifs, 0⟩] scope pos) 0 it acc env) R s := by
 refine codeAny_loop rfl I (fun n s hI => ?_) n h
 show wpAny _ A ((compTurn (.ListComp elt [⟨target, iter, ifs, 0⟩] scope pos) 0 it acc env).onRaise (fun x => do noteFrame x env; theTreesLotGoes x)) _ _ s
 refine wpAny_noted ?_
 rw [compTurn_list]
 refine wpAny_bind (wpAny_standAt (wpAny_bind (wpAny_mono (turn n s hI) (fun r s₁ h₁ => ?_) fun _ _ z => z.elim)))
 cases r with
 | none => exact wpAny_pure h₁
 | some v =>
  refine wpAny_bind (wpAny_mono h₁ (fun _ s₀ h₀ => ?_) fun _ _ z => z.elim)
  refine wpAny_bind (wpAny_mono h₀ (fun _ s₂ h₂ => wpAny_bind (wpAny_mono h₂ (fun ok s₃ h₃ => ?_) fun _ _ z => z.elim)) fun _ _ z => z.elim)
  cases ok with
  | false => exact wpAny_pure ⟨rfl, h₃⟩
  | true =>
   exact wpAny_bind (wpAny_bind (wpAny_mono h₃ (fun x s₄ h₄ => wpAny_bind (wpAny_mono h₄ (fun _ s₅ h₅ => wpAny_pure (wpAny_pure ⟨rfl, h₅⟩)) fun _ _ z => z.elim)) fun _ _ z => z.elim))
end
def PTs (X : Cx) (ifs : List Expr) (t : TT) : Prop :=
 ∀ (pins : List (Addr × Obj)) (s : Shared) (σ : St) (H : Hp) (Q : Bool -> Hp -> Prop), Inv X pins σ H s -> t σ H Q -> wpAny (model X.prog X.w) X.A (xD ifs X.env) (TP X pins σ Q) X.xe s
def aMz : TT := fun _ H Q => Q true H
theorem aEs {X : Cx} : PTs X [] aMz := fun _ _ _ H _ I h => wpAny_tests_nil ⟨H, I, h⟩
def yK (wi : TI) (g : TG) (tt : TT) (te : TE) (n : Nat) (js : List Nat) : TE := fun σ H Q => wi σ H fun J H1 => ∀ D, H1 D = none -> ∃ (N : Nat) (W : Nat -> List V -> Hp -> Prop), W 0 [] (upd H1 D (.lst [])) /\ ∀ i ys H2, W i ys H2 ->
 (J.stop i H2 /\ Q (.ref D) H2) \/ (i < N /\ J.go i H2 /\ ∀ v H3, J.yld i H2 v H3 -> g v (List.replicate n none ++ vO js σ) H3 fun σ2 H4 => (σ2.length = n + js.length /\ σ2.drop n = vO js σ) /\ tt σ2 H4 fun b H5 =>
  if b = true then te σ2 H5 fun y H6 => H6 D = some (.lst ys) /\ ys.length < sizeLine /\ W (i + 1) (ys ++ [y]) (upd H6 D (.lst (ys ++ [y]))) else W (i + 1) ys H5)
section
variable {X : Cx}
theorem Inv.but {pins : List (Addr × Obj)} {σ : St} {H : Hp} {s : Shared} {C : Addr} {h' : Heap} (I : Inv X pins σ H s) (f : aBw X pins H C) (hs : Heap.SameBut C s.heap h') : Inv X pins σ H { s with heap := h' } := by
 have ne : ∀ b, b ∉ [C] -> b ≠ C := fun b hb z => hb (by rw [z]; exact .head _)
 refine I.call' (s' := { s with heap := h' }) (ch := [C]) rfl ⟨fun b o e n hb hx => (hs.2 b (ne b hx)).trans e, fun b o e n hb hx => ⟨o.slots, (hs.2 b (ne b hx)).trans e⟩, fun b o e n hx => n, fun b o e hx => ⟨o, (hs.2 b (ne b hx)).trans e⟩, fun b xs e => e, fun b o u e => e, fun b ps e => ⟨#[], by rw [Array.append_empty]; exact e⟩⟩ (oC I.hok fun b o nn e => (hs.2 b (fun z => nn (by rw [z]; exact f.1))).trans e) I.bare fun b hb => ?_
 rw [List.mem_singleton.mp hb]
 exact ⟨f.2.2.2.1, f.2.1, f.2.2.2.2.1, f.2.2.2.2.2⟩
set_option maxHeartbeats 8000000 in
theorem yJ {elt iter tg : Expr} {pos : Pos} {scope : Scope} {ifs : List Expr} {wi : TI} {g : TG} {tt : TT} {te : TE} {xs ys : List Str} {js : List Nat} {cl : List (Str × Addr)} (hc : X.calm = true) (hi : PI X tg iter wi)
  (hcl : aJa X scope cl) (hcap : rA X scope cl ys js) (hcell : ∀ y ∈ scope.names, y.2 ≠ .cell) (hkind : scope.kind = .function) (hnames : ∀ y ∈ scope.names, y.2 = .local -> scope.names.lookup y.1 = some .local)
  (hg : ∀ C s₀ H₀ ex pn, PG (cD X scope cl C (xs ++ ys) s₀ H₀ ex pn) tg g) (ht : ∀ C s₀ H₀ ex pn, PTs (cD X scope cl C (xs ++ ys) s₀ H₀ ex pn) ifs tt) (hb : ∀ C s₀ H₀ ex pn, PE (cD X scope cl C (xs ++ ys) s₀ H₀ ex pn) elt te)
  (hs : ∀ x, foldedSetIterable iter X.env x = pure x) {use : Option (Value -> Sem Unit)} {QQ : Value -> Shared -> Prop} {Q : VK} {pins : List (Addr × Obj)} {s : Shared} {σ : St} {H : Hp} {cp : Pos} (I : Inv X pins σ H s)
  (aK3 : ∀ (C D : Addr) (s' : Shared) (H' : Hp), Inv X pins σ H' s' -> aBw X pins H' C -> (∃ m, s'.heap.Ns C m) -> Q (.ref D) H' -> compPost (model X.prog X.w) X.A X.xe use QQ (.ref D) C (.ok .next) s')
  (h : yK wi g tt te xs.length js σ H Q) :
  wpAny (model X.prog X.w) X.A (comprehension (.ListComp elt [⟨tg, iter, ifs, 0⟩] scope pos) scope X.env cp (newList []) false (eval iter X.env) use) QQ X.xe s := by
 refine wpAny_comprehension_free rfl hs hcl.clos hkind hnames (thn (hi pins s σ H _ I h) fun v s1 h1 => thn h1 fun itv s2 h2 => ?_)
 obtain ⟨it, fp, tn, J, H2, e, I2, T, st2, f2, q2⟩ := h2
 subst e
 obtain ⟨n, W, w0, turn⟩ := q2 s2.heap.objs.size I2.fresh
 refine wpAny_newObj_type (wpAny_newFunctionEnv hcell (by intro y hy; simp at hy) (fun h₁ hns₁ hsb₁ => ?_) hkind)
 dsimp only at hns₁ hsb₁ ⊢
 have I3 := I2.lnew (ys := []) (its := []) (t' := s2.toks) .nil (Nat.zero_le _)
 generalize hg3 : s2.heap.push { cls := .type "list", dict := none, data := .seq ([] : List Value).toArray } = g3 at hns₁ hsb₁ I3 ⊢
 have sz3 : g3.objs.size = s2.heap.objs.size + 1 := by rw [<- hg3, Heap.size_push]
 generalize hC : g3.objs.size = C at hns₁ hsb₁ ⊢
 have old3 : ∀ b o, g3.get? b = some o -> h₁.get? b = some o := fun b o q => hsb₁.extBut b o (by rw [<- hC]; exact Nat.ne_of_lt (Heap.lt_size q)) (Heap.get?_push_of_some _ q)
 have old2 : ∀ b o, s2.heap.get? b = some o -> g3.get? b = some o := fun b o q => by rw [<- hg3]; exact Heap.get?_push_of_some _ q
 have fpl : ∀ b ∈ fp, ∃ o, s2.heap.get? b = some o /\ ∀ v, o.data ≠ .cell v := T.obj _ _ st2
 have fplt : ∀ b ∈ fp, b < s2.heap.objs.size := fun b hb => let ⟨o, q, _⟩ := fpl b hb; Heap.lt_size q
 have H3n : ∀ b, b ≠ s2.heap.objs.size -> upd H2 s2.heap.objs.size (.lst []) b = H2 b := fun b hb => bC hb
 have fp3 : ∀ b ∈ fp, upd H2 s2.heap.objs.size (.lst []) b = none := fun b hb => by rw [H3n b (Nat.ne_of_lt (fplt b hb))]; exact (f2 b hb).1
 have okX := I3.ok
 have inj : ∀ y z c, cl.lookup y = some c -> cl.lookup z = some c -> y = z := fun y z c h1 h2 => okX.inj y z c (hcl.sub y c h1) (hcl.sub z c h2)
 have cellE : ∀ y c, cl.lookup y = some c -> ∃ v, g3.IsCell c v := fun y c q => I3.cell y c (hcl.sub y c q)
 have st3 : g3.FunFrames X.base X.stack := I3.stack
 have exlt : ∀ b ∈ fp, b ≠ C := fun b hb => by rw [<- hC, sz3]; exact Nat.ne_of_lt (Nat.lt_succ_of_lt (fplt b hb))
 have frlt : ∀ b ∈ frs X.stack, b < g3.objs.size := fun b hb => let ⟨_, o, q, _⟩ := st3.mem hb; Heap.lt_size q
 have okB : (cD X scope cl C (xs ++ ys) { s2 with heap := g3 } (upd H2 s2.heap.objs.size (.lst [])) fp (X.pn ++ pins)).Ok := by
  refine ⟨okX.mod, hkind, okX.glob, okX.blt, Nat.le_of_eq hC, inj, fun y hy => hcl.has y hy, (fun y c hf _ => nomatch hf), okX.hd, okX.frames, .inl rfl, fun b hb => ⟨exlt b hb, fun y c q z => ?_⟩, I3.bs, Nat.le_trans okX.bsz I3.sz, fun b o q hb => ?_, fun b hb => ?_, st3, I3.stkFree, I3.tab⟩
  ·subst z
   exact (f2 c hb).2.2.2.2.1 y c (hcl.sub y c q) rfl
  ·rcases (f2 b hb).2.2.2.1 with z | z
   ·exact okX.noex b o q z
   ·have := Heap.lt_size (okX.bs b o q).1
    exact absurd (Nat.lt_of_lt_of_le this z) (Nat.lt_irrefl _)
  ·intro hz
   rcases List.mem_cons.mp (I3.stkSub b hz) with z | z
   ·exact (f2 b hb).2.1 z
   ·exact (f2 b hb).2.2.1 z
 have tot : ∀ tk : Nat, Inv (cD X scope cl C (xs ++ ys) { s2 with heap := g3 } (upd H2 s2.heap.objs.size (.lst [])) fp (X.pn ++ pins)) [] (List.replicate xs.length none ++ vO js σ) (upd H2 s2.heap.objs.size (.lst [])) { s2 with heap := h₁, toks := tk } := fun tk => by
  refine ⟨okB, rfl, I3.bare, Un.kept old3, ⟨_, hns₁, fun i y v' e1 e2 e3 => ?_⟩, fun y c q => ?_, I3.hok.fresh (Nat.le_of_eq hC), fun y c q => ?_, fun p hp => ?_, I3.hok.kept old3, ?_⟩
  ·by_cases hix : i < xs.length
   ·rw [List.getElem?_append_left (by rw [List.length_replicate]; exact hix), List.getElem?_replicate] at e2
    split at e2 <;> cases e2
   ·have hix' : xs.length <= i := by omega
    obtain ⟨k, rfl⟩ : ∃ k, i = xs.length + k := ⟨i - xs.length, by omega⟩
    have e1' : ys[k]? = some y := by
     rw [List.getElem?_append_right (by omega)] at e1
     simpa using e1
    have e2' : (vO js σ)[k]? = some (some v') := by
     rw [List.getElem?_append_right (by rw [List.length_replicate]; omega), List.length_replicate] at e2
     simpa using e2
    unfold vO at e2'
    rw [List.getElem?_map] at e2'
    cases ej : js[k]? with
    | none => rw [ej] at e2'; cases e2'
    | some j =>
     rw [ej] at e2'
     have e2'' : (σ[j]?).getD none = some v' := Option.some.inj e2'
     have eσ : σ[j]? = some (some v') := by
      cases es : σ[j]? with
      | none => rw [es] at e2''; cases e2''
      | some z => rw [es] at e2''; have : z = some v' := e2''; rw [this]
     obtain ⟨c1, c2, c3, c4, c5⟩ := hcap.at_ k y j e1' ej
     obtain ⟨m0, hn0, hl0⟩ := I3.loc
     obtain ⟨u, r, l⟩ := hl0 j y v' c1 eσ (c2.elim (fun z => .inr (.inl z)) fun z => .inr (.inr z))
     refine ⟨u, r, .inr ⟨c3, ?_⟩⟩
     rcases l with ⟨l, _⟩ | ⟨_, c, hcc, z⟩
     ·rcases c2 with c2 | c2
      ·rw [c2] at l; cases l
      ·rw [c2] at l; cases l
     ·obtain ⟨o, ho, hd⟩ := z
      exact ⟨c, c5.trans hcc, o, old3 c o ho, hd⟩
  ·obtain ⟨v0, o, ho, hd⟩ := cellE y c q
   exact ⟨v0, o, old3 c o ho, hd⟩
  ·exact I3.freeC y c (hcl.sub y c q)
  ·have hp' : p ∈ X.pn ++ pins := by simpa using hp
   obtain ⟨p1, p2, p3, p4, p5⟩ := I3.pin p hp'
   refine ⟨old3 _ _ p1, p2, ?_, fun hz => ?_, p5⟩
   ·show p.1 ≠ C
    rw [<- hC]
    exact Nat.ne_of_lt (Heap.lt_size p1)
   ·rcases List.mem_cons.mp (I3.stkSub p.1 hz) with z | z
    ·exact p3 z
    ·exact p4 z
  ·show (List.replicate xs.length none ++ vO js σ).length = (xs ++ ys).length
   unfold vO
   simp [hcap.len]
 have fpB : ∀ {H' : Hp}, (∀ b ∈ fp, H' b = none) -> ∀ b ∈ fp, aBw (cD X scope cl C (xs ++ ys) { s2 with heap := g3 } (upd H2 s2.heap.objs.size (.lst [])) fp (X.pn ++ pins)) [] H' b := fun hn b hb =>
  ⟨hn b hb, exlt b hb, okB.exfs b hb, .inl hb, (okB.exf b hb).2, fun p hp => (f2 b hb).2.2.2.2.2 p (by simpa using hp)⟩
 have fin : ∀ s' : Shared, (∃ i zs σ' H', Inv (cD X scope cl C (xs ++ ys) { s2 with heap := g3 } (upd H2 s2.heap.objs.size (.lst [])) fp (X.pn ++ pins)) [] σ' H' s' /\ W i zs H' /\ J.stop i H' /\ Q (.ref s2.heap.objs.size) H') ->
   compPost (model X.prog X.w) X.A X.xe use QQ (.ref s2.heap.objs.size) C (.ok .next) s' := by
  rintro s' ⟨i, zs, σ', H', Ib, w, stop, q⟩
  obtain ⟨m', hn', _⟩ := Ib.loc
  have ub := Ib.base
  have un : Un (frs X.stack) fp (upd H2 s2.heap.objs.size (.lst [])) H' g3 s'.heap := ub
  have IX : Inv X pins σ H' s' := I3.call' (s' := s') (ch := fp) Ib.os un Ib.hok Ib.bare fun b hb => ⟨(f2 b hb).2.2.2.1, (f2 b hb).2.1, (f2 b hb).2.2.2.2.1, (f2 b hb).2.2.2.2.2⟩
  exact aK3 C _ s' H' IX (I3.fpOk (Nat.le_of_eq hC) Ib.free) ⟨m', hn'⟩ q
 have loop : ∀ s₃ : Shared, (∃ tk, s₃ = { s2 with heap := h₁, toks := tk }) ->
   codeAny (model X.prog X.w) X.A (.compLoop (.ListComp elt [⟨tg, iter, ifs, 0⟩] scope pos) 0 (.ref it) (.ref s2.heap.objs.size) (compEnvC scope cl C X.env)) (compPost (model X.prog X.w) X.A X.xe use QQ (.ref s2.heap.objs.size) C) s₃ := by
  rintro s₃ ⟨tk, rfl⟩
  refine aAa (fun k s' => ∃ i zs H', k = n + 1 - i /\ i <= n /\ Inv (cD X scope cl C (xs ++ ys) { s2 with heap := g3 } (upd H2 s2.heap.objs.size (.lst [])) fp (X.pn ++ pins)) [] (List.replicate xs.length none ++ vO js σ) H' s' /\ tn i s'.heap /\ (∀ b ∈ fp, H' b = none) /\ W i zs H')
   ?_ (n + 1) ⟨0, [], _, rfl, Nat.zero_le _, tot tk, T.keep _ _ _ st2 fun b hb o q => old3 b o (old2 b o q), fp3, w0⟩
  rintro k s' ⟨i, zs, H', rfl, hin, Ib, st, fr, w⟩
  rcases turn i zs H' w with ⟨stop, qq⟩ | ⟨hlt, go, step⟩
  ·refine wpAny_mono (T.done (cD X scope cl C (xs ++ ys) { s2 with heap := g3 } (upd H2 s2.heap.objs.size (.lst [])) fp (X.pn ++ pins)) rfl rfl rfl hc i [] s' _ H' (fun _ _ => False) Ib (fpB fr) st stop) (fun r s4 ⟨hr, I4⟩ => ?_) fun _ _ z => z.elim
   subst hr
   exact fin s4 ⟨i, zs, _, H', I4, w, stop, qq⟩
  ·refine wpAny_mono (T.item (cD X scope cl C (xs ++ ys) { s2 with heap := g3 } (upd H2 s2.heap.objs.size (.lst [])) fp (X.pn ++ pins)) rfl rfl rfl hc i [] s' _ H' (fun _ _ => False) Ib (fpB fr) st go) (fun r s4 ⟨u, hr, h4⟩ => ?_) fun _ _ z => z.elim
   subst hr
   refine wpAny_mono h4 (fun _ s5 ⟨v5, H5, I5, r5, y5, st5, fr5⟩ => ?_) fun _ _ z => z.elim
   have I5' := I5.pinned (fpB fr5) (T.obj _ _ st5)
   have hw5 := step v5 H5 y5
   refine wpAny_mono (hg C _ _ fp (X.pn ++ pins) _ s5 _ H5 v5 u _ I5' r5 hw5) (fun _ s6 ⟨σ6, H6, I6, ⟨hl6, hd6⟩, e6⟩ => ?_) fun _ _ z => z.elim
   have back : ∀ {H' : Hp} {s' : Shared} {pins' : List (Addr × Obj)}, Inv (cD X scope cl C (xs ++ ys) { s2 with heap := g3 } (upd H2 s2.heap.objs.size (.lst [])) fp (X.pn ++ pins)) pins' σ6 H' s' -> Inv (cD X scope cl C (xs ++ ys) { s2 with heap := g3 } (upd H2 s2.heap.objs.size (.lst [])) fp (X.pn ++ pins)) pins' (List.replicate xs.length none ++ vO js σ) H' s' := fun I' => by
    refine I'.weak ?_ fun j v' e => ?_
    ·rw [hl6]; unfold vO; simp
    ·by_cases hj : j < xs.length
     ·rw [List.getElem?_append_left (by rw [List.length_replicate]; exact hj), List.getElem?_replicate] at e
      split at e <;> cases e
     ·rw [List.getElem?_append_right (by rw [List.length_replicate]; omega), List.length_replicate, <- hd6, List.getElem?_drop] at e
      rw [<- e]
      congr 1
      omega
   refine wpAny_mono (ht C _ _ fp (X.pn ++ pins) _ s6 _ _ _ I6 e6) (fun ok s6b ⟨H6b, I6b, e6b⟩ => ?_) fun _ _ z => z.elim
   cases ok with
   | false =>
    rw [if_neg Bool.false_ne_true]
    have e6c : W (i + 1) zs H6b := by simpa using e6b
    have I8 := back I6b
    refine ⟨n + 1 - (i + 1), by omega, i + 1, zs, _, rfl, hlt, I8.unpinned (pins := []), ?_, fun b hb => ?_, e6c⟩
    ·exact T.keep _ _ _ st5 fun b hb o q => (I8.pin (b, o) (List.mem_append_right _ (List.mem_append_right _ (fL hb q)))).1
    ·obtain ⟨o, q, d⟩ := T.obj _ _ st5 b hb
     exact (I8.pin (b, o) (List.mem_append_right _ (List.mem_append_right _ (fL hb q)))).2.1
   | true =>
    rw [if_pos rfl]
    have e6c := e6b
    rw [if_pos rfl] at e6c
    refine wpAny_mono (hb C _ _ fp (X.pn ++ pins) _ s6b _ _ _ I6b e6c) (fun y s7 ⟨yv, H7, I7, r7, hD, hz, w7⟩ => ?_) fun _ _ z => z.elim
    obtain ⟨z7, its, n7, rv7, hl7, e7⟩ := I7.lstM hD
    refine append_at (n := n7) (its := its.toArray) e7 (fun h₈ sb8 eD8 => ?_) (by rw [List.size_toArray, <- hl7]; exact Nat.le_of_lt hz)
    have I8 : Inv _ _ _ (upd H7 s2.heap.objs.size (.lst (zs ++ [yv]))) { s7 with heap := h₈, toks := s7.toks } := I7.write (x := s2.heap.objs.size) (e := s2.heap.objs.size) (by rw [hD]; exact trivial) (.inl rfl) (fun b u hb q => (sb8.2 b hb).trans q) ⟨_, eD8⟩
     ⟨by rw [List.length_append]; exact hz, its ++ [y], n7 + 1, rv7.append (.cons r7 .nil), by rw [eD8, List.push_toArray]⟩
    have I9 := back I8
    refine ⟨n + 1 - (i + 1), by omega, i + 1, zs ++ [yv], _, rfl, hlt, I9.unpinned (pins := []), ?_, fun b hb => ?_, w7⟩
    ·exact T.keep _ _ _ st5 fun b hb o q => (I8.pin (b, o) (List.mem_append_right _ (List.mem_append_right _ (fL hb q)))).1
    ·obtain ⟨o, q, d⟩ := T.obj _ _ st5 b hb
     exact (I8.pin (b, o) (List.mem_append_right _ (List.mem_append_right _ (fL hb q)))).2.1
 exact codeAny_compStart_list (loop _ ⟨_, rfl⟩) (T.self _ 0 _ _ _ (T.keep _ _ _ st2 fun b hb o q => old3 b o (old2 b o q)) (loop _ ⟨_, rfl⟩))
theorem aBz {elt iter tg : Expr} {pos : Pos} {scope : Scope} {ifs : List Expr} {wi : TI} {g : TG} {tt : TT} {te : TE} {xs ys : List Str} {js : List Nat} {cl : List (Str × Addr)} (hc : X.calm = true) (hi : PI X tg iter wi)
  (hcl : aJa X scope cl) (hcap : rA X scope cl ys js) (hcell : ∀ y ∈ scope.names, y.2 ≠ .cell) (hkind : scope.kind = .function) (hnames : ∀ y ∈ scope.names, y.2 = .local -> scope.names.lookup y.1 = some .local)
  (hg : ∀ C s₀ H₀ ex pn, PG (cD X scope cl C (xs ++ ys) s₀ H₀ ex pn) tg g) (ht : ∀ C s₀ H₀ ex pn, PTs (cD X scope cl C (xs ++ ys) s₀ H₀ ex pn) ifs tt) (hb : ∀ C s₀ H₀ ex pn, PE (cD X scope cl C (xs ++ ys) s₀ H₀ ex pn) elt te)
  (hs : ∀ x, foldedSetIterable iter X.env x = pure x := by intro _; rfl) :
  PE X (.ListComp elt [⟨tg, iter, ifs, 0⟩] scope pos) (yK wi g tt te xs.length js) := by
 intro pins s σ H Q I h
 rw [eval_ListComp]
 exact yJ hc hi hcl hcap hcell hkind hnames hg ht hb hs (use := none) (QQ := EP X pins σ Q) (Q := Q) I (fun C D s' H' IX f ⟨m, hn⟩ q => ⟨m, hn, fun h' hs' => ⟨.ref D, H', IX.but f hs', rfl, q⟩⟩) h
end
end L2
namespace M
open PySem PySem.Spec PyProof.Rows L2
abbrev D := PyData
inductive Res (α : Type) where
 | ok (a : α)
 | exc (C : Addr)
 | bad
def Res.bind {α β : Type} (r : Res α) (f : α -> Res β) : Res β := match r with
 | .ok a => f a
 | .exc C => .exc C
 | .bad => .bad
def wpR {α : Type} (r : Res α) (Q : α -> Prop) (E : Addr -> Prop) : Prop := match r with
 | .ok a => Q a
 | .exc C => E C
 | .bad => False
theorem bA {α β : Type} {r : Res α} {f : α -> Res β} {Q : β -> Prop} {E : Addr -> Prop} : wpR (r.bind f) Q E = wpR r (fun a => wpR (f a) Q E) E := by cases r <;> rfl
theorem aT {α : Type} {r : Res α} {Q Q' : α -> Prop} {E E' : Addr -> Prop} (h : wpR r Q E) (hQ : ∀ a, Q a -> Q' a) (hE : ∀ C, E C -> E' C) : wpR r Q' E' := by
 cases r with
 | ok a => exact hQ a h
 | exc C => exact hE C h
 | bad => exact h
inductive L where
 | p (d : D)
 | o (d : D)
 | x (C : Addr)
 | h (a : Addr)
inductive Ev where
 | p (d : D)
 | f (d : D)
 | b (d : D)
 | x (C : Addr)
def Ev.c : Ev -> Ev
 | .f d => .p d
 | r => r
abbrev En := List (Option L)
def kD : Key -> D
 | .inl i => .int i
 | .inr x => .str x
def tkD (ks : List Key) : D := .tuple (ks.map kD)
mutual
inductive Rep (K : PySem.W.Frag) (G : Hp) : V -> D -> Prop
 | non : Rep K G .non .none
 | bl (b : Bool) : Rep K G (.bl b) (.bool b)
 | int (i : Int) : Rep K G (.int i) (.int i)
 | str (x : Str) : Rep K G (.str x) (.str x)
 | tup {a : Addr} {xs : List V} {ds : List D} : G a = some (.tup xs) -> Reps K G xs ds -> Rep K G (.ref a) (.tuple ds)
 | lst {a : Addr} {xs : List V} {ds : List D} : Rd G a (.lst xs) -> Reps K G xs ds -> Rep K G (.ref a) (.list ds)
 | dT {a : Addr} {kv : List (List Key × V)} {kvs : List (D × D)} : G a = some (.dT kv) -> RepT K G kv kvs -> Rep K G (.ref a) (.dict kvs)
 | dK {a : Addr} {kv : List (Key × V)} {kvs : List (D × D)} : G a = some (.dK kv) -> RepK K G kv kvs -> Rep K G (.ref a) (.dict ((.none, .none) :: kvs))
inductive Reps (K : PySem.W.Frag) (G : Hp) : List V -> List D -> Prop
 | nil : Reps K G [] []
 | cons {x : V} {xs : List V} {d : D} {ds : List D} : Rep K G x d -> Reps K G xs ds -> Reps K G (x :: xs) (d :: ds)
inductive RepT (K : PySem.W.Frag) (G : Hp) : List (List Key × V) -> List (D × D) -> Prop
 | nil : RepT K G [] []
 | cons {k : List Key} {x : V} {d : D} {kv : List (List Key × V)} {kvs : List (D × D)} : Rep K G x d -> RepT K G kv kvs -> RepT K G ((k, x) :: kv) ((tkD k, d) :: kvs)
inductive RepK (K : PySem.W.Frag) (G : Hp) : List (Key × V) -> List (D × D) -> Prop
 | nil : RepK K G [] []
 | cons {k : Key} {x : V} {d : D} {kv : List (Key × V)} {kvs : List (D × D)} : Rep K G x d -> RepK K G kv kvs -> RepK K G ((k, x) :: kv) ((kD k, d) :: kvs)
end
inductive Cont (K : PySem.W.Frag) (G : Hp) : HO -> D -> Prop
 | lst {xs : List V} {ds : List D} : Reps K G xs ds -> Cont K G (.lst xs) (.list ds)
 | dT {kv : List (List Key × V)} {kvs : List (D × D)} : RepT K G kv kvs -> Cont K G (.dT kv) (.dict kvs)
 | dK {kv : List (Key × V)} {kvs : List (D × D)} : RepK K G kv kvs -> Cont K G (.dK kv) (.dict ((.none, .none) :: kvs))
section
variable {K : PySem.W.Frag} {G G' H H' : Hp}
theorem gT {a : Addr} {u : HO} (s : Same G G') (h : Rd G a u) : Rd G' a u := by
 rcases h with h | ⟨o, h⟩
 ·exact .inl (s _ _ h)
 ·exact .inr ⟨o, s _ _ h⟩
mutual
theorem Rep.mono (s : Same G G') : ∀ {v : V} {d : D}, Rep K G v d -> Rep K G' v d
 | _, _, .non => .non
 | _, _, .bl b => .bl b
 | _, _, .int i => .int i
 | _, _, .str x => .str x
 | _, _, .tup h r => .tup (s _ _ h) (Reps.mono s r)
 | _, _, .lst h r => .lst (gT s h) (Reps.mono s r)
 | _, _, .dT h r => .dT (s _ _ h) (RepT.mono s r)
 | _, _, .dK h r => .dK (s _ _ h) (RepK.mono s r)
theorem Reps.mono (s : Same G G') : ∀ {v : List V} {d : List D}, Reps K G v d -> Reps K G' v d
 | _, _, .nil => .nil
 | _, _, .cons h r => .cons (Rep.mono s h) (Reps.mono s r)
theorem RepT.mono (s : Same G G') : ∀ {v : List (List Key × V)} {d : List (D × D)}, RepT K G v d -> RepT K G' v d
 | _, _, .nil => .nil
 | _, _, .cons h r => .cons (Rep.mono s h) (RepT.mono s r)
theorem RepK.mono (s : Same G G') : ∀ {v : List (Key × V)} {d : List (D × D)}, RepK K G v d -> RepK K G' v d
 | _, _, .nil => .nil
 | _, _, .cons h r => .cons (Rep.mono s h) (RepK.mono s r)
end
theorem Cont.mono (s : Same G G') {o : HO} {d : D} (h : Cont K G o d) : Cont K G' o d := by
 cases h with
 | lst r => exact .lst (r.mono s)
 | dT r => exact .dT (r.mono s)
 | dK r => exact .dK (r.mono s)
theorem Cont.rep {a : Addr} {o : HO} {d : D} (h : Cont K G o d) (e : G a = some o) : Rep K G (.ref a) d := by
 cases h with
 | lst r => exact .lst (.inl e) r
 | dT r => exact .dT e r
 | dK r => exact .dK e r
theorem Reps.length : ∀ {xs : List V} {ds : List D}, Reps K G xs ds -> xs.length = ds.length
 | _, _, .nil => rfl
 | _, _, .cons _ r => by rw [List.length_cons, List.length_cons, Reps.length r]
theorem Reps.get' : ∀ {xs : List V} {ds : List D} {i : Nat} {d : D}, Reps K G xs ds -> ds[i]? = some d -> ∃ x, xs[i]? = some x /\ Rep K G x d
 | _, _, _, _, .nil, e => by simp at e
 | _, _, 0, _, .cons h _, e => by simp at e; subst e; exact ⟨_, rfl, h⟩
 | _, _, i + 1, _, .cons _ r, e => by
  have := Reps.get' (i := i) r (by simpa using e)
  simpa using this
theorem Reps.append : ∀ {xs ys : List V} {ds es : List D}, Reps K G xs ds -> Reps K G ys es -> Reps K G (xs ++ ys) (ds ++ es)
 | _, _, _, _, .nil, r => r
 | _, _, _, _, .cons h t, r => .cons h (Reps.append t r)
theorem Reps.set {x : V} {d : D} (h : Rep K G x d) : ∀ {xs : List V} {ds : List D} (i : Nat), Reps K G xs ds -> Reps K G (xs.set i x) (ds.set i d)
 | _, _, _, .nil => .nil
 | _, _, 0, .cons _ t => .cons h t
 | _, _, i + 1, .cons q t => .cons q (Reps.set h i t)
theorem Reps.take : ∀ {xs : List V} {ds : List D} (n : Nat), Reps K G xs ds -> Reps K G (xs.take n) (ds.take n)
 | _, _, 0, _ => .nil
 | _, _, _ + 1, .nil => .nil
 | _, _, n + 1, .cons h t => .cons h (Reps.take n t)
theorem Reps.drop : ∀ {xs : List V} {ds : List D} (n : Nat), Reps K G xs ds -> Reps K G (xs.drop n) (ds.drop n)
 | _, _, 0, r => r
 | _, _, _ + 1, .nil => .nil
 | _, _, n + 1, .cons _ t => Reps.drop n t
end
structure Step (G H G' H' : Hp) : Prop where
 g : Same G G'
 h : Same H H'
 gh : Same G' H'
 new : ∀ b, H b ≠ none -> G b = none -> G' b = none \/ ∃ xs, H b = some (.tup xs)
theorem Step.off {G H G' H' : Hp} (s : Step G H G' H') {b : Addr} {o : HO} (h : H b = some o) (n : ∀ xs, o ≠ .tup xs) (g : G b = none) : G' b = none := by
 rcases s.new b (by rw [h]; exact fun z => nomatch z) g with z | ⟨xs, z⟩
 ·exact z
 ·rw [h] at z; exact absurd (Option.some.inj z) (n xs)
theorem zZ {H H' : Hp} (s : Same H H') {b : Addr} (h : H b ≠ none) : H' b ≠ none := by
 cases e : H b with
 | none => exact absurd e h
 | some o => rw [s b o e]; exact fun z => nomatch z
theorem Step.refl {G H : Hp} (s : Same G H) : Step G H G H := ⟨Same.refl _, Same.refl _, s, fun _ _ h => .inl h⟩
theorem Step.trans {G H G1 H1 G2 H2 : Hp} (a : Step G H G1 H1) (b : Step G1 H1 G2 H2) : Step G H G2 H2 :=
 ⟨a.g.trans b.g, a.h.trans b.h, b.gh, fun c hc hg => by
  rcases a.new c hc hg with z | z
  ·rcases b.new c (zZ a.h hc) z with y | ⟨xs, y⟩
   ·exact .inl y
   ·cases e : H c with
    | none => exact absurd e hc
    | some o =>
     rw [a.h _ _ e] at y
     exact .inr ⟨xs, y⟩
  ·exact .inr z⟩
theorem Step.put {G H : Hp} {a : Addr} {o : HO} (s : Same G H) (e : H a = none) : Step G H (upd G a o) (upd H a o) :=
 ⟨Same.upd (Same.refl _) (s.free e) o, Same.upd (Same.refl _) e o, fun b u q => by
  by_cases z : b = a
  ·subst z; rw [bM] at q ⊢; exact q
  ·rw [bC z] at q ⊢; exact s b u q, fun b hb hg => by
  have z : b ≠ a := fun z => hb (z ▸ e)
  rw [bC z]; exact .inl hg⟩
theorem Step.lay {G H : Hp} {a : Addr} {o : HO} (s : Same G H) (e : H a = none) : Step G H G (upd H a o) :=
 ⟨Same.refl _, Same.upd (Same.refl _) e o, Same.upd s e o, fun _ _ h => .inl h⟩
def EOk (K : PySem.W.Frag) (W : Addr -> Option Nat) (Hs G H : Hp) (v : V) : Ev -> Prop
 | .p d => Rep K G v d
 | .f d => ∃ a o, v = .ref a /\ Hs a = none /\ G a = none /\ H a = some o /\ Cont K G o d
 | .b d => ∃ a i o, v = .ref a /\ W a = some i /\ H a = some o /\ Cont K G o d
 | .x C => ∃ e, v = .ref e /\ G e = some (aGk e (.ref C))
theorem EOk.step {K : PySem.W.Frag} {W : Addr -> Option Nat} {Hs Hs' G H G' H' : Hp} {v : V} {r : Ev} (h : EOk K W Hs G H v r.c) (s : Step G H G' H') : EOk K W Hs' G' H' v r.c := by
 cases r with
 | p d => exact Rep.mono s.g h
 | f d => exact Rep.mono s.g h
 | b d =>
  obtain ⟨a, i, o, h1, h2, h3, h4⟩ := h
  exact ⟨a, i, o, h1, h2, s.h _ _ h3, h4.mono s.g⟩
 | x C =>
  obtain ⟨e, h1, h2⟩ := h
  exact ⟨e, h1, s.g _ _ h2⟩
theorem EOk.c {K : PySem.W.Frag} {W : Addr -> Option Nat} {G H G1 H1 : Hp} {v : V} {r : Ev} (s : Step G H G1 H1) (h : EOk K W H G1 H1 v r) : ∃ G2, Step G H G2 H1 /\ EOk K W H G2 H1 v r.c := by
 cases r with
 | p d => exact ⟨G1, s, h⟩
 | b d => exact ⟨G1, s, h⟩
 | x d => exact ⟨G1, s, h⟩
 | f d =>
  obtain ⟨a, o, rfl, h1, h2, h3, h4⟩ := h
  refine ⟨upd G1 a o, ⟨s.g.trans (Same.upd (Same.refl _) h2 o), s.h, fun b u q => ?_, fun b hb hg => ?_⟩, (h4.mono (Same.upd (Same.refl _) h2 o)).rep bM⟩
  ·by_cases z : b = a
   ·subst z; rw [bM] at q; rw [h3]; exact q
   ·rw [bC z] at q; exact s.gh b u q
  ·have z : b ≠ a := fun z => hb (z ▸ h1)
   rw [bC z]; exact s.new b hb hg
structure SimH (B G0 G : Hp) (W : Addr -> Option Nat) (H : Hp) : Prop where
 gh : Same G H
 bh : Same B H
 g0 : Same G0 G
 gb : ∀ b, G b ≠ none -> G0 b ≠ none \/ B b = none \/ ∃ xs, B b = some (.tup xs)
 wf : ∀ a i, W a = some i -> G a = none /\ B a = none /\ ∃ o, H a = some o /\ ∀ xs, o ≠ .tup xs
theorem SimH.step {B G0 G H G' H' : Hp} {W : Addr -> Option Nat} (s : SimH B G0 G W H) (t : Step G H G' H') : SimH B G0 G' W H' := by
 refine ⟨t.gh, s.bh.trans t.h, s.g0.trans t.g, fun b hb => ?_, fun a i e => ?_⟩
 ·by_cases z : G b = none
  ·refine .inr ?_
   by_cases y : H b = none
   ·exact .inl (s.bh.free y)
   ·rcases t.new b y z with q | ⟨xs, q⟩
    ·exact absurd q hb
    ·cases e : B b with
     | none => exact .inl rfl
     | some o => rw [s.bh _ _ e] at q; exact .inr ⟨xs, q⟩
  ·exact s.gb b z
 ·obtain ⟨h1, h2, o, h3, h4⟩ := s.wf a i e
  exact ⟨t.off h3 h4 h1, h2, o, t.h _ _ h3, h4⟩
theorem Cont.mut {K : PySem.W.Frag} {G : Hp} {o : HO} {d : D} (h : Cont K G o d) : ∀ xs, o ≠ .tup xs := by
 intro xs z
 subst z
 cases h
def Slot (K : PySem.W.Frag) (W : Addr -> Option Nat) (G H : Hp) (i : Nat) (v : V) : L -> Prop
 | .p d => Rep K G v d
 | .o d => ∃ a o, v = .ref a /\ W a = some i /\ H a = some o /\ Cont K G o d
 | .x C => ∃ e, v = .ref e /\ G e = some (aGk e (.ref C))
 | .h a => v = .ref a
def SimS (K : PySem.W.Frag) (W : Addr -> Option Nat) (G H : Hp) (σ : L2.St) (en : En) : Prop := σ.length = en.length /\ ∀ i l, en[i]? = some (some l) -> ∃ v, σ[i]? = some (some v) /\ Slot K W G H i v l
theorem Slot.step {K : PySem.W.Frag} {W : Addr -> Option Nat} {G H G' H' : Hp} {i : Nat} {v : V} {l : L} (h : Slot K W G H i v l) (s : Step G H G' H') : Slot K W G' H' i v l := by
 cases l with
 | p d => exact Rep.mono s.g h
 | o d =>
  obtain ⟨a, o, h1, h2, h3, h4⟩ := h
  exact ⟨a, o, h1, h2, s.h _ _ h3, h4.mono s.g⟩
 | x C =>
  obtain ⟨e, h1, h2⟩ := h
  exact ⟨e, h1, s.g _ _ h2⟩
 | h a => exact h
theorem SimS.step {K : PySem.W.Frag} {W : Addr -> Option Nat} {G H G' H' : Hp} {σ : L2.St} {en : En} (h : SimS K W G H σ en) (s : Step G H G' H') : SimS K W G' H' σ en :=
 ⟨h.1, fun i l e => let ⟨v, e1, e2⟩ := h.2 i l e; ⟨v, e1, e2.step s⟩⟩
def PostE (K : PySem.W.Frag) (W : Addr -> Option Nat) (G H : Hp) (Q : VK) (r : Ev) : Prop := ∀ G' H' v, Step G H G' H' -> EOk K W H G' H' v r -> Q v H'
def PostB (G H : Hp) (Q : Bool -> Hp -> Prop) (b : Bool) : Prop := ∀ G' H', Step G H G' H' -> Q b H'
def EOks (K : PySem.W.Frag) (W : Addr -> Option Nat) (Hs G H : Hp) : List V -> List Ev -> Prop
 | [], [] => True
 | v :: vs, r :: rs => EOk K W Hs G H v r /\ EOks K W Hs G H vs rs
 | _, _ => False
def aBr (K : PySem.W.Frag) (W : Addr -> Option Nat) (G H : Hp) (Q : List V -> Hp -> Prop) (rs : List Ev) : Prop := ∀ G' H' vs, Step G H G' H' -> EOks K W H G' H' vs rs -> Q vs H'
def PostX (E : XK) (G H : Hp) (C : Addr) : Prop := ∀ G' H', Step G H G' H' -> E (.ref C) none H'
theorem PostE.step {K : PySem.W.Frag} {W : Addr -> Option Nat} {G H G' H' : Hp} {Q : VK} {r : Ev} (h : PostE K W G H Q r) (s : Step G H G' H') : PostE K W G' H' Q r := fun G2 H2 v s2 e => h G2 H2 v (s.trans s2) (by
 cases r with
 | p d => exact e
 | b d => exact e
 | x d => exact e
 | f d =>
  obtain ⟨a, o, h1, h2, h3, h4, h5⟩ := e
  exact ⟨a, o, h1, s.h.free h2, h3, h4, h5⟩)
theorem PostX.step {E : XK} {G H G' H' : Hp} {C : Addr} (h : PostX E G H C) (s : Step G H G' H') : PostX E G' H' C := fun G2 H2 s2 => h G2 H2 (s.trans s2)
theorem PostB.step {G H G' H' : Hp} {Q : Bool -> Hp -> Prop} {b : Bool} (h : PostB G H Q b) (s : Step G H G' H') : PostB G' H' Q b := fun G2 H2 s2 => h G2 H2 (s.trans s2)
def tE (K : PySem.W.Frag) (E : L2.St -> XK) (f : En -> Res Ev) : TE := fun σ H Q => ∃ B G0 G W en, SimH B G0 G W H /\ SimS K W G H σ en /\ wpR (f en) (PostE K W G H Q) (PostX (E σ) G H)
def DE (X : Cx) (E : L2.St -> XK) (e : Expr) (f : En -> Res Ev) : Prop := PE X e (tE X.K E f)
theorem DE.out {X : Cx} {E : L2.St -> XK} {e : Expr} {f : En -> Res Ev} (h : DE X E e f) : ∃ t, PE X e t /\ ∀ B G0 G W H σ en Q, SimH B G0 G W H -> SimS X.K W G H σ en -> wpR (f en) (PostE X.K W G H Q) (PostX (E σ) G H) -> t σ H Q :=
 ⟨_, h, fun B G0 G W H σ en Q h1 h2 h3 => ⟨B, G0, G, W, en, h1, h2, h3⟩⟩
theorem DE.in {X : Cx} {E : L2.St -> XK} {e : Expr} {f : En -> Res Ev} (h : ∃ t, PE X e t /\ ∀ B G0 G W H σ en Q, SimH B G0 G W H -> SimS X.K W G H σ en -> wpR (f en) (PostE X.K W G H Q) (PostX (E σ) G H) -> t σ H Q) : DE X E e f :=
 fun pins s σ H Q I ⟨B, G0, G, W, en, h1, h2, h3⟩ => let ⟨_, p, m⟩ := h; p pins s σ H Q I (m B G0 G W H σ en Q h1 h2 h3)
def tT (K : PySem.W.Frag) (E : L2.St -> XK) (f : En -> Res Bool) : TT := fun σ H Q => ∃ B G0 G W en, SimH B G0 G W H /\ SimS K W G H σ en /\ wpR (f en) (PostB G H Q) (PostX (E σ) G H)
def tA (K : PySem.W.Frag) (E : L2.St -> XK) (f : En -> Res (List Ev)) : TA := fun σ H Q => ∃ B G0 G W en, SimH B G0 G W H /\ SimS K W G H σ en /\ wpR (f en) (aBr K W G H Q) (PostX (E σ) G H)
def DT (X : Cx) (E : L2.St -> XK) (e : Expr) (f : En -> Res Bool) : Prop := PT X e (tT X.K E f)
def DW (X : Cx) (E : L2.St -> XK) (e : Expr) (f : En -> Res Bool) : Prop := PW X e (tT X.K E f)
def DA (X : Cx) (E : L2.St -> XK) (es : List Expr) (f : En -> Res (List Ev)) : Prop := PA X es (tA X.K E f)
section
variable {X : Cx} {E : L2.St -> XK} {e : Expr} {es : List Expr} {f : En -> Res Bool} {fr : En -> Res (List Ev)}
theorem DT.out (h : DT X E e f) : ∃ t, PT X e t /\ ∀ B G0 G W H σ en Q, SimH B G0 G W H -> SimS X.K W G H σ en -> wpR (f en) (PostB G H Q) (PostX (E σ) G H) -> t σ H Q :=
 ⟨_, h, fun B G0 G W H σ en Q h1 h2 h3 => ⟨B, G0, G, W, en, h1, h2, h3⟩⟩
theorem DT.in (h : ∃ t, PT X e t /\ ∀ B G0 G W H σ en Q, SimH B G0 G W H -> SimS X.K W G H σ en -> wpR (f en) (PostB G H Q) (PostX (E σ) G H) -> t σ H Q) : DT X E e f :=
 fun pins s σ H Q I ⟨B, G0, G, W, en, h1, h2, h3⟩ => let ⟨_, p, m⟩ := h; p pins s σ H Q I (m B G0 G W H σ en Q h1 h2 h3)
theorem DW.out (h : DW X E e f) : ∃ t, PW X e t /\ ∀ B G0 G W H σ en Q, SimH B G0 G W H -> SimS X.K W G H σ en -> wpR (f en) (PostB G H Q) (PostX (E σ) G H) -> t σ H Q :=
 ⟨_, h, fun B G0 G W H σ en Q h1 h2 h3 => ⟨B, G0, G, W, en, h1, h2, h3⟩⟩
theorem DW.in (h : ∃ t, PW X e t /\ ∀ B G0 G W H σ en Q, SimH B G0 G W H -> SimS X.K W G H σ en -> wpR (f en) (PostB G H Q) (PostX (E σ) G H) -> t σ H Q) : DW X E e f :=
 fun wh pins s σ H Q I ⟨B, G0, G, W, en, h1, h2, h3⟩ => let ⟨_, p, m⟩ := h; p wh pins s σ H Q I (m B G0 G W H σ en Q h1 h2 h3)
theorem DA.out (h : DA X E es fr) : ∃ t, PA X es t /\ ∀ B G0 G W H σ en Q, SimH B G0 G W H -> SimS X.K W G H σ en -> wpR (fr en) (aBr X.K W G H Q) (PostX (E σ) G H) -> t σ H Q :=
 ⟨_, h, fun B G0 G W H σ en Q h1 h2 h3 => ⟨B, G0, G, W, en, h1, h2, h3⟩⟩
theorem DA.in (h : ∃ t, PA X es t /\ ∀ B G0 G W H σ en Q, SimH B G0 G W H -> SimS X.K W G H σ en -> wpR (fr en) (aBr X.K W G H Q) (PostX (E σ) G H) -> t σ H Q) : DA X E es fr :=
 fun pos pins s σ H Q I ⟨B, G0, G, W, en, h1, h2, h3⟩ => let ⟨_, p, m⟩ := h; p pos pins s σ H Q I (m B G0 G W H σ en Q h1 h2 h3)
end
theorem DW.t {X : Cx} {E : L2.St -> XK} {e : Expr} {f : En -> Res Bool} (h : DW X E e f) : DT X E e f := h _
section
variable {X : Cx} {E : L2.St -> XK} {a b c e : Expr} {es : List Expr} {fa fb : En -> Res Ev} {fr : En -> Res (List Ev)} {pos : Pos}
theorem DE.go {K : PySem.W.Frag} {W : Addr -> Option Nat} {G H : Hp} {EE : XK} {Q : VK} {r : Res Ev} {k : Ev -> Res Ev} {Q' : VK} (hw : wpR (r.bind k) (PostE K W G H Q) (PostX EE G H))
  (h : ∀ (x : Ev) G1 H1 v, Step G H G1 H1 -> EOk K W H G1 H1 v x.c -> wpR (k x) (PostE K W G1 H1 Q) (PostX EE G1 H1) -> Q' v H1) : wpR r (PostE K W G H Q') (PostX EE G H) := by
 rw [bA] at hw
 refine aT hw (fun x hx G1 H1 v s e => ?_) fun C h => h
 obtain ⟨G2, s2, e2⟩ := e.c s
 exact h x G2 H1 v s2 e2 (aT hx (fun r h => h.step s2) fun C h => h.step s2)
theorem DE.goB {K : PySem.W.Frag} {W : Addr -> Option Nat} {G H : Hp} {EE : XK} {Q : Bool -> Hp -> Prop} {r : Res Ev} {k : Ev -> Res Bool} {Q' : VK} (hw : wpR (r.bind k) (PostB G H Q) (PostX EE G H))
  (h : ∀ (x : Ev) G1 H1 v, Step G H G1 H1 -> EOk K W H G1 H1 v x.c -> wpR (k x) (PostB G1 H1 Q) (PostX EE G1 H1) -> Q' v H1) : wpR r (PostE K W G H Q') (PostX EE G H) := by
 rw [bA] at hw
 refine aT hw (fun x hx G1 H1 v s e => ?_) fun C h => h
 obtain ⟨G2, s2, e2⟩ := e.c s
 exact h x G2 H1 v s2 e2 (aT hx (fun r h => h.step s2) fun C h => h.step s2)
def OpM (K : PySem.W.Frag) (r : R2) (op : Ev -> Ev -> Res Ev) : Prop := ∀ (W : Addr -> Option Nat) (G H : Hp) (v u : V) (x y : Ev) (Q : VK), Same G H -> EOk K W H G H v x.c -> EOk K W H G H u y.c -> wpR (op x.c y.c) (PostE K W G H Q) (fun _ => False) -> r v u H Q
def aL (op : Ev -> Ev -> Res Ev) (fa fb : En -> Res Ev) : En -> Res Ev := fun en => (fa en).bind fun x => (fb en).bind fun y => op x.c y.c
def NoX (op : Ev -> Ev -> Res Ev) : Prop := ∀ x y C, op x y ≠ .exc C
theorem noX {α : Type} {r : Res α} {Q : α -> Prop} {E E' : Addr -> Prop} (h : wpR r Q E) (n : ∀ C, r ≠ .exc C) : wpR r Q E' := by
 cases r with
 | ok a => exact h
 | exc C => exact absurd rfl (n C)
 | bad => exact h
theorem mS {ta tb : TE} {r : R2} {op : Ev -> Ev -> Res Ev} (ma : ∀ B G0 G W H σ en Q, SimH B G0 G W H -> SimS X.K W G H σ en -> wpR (fa en) (PostE X.K W G H Q) (PostX (E σ) G H) -> ta σ H Q)
  (mb : ∀ B G0 G W H σ en Q, SimH B G0 G W H -> SimS X.K W G H σ en -> wpR (fb en) (PostE X.K W G H Q) (PostX (E σ) G H) -> tb σ H Q) (hm : OpM X.K r op) (hn : NoX op) :
  ∀ B G0 G W H σ en Q, SimH B G0 G W H -> SimS X.K W G H σ en -> wpR (aL op fa fb en) (PostE X.K W G H Q) (PostX (E σ) G H) -> tOp r ta tb σ H Q := by
 intro B G0 G W H σ en Q hh hs hw
 refine ma B G0 G W H σ en _ hh hs (DE.go hw fun x G1 H1 v s1 e1 h1 => ?_)
 refine mb B G0 G1 W H1 σ en _ (hh.step s1) (hs.step s1) (DE.go h1 fun y G2 H2 u s2 e2 h2 => ?_)
 exact hm W G2 H2 v u x y Q s2.gh (e1.step s2) (by cases y <;> exact e2) (noX h2 (hn _ _))
theorem aU {op : Operator} {r : R2} {f : Ev -> Ev -> Res Ev} (ho : OpR X (binaryOp op) r) (hm : OpM X.K r f) (hn : NoX f) (ha : DE X E a fa) (hb : DE X E b fb) : DE X E (.BinOp a op b pos) (aL f fa fb) := by
 obtain ⟨ta, pa, ma⟩ := ha.out
 obtain ⟨tb, pb, mb⟩ := hb.out
 refine DE.in ?_
 exact ⟨_, aKn ho pa pb, mS ma mb hm hn⟩
theorem fN {op : CmpOp} {r : R2} {f : Ev -> Ev -> Res Ev} (ho : OpR X (compareOp op) r) (hm : OpM X.K r f) (hn : NoX f) (ha : DE X E a fa) (hb : DE X E b fb) (hk : behindInMarks op b = false) : DE X E (.Compare a [op] [b] pos) (aL f fa fb) := by
 obtain ⟨ta, pa, ma⟩ := ha.out
 obtain ⟨tb, pb, mb⟩ := hb.out
 refine DE.in ?_
 exact ⟨_, aFk ho pa pb hk, mS ma mb hm hn⟩
def iK (r : Ev) : Res Bool := match r with
 | .p (.bool b) => .ok b
 | _ => .bad
def cU (f : En -> Res Ev) : En -> Res Bool := fun en => (f en).bind iK
theorem o9 {t : TE} (m : ∀ B G0 G W H σ en Q, SimH B G0 G W H -> SimS X.K W G H σ en -> wpR (fa en) (PostE X.K W G H Q) (PostX (E σ) G H) -> t σ H Q) :
  ∀ B G0 G W H σ en Q, SimH B G0 G W H -> SimS X.K W G H σ en -> wpR (cU fa en) (PostB G H Q) (PostX (E σ) G H) -> t σ H fun x H1 => ∃ k, x = .bl k /\ Q k H1 := by
 intro B G0 G W H σ en Q hh hs hw
 refine m B G0 G W H σ en _ hh hs (DE.goB hw fun x G1 H1 v s1 e1 h1 => ?_)
 cases x with
 | p d =>
  cases d with
  | bool k => cases e1; exact ⟨k, rfl, h1 G1 H1 (Step.refl s1.gh)⟩
  | _ => exact False.elim h1
 | _ => exact False.elim h1
theorem cZ {op : CmpOp} {r : R2} {f : Ev -> Ev -> Res Ev} (ho : OpR X (compareOp op) r) (hm : OpM X.K r f) (hn : NoX f) (ha : DE X E a fa) (hb : DE X E b fb) (hk : behindInMarks op b = false) : DT X E (.Compare a [op] [b] pos) (cU (aL f fa fb)) := by
 obtain ⟨ta, pa, ma⟩ := ha.out
 obtain ⟨tb, pb, mb⟩ := hb.out
 refine DT.in ?_
 exact ⟨_, aFy ho pa pb hk, o9 (mS ma mb hm hn)⟩
theorem dY (h : DE X E e fa) (he : ∀ whole, isTrue e X.env whole = (do let v <- whole; standAt e.pos; holding [v] (truthy v)) := by intro _; rfl) : DT X E e (cU fa) := by
 obtain ⟨t, p, m⟩ := h.out
 refine DT.in ?_
 exact ⟨_, aI3 p he, o9 m⟩
def aG (i : Nat) : En -> Res Ev := fun en => match en[i]? with
 | some (some (.p d)) => .ok (.p d)
 | some (some (.o d)) => .ok (.b d)
 | some (some (.x C)) => .ok (.x C)
 | _ => .bad
theorem aI4 {i : Nat} {x : Str} (hN : X.N[i]? = some x) (hv : Vis X.env.scope x) (hd : (x == ("__debug__" : Str)) = false := by decide) (hcd : (x == ("__classdict__" : Str)) = false := by decide) : DE X E (.Name x pos) (aG i) := by
 refine DE.in ?_
 refine ⟨_, aD6 hN hv hd hcd, fun B G0 G W H σ en Q hh hs hw => ?_⟩
 unfold aG at hw
 split at hw
 ·rename_i d e
  obtain ⟨v, e1, e2⟩ := hs.2 i _ e
  exact ⟨v, e1, hw G H v (Step.refl hh.gh) e2⟩
 ·rename_i d e
  obtain ⟨v, e1, a, o, e2, e3, e4, e5⟩ := hs.2 i _ e
  exact ⟨v, e1, hw G H v (Step.refl hh.gh) ⟨a, i, o, e2, e3, e4, e5⟩⟩
 ·rename_i C e
  obtain ⟨v, e1, e2⟩ := hs.2 i _ e
  exact ⟨v, e1, hw G H v (Step.refl hh.gh) e2⟩
 ·exact hw.elim
def mC (d : D) : En -> Res Ev := fun _ => .ok (.p d)
theorem gJ {v : V} {d : D} (h : ∀ G, Rep X.K G v d) : ∀ B G0 G W H σ en Q, SimH B G0 G W H -> SimS X.K W G H σ en -> wpR (mC d en) (PostE X.K W G H Q) (PostX (E σ) G H) -> tC v σ H Q :=
 fun B G0 G W H σ en Q hh hs hw => hw G H v (Step.refl hh.gh) (h G)
theorem aC {i j} : DE X E (.Constant (.int i) j pos) (mC (.int i)) := DE.in ⟨_, aHa, gJ fun _ => .int i⟩
theorem nK {b j} : DE X E (.Constant (.bool b) j pos) (mC (.bool b)) := DE.in ⟨_, aKs, gJ fun _ => .bl b⟩
theorem dS {x j} : DE X E (.Constant (.str x) j pos) (mC (.str x)) := DE.in ⟨_, aH6, gJ fun _ => .str x⟩
theorem pA {x : Str} {i : Int} {t : Tok} (hg : Gl X x) (hm : X.mg x = some (.int i t)) (hd : (x == ("__debug__" : Str)) = false := by decide) : DE X E (.Name x pos) (mC (.int i)) := DE.in ⟨_, aA5 (v := .int i) hg hm ⟨t, rfl⟩ hd, gJ fun _ => .int i⟩
variable {ga gb : En -> Res Bool} {rest : List Expr}
def aBc (f g : En -> Res Bool) : En -> Res Bool := fun en => (f en).bind fun c => if c = true then g en else .ok false
def mOr (f g : En -> Res Bool) : En -> Res Bool := fun en => (f en).bind fun c => if c = true then .ok true else g en
def mW (f : En -> Res Bool) : En -> Res Bool := fun en => (f en).bind fun c => .ok (!c)
theorem aFq (ha : DT X E a ga) : DW X E (.BoolOp .And [a] pos) ga := let ⟨t, p, m⟩ := ha.out; DW.in ⟨t, aEm p, m⟩
theorem jV (ha : DT X E a ga) : DW X E (.BoolOp .Or [a] pos) ga := let ⟨t, p, m⟩ := ha.out; DW.in ⟨t, aJz p, m⟩
theorem aI6 (ha : DT X E a ga) (hb : DW X E (.BoolOp .And (b :: rest) pos) gb) : DW X E (.BoolOp .And (a :: b :: rest) pos) (aBc ga gb) := by
 obtain ⟨ta, pa, ma⟩ := ha.out
 obtain ⟨tb, pb, mb⟩ := hb.out
 refine DW.in ?_
 refine ⟨_, aJ1 pa pb, fun B G0 G W H σ en Q hh hs hw => ma B G0 G W H σ en _ hh hs ?_⟩
 have hw : wpR ((ga en).bind _) _ _ := hw
 rw [bA] at hw
 refine aT hw (fun c hc G1 H1 s => ?_) fun C h => h
 cases c with
 | true => exact mb B G0 G1 W H1 σ en Q (hh.step s) (hs.step s) (aT hc (fun _ h => h.step s) fun _ h => h.step s)
 | false => exact hc G1 H1 s
theorem kF (ha : DT X E a ga) (hb : DW X E (.BoolOp .Or (b :: rest) pos) gb) : DW X E (.BoolOp .Or (a :: b :: rest) pos) (mOr ga gb) := by
 obtain ⟨ta, pa, ma⟩ := ha.out
 obtain ⟨tb, pb, mb⟩ := hb.out
 refine DW.in ?_
 refine ⟨_, aLq pa pb, fun B G0 G W H σ en Q hh hs hw => ma B G0 G W H σ en _ hh hs ?_⟩
 have hw : wpR ((ga en).bind _) _ _ := hw
 rw [bA] at hw
 refine aT hw (fun c hc G1 H1 s => ?_) fun C h => h
 cases c with
 | false => exact mb B G0 G1 W H1 σ en Q (hh.step s) (hs.step s) (aT hc (fun _ h => h.step s) fun _ h => h.step s)
 | true => exact hc G1 H1 s
theorem fB (ha : DT X E a ga) : DT X E (.UnaryOp .Not a pos) (mW ga) := by
 obtain ⟨ta, pa, ma⟩ := ha.out
 refine DT.in ?_
 refine ⟨_, aHw pa, fun B G0 G W H σ en Q hh hs hw => ma B G0 G W H σ en _ hh hs ?_⟩
 have hw : wpR ((ga en).bind _) _ _ := hw
 rw [bA] at hw
 exact aT hw (fun c hc => hc) fun C h => h
def kR (f g : En -> Res Ev) : En -> Res Ev := fun en => (f en).bind fun c => match c with
 | .p (.bool true) => g en
 | .p (.bool false) => .ok (.p (.bool false))
 | _ => .bad
def aBb (f g : En -> Res Ev) : En -> Res Ev := fun en => (f en).bind fun c => match c with
 | .p (.bool false) => g en
 | .p (.bool true) => .ok (.p (.bool true))
 | _ => .bad
def v9 (f : En -> Res Ev) : En -> Res Ev := fun en => (f en).bind fun c => match c with
 | .p (.bool k) => .ok (.p (.bool (!k)))
 | _ => .bad
theorem lZ {op} (h : DE X E a fa) : DE X E (.BoolOp op [a] pos) fa := let ⟨t, p, m⟩ := h.out; DE.in ⟨t, aHr p, m⟩
theorem mV (ha : DE X E a fa) (hb : DE X E (.BoolOp .And (b :: rest) pos) fb) : DE X E (.BoolOp .And (a :: b :: rest) pos) (kR fa fb) := by
 obtain ⟨ta, pa, ma⟩ := ha.out
 obtain ⟨tb, pb, mb⟩ := hb.out
 refine DE.in ?_
 refine ⟨_, aIj pa pb, fun B G0 G W H σ en Q hh hs hw => ma B G0 G W H σ en _ hh hs (DE.go hw fun x G1 H1 v s1 e1 h1 => ?_)⟩
 cases x with
 | p d =>
  cases d with
  | bool k =>
   cases e1
   cases k with
   | true => exact ⟨true, rfl, mb B G0 G1 W H1 σ en Q (hh.step s1) (hs.step s1) h1⟩
   | false => exact ⟨false, rfl, h1 G1 H1 _ (Step.refl s1.gh) (.bl false)⟩
  | _ => exact False.elim h1
 | _ => exact False.elim h1
theorem aHq (ha : DE X E a fa) (hb : DE X E (.BoolOp .Or (b :: rest) pos) fb) : DE X E (.BoolOp .Or (a :: b :: rest) pos) (aBb fa fb) := by
 obtain ⟨ta, pa, ma⟩ := ha.out
 obtain ⟨tb, pb, mb⟩ := hb.out
 refine DE.in ?_
 refine ⟨_, aKm pa pb, fun B G0 G W H σ en Q hh hs hw => ma B G0 G W H σ en _ hh hs (DE.go hw fun x G1 H1 v s1 e1 h1 => ?_)⟩
 cases x with
 | p d =>
  cases d with
  | bool k =>
   cases e1
   cases k with
   | false => exact ⟨false, rfl, mb B G0 G1 W H1 σ en Q (hh.step s1) (hs.step s1) h1⟩
   | true => exact ⟨true, rfl, h1 G1 H1 _ (Step.refl s1.gh) (.bl true)⟩
  | _ => exact False.elim h1
 | _ => exact False.elim h1
theorem aI8 (ha : DE X E a fa) : DE X E (.UnaryOp .Not a pos) (v9 fa) := by
 obtain ⟨ta, pa, ma⟩ := ha.out
 refine DE.in ?_
 refine ⟨_, aJ0 pa, fun B G0 G W H σ en Q hh hs hw => ma B G0 G W H σ en _ hh hs (DE.go hw fun x G1 H1 v s1 e1 h1 => ?_)⟩
 cases x with
 | p d =>
  cases d with
  | bool k =>
   cases e1
   exact ⟨k, rfl, h1 G1 H1 _ (Step.refl s1.gh) (.bl _)⟩
  | _ => exact False.elim h1
 | _ => exact False.elim h1
def mIf (c : En -> Res Bool) (f g : En -> Res Ev) : En -> Res Ev := fun en => (c en).bind fun k => if k = true then f en else g en
theorem aGy (hc : DT X E c ga) (ha : DE X E a fa) (hb : DE X E b fb) : DE X E (.IfExp c a b pos) (mIf ga fa fb) := by
 obtain ⟨tc, pc, mc⟩ := hc.out
 obtain ⟨ta, pa, ma⟩ := ha.out
 obtain ⟨tb, pb, mb⟩ := hb.out
 refine DE.in ?_
 refine ⟨_, aBn pc pa pb, fun B G0 G W H σ en Q hh hs hw => mc B G0 G W H σ en _ hh hs ?_⟩
 have hw : wpR ((ga en).bind _) _ _ := hw
 rw [bA] at hw
 refine aT hw (fun k hk G1 H1 s => ?_) fun C h => h
 have hk' := aT hk (fun _ h => PostE.step h s) fun _ h => PostX.step h s
 cases k with
 | true => exact ma B G0 G1 W H1 σ en Q (hh.step s) (hs.step s) hk'
 | false => exact mb B G0 G1 W H1 σ en Q (hh.step s) (hs.step s) hk'
def aS : En -> Res (List Ev) := fun _ => .ok []
def aB (f : En -> Res Ev) (g : En -> Res (List Ev)) : En -> Res (List Ev) := fun en => (f en).bind fun x => (g en).bind fun xs => .ok (x.c :: xs)
theorem aD : DA X E [] aS := DA.in ⟨_, uS, fun B G0 G W H σ en Q hh hs hw => hw G H [] (Step.refl hh.gh) trivial⟩
theorem aA (ha : DE X E e fa) (hr : DA X E es fr) (hst : starEach (e :: es) X.env = (false, eval e X.env) :: starEach es X.env := by rfl) : DA X E (e :: es) (aB fa fr) := by
 obtain ⟨ta, pa, ma⟩ := ha.out
 obtain ⟨tr, pr, mr⟩ := hr.out
 refine DA.in ?_
 refine ⟨_, mK pa pr hst, fun B G0 G W H σ en Q hh hs hw => ma B G0 G W H σ en _ hh hs ?_⟩
 have hw : wpR ((fa en).bind _) _ _ := hw
 rw [bA] at hw
 refine aT hw (fun x hx G1 H1 v s e1 => ?_) fun C h => h
 obtain ⟨G2, s2, e2⟩ := e1.c s
 refine mr B G0 G2 W H1 σ en _ (hh.step s2) (hs.step s2) ?_
 rw [bA] at hx
 refine aT hx (fun xs hxs G3 H3 vs s3 e3 => ?_) fun C h => h.step s2
 refine hxs G3 H3 (v :: vs) (s2.trans s3) ⟨e2.step s3, ?_⟩
 clear hxs hx hw
 induction xs generalizing vs with
 | nil => cases vs <;> exact e3
 | cons y ys ih =>
  cases vs with
  | nil => exact e3
  | cons u us =>
   refine ⟨?_, ih us e3.2⟩
   have z := e3.1
   cases y with
   | p d => exact z
   | b d => exact z
   | x d => exact z
   | f d =>
    obtain ⟨a, o, h1, h2, h3⟩ := z
    exact ⟨a, o, h1, s2.h.free h2, h3⟩
end
inductive Out where
 | nx (en : En)
 | rt (l : L)
 | bk (en : En)
 | ct (en : En)
 | ex (C : Addr) (en : En)
abbrev MS := En -> Option Out
def aEc (K : PySem.W.Frag) (B G H : Hp) (v : V) : L -> Prop
 | .p d => Rep K G v d
 | .o d => ∃ a o, v = .ref a /\ G a = none /\ B a = none /\ H a = some o /\ Cont K G o d
 | .x C => ∃ e, v = .ref e /\ G e = some (aGk e (.ref C))
 | .h _ => False
def PostS (K : PySem.W.Frag) (B G0 : Hp) (E : L2.St -> XK) (Dn : Ends) : Out -> Prop
 | .nx en => ∀ G W H σ, SimH B G0 G W H -> SimS K W G H σ en -> Dn.nx σ H
 | .bk en => ∀ G W H σ, SimH B G0 G W H -> SimS K W G H σ en -> Dn.bk σ H
 | .ct en => ∀ G W H σ, SimH B G0 G W H -> SimS K W G H σ en -> Dn.ct σ H
 | .rt l => ∀ G W H v, SimH B G0 G W H -> aEc K B G H v l -> Dn.rt v H
 | .ex C en => ∀ G W H σ, SimH B G0 G W H -> SimS K W G H σ en -> E σ (.ref C) none H
def wpO (o : Option Out) (P : Out -> Prop) : Prop := match o with
 | some r => P r
 | none => False
def tS (K : PySem.W.Frag) (E : L2.St -> XK) (f : MS) : TS := fun Dn σ H => ∃ B G0 G W en, SimH B G0 G W H /\ SimS K W G H σ en /\ wpO (f en) (PostS K B G0 E Dn)
def DS (X : Cx) (E : L2.St -> XK) (st : Stmt) (f : MS) : Prop := PS X st (tS X.K E f)
def DSs (X : Cx) (E : L2.St -> XK) (st : List Stmt) (f : MS) : Prop := PSs X st (tS X.K E f)
section
variable {X : Cx} {E : L2.St -> XK} {st : Stmt} {sts : List Stmt} {f g : MS} {fe : En -> Res Ev} {fc : En -> Res Bool} {e c : Expr} {pos : Pos}
theorem DS.in (h : ∃ t, PS X st t /\ ∀ B G0 G W H σ en Dn, SimH B G0 G W H -> SimS X.K W G H σ en -> wpO (f en) (PostS X.K B G0 E Dn) -> t Dn σ H) : DS X E st f :=
 fun pins s σ H Dn I ⟨B, G0, G, W, en, h1, h2, h3⟩ => let ⟨_, p, m⟩ := h; p pins s σ H Dn I (m B G0 G W H σ en Dn h1 h2 h3)
theorem DSs.in (h : ∃ t, PSs X sts t /\ ∀ B G0 G W H σ en Dn, SimH B G0 G W H -> SimS X.K W G H σ en -> wpO (f en) (PostS X.K B G0 E Dn) -> t Dn σ H) : DSs X E sts f :=
 fun pins s σ H Dn I ⟨B, G0, G, W, en, h1, h2, h3⟩ => let ⟨_, p, m⟩ := h; p pins s σ H Dn I (m B G0 G W H σ en Dn h1 h2 h3)
theorem DS.out (h : DS X E st f) : ∃ t, PS X st t /\ ∀ B G0 G W H σ en Dn, SimH B G0 G W H -> SimS X.K W G H σ en -> wpO (f en) (PostS X.K B G0 E Dn) -> t Dn σ H :=
 ⟨_, h, fun B G0 G W H σ en Dn h1 h2 h3 => ⟨B, G0, G, W, en, h1, h2, h3⟩⟩
theorem DSs.out (h : DSs X E sts f) : ∃ t, PSs X sts t /\ ∀ B G0 G W H σ en Dn, SimH B G0 G W H -> SimS X.K W G H σ en -> wpO (f en) (PostS X.K B G0 E Dn) -> t Dn σ H :=
 ⟨_, h, fun B G0 G W H σ en Dn h1 h2 h3 => ⟨B, G0, G, W, en, h1, h2, h3⟩⟩
def dG : MS := fun en => some (.nx en)
def cO (f g : MS) : MS := fun en => match f en with
 | some (.nx e) => g e
 | r => r
theorem bK : DSs X E [] dG := DSs.in ⟨_, aGd, fun B G0 G W H σ en Dn hh hs hw => hw G W H σ hh hs⟩
theorem aJ (h : DS X E st f) : DSs X E [st] f := let ⟨t, p, m⟩ := h.out; DSs.in ⟨t, aFv p, m⟩
theorem aE (h1 : DS X E st f) (h2 : DSs X E sts g) : DSs X E (st :: sts) (cO f g) := by
 obtain ⟨t, p, m⟩ := h1.out
 obtain ⟨u, q, n⟩ := h2.out
 refine DSs.in ⟨_, aCq p q, fun B G0 G W H σ en Dn hh hs hw => m B G0 G W H σ en _ hh hs ?_⟩
 unfold cO at hw
 cases ef : f en with
 | none => rw [ef] at hw; exact hw
 | some r =>
  rw [ef] at hw
  cases r with
  | nx e => exact fun G1 W1 H1 σ1 hh1 hs1 => n B G0 G1 W1 H1 σ1 e Dn hh1 hs1 hw
  | rt l => exact hw
  | bk e => exact hw
  | ct e => exact hw
  | ex C e => exact hw
theorem SimS.set {K : PySem.W.Frag} {W : Addr -> Option Nat} {G H : Hp} {σ : L2.St} {en : En} {i : Nat} {v : V} {l : L} (h : SimS K W G H σ en) (hl : Slot K W G H i v l) : SimS K W G H (σ.set i (some v)) (en.set i (some l)) := by
 refine ⟨by rw [List.length_set, List.length_set]; exact h.1, fun j m e => ?_⟩
 rw [List.getElem?_set] at e
 rw [List.getElem?_set]
 by_cases hj : i = j
 ·subst hj
  rw [if_pos rfl] at e
  split at e
  ·rename_i hlt
   cases e
   rw [if_pos rfl, if_pos (by rw [h.1]; exact hlt)]
   exact ⟨v, rfl, hl⟩
  ·cases e
 ·rw [if_neg hj] at e ⊢
  exact h.2 j m e
def owner (W : Addr -> Option Nat) (a : Addr) (i : Nat) : Addr -> Option Nat := fun b => if b = a then some i else W b
theorem aB8 {K : PySem.W.Frag} {B G0 G H : Hp} {W : Addr -> Option Nat} {σ : L2.St} {en : En} {i : Nat} {a : Addr} {o : HO} {d : D} (hh : SimH B G0 G W H) (hs : SimS K W G H σ en) (hW : W a = none) (hG : G a = none) (hB : B a = none) (hH : H a = some o) (hc : Cont K G o d) :
  SimH B G0 G (owner W a i) H /\ SimS K (owner W a i) G H (σ.set i (some (.ref a))) (en.set i (some (.o d))) := by
 refine ⟨⟨hh.gh, hh.bh, hh.g0, hh.gb, fun b j e => ?_⟩, SimS.set ⟨hs.1, fun j l e => ?_⟩ ⟨a, o, rfl, if_pos rfl, hH, hc⟩⟩
 ·unfold owner at e
  split at e
  ·rename_i z
   subst z
   exact ⟨hG, hB, o, hH, hc.mut⟩
  ·exact hh.wf b j e
 ·obtain ⟨v, e1, e2⟩ := hs.2 j l e
  refine ⟨v, e1, ?_⟩
  cases l with
  | p d => exact e2
  | x C => exact e2
  | h a => exact e2
  | o d =>
   obtain ⟨b, ob, h1, h2, h3, h4⟩ := e2
   refine ⟨b, ob, h1, ?_, h3, h4⟩
   unfold owner
   rw [if_neg (fun z => by rw [z, hW] at h2; cases h2)]
   exact h2
def eR (i : Nat) (fe : En -> Res Ev) : MS := fun en => match fe en with
 | .ok (.p d) => some (.nx (en.set i (some (.p d))))
 | .ok (.f d) => some (.nx (en.set i (some (.o d))))
 | .ok (.x C) => some (.nx (en.set i (some (.x C))))
 | .ok (.b _) => none
 | .exc C => some (.ex C en)
 | .bad => none
theorem SimH.lone {B G0 G H : Hp} {W : Addr -> Option Nat} (hh : SimH B G0 G W H) {a : Addr} (h : H a = none) : W a = none := by
 cases e : W a with
 | none => rfl
 | some i =>
  obtain ⟨_, _, o, q, _⟩ := hh.wf a i e
  rw [h] at q; cases q
theorem aCf {te : TE} {i : Nat} (m : ∀ B G0 G W H σ en Q, SimH B G0 G W H -> SimS X.K W G H σ en -> wpR (fe en) (PostE X.K W G H Q) (PostX (E σ) G H) -> te σ H Q) :
  ∀ B G0 G W H σ en Dn, SimH B G0 G W H -> SimS X.K W G H σ en -> wpO (eR i fe en) (PostS X.K B G0 E Dn) -> te σ H fun x H1 => Dn.nx (σ.set i (some x)) H1 := by
 intro B G0 G W H σ en Dn hh hs hw
 refine m B G0 G W H σ en _ hh hs ?_
 unfold eR at hw
 cases ef : fe en with
 | bad => rw [ef] at hw; exact hw
 | exc C => rw [ef] at hw; exact fun G1 H1 s => hw G1 W H1 σ (hh.step s) (hs.step s)
 | ok r =>
  rw [ef] at hw
  cases r with
  | b d => exact hw.elim
  | p d => exact fun G1 H1 v s e => hw G1 W H1 _ (hh.step s) ((hs.step s).set e)
  | x C => exact fun G1 H1 v s e => hw G1 W H1 _ (hh.step s) ((hs.step s).set e)
  | f d =>
   rintro G1 H1 v s ⟨a, o, rfl, h1, h2, h3, h4⟩
   obtain ⟨q1, q2⟩ := aB8 (i := i) (hh.step s) (hs.step s) (hh.lone h1) h2 (hh.bh.free h1) h3 h4
   exact hw G1 _ H1 _ q1 q2
theorem bB {i : Nat} {x : Str} {pos' : Pos} (hN : X.N.Nodup) (hi : X.N[i]? = some x) (hx : Loc X.env.scope x) (he : DE X E e fe) (hs : swapsWith e (some (.Name x pos')) pos.line X.env = pure false := by rfl) (hf : X.fn x = true \/ X.env.scope.names.lookup x = some .local := by first | exact .inl rfl | exact .inr rfl | assumption) :
  DS X E (.Assign [.Name x pos'] e pos) (eR i fe) := by
 obtain ⟨t, p, m⟩ := he.out
 exact DS.in ⟨_, aHv hN hi hx p hs hf, aCf m⟩
def aJ9 : Ev -> L
 | .p d => .p d
 | .f d => .o d
 | .b d => .o d
 | .x C => .x C
def eM (fe : En -> Res Ev) : MS := fun en => match fe en with
 | .ok r => some (.rt (aJ9 r))
 | .exc C => some (.ex C en)
 | .bad => none
theorem aZ (he : DE X E e fe) : DS X E (.Return (some e) pos) (eM fe) := by
 obtain ⟨t, p, m⟩ := he.out
 refine DS.in ⟨_, aIy p, fun B G0 G W H σ en Dn hh hs hw => m B G0 G W H σ en _ hh hs ?_⟩
 unfold eM at hw
 cases ef : fe en with
 | bad => rw [ef] at hw; exact hw
 | exc C => rw [ef] at hw; exact fun G1 H1 s => hw G1 W H1 σ (hh.step s) (hs.step s)
 | ok r =>
  rw [ef] at hw
  intro G1 H1 v s e
  refine hw G1 W H1 v (hh.step s) ?_
  cases r with
  | p d => exact e
  | x C => exact e
  | f d =>
   obtain ⟨a, o, h0, h1, h2, h3, h4⟩ := e
   exact ⟨a, o, h0, h2, hh.bh.free h1, h3, h4⟩
  | b d =>
   obtain ⟨a, i, o, h0, h1, h3, h4⟩ := e
   have z := (hh.step s).wf a i h1
   exact ⟨a, o, h0, z.1, z.2.1, h3, h4⟩
def gP (c : En -> Res Bool) (f g : MS) : MS := fun en => match c en with
 | .ok k => if k = true then f en else g en
 | .exc C => some (.ex C en)
 | .bad => none
theorem eN {A B : List Stmt} (hc : DT X E c fc) (ha : DSs X E A f) (hb : DSs X E B g) : DS X E (.If c A B pos) (gP fc f g) := by
 obtain ⟨tc, pc, mc⟩ := hc.out
 obtain ⟨t, p, m⟩ := ha.out
 obtain ⟨u, q, n⟩ := hb.out
 refine DS.in ⟨_, aKw pc p q, fun B G0 G W H σ en Dn hh hs hw => mc B G0 G W H σ en _ hh hs ?_⟩
 unfold gP at hw
 cases ef : fc en with
 | bad => rw [ef] at hw; exact hw
 | exc C => rw [ef] at hw; exact fun G1 H1 s => hw G1 W H1 σ (hh.step s) (hs.step s)
 | ok k =>
  rw [ef] at hw
  intro G1 H1 s
  cases k with
  | true => exact m B G0 G1 W H1 σ en Dn (hh.step s) (hs.step s) hw
  | false => exact n B G0 G1 W H1 σ en Dn (hh.step s) (hs.step s) hw
def frz (i : Nat) (en : En) : En := match en[i]? with
 | some (some (.o d)) => en.set i (some (.p d))
 | _ => en
theorem aIv {K : PySem.W.Frag} {B G0 G H : Hp} {W : Addr -> Option Nat} {σ : L2.St} {en : En} (i : Nat) (hh : SimH B G0 G W H) (hs : SimS K W G H σ en) : ∃ G' W', SimH B G0 G' W' H /\ SimS K W' G' H σ (frz i en) := by
 unfold frz
 split
 ·rename_i d e
  obtain ⟨v, e1, a, o, rfl, e2, e3, e4⟩ := hs.2 i _ e
  obtain ⟨w1, w2, w3⟩ := hh.wf a i e2
  have sg : Same G (upd G a o) := Same.upd (Same.refl _) w1 o
  refine ⟨upd G a o, fun b => if b = a then none else W b, ⟨fun b u q => ?_, hh.bh, hh.g0.trans sg, fun b hb => ?_, fun b j e => ?_⟩, by rw [List.length_set]; exact hs.1, fun j l e5 => ?_⟩
  ·by_cases z : b = a
   ·subst z; rw [bM] at q; rw [e3]; exact q
   ·rw [bC z] at q; exact hh.gh b u q
  ·by_cases z : b = a
   ·subst z; exact .inr (.inl w2)
   ·rw [bC z] at hb; exact hh.gb b hb
  ·split at e
   ·cases e
   ·rename_i z
    rw [bC z]; exact hh.wf b j e
  ·rw [List.getElem?_set] at e5
   by_cases hj : i = j
   ·subst hj
    rw [if_pos rfl] at e5
    split at e5
    ·cases e5
     exact ⟨_, e1, (e4.mono sg).rep bM⟩
    ·cases e5
   ·rw [if_neg hj] at e5
    obtain ⟨v, f1, f2⟩ := hs.2 j l e5
    refine ⟨v, f1, ?_⟩
    cases l with
    | p d => exact f2.mono sg
    | x C => obtain ⟨ea, g1, g2⟩ := f2; exact ⟨ea, g1, sg _ _ g2⟩
    | h a => exact f2
    | o d =>
     obtain ⟨b, ob, g1, g2, g3, g4⟩ := f2
     refine ⟨b, ob, g1, ?_, g3, g4.mono sg⟩
     show (if b = a then none else W b) = some j
     rw [if_neg (fun z => by rw [z, e2] at g2; exact hj (Option.some.inj g2))]
     exact g2
 ·exact ⟨G, W, hh, hs⟩
theorem pK (i : Nat) (h : DSs X E sts f) : DSs X E sts (fun en => f (frz i en)) := by
 obtain ⟨t, p, m⟩ := h.out
 refine DSs.in ⟨t, p, fun B G0 G W H σ en Dn hh hs hw => ?_⟩
 obtain ⟨G', W', h1, h2⟩ := aIv i hh hs
 exact m B G0 G' W' H σ _ Dn h1 h2 hw
end
def mWh (c : En -> Res Bool) (f : MS) : Nat -> MS
 | 0, _ => none
 | n + 1, en => match c en with
  | .bad => none
  | .exc C => some (.ex C en)
  | .ok false => some (.nx en)
  | .ok true => match f en with
   | some (.nx e) => mWh c f n e
   | some (.ct e) => mWh c f n e
   | some (.bk e) => some (.nx e)
   | r => r
theorem n9 {c : En -> Res Bool} {f : MS} : ∀ {n : Nat} {en : En} {r : Out}, mWh c f n en = some r -> mWh c f (n + 1) en = some r
 | 0, _, _, h => by cases h
 | n + 1, en, r, h => by
  unfold mWh at h ⊢
  cases ec : c en with
  | bad => rw [ec] at h; exact h
  | exc C => rw [ec] at h; exact h
  | ok k =>
   rw [ec] at h
   cases k with
   | false => exact h
   | true =>
    dsimp only at h ⊢
    cases ef : f en with
    | none => rw [ef] at h; exact h
    | some o =>
     rw [ef] at h
     cases o with
     | nx e => exact n9 (n := n) h
     | ct e => exact n9 (n := n) h
     | bk e => exact h
     | rt l => exact h
     | ex C e => exact h
theorem aDv {c : En -> Res Bool} {f : MS} {n m : Nat} {en : En} {r : Out} (h : mWh c f n en = some r) (l : n <= m) : mWh c f m en = some r := by
 induction l with
 | refl => exact h
 | step _ ih => exact n9 ih
open Classical in
noncomputable def lX (c : En -> Res Bool) (f : MS) : MS := fun en => if h : ∃ n r, mWh c f n en = some r then mWh c f h.choose en else none
theorem rJ {c : En -> Res Bool} {f : MS} {n : Nat} {en : En} {r : Out} (h : mWh c f n en = some r) : lX c f en = some r := by
 unfold lX
 have hx : ∃ n r, mWh c f n en = some r := ⟨n, r, h⟩
 rw [dif_pos hx]
 obtain ⟨r', h'⟩ := hx.choose_spec
 rcases Nat.le_total n hx.choose with l | l
 ·exact aDv h l
 ·have := aDv h' l
  rw [h] at this
  rw [h']; exact this.symm
theorem sX {c : En -> Res Bool} {f : MS} {en : En} {P : Out -> Prop} (h : wpO (lX c f en) P) : ∃ n, wpO (mWh c f n en) P := by
 unfold lX at h
 split at h
 ·exact ⟨_, h⟩
 ·exact h.elim
section
variable {X : Cx} {E : L2.St -> XK} {st : Stmt} {sts : List Stmt} {f g : MS} {fe : En -> Res Ev} {fc : En -> Res Bool} {e c : Expr} {pos : Pos}
theorem vQ (hp : PassesOwn (model X.prog X.w) X.A X.env X.xe) (hc : DT X E c fc) (hb : DSs X E sts f) : DS X E (.While c sts [] pos) (lX fc f) := by
 obtain ⟨tc, pc, mc⟩ := hc.out
 obtain ⟨t, p, m⟩ := hb.out
 refine DS.in ⟨_, aBu hp pc p, fun B G0 G W H σ en Dn hh hs hw => ?_⟩
 obtain ⟨n0, hw⟩ := sX hw
 refine ⟨fun n σ H => ∃ G W en, SimH B G0 G W H /\ SimS X.K W G H σ en /\ wpO (mWh fc f n en) (PostS X.K B G0 E Dn), ⟨n0, G, W, en, hh, hs, hw⟩, ?_⟩
 rintro n σ H ⟨G, W, en, hh, hs, hw⟩
 cases n with
 | zero => exact hw.elim
 | succ n =>
  refine mc B G0 G W H σ en _ hh hs ?_
  unfold mWh at hw
  cases ec : fc en with
  | bad => rw [ec] at hw; exact hw
  | exc C => rw [ec] at hw; exact fun G1 H1 s => hw G1 W H1 σ (hh.step s) (hs.step s)
  | ok k =>
   rw [ec] at hw
   intro G1 H1 s
   cases k with
   | false => exact hw G1 W H1 σ (hh.step s) (hs.step s)
   | true =>
    refine ⟨fun σ' H' => ∃ G W en, SimH B G0 G W H' /\ SimS X.K W G H' σ' en /\ wpO (mWh fc f n en) (PostS X.K B G0 E Dn), fun σ' H' q => ⟨n, Nat.lt_succ_self n, q⟩, ?_⟩
    refine m B G0 G1 W H1 σ en _ (hh.step s) (hs.step s) ?_
    dsimp only at hw
    cases ef : f en with
    | none => rw [ef] at hw; exact hw
    | some o =>
     rw [ef] at hw
     cases o with
     | nx e => exact fun G2 W2 H2 σ2 h2 s2 => ⟨G2, W2, e, h2, s2, hw⟩
     | ct e => exact fun G2 W2 H2 σ2 h2 s2 => ⟨G2, W2, e, h2, s2, hw⟩
     | bk e => exact hw
     | rt l => exact hw
     | ex C e => exact hw
end
def y8 (K : PySem.W.Frag) (ds : List D) (G1 : Hp) (J : It) : Prop := ∀ G H, Same G1 G -> Same G H ->
 (∀ i d, ds[i]? = some d -> J.go i H /\ ∀ v H', J.yld i H v H' -> ∃ G', Step G H G' H' /\ Rep K G' v d) /\ J.stop ds.length H
def tI (K : PySem.W.Frag) (E : L2.St -> XK) (f : En -> Res (List D)) : TI := fun σ H R => ∃ B G0 G W en, SimH B G0 G W H /\ SimS K W G H σ en /\ wpR (f en) (fun ds => ∀ G' H' J, Step G H G' H' -> y8 K ds G' J -> R J H') (PostX (E σ) G H)
def DI (X : Cx) (E : L2.St -> XK) (tg e : Expr) (f : En -> Res (List D)) : Prop := PI X tg e (tI X.K E f)
def Kept (ks : List Nat) (σ σ' : L2.St) : Prop := σ'.length = σ.length /\ ∀ j, j ∉ ks -> σ'[j]? = σ[j]?
def tG (K : PySem.W.Frag) (ks : List Nat) (f : D -> En -> Option En) : TG := fun v σ H Q => ∃ G W en d en', Same G H /\ SimS K W G H σ en /\ Rep K G v d /\ f d en = some en' /\ ∀ σ', SimS K W G H σ' en' -> Kept ks σ σ' -> Q σ' H
def tGs (K : PySem.W.Frag) (ks : List Nat) (f : List D -> En -> Option En) : TGs := fun vs σ H Q => ∃ G W en ds en', Same G H /\ SimS K W G H σ en /\ Reps K G vs ds /\ f ds en = some en' /\ ∀ σ', SimS K W G H σ' en' -> Kept ks σ σ' -> Q σ' H
def DG (X : Cx) (tg : Expr) (ks : List Nat) (f : D -> En -> Option En) : Prop := PG X tg (tG X.K ks f)
def DGs (X : Cx) (tg : List Expr) (ks : List Nat) (f : List D -> En -> Option En) : Prop := PGs X tg (tGs X.K ks f)
theorem Kept.trans {ks ls : List Nat} {σ σ1 σ2 : L2.St} (a : Kept ks σ σ1) (b : Kept ls σ1 σ2) : Kept (ks ++ ls) σ σ2 :=
 ⟨b.1.trans a.1, fun j hj => (b.2 j fun z => hj (List.mem_append_right _ z)).trans (a.2 j fun z => hj (List.mem_append_left _ z))⟩
def aQ (i : Nat) : D -> En -> Option En := fun d en => some (en.set i (some (.p d)))
def kG : List D -> En -> Option En := fun ds en => match ds with
 | [] => some en
 | _ => none
def cQ (f : D -> En -> Option En) (g : List D -> En -> Option En) : List D -> En -> Option En := fun ds en => match ds with
 | [] => none
 | d :: r => match f d en with
  | none => none
  | some e => g r e
def kI (n : Nat) (f : List D -> En -> Option En) : D -> En -> Option En := fun d en => match d with
 | .tuple ds => if ds.length = n then f ds en else none
 | _ => none
section
variable {X : Cx} {E : L2.St -> XK} {pos : Pos}
theorem DI.in {tg e : Expr} {f : En -> Res (List D)} (h : ∃ t, PI X tg e t /\ ∀ B G0 G W H σ en R, SimH B G0 G W H -> SimS X.K W G H σ en -> wpR (f en) (fun ds => ∀ G' H' J, Step G H G' H' -> y8 X.K ds G' J -> R J H') (PostX (E σ) G H) -> t σ H R) : DI X E tg e f :=
 fun pins s σ H R I ⟨B, G0, G, W, en, h1, h2, h3⟩ => let ⟨_, p, m⟩ := h; p pins s σ H R I (m B G0 G W H σ en R h1 h2 h3)
theorem cM {i : Nat} {x : Str} (hN : X.N.Nodup) (hi : X.N[i]? = some x) (hx : Loc X.env.scope x) (hf : X.fn x = true \/ X.env.scope.names.lookup x = some .local := by first | exact .inl rfl | exact .inr rfl | assumption) : DG X (.Name x pos) [i] (aQ i) := by
 intro pins s σ H v u Q I r ⟨G, W, en, d, en', h1, h2, h3, h4, h5⟩
 refine aFj hN hi hx hf pins s σ H v u Q I r ?_
 cases h4
 exact h5 _ (h2.set h3) ⟨List.length_set .., fun j hj => List.getElem?_set_ne (fun z => hj (by rw [z]; exact .head _))⟩
theorem o5 : DGs X [] [] kG := by
 intro pins s σ H vs us Q I r ⟨G, W, en, ds, en', h1, h2, h3, h4, h5⟩
 refine aFm pins s σ H vs us Q I r ?_
 unfold kG at h4
 split at h4
 ·cases h4; cases h3; exact ⟨rfl, h5 _ h2 ⟨rfl, fun _ _ => rfl⟩⟩
 ·cases h4
theorem fZ {e : Expr} {es : List Expr} {ks ls : List Nat} {f : D -> En -> Option En} {g : List D -> En -> Option En} (h1 : DG X e ks f) (h2 : DGs X es ls g)
  (hs : (assignEach (e :: es) X.env).map (·.2) = assign e X.env :: (assignEach es X.env).map (·.2) := by rfl) : DGs X (e :: es) (ks ++ ls) (cQ f g) := by
 intro pins s σ H vs us Q I r ⟨G, W, en, ds, en', k1, k2, k3, k4, k5⟩
 refine aBf h1 h2 hs pins s σ H vs us Q I r ?_
 unfold cQ at k4
 cases k3 with
 | nil => cases k4
 | @cons x xs d ds hx hr =>
  dsimp only at k4
  split at k4
  ·cases k4
  ·rename_i e1 q1
   exact ⟨x, xs, rfl, G, W, en, d, e1, k1, k2, hx, q1, fun σ' hσ hk => ⟨G, W, e1, ds, en', k1, hσ, hr, k4, fun σ2 q1 q2 => k5 σ2 q1 (hk.trans q2)⟩⟩
theorem vJ {es : List Expr} {k : Nat} {ks : List Nat} {f : List D -> En -> Option En} {n : Nat} (hc : X.calm = true) (h : DGs X es ks f) (hn : (assignEach es X.env).length = n := by rfl) (hst : (assignEach es X.env).findIdx? (·.1) = none := by rfl) : DG X (.Tuple es k pos) ks (kI n f) := by
 intro pins s σ H v u Q I r ⟨G, W, en, d, en', k1, k2, k3, k4, k5⟩
 refine aJ5 hc h hn hst pins s σ H v u Q I r ?_
 unfold kI at k4
 split at k4
 ·rename_i ds
  split at k4
  ·rename_i hl
   cases k3 with
   | @tup a xs _ ha hr => exact ⟨a, xs, rfl, SqT.of (k1 _ _ ha), by rw [hr.length]; exact hl, G, W, en, ds, en', k1, k2, hr, k4, k5⟩
  ·cases k4
 ·cases k4
def iJ (tg : D -> En -> Option En) (f : MS) : List D -> MS
 | [], en => some (.nx en)
 | d :: ds, en => match tg d en with
  | none => none
  | some e1 => match f e1 with
   | some (.nx e2) => iJ tg f ds e2
   | some (.ct e2) => iJ tg f ds e2
   | some (.bk e2) => some (.nx e2)
   | r => r
def aBd (fi : En -> Res (List D)) (tg : D -> En -> Option En) (f : MS) : MS := fun en => match fi en with
 | .ok ds => iJ tg f ds en
 | .exc C => some (.ex C en)
 | .bad => none
theorem SimH.lower {B G0 G1 G H H1 : Hp} {W W1 : Addr -> Option Nat} (h : SimH B G1 G W H) (h1 : SimH B G0 G1 W1 H1) : SimH B G0 G W H :=
 ⟨h.gh, h.bh, h1.g0.trans h.g0, fun b hb => (h.gb b hb).elim (fun z => h1.gb b z) .inr, h.wf⟩
theorem SimH.raise {B G0 G H : Hp} {W : Addr -> Option Nat} (h : SimH B G0 G W H) : SimH B G G W H := ⟨h.gh, h.bh, Same.refl _, fun _ hb => .inl hb, h.wf⟩
theorem PostS.lower {K : PySem.W.Frag} {B G0 G1 H1 : Hp} {W1 : Addr -> Option Nat} {Dn : Ends} {r : Out} (h : PostS K B G0 E Dn r) (h1 : SimH B G0 G1 W1 H1) : PostS K B G1 E Dn r := by
 cases r with
 | nx en => exact fun G W H σ a b => h G W H σ (a.lower h1) b
 | bk en => exact fun G W H σ a b => h G W H σ (a.lower h1) b
 | ct en => exact fun G W H σ a b => h G W H σ (a.lower h1) b
 | rt l => exact fun G W H σ a b => h G W H σ (a.lower h1) b
 | ex C en => exact fun G W H σ a b => h G W H σ (a.lower h1) b
theorem nR {tg iter : Expr} {body : List Stmt} {fi : En -> Res (List D)} {ks : List Nat} {g : D -> En -> Option En} {f : MS} (hp : PassesOwn (model X.prog X.w) X.A X.env X.xe) (hc : X.calm = true) (hi : DI X E tg iter fi) (hg : DG X tg ks g) (hb : DSs X E body f)
  (hs : ∀ x, foldedSetIterable iter X.env x = pure x := by intro _; rfl) : DS X E (.For tg iter body [] pos) (aBd fi g f) := by
 obtain ⟨t, p, m⟩ := hb.out
 refine DS.in ⟨_, aH3 hp hc hi hg p hs, fun B G0 G W H σ en Dn hh hs hw => ⟨B, G0, G, W, en, hh, hs, ?_⟩⟩
 unfold aBd at hw
 cases ef : fi en with
 | bad => rw [ef] at hw; exact hw
 | exc C => rw [ef] at hw; exact fun G1 H1 s => hw G1 W H1 σ (hh.step s) (hs.step s)
 | ok ds =>
  rw [ef] at hw
  intro G1 H1 J s1 hJ
  have hh1 := hh.step s1
  refine ⟨fun i n σ H => n = ds.length - i /\ i <= ds.length /\ ∃ G W en, SimH B G1 G W H /\ SimS X.K W G H σ en /\ wpO (iJ g f (ds.drop i) en) (PostS X.K B G0 E Dn),
   ⟨ds.length, rfl, Nat.zero_le _, G1, W, en, hh1.raise, hs.step s1, hw⟩, ?_⟩
  rintro i n σ H ⟨rfl, hi, G, W, en, hh, hs, hw⟩
  obtain ⟨j1, j2⟩ := hJ G H hh.g0 hh.gh
  by_cases hlt : i < ds.length
  ·refine .inr ?_
   obtain ⟨jg, jy⟩ := j1 i ds[i] (List.getElem?_eq_getElem hlt)
   rw [List.drop_eq_getElem_cons hlt] at hw
   unfold iJ at hw
   refine ⟨jg, fun σ' H' => ∃ G W en, SimH B G1 G W H' /\ SimS X.K W G H' σ' en /\ wpO (iJ g f (ds.drop (i + 1)) en) (PostS X.K B G0 E Dn), fun σ' H' q => ⟨ds.length - (i + 1), by omega, rfl, hlt, q⟩, fun v H' hy => ?_⟩
   obtain ⟨G2, s2, rv⟩ := jy v H' hy
   cases eg : g ds[i] en with
   | none => rw [eg] at hw; exact hw.elim
   | some e1 =>
    rw [eg] at hw
    dsimp only at hw
    refine ⟨G2, W, en, ds[i], e1, s2.gh, hs.step s2, rv, eg, fun σ' hσ _ => ?_⟩
    refine m B G1 G2 W H' σ' e1 _ (hh.step s2) hσ ?_
    cases ef2 : f e1 with
    | none => rw [ef2] at hw; exact hw
    | some o =>
     rw [ef2] at hw
     cases o with
     | nx e => exact fun G2 W2 H2 σ2 h2 s2 => ⟨G2, W2, e, h2, s2, hw⟩
     | ct e => exact fun G2 W2 H2 σ2 h2 s2 => ⟨G2, W2, e, h2, s2, hw⟩
     | bk e => exact PostS.lower (E := E) (Dn := Dn) (r := .nx e) hw hh1
     | rt l => exact PostS.lower (E := E) (Dn := Dn) (r := .rt l) hw hh1
     | ex C e => exact PostS.lower (E := E) (Dn := Dn) (r := .ex C e) hw hh1
  ·have e : i = ds.length := by omega
   subst e
   rw [List.drop_length] at hw
   exact .inl ⟨j2, hw G W H σ (hh.lower hh1) hs⟩
def aFi (r : Ev) : Res (List D) := match r with
 | .p (.list ds) => .ok ds
 | _ => .bad
def aM3 (r : Ev) : Res (List D) := match r with
 | .p (.tuple ds) => .ok ds
 | _ => .bad
def jT (fe : En -> Res Ev) : En -> Res (List D) := fun en => (fe en).bind fun r => aFi r.c
def aLx (fe : En -> Res Ev) : En -> Res (List D) := fun en => (fe en).bind fun r => aM3 r.c
theorem fM {tg e : Expr} {fe : En -> Res Ev} (he : DE X E e fe) : DI X E tg e (jT fe) := by
 obtain ⟨t, p, m⟩ := he.out
 refine DI.in ⟨_, aEp p, fun B G0 G W H σ en R hh hs hw => m B G0 G W H σ en _ hh hs ?_⟩
 have hw : wpR ((fe en).bind _) _ _ := hw
 rw [bA] at hw
 refine aT hw (fun r hr G1 H1 v s e => ?_) fun C h => h
 obtain ⟨G2, s2, e2⟩ := e.c s
 cases er : r.c with
 | p d =>
  rw [er] at hr e2
  cases d with
  | list ds =>
   cases e2 with
   | @lst a xs _ ha hrs =>
    refine ⟨a, rfl, ⟨xs, s2.gh.seq (.inl ha)⟩, hr G2 H1 _ s2 fun G3 H3 k1 k2 => ⟨fun i d ed => ?_, xs, (k1.trans k2).seq (.inl ha), Nat.le_of_eq hrs.length⟩⟩
    obtain ⟨x, ex, rx⟩ := hrs.get' ed
    refine ⟨⟨xs, x, (k1.trans k2).seq (.inl ha), ex⟩, fun v H' hy => ?_⟩
    obtain ⟨rfl, hy⟩ := hy
    have := hy xs ((k1.trans k2).seq (.inl ha))
    rw [ex] at this
    cases this
    exact ⟨G3, Step.refl k2, rx.mono k1⟩
  | _ => exact False.elim hr
 | f d => rw [er] at hr; exact False.elim hr
 | b d => rw [er] at hr; exact False.elim hr
 | x C => rw [er] at hr; exact False.elim hr
theorem aGx {tg e : Expr} {fe : En -> Res Ev} (he : DE X E e fe) : DI X E tg e (aLx fe) := by
 obtain ⟨t, p, m⟩ := he.out
 refine DI.in ⟨_, aIw p, fun B G0 G W H σ en R hh hs hw => m B G0 G W H σ en _ hh hs ?_⟩
 have hw : wpR ((fe en).bind _) _ _ := hw
 rw [bA] at hw
 refine aT hw (fun r hr G1 H1 v s e => ?_) fun C h => h
 obtain ⟨G2, s2, e2⟩ := e.c s
 cases er : r.c with
 | p d =>
  rw [er] at hr e2
  cases d with
  | tuple ds =>
   cases e2 with
   | @tup a xs _ ha hrs =>
    refine ⟨a, rfl, ⟨xs, SqT.of (s2.gh _ _ ha)⟩, hr G2 H1 _ s2 fun G3 H3 k1 k2 => ⟨fun i d ed => ?_, xs, SqT.of ((k1.trans k2) _ _ ha), Nat.le_of_eq hrs.length⟩⟩
    obtain ⟨x, ex, rx⟩ := hrs.get' ed
    refine ⟨⟨xs, x, SqT.of ((k1.trans k2) _ _ ha), ex⟩, fun v H' hy => ?_⟩
    obtain ⟨rfl, hy⟩ := hy
    have := hy xs (SqT.of ((k1.trans k2) _ _ ha))
    rw [ex] at this
    cases this
    exact ⟨G3, Step.refl k2, rx.mono k1⟩
  | _ => exact False.elim hr
 | f d => rw [er] at hr; exact False.elim hr
 | b d => rw [er] at hr; exact False.elim hr
 | x C => rw [er] at hr; exact False.elim hr
def aDs (lo : Int) (n : Nat) : List D := (List.range n).map fun (k : Nat) => PyData.int (lo + (k : Int))
def vV (rs : List Ev) : Res (List D) := match rs with
 | [.p (.int i), .p (.int j)] => if -(2 ^ 62) <= i /\ i < 2 ^ 62 /\ -(2 ^ 62) <= j /\ j < 2 ^ 62 then .ok (aDs i (j - i).toNat) else .bad
 | _ => .bad
theorem vZ (K : PySem.W.Frag) (lo : Int) (n : Nat) (G1 : Hp) : y8 K (aDs lo n) G1 (Itr lo n) := fun G H _ k2 => by
 refine ⟨fun i d ed => ?_, by show n <= _; unfold aDs; rw [List.length_map, List.length_range]; exact Nat.le_refl _⟩
 unfold aDs at ed
 rw [List.getElem?_map] at ed
 by_cases hi : i < n
 ·rw [List.getElem?_range hi] at ed
  cases ed
  refine ⟨hi, fun v H' hy => ?_⟩
  obtain ⟨rfl, rfl⟩ := hy
  exact ⟨G, Step.refl k2, .int _⟩
 ·rw [List.getElem?_eq_none (by rw [List.length_range]; omega)] at ed
  cases ed
def aDt (r : List Ev -> Res (List D)) (fr : En -> Res (List Ev)) : En -> Res (List D) := fun en => (fr en).bind r
theorem zC {tg a b : Expr} {fr : En -> Res (List Ev)} {p : Pos} (hg : Gl X "range") (hm : X.mg "range" = none) (ha : DA X E [a, b] fr) (hs : starEach [a, b] X.env = [(false, eval a X.env), (false, eval b X.env)] := by rfl) (hs2 : starEach [b] X.env = [(false, eval b X.env)] := by rfl) :
  DI X E tg (.Call (.Name "range" p) [a, b] [] pos) (aDt vV fr) := by
 obtain ⟨t, q, m⟩ := ha.out
 refine DI.in ⟨_, xV hg hm q hs hs2, fun B G0 G W H σ en R hh hs hw => m B G0 G W H σ en _ hh hs ?_⟩
 have hw : wpR ((fr en).bind _) _ _ := hw
 rw [bA] at hw
 refine aT hw (fun rs hr G1 H1 vs s e => ?_) fun C h => h
 unfold vV at hr
 split at hr
 ·rename_i i j
  split at hr
  ·rename_i hj
   match vs, e with
   | [v, u], ⟨e1, e2, _⟩ =>
    cases e1
    cases e2
    exact ⟨i, j, rfl, hj, hr G1 H1 _ s (vZ _ _ _ _)⟩
  ·exact False.elim hr
 ·exact False.elim hr
end
def wY : Ev -> Option L
 | .p d => some (.p d)
 | .x C => some (.x C)
 | .b _ => none
 | .f _ => none
def aDe : Ev -> Option L
 | .p d => some (.p d)
 | .b d => some (.p d)
 | .x _ => none
 | .f _ => none
def gN (g : Ev -> Option L) : List Ev -> Option (List L)
 | [] => some []
 | r :: rs => match g r with
  | none => none
  | some l => match gN g rs with
   | none => none
   | some ls => some (l :: ls)
def tM : L -> Ev
 | .p d => .p d
 | .o d => .f d
 | .x C => .x C
 | .h a => .x a
mutual
def lfD : D -> Bool
 | .list _ => false
 | .dict _ => false
 | .tuple ds => lfA ds
 | _ => true
def lfA : List D -> Bool
 | [] => true
 | d :: ds => lfD d && lfA ds
end
def lfP : List (D × D) -> Bool
 | [] => true
 | p :: r => lfD p.2 && lfP r
def aA0 : L -> Bool
 | .p d => lfD d
 | .o (.list ds) => lfA ds
 | .o (.dict kvs) => lfP kvs
 | _ => false
def kP (n : Nat) (m : List L -> Res L) (rs : List Ev) : Res Ev := match gN wY rs with
 | some ls => if ls.length = n then (m ls).bind fun l => .ok (tM l) else .bad
 | none => match gN aDe rs with
  | some ls => if ls.length = n then (m ls).bind fun l => if aA0 l = true then .ok (tM l) else .bad else .bad
  | none => .bad
def a5 (n : Nat) (m : List L -> Res L) (fr : En -> Res (List Ev)) : En -> Res Ev := fun en => (fr en).bind (kP n m)
def aKo (K : PySem.W.Frag) (G : Hp) (v : V) : L -> Prop
 | .p d => Rep K G v d
 | .o _ => False
 | .x C => ∃ e, v = .ref e /\ G e = some (aGk e (.ref C))
 | .h _ => False
def ArgsOk (K : PySem.W.Frag) (G : Hp) : List V -> List L -> Prop
 | [], [] => True
 | v :: vs, l :: ls => aKo K G v l /\ ArgsOk K G vs ls
 | _, _ => False
theorem ArgsOk.length {K : PySem.W.Frag} {G : Hp} : ∀ {vs : List V} {ls : List L}, ArgsOk K G vs ls -> vs.length = ls.length
 | [], [], _ => rfl
 | _ :: _, _ :: _, h => by rw [List.length_cons, List.length_cons, ArgsOk.length h.2]
def spM (K : PySem.W.Frag) (n : Nat) (m : List L -> Res L) : Sp := fun vs H Q E => vs.length = n /\ ∃ G ls, Same G H /\ ArgsOk K G vs ls /\
 wpR (m ls) (fun l => ∀ G' H' v, Step G H G' H' -> aEc K H G' H' v l -> Q v H') (fun C => ∀ G' H', Step G H G' H' -> E (.ref C) none H')
theorem zG {K : PySem.W.Frag} {W : Addr -> Option Nat} {Hs G H : Hp} : ∀ {rs : List Ev} {ls : List L} {vs : List V}, gN wY rs = some ls -> EOks K W Hs G H vs rs -> ArgsOk K G vs ls
 | [], _, [], h, _ => by cases h; exact trivial
 | [], _, _ :: _, _, e => e.elim
 | _ :: _, _, [], _, e => e.elim
 | r :: rs, ls, v :: vs, h, e => by
  unfold gN at h
  cases r with
  | p d =>
   cases er : gN wY rs with
   | none => rw [er] at h; cases h
   | some ls' => rw [er] at h; cases h; exact ⟨e.1, zG er e.2⟩
  | x C =>
   cases er : gN wY rs with
   | none => rw [er] at h; cases h
   | some ls' => rw [er] at h; cases h; exact ⟨e.1, zG er e.2⟩
  | b d => cases h
  | f d => cases h
def both (W : Addr -> Option Nat) (G H : Hp) : Hp := fun b => match W b with
 | some _ => H b
 | none => G b
theorem lS {W : Addr -> Option Nat} {B G0 G H : Hp} (hh : SimH B G0 G W H) : Same G (both W G H) /\ Same (both W G H) H := by
 refine ⟨fun b o e => ?_, fun b o e => ?_⟩
 ·unfold both
  cases ew : W b with
  | none => exact e
  | some i => rw [(hh.wf b i ew).1] at e; cases e
 ·unfold both at e
  cases ew : W b with
  | none => rw [ew] at e; exact hh.gh b o e
  | some i => rw [ew] at e; exact e
theorem yY {K : PySem.W.Frag} {W : Addr -> Option Nat} {Hs B G0 G H : Hp} (hh : SimH B G0 G W H) : ∀ {rs : List Ev} {ls : List L} {vs : List V}, gN aDe rs = some ls -> EOks K W Hs G H vs rs -> ArgsOk K (both W G H) vs ls
 | [], _, [], h, _ => by cases h; exact trivial
 | [], _, _ :: _, _, e => e.elim
 | _ :: _, _, [], _, e => e.elim
 | r :: rs, ls, v :: vs, h, e => by
  unfold gN at h
  cases r with
  | p d =>
   cases er : gN aDe rs with
   | none => rw [er] at h; cases h
   | some ls' => rw [er] at h; cases h; exact ⟨Rep.mono (lS hh).1 e.1, yY hh er e.2⟩
  | b d =>
   cases er : gN aDe rs with
   | none => rw [er] at h; cases h
   | some ls' =>
    rw [er] at h; cases h
    refine ⟨?_, yY hh er e.2⟩
    obtain ⟨a, i, o, rfl, h1, h2, h3⟩ := e.1
    exact (h3.mono (lS hh).1).rep (by unfold both; rw [h1]; exact h2)
  | x d => cases h
  | f d => cases h
mutual
theorem u6 {K : PySem.W.Frag} {G G' : Hp} (k : ∀ b xs, G b = some (.tup xs) -> G' b = some (.tup xs)) : ∀ {v : V} {d : D}, lfD d = true -> Rep K G v d -> Rep K G' v d
 | _, _, _, .non => .non
 | _, _, _, .bl b => .bl b
 | _, _, _, .int i => .int i
 | _, _, _, .str x => .str x
 | _, _, hf, .tup h r => .tup (k _ _ h) (tK k (by unfold lfD at hf; exact hf) r)
 | _, _, hf, .lst _ _ => by unfold lfD at hf; cases hf
 | _, _, hf, .dT _ _ => by unfold lfD at hf; cases hf
 | _, _, hf, .dK _ _ => by unfold lfD at hf; cases hf
theorem tK {K : PySem.W.Frag} {G G' : Hp} (k : ∀ b xs, G b = some (.tup xs) -> G' b = some (.tup xs)) : ∀ {vs : List V} {ds : List D}, lfA ds = true -> Reps K G vs ds -> Reps K G' vs ds
 | _, _, _, .nil => .nil
 | _, _, hf, .cons h r => by
  unfold lfA at hf
  have hf := Bool.and_eq_true_iff.mp hf
  exact .cons (u6 k hf.1 h) (tK k hf.2 r)
end
theorem aAq {K : PySem.W.Frag} {G G' : Hp} (k : ∀ b xs, G b = some (.tup xs) -> G' b = some (.tup xs)) : ∀ {kv : List (List Key × V)} {kvs : List (D × D)}, lfP kvs = true -> RepT K G kv kvs -> RepT K G' kv kvs
 | _, _, _, .nil => .nil
 | _, _, hf, .cons h r => by
  unfold lfP at hf
  have hf := Bool.and_eq_true_iff.mp hf
  exact .cons (u6 k hf.1 h) (aAq k hf.2 r)
theorem aAh {K : PySem.W.Frag} {G G' : Hp} (k : ∀ b xs, G b = some (.tup xs) -> G' b = some (.tup xs)) : ∀ {kv : List (Key × V)} {kvs : List (D × D)}, lfP kvs = true -> RepK K G kv kvs -> RepK K G' kv kvs
 | _, _, _, .nil => .nil
 | _, _, hf, .cons h r => by
  unfold lfP at hf
  have hf := Bool.and_eq_true_iff.mp hf
  exact .cons (u6 k hf.1 h) (aAh k hf.2 r)
def nN (W : Addr -> Option Nat) (G : Hp) : Hp := fun b => match W b with
 | some _ => none
 | none => G b
theorem aCi {K : PySem.W.Frag} {W : Addr -> Option Nat} {H1 G H Hs : Hp} {v : V} {l : L} (hf : aA0 l = true) (hH : Hs = Hs) (hs : ∀ b, H1 b = none -> Hs b = none) (k : ∀ b xs, G b = some (.tup xs) -> nN W G b = some (.tup xs)) (h : aEc K H1 G H v l) : EOk K W Hs (nN W G) H v (tM l) := by
 have n0 : ∀ b, G b = none -> nN W G b = none := fun b e => by
  unfold nN
  cases W b with
  | none => exact e
  | some _ => rfl
 cases l with
 | x C => cases hf
 | h a => cases hf
 | p d => exact u6 k hf h
 | o d =>
  obtain ⟨a, o, rfl, h1, h2, h3, h4⟩ := h
  refine ⟨a, o, rfl, hs _ h2, n0 _ h1, h3, ?_⟩
  cases h4 with
  | lst r => exact .lst (tK k hf r)
  | dT r => exact .dT (aAq k hf r)
  | dK r => exact .dK (aAh k (by unfold aA0 at hf; unfold lfP at hf; exact (Bool.and_eq_true_iff.mp hf).2) r)
theorem xE {K : PySem.W.Frag} {W : Addr -> Option Nat} {B G0 G H G1 H1 : Hp} {n : Nat} {m : List L -> Res L} {rs : List Ev} {vs : List V} {Q : VK} {EE : XK} (hh : SimH B G0 G W H) (s : Step G H G1 H1) (e : EOks K W H G1 H1 vs rs)
  (hr : wpR (kP n m rs) (PostE K W G H Q) (PostX EE G H)) : spM K n m vs H1 Q EE := by
 unfold kP at hr
 split at hr
 ·rename_i ls el
  split at hr
  ·rename_i hn
   have ha := zG el e
   refine ⟨by rw [ha.length]; exact hn, G1, ls, s.gh, ha, ?_⟩
   rw [bA] at hr
   refine aT hr (fun l hl G2 H2 v s2 rv => hl G2 H2 v (s.trans s2) ?_) fun C h G2 H2 s2 => h G2 H2 (s.trans s2)
   cases l with
   | p d => exact rv
   | x C => exact rv
   | h a => exact rv.elim
   | o d =>
    obtain ⟨a, o, h1, h2, h3, h4, h5⟩ := rv
    exact ⟨a, o, h1, s.h.free h3, h2, h4, h5⟩
  ·exact hr.elim
 ·split at hr
  ·rename_i ls el
   split at hr
   ·rename_i hn
    have hh1 := hh.step s
    have ha := yY hh1 el e
    obtain ⟨k1, k2⟩ := lS hh1
    refine ⟨by rw [ha.length]; exact hn, both W G1 H1, ls, k2, ha, ?_⟩
    rw [bA] at hr
    refine aT hr (fun l hl G2 H2 v s2 rv => ?_) fun C h G2 H2 s2 => h G1 H2 (s.trans ⟨Same.refl _, s2.h, s.gh.trans s2.h, fun _ _ q => .inl q⟩)
    split at hl
    ·rename_i hf
     have kt : ∀ b xs, G2 b = some (.tup xs) -> nN W G2 b = some (.tup xs) := fun b xs eb => by
      unfold nN
      cases ew : W b with
      | none => exact eb
      | some i =>
       obtain ⟨_, _, o, e1, e2⟩ := hh1.wf b i ew
       have e3 := s2.gh _ _ eb
       rw [s2.h _ _ e1] at e3
       exact absurd (Option.some.inj e3) (e2 xs)
     refine hl (nN W G2) H2 v ⟨fun b o eb => ?_, s.h.trans s2.h, fun b o eb => ?_, fun b hb hg => ?_⟩ (aCi hf rfl (fun b e => s.h.free e) kt rv)
     ·have e1 := s.g _ _ eb
      unfold nN
      cases ew : W b with
      | none => exact s2.g _ _ (k1 _ _ e1)
      | some i => rw [(hh1.wf b i ew).1] at e1; cases e1
     ·unfold nN at eb
      cases ew : W b with
      | none => rw [ew] at eb; exact s2.gh _ _ eb
      | some i => rw [ew] at eb; cases eb
     ·unfold nN
      cases ew : W b with
      | some i => exact .inl rfl
      | none =>
       rcases s.new b hb hg with z | z
       ·have z2 : both W G1 H1 b = none := by unfold both; rw [ew]; exact z
        rcases s2.new b (zZ s.h hb) z2 with y | ⟨xs, y⟩
        ·exact .inl y
        ·cases e : H b with
         | none => exact absurd e hb
         | some o => rw [s.h _ _ e] at y; exact .inr ⟨xs, y⟩
       ·exact .inr z
    ·exact hl.elim
   ·exact hr.elim
  ·exact hr.elim
section
variable {X : Cx} {E : L2.St -> XK} {k : Nat} {f : Addr} {fd : FuncData} {ps : List Str} {x : Str} {p pos : Pos} {e : Expr} {es : List Expr} {fr : En -> Res (List Ev)} {n : Nat} {m : List L -> Res L}
theorem aEi (F : FnOk X.prog X.w X.K X.mg X.base (CXr X.prog X.w) k f fd ps (spM X.K n m)) (hr : Room k X.A) (hg : Gl X x) (hm : X.mg x = some (.ref f)) (hk : PySem.W.keepIn X.K (.ref f) = true) (hb : Binds X.K fd ps []) (hx : lW (CXr X.prog X.w) X E)
  (ha : DA X E (e :: es) fr) (hdb : (x == ("__debug__" : Str)) = false := by decide) (he : starEach (e :: es) X.env = (false, eval e X.env) :: starEach es X.env := by rfl) (hpl : (backTo pos (starEach es X.env)).any (·.1) = false := by rfl) :
  DE X E (.Call (.Name x p) (e :: es) [] pos) (a5 n m fr) := by
 obtain ⟨t, q, mm⟩ := ha.out
 refine DE.in ⟨_, aCc F hr hg hm hk hb hx q hdb he hpl, fun B G0 G W H σ en Q hh hs hw => mm B G0 G W H σ en _ hh hs ?_⟩
 have hw : wpR ((fr en).bind _) _ _ := hw
 rw [bA] at hw
 exact aT hw (fun rs hr G1 H1 vs s e => xE hh s e hr) fun C h => h
def jN (K : PySem.W.Frag) (r : List V -> Hp -> VK -> Prop) (f : List Ev -> Res Ev) : Prop := ∀ (W : Addr -> Option Nat) (Hs G H : Hp) (vs : List V) (rs : List Ev) (Q : VK), Same G H -> EOks K W Hs G H vs rs -> wpR (f rs) (PostE K W G H Q) (fun _ => False) -> r vs H Q
def tH (f : List Ev -> Res Ev) : Prop := ∀ rs C, f rs ≠ .exc C
def aF (f : List Ev -> Res Ev) (fr : En -> Res (List Ev)) : En -> Res Ev := fun en => (fr en).bind f
theorem n6 {r : List V -> Hp -> VK -> Prop} {f : List Ev -> Res Ev} {t : TA} (hm : jN X.K r f) (hn : tH f) (mm : ∀ B G0 G W H σ en Q, SimH B G0 G W H -> SimS X.K W G H σ en -> wpR (fr en) (aBr X.K W G H Q) (PostX (E σ) G H) -> t σ H Q) :
  ∀ B G0 G W H σ en Q, SimH B G0 G W H -> SimS X.K W G H σ en -> wpR (aF f fr en) (PostE X.K W G H Q) (PostX (E σ) G H) -> tCB r t σ H Q := by
 intro B G0 G W H σ en Q hh hs hw
 refine mm B G0 G W H σ en _ hh hs ?_
 have hw : wpR ((fr en).bind _) _ _ := hw
 rw [bA] at hw
 exact aT hw (fun rs hr G1 H1 vs s e => hm W H G1 H1 vs rs Q s.gh e (noX (aT hr (fun _ h => h.step s) fun _ h => h) (hn rs))) fun C h => h
theorem aW {id : String} {r : List V -> Hp -> VK -> Prop} {f : List Ev -> Res Ev} (hc : CallR X (.builtin id) r) (hM : jN X.K r f) (hn : tH f) (hg : Gl X x) (hm : X.mg x = none) (hv : bootBuiltins x = some (.builtin id)) (ha : DA X E (e :: es) fr) (hnn : x ≠ "__name__" := by decide) (hdb : (x == ("__debug__" : Str)) = false := by decide)
  (he : starEach (e :: es) X.env = (false, eval e X.env) :: starEach es X.env := by rfl) (hpl : (backTo pos (starEach es X.env)).any (·.1) = false := by rfl) : DE X E (.Call (.Name x p) (e :: es) [] pos) (aF f fr) := by
 obtain ⟨t, q, mm⟩ := ha.out
 exact DE.in ⟨_, uO hc hg hm hv q hnn hdb he hpl, n6 hM hn mm⟩
theorem bV {T : String} {r : List V -> Hp -> VK -> Prop} {f : List Ev -> Res Ev} (hc : CallR X (.type T) r) (hM : jN X.K r f) (hn : tH f) (hg : Gl X x) (hm : X.mg x = none) (hv : bootBuiltins x = some (.type T)) (ha : DA X E (e :: es) fr) (hnn : x ≠ "__name__" := by decide) (hdb : (x == ("__debug__" : Str)) = false := by decide)
  (he : starEach (e :: es) X.env = (false, eval e X.env) :: starEach es X.env := by rfl) (hpl : (backTo pos (starEach es X.env)).any (·.1) = false := by rfl) : DE X E (.Call (.Name x p) (e :: es) [] pos) (aF f fr) := by
 obtain ⟨t, q, mm⟩ := ha.out
 exact DE.in ⟨_, zW hc hg hm hv q hnn hdb he hpl, n6 hM hn mm⟩
end
def bJ (n : Nat) (ls : List L) : En := ls.map some ++ List.replicate (n - ls.length) none
def dU (n : Nat) (f : MS) (ls : List L) : Res L := match f (bJ n ls) with
 | some (.nx _) => .ok (.p .none)
 | some (.rt l) => .ok l
 | some (.ex C _) => .exc C
 | _ => .bad
theorem nX {K : PySem.W.Frag} {W : Addr -> Option Nat} {G H : Hp} : ∀ {vs : List V} {ls : List L} (i : Nat) (l : L), ArgsOk K G vs ls -> ls[i]? = some l -> ∃ v, vs[i]? = some v /\ ∀ j, Slot K W G H j v l
 | [], [], _, _, _, e => by simp at e
 | v :: vs, l :: ls, 0, m, h, e => by
  simp at e; subst e
  refine ⟨v, rfl, fun j => ?_⟩
  have z := h.1
  cases l with
  | p d => exact z
  | x C => exact z
  | h a => exact z.elim
  | o d => exact z.elim
 | v :: vs, l :: ls, i + 1, m, h, e => by
  have := nX (W := W) (H := H) i m h.2 (by simpa using e)
  simpa using this
theorem yX {K : PySem.W.Frag} {W : Addr -> Option Nat} {G H : Hp} {N : List Str} {vs : List V} {ls : List L} (h : ArgsOk K G vs ls) : SimS K W G H (L2.start N vs) (bJ N.length ls) := by
 have hl := h.length
 refine ⟨by unfold L2.start bJ; simp [hl], fun i l e => ?_⟩
 unfold bJ at e
 by_cases hi : i < ls.length
 ·rw [List.getElem?_append_left (by rw [List.length_map]; exact hi), List.getElem?_map] at e
  cases e2 : ls[i]? with
  | none => rw [e2] at e; cases e
  | some l' =>
   rw [e2] at e
   cases e
   obtain ⟨v, e3, e4⟩ := nX (W := W) (H := H) i l h e2
   refine ⟨v, ?_, e4 i⟩
   unfold L2.start
   rw [List.getElem?_append_left (by rw [List.length_map, hl]; exact hi), List.getElem?_map, e3]
   rfl
 ·rw [List.getElem?_append_right (by rw [List.length_map]; omega), List.getElem?_replicate] at e
  split at e <;> cases e
theorem tX {G H G' H' : Hp} {W : Addr -> Option Nat} (h : SimH H G G' W H') : Step G H G' H' := ⟨h.g0, h.bh, h.gh, fun b hb hg => by
 cases e : G' b with
 | none => exact .inl rfl
 | some o =>
  rcases h.gb b (by rw [e]; exact fun z => nomatch z) with z | z | z
  ·exact absurd hg z
  ·exact absurd z hb
  ·exact .inr z⟩
theorem y4 {K : PySem.W.Frag} {N : List Str} {n : Nat} {m : List L -> Res L} {fm : MS} {vs : List V} {H : Hp} {Q : VK} {E : XK} (h : spM K n m vs H Q E) (hm : ∀ ls, m ls = .bad \/ dU N.length fm ls = m ls) :
  tS K (fun _ => E) fm { nx := fun _ H' => Q .non H', rt := Q } (L2.start N vs) H := by
 obtain ⟨hl, G, ls, gh, ha, hw⟩ := h
 refine ⟨H, G, G, fun _ => none, bJ N.length ls, ⟨gh, Same.refl _, Same.refl _, fun _ hb => .inl hb, fun a i e => nomatch e⟩, yX ha, ?_⟩
 rcases hm ls with e | e
 ·rw [e] at hw; exact hw.elim
 ·rw [<- e] at hw
  unfold dU at hw
  cases ef : fm (bJ N.length ls) with
  | none => rw [ef] at hw; exact hw
  | some o =>
   rw [ef] at hw
   cases o with
   | nx en => exact fun G' W' H' σ' h1 _ => hw G' H' .non (tX h1) .non
   | rt l => exact fun G' W' H' v h1 h2 => hw G' H' v (tX h1) h2
   | bk en => exact hw.elim
   | ct en => exact hw.elim
   | ex C en => exact fun G' W' H' σ' h1 _ => hw G' H' (tX h1)
section
variable {P : Program} {w : World} {K : PySem.W.Frag} {mg : Str -> Option Value} {base : Heap}
theorem cY {N : List Str} {qual : Str} {scope : Scope} {f : Addr} {cd : Value} {A : Around} {outer : List Env} {s : Shared} {H : Hp} {E : XK} : lW (CXr P w) (pI (CXr P w) P w K mg base N qual scope f cd A outer s H E) (fun _ => E) :=
 fun pins σ H s e s' I h => aLt pins σ H s e s' I h
theorem qQ {X : Cx} : lW (CXr P w) X (fun _ => E0) := fun _ _ _ _ _ _ _ ⟨_, _, _, _, _, _, _, z⟩ => z.elim
theorem fnM {x qual : Str} {st : Stmt} {f : Addr} {fd : FuncData} {N ps : List Str} {k n : Nat} {m : List L -> Res L} (F : Fun K x qual st f fd) (S : aX N ps (aK st)) (hn : n = ps.length)
  (hbody : ∀ (cdv : Value) (A : Around) (outer : List Env) (s : Shared) (H : Hp) (E : XK), Room k (A.deeper (envOfC qual (aK st) s.heap.objs.size f cdv)) ->
   ∃ fm, DSs (pI (CXr P w) P w K mg base N qual (aK st) f cdv A outer s H E) (fun _ => E) (eU st) fm /\ ∀ ls, m ls = .bad \/ dU N.length fm ls = m ls) : FnOk P w K mg base (CXr P w) (k + 1) f fd ps (spM K n m) := by
 refine F.okX S (fun vs H Q E h => ?_) (fun cdv A outer s H vs Q E hr h => ?_)
 ·rw [<- hn]; exact h.1
 ·obtain ⟨fm, hd, hm⟩ := hbody cdv A outer s H E hr
  exact ⟨_, hd, y4 h hm⟩
end
def lC (C : Addr) (fr : En -> Res (List Ev)) : MS := fun en => match fr en with
 | .ok rs => if rs.length <= 1000 then some (.ex C en) else none
 | .exc C => some (.ex C en)
 | .bad => none
theorem EOks.length {K : PySem.W.Frag} {W : Addr -> Option Nat} {Hs G H : Hp} : ∀ {vs : List V} {rs : List Ev}, EOks K W Hs G H vs rs -> vs.length = rs.length
 | [], [], _ => rfl
 | [], _ :: _, h => h.elim
 | _ :: _, [], h => h.elim
 | _ :: _, _ :: _, h => by rw [List.length_cons, List.length_cons, EOks.length h.2]
section
variable {X : Cx}
theorem oA {E : XK} {x : Str} {e₀ : Expr} {rest : List Expr} {fr : En -> Res (List Ev)} {C : Addr} {bm : List Value} {B newId initId : String} {np cpos pos : Pos} (hx : aAe X E) (hc : X.calm = true) (hg : Gl X x) (O : OwnCls x C bm newId X.mg X.base)
  (FB : ExcBaseFacts B newId initId bm) (ha : DA X (fun _ => E) (e₀ :: rest) fr) (hdb : (x == ("__debug__" : Str)) = false := by decide)
  (he : starEach (e₀ :: rest) X.env = (false, eval e₀ X.env) :: starEach rest X.env := by rfl) (hpl : (backTo cpos (starEach rest X.env)).any (·.1) = false := by rfl) :
  DS X (fun _ => E) (.Raise (some (.Call (.Name x np) (e₀ :: rest) [] cpos)) none pos) (lC C fr) := by
 obtain ⟨t, q, m⟩ := ha.out
 refine DS.in ⟨_, aB5 hx hc hg O FB q hdb he hpl, fun B G0 G W H σ en Dn hh hs hw => m B G0 G W H σ en _ hh hs ?_⟩
 unfold lC at hw
 cases ef : fr en with
 | bad => rw [ef] at hw; exact hw
 | exc C => rw [ef] at hw; exact fun G1 H1 s => hw G1 W H1 σ (hh.step s) (hs.step s)
 | ok rs =>
  rw [ef] at hw
  intro G1 H1 vs s e
  dsimp only at hw
  split at hw
  ·rename_i hl
   exact ⟨by rw [e.length]; exact Nat.le_trans hl (by decide), hw G1 W H1 σ (hh.step s) (hs.step s)⟩
  ·exact hw.elim
end
def pN : List Ev -> Option (List D)
 | [] => some []
 | r :: rs => match r with
  | .p d => match pN rs with
   | some ds => some (d :: ds)
   | none => none
  | _ => none
theorem mB {K : PySem.W.Frag} {W : Addr -> Option Nat} {Hs G H : Hp} : ∀ {rs : List Ev} {ds : List D} {vs : List V}, pN rs = some ds -> EOks K W Hs G H vs rs -> Reps K G vs ds
 | [], _, [], h, _ => by cases h; exact .nil
 | [], _, _ :: _, _, e => e.elim
 | _ :: _, _, [], _, e => e.elim
 | r :: rs, ds, v :: vs, h, e => by
  unfold pN at h
  cases r with
  | p d =>
   dsimp only at h
   cases er : pN rs with
   | none => rw [er] at h; cases h
   | some ds' => rw [er] at h; cases h; exact .cons e.1 (mB er e.2)
  | x C => cases h
  | b d => cases h
  | f d => cases h
def eC (rs : List Ev) : Res Ev := match pN rs with
 | some ds => if ds.length <= 1000 then .ok (.p (.tuple ds)) else .bad
 | none => .bad
def jX (rs : List Ev) : Res Ev := match pN rs with
 | some ds => if ds.length <= 1000 then .ok (.f (.list ds)) else .bad
 | none => .bad
section
variable {X : Cx} {E : L2.St -> XK} {es : List Expr} {fr : En -> Res (List Ev)} {pos : Pos}
theorem eA {x1} (h : DA X E es fr) : DE X E (.Tuple es x1 pos) (aF eC fr) := by
 obtain ⟨t, q, m⟩ := h.out
 refine DE.in ⟨_, aJj q, fun B G0 G W H σ en Q hh hs hw => m B G0 G W H σ en _ hh hs ?_⟩
 have hw : wpR ((fr en).bind _) _ _ := hw
 rw [bA] at hw
 refine aT hw (fun rs hr G1 H1 vs s e => ?_) fun C h => h
 unfold eC at hr
 split at hr
 ·rename_i ds el
  have rp := mB el e
  split at hr
  ·rename_i hl
   refine ⟨by rw [rp.length]; exact Nat.le_trans hl (by decide), fun p hp => ?_⟩
   have st := Step.put (o := .tup vs) s.gh hp
   exact hr _ _ _ (s.trans st) (.tup bM (rp.mono st.g))
  ·exact False.elim hr
 ·exact False.elim hr
theorem rO (h : DA X E es fr) : DE X E (.List es pos) (aF jX fr) := by
 obtain ⟨t, q, m⟩ := h.out
 refine DE.in ⟨_, aJo q, fun B G0 G W H σ en Q hh hs hw => m B G0 G W H σ en _ hh hs ?_⟩
 have hw : wpR ((fr en).bind _) _ _ := hw
 rw [bA] at hw
 refine aT hw (fun rs hr G1 H1 vs s e => ?_) fun C h => h
 unfold jX at hr
 split at hr
 ·rename_i ds el
  have rp := mB el e
  split at hr
  ·rename_i hl
   refine ⟨by rw [rp.length]; exact Nat.le_trans hl (by decide), fun p hp => ?_⟩
   have st := Step.lay (o := .lst vs) s.gh hp
   exact hr _ _ _ (s.trans st) ⟨p, _, rfl, s.h.free hp, s.gh.free hp, bM, .lst rp⟩
  ·exact False.elim hr
 ·exact False.elim hr
end
def wA (g : D -> Option (Option D)) : List D -> Option (List D)
 | [] => some []
 | d :: ds => match g d with
  | none => none
  | some o => match wA g ds with
   | none => none
   | some r => some (match o with
    | some y => y :: r
    | none => r)
def aGm (o : Option (Option L)) : Option L := match o with
 | some (some (.p d)) => some (.p d)
 | some (some (.x C)) => some (.x C)
 | _ => none
def wW (js : List Nat) (en : En) : En := js.map fun j => aGm en[j]?
def iC : En -> Res Bool := fun _ => .ok true
def bZ (n : Nat) (js : List Nat) (tg : D -> En -> Option En) (ft : En -> Res Bool) (fe : En -> Res Ev) (en : En) (d : D) : Option (Option D) := match tg d (List.replicate n none ++ wW js en) with
 | none => none
 | some e => match ft e with
  | .ok true => match fe e with
   | .ok r => match r.c with
    | .p y => some (some y)
    | _ => none
   | _ => none
  | .ok false => some none
  | _ => none
def aFt (g : D -> Option (Option D)) (ds : List D) : Res Ev := if ds.length <= 100000 then match wA g ds with
  | some r => .ok (.f (.list r))
  | none => .bad
 else .bad
def fD (n : Nat) (js : List Nat) (fi : En -> Res (List D)) (tg : D -> En -> Option En) (ft : En -> Res Bool) (fe : En -> Res Ev) : En -> Res Ev := fun en => (fi en).bind fun ds => aFt (bZ n js tg ft fe en) ds
def DTs (X : Cx) (ifs : List Expr) (f : En -> Res Bool) : Prop := PTs X ifs (tT X.K (fun _ => E0) f)
theorem aMc {G H : Hp} (h : Same G H) : SimH H G G (fun _ => none) H := ⟨h, Same.refl _, Same.refl _, fun _ hb => .inl hb, fun a i e => nomatch e⟩
theorem aB3 {K : PySem.W.Frag} {W : Addr -> Option Nat} {G H : Hp} {σ : L2.St} {en : En} (n : Nat) (js : List Nat) (h : SimS K W G H σ en) : SimS K (fun _ => none) G H (List.replicate n none ++ vO js σ) (List.replicate n none ++ wW js en) := by
 refine ⟨by unfold vO wW; simp, fun i l e => ?_⟩
 by_cases hi : i < n
 ·rw [List.getElem?_append_left (by rw [List.length_replicate]; exact hi), List.getElem?_replicate] at e
  split at e <;> cases e
 ·rw [List.getElem?_append_right (by rw [List.length_replicate]; omega), List.length_replicate] at e ⊢
  unfold wW at e
  unfold vO
  rw [List.getElem?_map] at e ⊢
  cases ej : js[i - n]? with
  | none => rw [ej] at e; cases e
  | some j =>
   rw [ej] at e
   have e' : aGm en[j]? = some l := Option.some.inj e
   unfold aGm at e'
   split at e'
   ·rename_i d q
    cases e'
    obtain ⟨v, h1, h2⟩ := h.2 j _ q
    exact ⟨v, by show some ((σ[j]?).getD none) = _; rw [h1]; rfl, h2⟩
   ·rename_i d q
    cases e'
    obtain ⟨v, h1, h2⟩ := h.2 j _ q
    exact ⟨v, by show some ((σ[j]?).getD none) = _; rw [h1]; rfl, h2⟩
   ·cases e'
section
variable {X : Cx} {E : L2.St -> XK} {pos : Pos}
theorem gH : DTs X [] iC := fun pins s σ H Q I ⟨B, G0, G, W, en, h1, h2, h3⟩ => aEs pins s σ H Q I (h3 G H (Step.refl h1.gh))
theorem aCp {elt iter tg : Expr} {scope : Scope} {ifs : List Expr} {n : Nat} {js ks : List Nat} {fi : En -> Res (List D)} {g : D -> En -> Option En} {ft : En -> Res Bool} {fe : En -> Res Ev} {xs ys : List Str} {cl : List (Str × Addr)} (hc : X.calm = true) (hi : DI X E tg iter fi)
  (hcl : aJa X scope cl) (hcap : rA X scope cl ys js) (hcell : ∀ y ∈ scope.names, y.2 ≠ .cell) (hkind : scope.kind = .function) (hnames : ∀ y ∈ scope.names, y.2 = .local -> scope.names.lookup y.1 = some .local) (hn : xs.length = n) (hks : ∀ j ∈ ks, j < n)
  (hg : ∀ C s₀ H₀ ex pn, DG (cD X scope cl C (xs ++ ys) s₀ H₀ ex pn) tg ks g) (ht : ∀ C s₀ H₀ ex pn, DTs (cD X scope cl C (xs ++ ys) s₀ H₀ ex pn) ifs ft) (hb : ∀ C s₀ H₀ ex pn, DE (cD X scope cl C (xs ++ ys) s₀ H₀ ex pn) (fun _ => E0) elt fe)
  : ∀ B G0 G W H σ en Q, SimH B G0 G W H -> SimS X.K W G H σ en -> wpR (fD n js fi g ft fe en) (PostE X.K W G H Q) (PostX (E σ) G H) -> yK (tI X.K E fi) (tG X.K ks g) (tT X.K (fun _ => E0) ft) (tE X.K (fun _ => E0) fe) xs.length js σ H Q := by
 subst hn
 refine fun B G0 G W H σ en Q hh hs hw => ⟨B, G0, G, W, en, hh, hs, ?_⟩
 have hw : wpR ((fi en).bind _) _ _ := hw
 rw [bA] at hw
 refine aT hw (fun ds hds G1 H1 J s1 hJ D hD => ?_) fun C h => h
 unfold aFt at hds
 split at hds
 case isFalse => exact hds.elim
 rename_i hlen
 split at hds
 case h_2 => exact hds.elim
 rename_i r em
 have gD : G1 D = none := s1.gh.free hD
 have aLo : ∀ {G2 H2 : Hp} {y : List V}, Step G1 H1 G2 H2 -> G2 D = none -> Step G1 H1 G2 (upd H2 D (.lst y)) := fun st hg2 => by
  refine ⟨st.g, fun b o e => ?_, fun b o e => ?_, st.new⟩
  ·rw [bC (b0 e hD)]; exact st.h b o e
  ·rw [bC (b0 e hg2)]; exact st.gh b o e
 refine ⟨ds.length, fun i ys H2 => i <= ds.length /\ ys.length <= i /\ ∃ G2 rs rest, Step G1 H1 G2 H2 /\ G2 D = none /\ H2 D = some (.lst ys) /\ Reps X.K G2 ys rs /\ wA (bZ xs.length js g ft fe en) (ds.drop i) = some rest /\ rs ++ rest = r,
  ⟨Nat.zero_le _, Nat.zero_le _, G1, [], r, Step.lay s1.gh hD, gD, bM, .nil, em, rfl⟩, ?_⟩
 rintro i zs H2 ⟨hi, hzl, G2, rs, rest, st, g2, h2, rp, em2, er⟩
 obtain ⟨j1, j2⟩ := hJ G2 H2 st.g st.gh
 by_cases hlt : i < ds.length
 ·refine .inr ⟨hlt, ?_⟩
  obtain ⟨jg, jy⟩ := j1 i ds[i] (List.getElem?_eq_getElem hlt)
  refine ⟨jg, fun v H3 hy => ?_⟩
  obtain ⟨G3, s3, rv⟩ := jy v H3 hy
  rw [List.drop_eq_getElem_cons hlt] at em2
  unfold wA at em2
  cases ec : bZ xs.length js g ft fe en ds[i] with
  | none => rw [ec] at em2; cases em2
  | some o =>
   rw [ec] at em2
   dsimp only at em2
   cases em3 : wA (bZ xs.length js g ft fe en) (ds.drop (i + 1)) with
   | none => rw [em3] at em2; cases em2
   | some rest' =>
    rw [em3] at em2
    have em2 := Option.some.inj em2
    unfold bZ at ec
    split at ec
    ·cases ec
    ·rename_i e eg
     have in3 := aB3 xs.length js (hs.step ((s1.trans st).trans s3))
     refine ⟨G3, fun _ => none, _, ds[i], e, s3.gh, in3, rv, eg, fun σ' hσ hk => ⟨⟨?_, ?_⟩, ?_⟩⟩
     ·rw [hk.1]; unfold vO; simp
     ·refine List.ext_getElem? fun j => ?_
      rw [List.getElem?_drop, hk.2 (xs.length + j) fun z => absurd (hks _ z) (by omega), List.getElem?_append_right (by rw [List.length_replicate]; omega), List.length_replicate]
      congr 1
      omega
     ·refine ⟨_, _, G3, fun _ => none, e, aMc s3.gh, hσ, ?_⟩
      cases et : ft e with
      | bad => rw [et] at ec; cases ec
      | exc C => rw [et] at ec; cases ec
      | ok k =>
       rw [et] at ec
       intro G5 H5 s5
       cases k with
       | false =>
        cases ec
        rw [if_neg Bool.false_ne_true]
        have s25 := s3.trans s5
        exact ⟨hlt, Nat.le_succ_of_le hzl, G5, rs, rest', st.trans s25, s25.off h2 (fun xs z => nomatch z) g2, s25.h _ _ h2, rp.mono s25.g, em3, by rw [<- er, <- em2]⟩
       | true =>
        rw [if_pos rfl]
        refine ⟨_, _, G5, fun _ => none, e, aMc s5.gh, hσ.step s5, ?_⟩
        dsimp only at ec
        cases ee : fe e with
        | bad => rw [ee] at ec; cases ec
        | exc C => rw [ee] at ec; cases ec
        | ok q =>
         rw [ee] at ec
         intro G6 H6 y s6 ey
         obtain ⟨G7, s7, e7⟩ := EOk.c s6 ey
         dsimp only at ec
         split at ec
         ·rename_i y' eq
          cases ec
          rw [eq] at e7
          have s27 := (s3.trans s5).trans s7
          have g7 := s27.off h2 (fun xs z => nomatch z) g2
          refine ⟨s27.h _ _ h2, Nat.lt_of_le_of_lt (Nat.le_trans hzl (Nat.le_trans hi hlen)) (by decide), hlt, by rw [List.length_append]; exact Nat.succ_le_succ hzl, G7, rs ++ [y'], rest', aLo (st.trans s27) g7, g7, bM, (rp.mono s27.g).append (.cons e7 .nil), em3, ?_⟩
          rw [<- er, <- em2, List.append_assoc]
          rfl
         ·cases ec
 ·have e : i = ds.length := by omega
  subst e
  rw [List.drop_length] at em2
  cases em2
  rw [List.append_nil] at er
  subst er
  exact .inl ⟨j2, hds G2 H2 _ (s1.trans st) ⟨D, _, rfl, s1.h.free hD, g2, h2, .lst rp⟩⟩
theorem gC {elt iter tg : Expr} {scope : Scope} {ifs : List Expr} {n : Nat} {js ks : List Nat} {fi : En -> Res (List D)} {g : D -> En -> Option En} {ft : En -> Res Bool} {fe : En -> Res Ev} {xs ys : List Str} {cl : List (Str × Addr)} (hc : X.calm = true) (hi : DI X E tg iter fi)
  (hcl : aJa X scope cl) (hcap : rA X scope cl ys js) (hcell : ∀ y ∈ scope.names, y.2 ≠ .cell) (hkind : scope.kind = .function) (hnames : ∀ y ∈ scope.names, y.2 = .local -> scope.names.lookup y.1 = some .local) (hn : xs.length = n) (hks : ∀ j ∈ ks, j < n)
  (hg : ∀ C s₀ H₀ ex pn, DG (cD X scope cl C (xs ++ ys) s₀ H₀ ex pn) tg ks g) (ht : ∀ C s₀ H₀ ex pn, DTs (cD X scope cl C (xs ++ ys) s₀ H₀ ex pn) ifs ft) (hb : ∀ C s₀ H₀ ex pn, DE (cD X scope cl C (xs ++ ys) s₀ H₀ ex pn) (fun _ => E0) elt fe)
  (hs : ∀ x, foldedSetIterable iter X.env x = pure x := by intro _; rfl) : DE X E (.ListComp elt [⟨tg, iter, ifs, 0⟩] scope pos) (fD n js fi g ft fe) :=
 DE.in ⟨_, aBz (xs := xs) (g := tG X.K ks g) (tt := tT X.K (fun _ => E0) ft) (te := tE X.K (fun _ => E0) fe) hc hi hcl hcap hcell hkind hnames hg ht hb hs, aCp hc hi hcl hcap hcell hkind hnames hn hks hg ht hb⟩
end
section
variable {X : Cx} {K : PySem.W.Frag}
def rOr (r r' : R2) : R2 := fun x y H Q => r x y H Q \/ r' x y H Q
theorem OpR.or' {f : Value -> Value -> Sem Value} {r r' : R2} (h : OpR X f r) (h' : OpR X f r') : OpR X f (rOr r r') := OpR.or h h'
def aI0 : R2 := fun x y H Q => ∃ l b xs zs, x = .ref l /\ y = .ref b /\ Rd H l (.lst xs) /\ Rd H b (.lst zs) /\ xs.length + zs.length <= sizeLine /\ ∀ p, H p = none -> Q (.ref p) (upd H p (.lst (xs ++ zs)))
theorem aEh : OpR X (binaryOp .Add) aI0 := by
 intro pins s σ H x y v u Q I rx ry h
 obtain ⟨l, b, xs, zs, rfl, rfl, hH, hB, hz, q⟩ := h
 cases rx
 cases ry
 obtain ⟨z, its, n, r, e⟩ := hH.ok I.hok
 obtain ⟨z2, its2, n2, r2, e2⟩ := hB.ok I.hok
 have hl := r.length
 have hl2 := r2.length
 refine PySem.P.add_list e e2 ?_ (by rw [List.size_toArray, List.size_toArray]; omega)
 have ea : its.toArray ++ its2.toArray = (its ++ its2).toArray := by simp
 rw [ea]
 exact ⟨.ref _, _, I.lnew (t' := s.toks) (r.append r2) (by rw [List.length_append]; omega), rfl, q _ I.fresh⟩
def aE3 : R2 := fun x y H Q => ∃ i j, x = .str i /\ y = .str j /\ i.length + j.length <= sizeLine /\ Q (.str (i ++ j)) H
def iE : Ev -> Option (List D)
 | .p (.list ds) => some ds
 | .b (.list ds) => some ds
 | _ => none
theorem n4 {W : Addr -> Option Nat} {Hs G H : Hp} {v : V} {r : Ev} {ds : List D} (gh : Same G H) (h : EOk K W Hs G H v r) (e : iE r = some ds) : ∃ a xs, v = .ref a /\ Rd H a (.lst xs) /\ Reps K G xs ds := by
 cases r with
 | p d =>
  cases d with
  | list es =>
   cases e
   cases h with
   | @lst a xs _ h1 h2 => exact ⟨a, xs, rfl, gT gh h1, h2⟩
  | _ => cases e
 | b d =>
  cases d with
  | list es =>
   cases e
   obtain ⟨a, i, o, rfl, h1, h2, h3⟩ := h
   cases h3 with
   | @lst xs _ h4 => exact ⟨a, xs, rfl, .inl h2, h4⟩
  | _ => cases e
 | f d => cases e
 | x C => cases e
def dat : Ev -> Option D
 | .p d => some d
 | .b d => some d
 | _ => none
theorem EOk.read {W : Addr -> Option Nat} {Hs G H : Hp} {v : V} {r : Ev} {d : D} (gh : Same G H) (h : EOk K W Hs G H v r) (e : dat r = some d) : Rep K H v d := by
 cases r with
 | p d => cases e; exact Rep.mono gh h
 | b d =>
  cases e
  obtain ⟨a, i, o, rfl, h1, h2, h3⟩ := h
  exact (h3.mono gh).rep h2
 | f d => cases e
 | x C => cases e
open Classical in
noncomputable def wX (C : Int -> Int -> Prop) (g : Int -> Int -> D) (x y : Ev) : Res Ev := match x, y with
 | .p (.int i), .p (.int j) => if C i j then .ok (.p (g i j)) else .bad
 | _, _ => .bad
def kE (g : Int -> Int -> D) (x y : Ev) : Res Ev := match x, y with
 | .p (.int i), .p (.int j) => .ok (.p (g i j))
 | _, _ => .bad
theorem aI {C : Int -> Int -> Prop} {g : Int -> Int -> D} : NoX (wX C g) := by
 intro x y A h
 unfold wX at h
 split at h
 ·split at h <;> cases h
 ·cases h
theorem cB {g : Int -> Int -> D} : NoX (kE g) := by
 intro x y A h
 unfold kE at h
 split at h <;> cases h
theorem vB {C : Int -> Int -> Prop} {g : Int -> Int -> D} {gv : Int -> Int -> V} (hg : ∀ G i j, Rep K G (gv i j) (g i j)) : OpM K (rI C gv) (wX C g) := by
 intro W G H v u x y Q gh hx hy hw
 unfold wX at hw
 split at hw
 ·rename_i i j e1 e2
  rw [e1] at hx; rw [e2] at hy
  cases hx; cases hy
  split at hw
  ·rename_i hc
   exact ⟨i, j, rfl, rfl, hc, hw G H _ (Step.refl gh) (hg G i j)⟩
  ·exact hw.elim
 ·exact hw.elim
theorem aAn {g : Int -> Int -> D} {gv : Int -> Int -> V} (hg : ∀ G i j, Rep K G (gv i j) (g i j)) : OpM K (rI0 gv) (kE g) := by
 intro W G H v u x y Q gh hx hy hw
 unfold kE at hw
 split at hw
 ·rename_i i j e1 e2
  rw [e1] at hx; rw [e2] at hy
  cases hx; cases hy
  exact ⟨i, j, rfl, rfl, hw G H _ (Step.refl gh) (hg G i j)⟩
 ·exact hw.elim
noncomputable abbrev k8 : Ev -> Ev -> Res Ev := wX CMulW fun i j => .int (i * j)
noncomputable abbrev jG : Ev -> Ev -> Res Ev := wX kW fun i j => .int (i.fdiv j)
noncomputable abbrev iD : Ev -> Ev -> Res Ev := wX (fun _ j => j ≠ 0) fun i j => .int (i.fmod j)
noncomputable abbrev uZ : Ev -> Ev -> Res Ev := wX aA9 fun i j => .int (i ^ j.toNat)
abbrev aF7 : Ev -> Ev -> Res Ev := kE fun i j => .int (i - j)
abbrev ltE : Ev -> Ev -> Res Ev := kE fun i j => .bool (decide (i < j))
abbrev gtE : Ev -> Ev -> Res Ev := kE fun i j => .bool (decide (j < i))
theorem gM : OpM K (rI CMulW fun i j => .int (i * j)) k8 := vB fun _ _ _ => .int _
theorem iM : OpM K (rI kW fun i j => .int (i.fdiv j)) jG := vB fun _ _ _ => .int _
theorem dD : OpM K (rI (fun _ j => j ≠ 0) fun i j => .int (i.fmod j)) iD := vB fun _ _ _ => .int _
theorem k9 : OpM K (rI aA9 fun i j => .int (i ^ j.toNat)) uZ := vB fun _ _ _ => .int _
theorem uH : OpM K (rI0 fun i j => .int (i - j)) aF7 := aAn fun _ _ _ => .int _
def fK (x y : Ev) : Res Ev := match x, y with
 | .p (.int i), .p (.int j) => .ok (.p (.int (i + j)))
 | .p (.str i), .p (.str j) => if i.length + j.length <= 100000 then .ok (.p (.str (i ++ j))) else .bad
 | x, y => match iE x, iE y with
  | some ds, some es => if ds.length + es.length <= 100000 then .ok (.f (.list (ds ++ es))) else .bad
  | _, _ => .bad
theorem bR : NoX fK := by
 intro x y A h
 unfold fK at h
 split at h
 ·cases h
 ·split at h <;> cases h
 ·split at h
  ·split at h <;> cases h
  ·cases h
abbrev aJf : R2 := rOr (rI0 fun i j => .int (i + j)) (rOr aE3 aI0)
theorem bU : OpR X (binaryOp .Add) aJf := OpR.or' aGw (OpR.or' v7 aEh)
theorem cW : OpM K aJf fK := by
 intro W G H v u x y Q gh hx hy hw
 unfold fK at hw
 split at hw
 ·rename_i i j e1 e2
  rw [e1] at hx; rw [e2] at hy
  cases hx; cases hy
  exact .inl ⟨i, j, rfl, rfl, hw G H _ (Step.refl gh) (.int _)⟩
 ·rename_i i j e1 e2
  rw [e1] at hx; rw [e2] at hy
  cases hx; cases hy
  split at hw
  ·rename_i hl
   exact .inr (.inl ⟨i, j, rfl, rfl, Nat.le_trans hl (by decide), hw G H _ (Step.refl gh) (.str _)⟩)
  ·exact hw.elim
 ·split at hw
  ·rename_i ds es e1 e2
   obtain ⟨a, xs, rfl, h1, h2⟩ := n4 gh hx e1
   obtain ⟨b, ys, rfl, h3, h4⟩ := n4 gh hy e2
   split at hw
   ·rename_i hl
    refine .inr (.inr ⟨a, b, xs, ys, rfl, rfl, h1, h3, by rw [h2.length, h4.length]; exact Nat.le_trans hl (by decide), fun p hp => ?_⟩)
    exact hw _ _ _ (Step.lay gh hp) ⟨p, _, rfl, hp, gh.free hp, bM, .lst (h2.append h4)⟩
   ·exact hw.elim
  ·exact hw.elim
theorem jC {p : Int -> Int -> Bool} : OpM K (rI0 fun i j => .bl (p i j)) (kE fun i j => .bool (p i j)) := aAn fun _ _ _ => .bl _
mutual
theorem Rep.reads {P : Program} {w : World} {H : Hp} {h : Heap} (ok : HOk P w H h) : ∀ {v : V} {d : D}, Rep K H v d -> d.canLay0 = true -> ∀ {u : Value}, RelV v u -> ∃ as, Reads h u d as
 | _, _, .non, _, _, e => by cases e; exact ⟨_, Reads.none⟩
 | _, _, .bl b, _, _, e => by cases e; exact ⟨_, Reads.bool b⟩
 | _, _, .int i, _, _, ⟨t, e⟩ => by subst e; exact ⟨_, Reads.int i t⟩
 | _, _, .str i, _, _, ⟨t, e⟩ => by subst e; exact ⟨_, Reads.str i t⟩
 | _, _, .tup hh r, hc, _, e => by
  have e : _ = Value.ref _ := e
  subst e
  obtain ⟨_, its, rv, o, ho, hcl, n, hd⟩ := (show ObjOk P w H h _ _ from ok _ _ hh)
  obtain ⟨as, q⟩ := Reps.reads ok r (by simpa [PyData.canLay0] using hc) rv
  exact ⟨as, reads_tuple_at ho hcl hd (by simpa using q)⟩
 | _, _, .lst hh r, hc, _, e => by
  have e : _ = Value.ref _ := e
  subst e
  obtain ⟨_, its, n, rv, ho⟩ := hh.ok ok
  obtain ⟨as, q⟩ := Reps.reads ok r (by simpa [PyData.canLay0] using hc) rv
  exact ⟨_, reads_list_at ho rfl rfl (by simpa using q)⟩
 | _, _, .dT _ _, hc, _, _ => by simp [PyData.canLay0] at hc
 | _, _, .dK _ _, hc, _, _ => by simp [PyData.canLay0] at hc
theorem Reps.reads {P : Program} {w : World} {H : Hp} {h : Heap} (ok : HOk P w H h) : ∀ {vs : List V} {ds : List D}, Reps K H vs ds -> PyData.canLayAll0 ds = true -> ∀ {us : List Value}, Vals vs us -> ∃ as, ReadsAll h us ds as
 | _, _, .nil, _, _, .nil => ⟨_, ReadsAll.nil⟩
 | _, _, .cons hd r, hc, _, .cons rv rt => by
  simp only [PyData.canLayAll0, Bool.and_eq_true] at hc
  obtain ⟨as, q⟩ := Rep.reads ok hd hc.1 rv
  obtain ⟨bs, p⟩ := Reps.reads ok r hc.2 rt
  exact ⟨_, ReadsAll.cons q p⟩
end
def aKj (K : PySem.W.Frag) (ng : Bool) : R2 := fun x y H Q => ∃ d e, Rep K H x d /\ Rep K H y e /\ SeqAt.shaped d = true /\ SeqAt.shaped e = true /\ Q (.bl (if ng then !PyData.eqv d e else PyData.eqv d e)) H
theorem fC {K : PySem.W.Frag} (hu : X.A.units + 64 < cLine) : OpR X (compareOp .Eq) (aKj K false) := by
 intro pins s σ H x y v u Q I rx ry h
 obtain ⟨d, e, h1, h2, o1, o2, q⟩ := h
 obtain ⟨as, r1⟩ := h1.reads I.hok (Bool.and_eq_true_iff.mp o1).1 rx
 obtain ⟨bs, r2⟩ := h2.reads I.hok (Bool.and_eq_true_iff.mp o2).1 ry
 exact eq_dataH r1 r2 o1 o2 hu ⟨.bl _, H, I, rfl, q⟩
theorem kY {K : PySem.W.Frag} (hu : X.A.units + 64 < cLine) : OpR X (compareOp .NotEq) (aKj K true) := by
 intro pins s σ H x y v u Q I rx ry h
 obtain ⟨d, e, h1, h2, o1, o2, q⟩ := h
 obtain ⟨as, r1⟩ := h1.reads I.hok (Bool.and_eq_true_iff.mp o1).1 rx
 obtain ⟨bs, r2⟩ := h2.reads I.hok (Bool.and_eq_true_iff.mp o2).1 ry
 exact ne_dataH r1 r2 o1 o2 hu ⟨.bl _, H, I, rfl, q⟩
def eqE (ng : Bool) (x y : Ev) : Res Ev := match dat x, dat y with
 | some d, some e => if SeqAt.shaped d = true /\ SeqAt.shaped e = true then .ok (.p (.bool (if ng then !PyData.eqv d e else PyData.eqv d e))) else .bad
 | _, _ => .bad
theorem cV {ng : Bool} : NoX (eqE ng) := by
 intro x y A h
 unfold eqE at h
 split at h
 ·split at h <;> cases h
 ·cases h
theorem fF {ng : Bool} : OpM K (aKj K ng) (eqE ng) := by
 intro W G H v u x y Q gh hx hy hw
 unfold eqE at hw
 split at hw
 ·rename_i d e e1 e2
  split at hw
  ·rename_i hs
   exact ⟨d, e, hx.read gh e1, hy.read gh e2, hs.1, hs.2, hw G H _ (Step.refl gh) (.bl _)⟩
  ·exact hw.elim
 ·exact hw.elim
def mUn (op : Ev -> Res Ev) (fa : En -> Res Ev) : En -> Res Ev := fun en => (fa en).bind fun x => op x.c
variable {E : L2.St -> XK} {a b : Expr} {fa fb : En -> Res Ev} {pos : Pos}
def aL1 (x : Ev) : Res Ev := match x with
 | .p (.int i) => .ok (.p (.int (-i)))
 | _ => .bad
def i5 : Ev -> Option (List D)
 | .p (.list ds) => some ds
 | .b (.list ds) => some ds
 | .p (.tuple ds) => some ds
 | _ => none
def ixE (x y : Ev) : Res Ev := match y with
 | .p (.int i) => match i5 x with
  | some ds => match atI ds i with
   | some d => .ok (.p d)
   | none => .bad
  | none => .bad
 | _ => .bad
theorem aG9 : NoX ixE := by
 intro x y A h
 unfold ixE at h
 split at h
 ·split at h
  ·split at h <;> cases h
  ·cases h
 ·cases h
theorem sQ {G : Hp} {xs : List V} {ds : List D} {i : Int} {d : D} (r : Reps K G xs ds) (h : atI ds i = some d) : ∃ x, atI xs i = some x /\ Rep K G x d := by
 unfold atI at h ⊢
 rw [r.length]
 cases e : ixN ds.length i with
 | none => rw [e] at h; cases h
 | some j =>
  rw [e] at h
  exact r.get' h
def aL9 (K : PySem.W.Frag) : R2 := fun x y H Q => aMk K x y H Q \/ aMm K x y H Q
theorem aMp : IxR X (aL9 X.K) := ix_list.or aG0
theorem aKg : OpM K (aL9 K) ixE := by
 intro W G H v u x y Q gh hx hy hw
 unfold ixE at hw
 split at hw
 ·rename_i i ey
  rw [ey] at hy
  cases hy
  split at hw
  ·rename_i ds ed
   split at hw
   ·rename_i d ea
    cases ex : x.c with
    | p dd =>
     rw [ex] at ed hx
     cases dd with
     | list es =>
      cases ed
      cases hx with
      | @lst a xs _ h1 h2 =>
       obtain ⟨z, h3, h4⟩ := sQ h2 ea
       exact .inl ⟨a, xs, i, z, rfl, rfl, .inl (gT gh h1), h3, hw G H _ (Step.refl gh) h4⟩
     | tuple es =>
      cases ed
      cases hx with
      | @tup a xs _ h1 h2 =>
       obtain ⟨z, h3, h4⟩ := sQ h2 ea
       exact .inr ⟨a, xs, i, z, rfl, rfl, SqT.of (gh _ _ h1), h3, hw G H _ (Step.refl gh) h4⟩
     | _ => cases ed
    | b dd =>
     rw [ex] at ed hx
     cases dd with
     | list es =>
      cases ed
      obtain ⟨a, k, o, rfl, h1, h2, h3⟩ := hx
      cases h3 with
      | @lst xs _ h4 =>
       obtain ⟨z, h5, h6⟩ := sQ h4 ea
       exact .inl ⟨a, xs, i, z, rfl, rfl, .inl (.inl h2), h5, hw G H _ (Step.refl gh) h6⟩
     | _ => cases ed
    | f dd => rw [ex] at ed; cases ed
    | x C => rw [ex] at ed; cases ed
   ·exact hw.elim
  ·exact hw.elim
 ·exact hw.elim
theorem bS (ha : DE X E a fa) (hb : DE X E b fb) (hs : aAg b) : DE X E (.Subscript a b pos) (aL ixE fa fb) := by
 obtain ⟨ta, pa, ma⟩ := ha.out
 obtain ⟨tb, pb, mb⟩ := hb.out
 exact DE.in ⟨_, aL4 aMp pa pb hs, mS ma mb aKg aG9⟩
def gY (rs : List Ev) : Res Ev := match rs with
 | [x] => match i5 x with
  | some ds => .ok (.p (.int ds.length))
  | none => .bad
 | _ => .bad
theorem eQ : tH gY := by
 intro rs C h
 unfold gY at h
 split at h
 ·split at h <;> cases h
 ·cases h
theorem gL : jN K (fun xs H Q => ∃ p ys, xs = [.ref p] /\ (SqL K H p ys \/ SqT K H p ys) /\ Q (.int ys.length) H) gY := by
 intro W Hs G H vs rs Q gh he hw
 unfold gY at hw
 split at hw
 ·rename_i x
  match vs, he with
  | [v], ⟨h1, _⟩ =>
   split at hw
   ·rename_i ds ed
    cases x with
    | p dd =>
     cases dd with
     | list es =>
      cases ed
      cases h1 with
      | @lst a xs _ k1 k2 => exact ⟨a, xs, rfl, .inl (.inl (gT gh k1)), by rw [k2.length]; exact hw G H _ (Step.refl gh) (.int _)⟩
     | tuple es =>
      cases ed
      cases h1 with
      | @tup a xs _ k1 k2 => exact ⟨a, xs, rfl, .inr (SqT.of (gh _ _ k1)), by rw [k2.length]; exact hw G H _ (Step.refl gh) (.int _)⟩
     | _ => cases ed
    | b dd =>
     cases dd with
     | list es =>
      cases ed
      obtain ⟨a, k, o, rfl, k1, k2, k3⟩ := h1
      cases k3 with
      | @lst xs _ k4 => exact ⟨a, xs, rfl, .inl (.inl (.inl k2)), by rw [k4.length]; exact hw G H _ (Step.refl gh) (.int _)⟩
     | _ => cases ed
    | f dd => cases ed
    | x C => cases ed
   ·exact hw.elim
 ·exact hw.elim
def aC9 (rs : List Ev) : Res Ev := match rs with
 | [.p (.int i)] => .ok (.p (.int (if i < 0 then -i else i)))
 | _ => .bad
theorem oB : tH aC9 := by
 intro rs C h
 unfold aC9 at h
 split at h <;> cases h
theorem uF : jN K (fun xs H Q => ∃ i, xs = [.int i] /\ Q (.int (if i < 0 then -i else i)) H) aC9 := by
 intro W Hs G H vs rs Q gh he hw
 unfold aC9 at hw
 split at hw
 ·rename_i i
  match vs, he with
  | [v], ⟨h1, _⟩ => cases h1; exact ⟨i, rfl, hw G H _ (Step.refl gh) (.int _)⟩
 ·exact hw.elim
def aEv (f : Int -> Int -> Int) (rs : List Ev) : Res Ev := match rs with
 | [.p (.int i), .p (.int j)] => .ok (.p (.int (f i j)))
 | _ => .bad
theorem aGc {f : Int -> Int -> Int} : tH (aEv f) := by
 intro rs C h
 unfold aEv at h
 split at h <;> cases h
theorem aIu {f : Int -> Int -> Int} : jN K (fun xs H Q => ∃ i j, xs = [.int i, .int j] /\ Q (.int (f i j)) H) (aEv f) := by
 intro W Hs G H vs rs Q gh he hw
 unfold aEv at hw
 split at hw
 ·rename_i i j
  match vs, he with
  | [v, u], ⟨h1, h2, _⟩ => cases h1; cases h2; exact ⟨i, j, rfl, hw G H _ (Step.refl gh) (.int _)⟩
 ·exact hw.elim
def aF3 (f : Int -> Int -> Int) (rs : List Ev) : Res Ev := match rs with
 | [.p (.tuple [.int i, .int j])] => .ok (.p (.int (f i j)))
 | _ => .bad
theorem yA {f : Int -> Int -> Int} : tH (aF3 f) := by
 intro rs C h
 unfold aF3 at h
 split at h <;> cases h
theorem aD7 {f : Int -> Int -> Int} : jN K (sP K f) (aF3 f) := by
 intro W Hs G H vs rs Q gh he hw
 unfold aF3 at hw
 split at hw
 ·rename_i i j
  match vs, he with
  | [v], ⟨h1, _⟩ =>
   cases h1 with
   | @tup a xs _ k1 k2 =>
    cases k2 with
    | cons r1 k2 =>
     cases k2 with
     | cons r2 k2 =>
      cases k2
      cases r1
      cases r2
      exact ⟨a, i, j, rfl, SqT.of (gh _ _ k1), hw G H _ (Step.refl gh) (.int _)⟩
 ·exact hw.elim
def oM : List D -> Option (List Bool)
 | [] => some []
 | .bool b :: ds => match oM ds with
  | some bs => some (b :: bs)
  | none => none
 | _ => none
theorem o8 {G : Hp} : ∀ {ds : List D} {bs : List Bool} {xs : List V}, oM ds = some bs -> Reps K G xs ds -> xs = bs.map V.bl
 | [], _, _, h, .nil => by cases h; rfl
 | d :: ds, bs, _, h, .cons r t => by
  cases d with
  | bool b =>
   unfold oM at h
   cases e : oM ds with
   | none => rw [e] at h; cases h
   | some bs' =>
    rw [e] at h
    cases h
    cases r
    rw [o8 e t]
    rfl
  | _ => cases h
def aDo (rs : List Ev) : Res Ev := match rs with
 | [x] => match iE x with
  | some ds => match oM ds with
   | some bs => .ok (.p (.bool (bs.any id)))
   | none => .bad
  | none => .bad
 | _ => .bad
theorem aFf : tH aDo := by
 intro rs C h
 unfold aDo at h
 split at h
 ·split at h
  ·split at h <;> cases h
  ·cases h
 ·cases h
theorem aG1 : jN K (aMf K) aDo := by
 intro W Hs G H vs rs Q gh he hw
 unfold aDo at hw
 split at hw
 ·rename_i x
  match vs, he with
  | [v], ⟨h1, _⟩ =>
   split at hw
   ·rename_i ds ed
    obtain ⟨a, xs, rfl, k1, k2⟩ := n4 gh h1 ed
    split at hw
    ·rename_i bs eb
     have := o8 eb k2
     subst this
     exact ⟨a, bs, rfl, .inl k1, hw G H _ (Step.refl gh) (.bl _)⟩
    ·exact hw.elim
   ·exact hw.elim
 ·exact hw.elim
def listE (rs : List Ev) : Res Ev := match rs with
 | [x] => match i5 x with
  | some ds => .ok (.f (.list ds))
  | none => .bad
 | _ => .bad
theorem aCu : tH listE := by
 intro rs C h
 unfold listE at h
 split at h
 ·split at h <;> cases h
 ·cases h
theorem aFa : jN K (fun xs H Q => ∃ p ys, xs = [.ref p] /\ (SqL K H p ys \/ SqT K H p ys) /\ ∀ l, H l = none -> Q (.ref l) (upd H l (.lst ys))) listE := by
 intro W Hs G H vs rs Q gh he hw
 unfold listE at hw
 split at hw
 ·rename_i x
  match vs, he with
  | [v], ⟨h1, _⟩ =>
   split at hw
   ·rename_i ds ed
    have fin : ∀ {xs : List V}, Reps K G xs ds -> ∀ l, H l = none -> Q (.ref l) (upd H l (.lst xs)) := fun r l hl =>
     hw _ _ _ (Step.lay gh hl) ⟨l, _, rfl, hl, gh.free hl, bM, .lst r⟩
    cases x with
    | p dd =>
     cases dd with
     | list es =>
      cases ed
      cases h1 with
      | @lst a xs _ k1 k2 => exact ⟨a, xs, rfl, .inl (.inl (gT gh k1)), fin k2⟩
     | tuple es =>
      cases ed
      cases h1 with
      | @tup a xs _ k1 k2 => exact ⟨a, xs, rfl, .inr (SqT.of (gh _ _ k1)), fin k2⟩
     | _ => cases ed
    | b dd =>
     cases dd with
     | list es =>
      cases ed
      obtain ⟨a, k, o, rfl, k1, k2, k3⟩ := h1
      cases k3 with
      | @lst xs _ k4 => exact ⟨a, xs, rfl, .inl (.inl (.inl k2)), fin k4⟩
     | _ => cases ed
    | f dd => cases ed
    | x C => cases ed
   ·exact hw.elim
 ·exact hw.elim
def tyD : D -> String
 | .none => "NoneType"
 | .bool _ => "bool"
 | .int _ => "int"
 | .str _ => "str"
 | .list _ => "list"
 | .tuple _ => "tuple"
 | .dict _ => "dict"
def nH (K : PySem.W.Frag) (c : Value) (x : Ev) : Res Ev := match dat x with
 | some d => match PySem.W.kitOne K (.type (tyD d)) c with
  | some b => .ok (.p (.bool b))
  | none => .bad
 | none => .bad
theorem aJu {H : Hp} {v : V} {d : D} (h : Rep K H v d) : uQ K H v (.type (tyD d)) := by
 cases h with
 | non => exact .non
 | bl b => exact .bl b
 | int i => exact .int i
 | str i => exact .str i
 | tup h _ => exact .tup h
 | lst h _ =>
  rcases h with h | ⟨o, h⟩
  ·exact .lst h
  ·exact .frz h
 | dT h _ => exact .dT h
 | dK h _ => exact .dK h
theorem lB {e c : Expr} {v : V} {cv : Value} {p : Pos} (hg : Gl X "isinstance") (hm : X.mg "isinstance" = none) (hv : (∃ n, v = .ty n) \/ ∃ a, v = .ref a) (hr : RelV v cv) (he : DE X E e fa) (hc : PE X c (tC v))
  (h1 : starEach [e, c] X.env = (false, eval e X.env) :: starEach [c] X.env := by rfl) (h2 : (backTo pos (starEach [c] X.env)).any (·.1) = false := by rfl) (h3 : starEach [c] X.env = (false, eval c X.env) :: starEach [] X.env := by rfl) :
  DE X E (.Call (.Name "isinstance" p) [e, c] [] pos) (mUn (nH X.K cv) fa) := by
 obtain ⟨t, q, m⟩ := he.out
 refine DE.in ⟨_, aH7 hg hm q hc h1 h2 h3, fun B G0 G W H σ en Q hh hs hw => m B G0 G W H σ en _ hh hs (DE.go hw fun x G1 H1 u s1 e1 k1 => ?_)⟩
 unfold nH at k1
 split at k1
 ·rename_i d ed
  split at k1
  ·rename_i b eb
   exact ⟨u, v, .type (tyD d), cv, b, rfl, hv, .plain (aJu (EOk.read s1.gh e1 ed)), hr, eb, k1 G1 H1 _ (Step.refl s1.gh) (.bl _)⟩
  ·exact k1.elim
 ·exact k1.elim
end
section
variable {P : Program} {w : World} {K : PySem.W.Frag} {mg : Str -> Option Value} {base : Heap}
structure Def (K : PySem.W.Frag) (mg : Str -> Option Value) (x : Str) (ps : List Str) (st : Stmt) : Prop where
 ex : ∃ f fd, Fun K x x st f fd /\ Binds K fd ps [] /\ PySem.W.keepIn K (.ref f) = true /\ mg x = some (.ref f)
structure Cal (P : Program) (w : World) (K : PySem.W.Frag) (mg : Str -> Option Value) (base : Heap) (k : Nat) (x : Str) (n : Nat) (m : List L -> Res L) : Prop where
 ex : ∃ f fd ps, FnOk P w K mg base (CXr P w) k f fd ps (spM K n m) /\ Binds K fd ps [] /\ PySem.W.keepIn K (.ref f) = true /\ mg x = some (.ref f)
theorem jU {x : Str} {st : Stmt} {N ps : List Str} {k n : Nat} {m : List L -> Res L} (Df : Def K mg x ps st) (S : aX N ps (aK st)) (hn : n = ps.length)
  (hbody : ∀ (f : Addr) (cdv : Value) (A : Around) (outer : List Env) (s : Shared) (H : Hp) (E : XK), Room k (A.deeper (envOfC x (aK st) s.heap.objs.size f cdv)) ->
   ∃ fm, DSs (pI (CXr P w) P w K mg base N x (aK st) f cdv A outer s H E) (fun _ => E) (eU st) fm /\ ∀ ls, m ls = .bad \/ dU N.length fm ls = m ls) : Cal P w K mg base (k + 1) x n m := by
 obtain ⟨f, fd, F, b, kp, h⟩ := Df.ex
 exact ⟨f, fd, ps, fnM F S hn fun cdv A outer s H E hr => hbody f cdv A outer s H E hr, b, kp, h⟩
end
section
variable {X : Cx} {E : L2.St -> XK} {k j : Nat} {x : Str} {p pos : Pos} {e : Expr} {es : List Expr} {fr : En -> Res (List Ev)} {n : Nat} {m : List L -> Res L}
theorem aN (c : Cal X.prog X.w X.K X.mg X.base j x n m) (hr : Room k X.A) (hx : lW (CXr X.prog X.w) X E) (ha : DA X E (e :: es) fr) (hg : Gl X x := by rfl) (hjk : j <= k := by decide) (hdb : (x == ("__debug__" : Str)) = false := by decide)
  (he : starEach (e :: es) X.env = (false, eval e X.env) :: starEach es X.env := by rfl) (hpl : (backTo pos (starEach es X.env)).any (·.1) = false := by rfl) :
  DE X E (.Call (.Name x p) (e :: es) [] pos) (a5 n m fr) := by
 obtain ⟨f, fd, ps, F, b, kp, h⟩ := c.ex
 exact aEi (F.mono hjk) hr hg h kp b hx ha hdb he hpl
theorem dv (i : Nat) (hN : X.N[i]? = some x := by rfl) (hv : Vis X.env.scope x := by first | exact Or.inl rfl | exact Or.inr (Or.inl rfl) | exact Or.inr (Or.inr rfl)) (hd : (x == ("__debug__" : Str)) = false := by decide) (hcd : (x == ("__classdict__" : Str)) = false := by decide) :
  DE X E (.Name x pos) (aG i) := aI4 hN hv hd hcd
theorem u64 {A : Around} (hr : Room k A) : A.units + 64 < cLine := by have := hr.un; omega
theorem u1 {A : Around} (hr : Room k A) : A.units + 1 < cLine := by have := hr.un; omega
theorem cI {scope : Scope} {cl : List (Str × Addr)} : rA X scope cl [] [] := ⟨rfl, fun i y j h _ => by simp at h⟩
theorem iP {scope : Scope} {cl : List (Str × Addr)} {y : Str} {ys : List Str} {j : Nat} {js : List Nat} (h : X.N[j]? = some y /\ (X.env.kindOf y = some .cell \/ X.env.kindOf y = some .free) /\ ((relabel scope X.env).names.lookup y = some .cell \/ (relabel scope X.env).names.lookup y = some .free) /\ (X.env.cells.lookup y).isSome = true /\ cl.lookup y = X.env.cells.lookup y)
  (t : rA X scope cl ys js) : rA X scope cl (y :: ys) (j :: js) :=
 ⟨by rw [List.length_cons, List.length_cons, t.len], fun i z q e1 e2 => by
  cases i with
  | zero => simp at e1 e2; subst e1 e2; exact h
  | succ i => exact t.at_ i z q (by simpa using e1) (by simpa using e2)⟩
theorem nO {scope : Scope} {cl : List (Str × Addr)} {ys : List Str} {js : List Nat} (clos : closureFor scope X.env = pure cl) (sub : ∀ q ∈ cl, X.env.cells.lookup q.1 = some q.2) (cap : rA X scope cl ys js) (hcell : ∀ y ∈ scope.names, y.2 ≠ .cell) (hfree : ∀ q ∈ scope.names, q.2 = .free -> q.1 ∈ ys) : aJa X scope cl := by
 refine ⟨clos, fun y c h => sub _ (PySem.mem_of_lookup h), fun y hy => ?_⟩
 have hm : y ∈ ys := by
  rcases hy with hy | hy
  ·have m := PySem.mem_of_lookup hy
   obtain ⟨⟨n0, k0⟩, m0, e0⟩ := List.mem_map.mp m
   dsimp only at e0
   split at e0
   ·rename_i z
    injection e0 with e1 e2
    subst e1
    have : k0 = .free := by
     cases k0 <;> simp at z ⊢
    exact hfree _ m0 this
   ·injection e0 with e1 e2
    exact absurd e2 (hcell _ m0)
  ·have m := PySem.mem_of_lookup hy
   obtain ⟨⟨n0, k0⟩, m0, e0⟩ := List.mem_map.mp m
   dsimp only at e0
   split at e0
   ·injection e0 with e1 e2
    cases e2
   ·injection e0 with e1 e2
    subst e1
    exact hfree _ m0 e2
 obtain ⟨i, hi, e⟩ := List.mem_iff_getElem.mp hm
 have hj : i < js.length := by rw [<- cap.len]; exact hi
 obtain ⟨_, _, _, h4, h5⟩ := cap.at_ i y js[i] (by rw [List.getElem?_eq_getElem hi, e]) (List.getElem?_eq_getElem hj)
 rw [h5]
 exact Option.isSome_iff_exists.mp h4
theorem lI {K : PySem.W.Frag} {B G0 G H : Hp} {W : Addr -> Option Nat} {σ : L2.St} {en : En} {i : Nat} {a : Addr} {o' : HO} {d' : D} (hh : SimH B G0 G W H) (hs : SimS K W G H σ en) (hW : W a = some i) (hv : σ[i]? = some (some (.ref a))) (hc : Cont K G o' d') :
  SimH B G0 G W (upd H a o') /\ SimS K W G (upd H a o') σ (en.set i (some (.o d'))) := by
 obtain ⟨g1, g2, g3⟩ := hh.wf a i hW
 refine ⟨⟨fun b o e => ?_, fun b o e => ?_, hh.g0, hh.gb, fun b j e => ?_⟩, by rw [List.length_set]; exact hs.1, fun j l e => ?_⟩
 ·rw [bC (b0 e g1)]; exact hh.gh b o e
 ·rw [bC (b0 e g2)]; exact hh.bh b o e
 ·obtain ⟨k1, k2, o, k3, k4⟩ := hh.wf b j e
  refine ⟨k1, k2, ?_⟩
  by_cases z : b = a
  ·rw [z, bM]; exact ⟨_, rfl, hc.mut⟩
  ·rw [bC z]; exact ⟨o, k3, k4⟩
 ·rw [List.getElem?_set] at e
  by_cases hj : i = j
  ·subst hj
   rw [if_pos rfl] at e
   split at e
   ·cases e
    exact ⟨_, hv, a, o', rfl, hW, bM, hc⟩
   ·cases e
  ·rw [if_neg hj] at e
   obtain ⟨v, e1, e2⟩ := hs.2 j l e
   refine ⟨v, e1, ?_⟩
   cases l with
   | p d => exact e2
   | x C => exact e2
   | h a => exact e2
   | o d =>
    obtain ⟨b, ob, h1, h2, h3, h4⟩ := e2
    refine ⟨b, ob, h1, h2, ?_, h4⟩
    rw [bC (fun z => by rw [z, hW] at h2; exact hj (Option.some.inj h2))]
    exact h3
def mE (i : Nat) (fe : En -> Res Ev) : MS := fun en => match en[i]? with
 | some (some (.o (.list ds))) => match fe en with
  | .ok r => match r.c with
   | .p d => if ds.length <= 100000 then some (.nx (en.set i (some (.o (.list (ds ++ [d])))))) else none
   | _ => none
  | .exc C => some (.ex C en)
  | .bad => none
 | _ => none
theorem zX {i : Nat} {fe : En -> Res Ev} {st : Stmt} (he : DE X E e fe) (hp : ∀ t, PE X e t -> PS X st (aGv (tBM X.K "list" aA7 (aJy i) (aGp t aMh)))) : DS X E st (mE i fe) := by
 obtain ⟨t, q, mm⟩ := he.out
 refine DS.in ⟨_, hp t q, fun B G0 G W H σ en Dn hh hs hw => ?_⟩
 unfold mE at hw
 split at hw
 ·rename_i ds ei
  obtain ⟨v, e1, a, o, rfl, e2, e3, e4⟩ := hs.2 i _ ei
  cases e4 with
  | @lst xs _ rp =>
  refine ⟨_, e1, .inl ⟨rfl, _, SqL.of e3⟩, mm B G0 G W H σ en _ hh hs ?_⟩
  cases ef : fe en with
  | bad => rw [ef] at hw; exact hw
  | exc C => rw [ef] at hw; exact fun G1 H1 s => hw G1 W H1 σ (hh.step s) (hs.step s)
  | ok r =>
   rw [ef] at hw
   intro G1 H1 y s ey
   obtain ⟨G2, s2, ey2⟩ := ey.c s
   dsimp only at hw
   cases er : r.c with
   | p d =>
    rw [er] at hw ey2
    dsimp only at hw
    split at hw
    ·rename_i hl
     have hx := s2.h _ _ e3
     refine ⟨a, xs, y, rfl, rfl, hx, Nat.lt_of_le_of_lt (by rw [rp.length]; exact hl) (by decide), ?_⟩
     obtain ⟨w1, w2⟩ := lI (o' := .lst (xs ++ [y])) (d' := .list (ds ++ [d])) (hh.step s2) (hs.step s2) e2 e1 (.lst ((rp.mono s2.g).append (.cons ey2 .nil)))
     exact hw _ _ _ _ w1 w2
    ·exact hw.elim
   | f d => rw [er] at hw; exact hw.elim
   | b d => rw [er] at hw; exact hw.elim
   | x C => rw [er] at hw; exact hw.elim
 ·exact hw.elim
end
section
variable {X : Cx} {K : PySem.W.Frag} {E : L2.St -> XK} {a b : Expr} {fa fb : En -> Res Ev} {pos : Pos}
def aDq : D -> Option Key
 | .int i => some (.inl i)
 | .str x => some (.inr x)
 | _ => none
def tW : List D -> Option (List Key)
 | [] => some []
 | d :: ds => match aDq d with
  | none => none
  | some k => match tW ds with
   | none => none
   | some ks => some (k :: ks)
def aGj : D -> Option (List Key)
 | .tuple ds => tW ds
 | _ => none
theorem pH {d : D} {k : Key} (h : aDq d = some k) : d = kD k := by
 cases d <;> first | (cases h; rfl) | cases h
theorem sA (k : Key) : aDq (kD k) = some k := by cases k <;> rfl
theorem vR : ∀ {ds : List D} {ks : List Key}, tW ds = some ks -> ds = ks.map kD
 | [], _, h => by cases h; rfl
 | d :: ds, ks, h => by
  unfold tW at h
  cases e : aDq d with
  | none => rw [e] at h; cases h
  | some k =>
   rw [e] at h
   cases e2 : tW ds with
   | none => rw [e2] at h; cases h
   | some ks' =>
    rw [e2] at h
    cases h
    rw [pH e, vR e2]
    rfl
theorem uV : ∀ ks : List Key, tW (ks.map kD) = some ks
 | [] => rfl
 | k :: ks => by
  show (match aDq (kD k) with | none => none | some k => match tW (ks.map kD) with | none => none | some ks => some (k :: ks)) = _
  rw [sA, uV ks]
theorem rY {d : D} {ks : List Key} (h : aGj d = some ks) : d = tkD ks := by
 cases d with
 | tuple ds => unfold tkD; rw [<- vR h]
 | _ => cases h
theorem vK (ks : List Key) : aGj (tkD ks) = some ks := uV ks
theorem aAc {k k' : List Key} (h : tkD k = tkD k') : k = k' := by
 have := vK k
 rw [h, vK] at this
 exact (Option.some.inj this).symm
theorem aDc {k k' : Key} (h : kD k = kD k') : k = k' := by
 have := sA k
 rw [h, sA] at this
 exact (Option.some.inj this).symm
theorem aAw {G : Hp} : ∀ {ks : List Key} {xs : List V}, Reps K G xs (ks.map kD) -> xs = ks.map kV
 | [], _, .nil => rfl
 | k :: ks, _, .cons r t => by
  rw [aAw t]
  cases k with
  | inl i => cases r; rfl
  | inr x => cases r; rfl
theorem aD2 {G : Hp} {v : V} {d : D} {ks : List Key} (h : Rep K G v d) (e : aGj d = some ks) : ∃ b, v = .ref b /\ G b = some (.tup (ks.map kV)) := by
 have := rY e
 subst this
 cases h with
 | @tup b xs _ h1 h2 =>
  rw [aAw h2] at h1
  exact ⟨b, rfl, h1⟩
theorem w9 {G : Hp} {v : V} {d : D} {k : Key} (h : Rep K G v d) (e : aDq d = some k) : v = kV k := by
 have := pH e
 subst this
 cases k with
 | inl i => cases h; rfl
 | inr x => cases h; rfl
open Classical in
noncomputable def tZ : List (D × D) -> D -> Option D
 | [], _ => none
 | p :: r, k => if p.1 = k then some p.2 else tZ r k
open Classical in
noncomputable def aDz (k v : D) : List (D × D) -> List (D × D)
 | [] => []
 | p :: r => (if p.1 = k then (p.1, v) else p) :: aDz k v r
open Classical in
noncomputable def aBe (kvs : List (D × D)) (k v : D) : List (D × D) := if (tZ kvs k).isSome = true then aDz k v kvs else kvs ++ [(k, v)]
theorem aKx {G : Hp} (ks : List Key) : ∀ {kv : List (List Key × V)} {kvs : List (D × D)}, RepT K G kv kvs -> (tZ kvs (tkD ks) = none /\ pQ kv ks = none) \/ ∃ d v, tZ kvs (tkD ks) = some d /\ pQ kv ks = some v /\ Rep K G v d
 | _, _, .nil => .inl ⟨rfl, rfl⟩
 | _, _, .cons (k := k) (x := x) (d := d) r t => by
  by_cases e : k = ks
  ·subst e
   refine .inr ⟨d, x, ?_, j8 (p := (k, x)) rfl, r⟩
   unfold tZ
   rw [if_pos rfl]
  ·have e2 : tkD k ≠ tkD ks := fun z => e (aAc z)
   unfold tZ
   rw [if_neg e2, kM (p := (k, x)) e]
   exact aKx ks t
theorem aLl {G : Hp} (ks : Key) : ∀ {kv : List (Key × V)} {kvs : List (D × D)}, RepK K G kv kvs -> (tZ kvs (kD ks) = none /\ pQ kv ks = none) \/ ∃ d v, tZ kvs (kD ks) = some d /\ pQ kv ks = some v /\ Rep K G v d
 | _, _, .nil => .inl ⟨rfl, rfl⟩
 | _, _, .cons (k := k) (x := x) (d := d) r t => by
  by_cases e : k = ks
  ·subst e
   refine .inr ⟨d, x, ?_, j8 (p := (k, x)) rfl, r⟩
   unfold tZ
   rw [if_pos rfl]
  ·have e2 : kD k ≠ kD ks := fun z => e (aDc z)
   unfold tZ
   rw [if_neg e2, kM (p := (k, x)) e]
   exact aLl ks t
theorem aL0 {G : Hp} {ks : List Key} {v : V} {d : D} (h : Rep K G v d) : ∀ {kv : List (List Key × V)} {kvs : List (D × D)}, RepT K G kv kvs -> RepT K G (kv.map fun p => if p.1 = ks then (p.1, v) else p) (aDz (tkD ks) d kvs)
 | _, _, .nil => .nil
 | _, _, .cons (k := k) (x := x) (d := d0) r t => by
  unfold aDz
  rw [List.map_cons]
  by_cases e : k = ks
  ·subst e
   rw [if_pos rfl, if_pos rfl]
   exact .cons h (aL0 h t)
  ·have e2 : tkD k ≠ tkD ks := fun z => e (aAc z)
   rw [if_neg e, if_neg e2]
   exact .cons r (aL0 h t)
theorem aLb {G : Hp} {ks : Key} {v : V} {d : D} (h : Rep K G v d) : ∀ {kv : List (Key × V)} {kvs : List (D × D)}, RepK K G kv kvs -> RepK K G (kv.map fun p => if p.1 = ks then (p.1, v) else p) (aDz (kD ks) d kvs)
 | _, _, .nil => .nil
 | _, _, .cons (k := k) (x := x) (d := d0) r t => by
  unfold aDz
  rw [List.map_cons]
  by_cases e : k = ks
  ·subst e
   rw [if_pos rfl, if_pos rfl]
   exact .cons h (aLb h t)
  ·have e2 : kD k ≠ kD ks := fun z => e (aDc z)
   rw [if_neg e, if_neg e2]
   exact .cons r (aLb h t)
theorem RepT.app {G : Hp} : ∀ {kv kv' : List (List Key × V)} {kvs kvs' : List (D × D)}, RepT K G kv kvs -> RepT K G kv' kvs' -> RepT K G (kv ++ kv') (kvs ++ kvs')
 | _, _, _, _, .nil, r => r
 | _, _, _, _, .cons h t, r => .cons h (RepT.app t r)
theorem RepK.app {G : Hp} : ∀ {kv kv' : List (Key × V)} {kvs kvs' : List (D × D)}, RepK K G kv kvs -> RepK K G kv' kvs' -> RepK K G (kv ++ kv') (kvs ++ kvs')
 | _, _, _, _, .nil, r => r
 | _, _, _, _, .cons h t, r => .cons h (RepK.app t r)
theorem RepT.len {G : Hp} : ∀ {kv : List (List Key × V)} {kvs : List (D × D)}, RepT K G kv kvs -> kv.length = kvs.length
 | _, _, .nil => rfl
 | _, _, .cons _ r => by rw [List.length_cons, List.length_cons, RepT.len r]
theorem RepK.len {G : Hp} : ∀ {kv : List (Key × V)} {kvs : List (D × D)}, RepK K G kv kvs -> kv.length = kvs.length
 | _, _, .nil => rfl
 | _, _, .cons _ r => by rw [List.length_cons, List.length_cons, RepK.len r]
theorem aMr {G : Hp} {ks : List Key} {v : V} {d : D} (h : Rep K G v d) {kv : List (List Key × V)} {kvs : List (D × D)} (r : RepT K G kv kvs) : RepT K G (putK kv ks v) (aBe kvs (tkD ks) d) := by
 unfold putK aBe
 rw [lM]
 rcases aKx ks r with ⟨e1, e2⟩ | ⟨d0, v0, e1, e2, _⟩
 ·rw [e1, e2, if_neg (by simp), if_neg (by simp)]
  exact r.app (.cons h .nil)
 ·rw [e1, e2, if_pos (show (some v0).isSome = true from rfl), if_pos (show (some d0).isSome = true from rfl)]
  exact aL0 h r
theorem aK4 {G : Hp} {ks : Key} {v : V} {d : D} (h : Rep K G v d) {kv : List (Key × V)} {kvs : List (D × D)} (r : RepK K G kv kvs) : RepK K G (putK kv ks v) (aBe kvs (kD ks) d) := by
 unfold putK aBe
 rw [lM]
 rcases aLl ks r with ⟨e1, e2⟩ | ⟨d0, v0, e1, e2, _⟩
 ·rw [e1, e2, if_neg (by simp), if_neg (by simp)]
  exact r.app (.cons h .nil)
 ·rw [e1, e2, if_pos (show (some v0).isSome = true from rfl), if_pos (show (some d0).isSome = true from rfl)]
  exact aLb h r
def dsp (kvs : List (D × D)) : Bool × List (D × D) := match kvs with
 | (.none, .none) :: r => (true, r)
 | r => (false, r)
theorem aEq {G : Hp} {kv : List (List Key × V)} {kvs : List (D × D)} (r : RepT K G kv kvs) : dsp kvs = (false, kvs) := by
 cases r with
 | nil => rfl
 | cons _ _ => rfl
def i3 : Ev -> Option (List (D × D))
 | .p (.dict kvs) => some kvs
 | .b (.dict kvs) => some kvs
 | _ => none
noncomputable def sH (kvs : List (D × D)) (k : D) : Option (Option D) := match dsp kvs with
 | (true, r) => if (aDq k).isSome = true then some (tZ r k) else none
 | (false, r) => if (aGj k).isSome = true then some (tZ r k) else none
theorem vE {W : Addr -> Option Nat} {Hs G H : Hp} {v : V} {r : Ev} {kvs : List (D × D)} (gh : Same G H) (h : EOk K W Hs G H v r) (e : i3 r = some kvs) :
  ∃ a, v = .ref a /\ ((∃ kv, H a = some (.dT kv) /\ RepT K G kv kvs) \/ ∃ kv r, kvs = (.none, .none) :: r /\ H a = some (.dK kv) /\ RepK K G kv r) := by
 cases r with
 | p d =>
  cases d with
  | dict es =>
   cases e
   cases h with
   | @dT a kv _ h1 h2 => exact ⟨a, rfl, .inl ⟨kv, gh _ _ h1, h2⟩⟩
   | @dK a kv r h1 h2 => exact ⟨a, rfl, .inr ⟨kv, r, rfl, gh _ _ h1, h2⟩⟩
  | _ => cases e
 | b d =>
  cases d with
  | dict es =>
   cases e
   obtain ⟨a, i, o, rfl, h1, h2, h3⟩ := h
   cases h3 with
   | @dT kv _ h4 => exact ⟨a, rfl, .inl ⟨kv, h2, h4⟩⟩
   | @dK kv r h4 => exact ⟨a, rfl, .inr ⟨kv, r, rfl, h2, h4⟩⟩
  | _ => cases e
 | f d => cases e
 | x C => cases e
def aK2 (K : PySem.W.Frag) (G : Hp) : Option D -> Option V -> Prop
 | none, w => w = none
 | some d, w => ∃ x, w = some x /\ Rep K G x d
theorem yV {W : Addr -> Option Nat} {Hs Hs' G H : Hp} {v u : V} {r : Ev} {k : D} {kvs : List (D × D)} {o : Option D} (gh : Same G H) (h : EOk K W Hs G H v r) (e : i3 r = some kvs) (hk : Rep K G u k) (el : sH kvs k = some o) :
  ∃ a w, v = .ref a /\ DGet H a u w /\ aK2 K G o w := by
 obtain ⟨a, rfl, hh⟩ := vE gh h e
 rcases hh with ⟨kv, h1, h2⟩ | ⟨kv, r, rfl, h1, h2⟩
 ·unfold sH at el
  rw [aEq h2] at el
  dsimp only at el
  split at el
  ·rename_i z
   obtain ⟨ks, ek⟩ := Option.isSome_iff_exists.mp z
   obtain ⟨b, rfl, hb⟩ := aD2 hk ek
   have := rY ek
   subst this
   cases el
   refine ⟨a, pQ kv ks, rfl, .t h1 (gh _ _ hb), ?_⟩
   rcases aKx ks h2 with ⟨e1, e2⟩ | ⟨d0, v0, e1, e2, e3⟩
   ·rw [e1, e2]; exact rfl
   ·rw [e1, e2]; exact ⟨v0, rfl, e3⟩
  ·cases el
 ·unfold sH at el
  dsimp only [dsp] at el
  split at el
  ·rename_i z
   obtain ⟨ks, ek⟩ := Option.isSome_iff_exists.mp z
   have hb := w9 hk ek
   subst hb
   have := pH ek
   subst this
   cases el
   refine ⟨a, pQ kv ks, rfl, .k h1, ?_⟩
   rcases aLl ks h2 with ⟨e1, e2⟩ | ⟨d0, v0, e1, e2, e3⟩
   ·rw [e1, e2]; exact rfl
   ·rw [e1, e2]; exact ⟨v0, rfl, e3⟩
  ·cases el
noncomputable def kB (x y : Ev) : Res Ev := match y with
 | .p k => match i3 x with
  | some kvs => match sH kvs k with
   | some (some d) => .ok (.p d)
   | _ => .bad
  | none => .bad
 | _ => .bad
noncomputable def vX (ng : Bool) (y x : Ev) : Res Ev := match y with
 | .p k => match i3 x with
  | some kvs => match sH kvs k with
   | some o => .ok (.p (.bool (if ng then !o.isSome else o.isSome)))
   | none => .bad
  | none => .bad
 | _ => .bad
theorem sS (hu : X.A.units + 1 < cLine) (ha : DE X E a fa) (hb : DE X E b fb) (hs : aLa b) : DE X E (.Subscript a b pos) (aL kB fa fb) := by
 obtain ⟨ta, pa, ma⟩ := ha.out
 obtain ⟨tb, pb, mb⟩ := hb.out
 refine DE.in ⟨_, aGf hu pa pb hs, fun B G0 G W H σ en Q hh hs hw => ma B G0 G W H σ en _ hh hs (DE.go hw fun x G1 H1 v s1 e1 h1 => ?_)⟩
 refine mb B G0 G1 W H1 σ en _ (hh.step s1) (hs.step s1) (DE.go h1 fun y G2 H2 u s2 e2 h2 => ?_)
 unfold kB at h2
 split at h2
 ·rename_i k ey
  rw [ey] at e2
  split at h2
  ·rename_i kvs ed
   split at h2
   ·rename_i d el
    obtain ⟨a, w, rfl, hg, x, rfl, hx⟩ := yV (Hs' := H1) s2.gh (e1.step (Hs' := H1) s2) ed e2 el
    exact ⟨a, x, rfl, hg, h2 G2 H2 _ (Step.refl s2.gh) hx⟩
   ·exact h2.elim
  ·exact h2.elim
 ·exact h2.elim
theorem aCw {ta tb : TE} {ng : Bool} (ma : ∀ B G0 G W H σ en Q, SimH B G0 G W H -> SimS X.K W G H σ en -> wpR (fa en) (PostE X.K W G H Q) (PostX (E σ) G H) -> ta σ H Q)
  (mb : ∀ B G0 G W H σ en Q, SimH B G0 G W H -> SimS X.K W G H σ en -> wpR (fb en) (PostE X.K W G H Q) (PostX (E σ) G H) -> tb σ H Q) :
  ∀ B G0 G W H σ en Q, SimH B G0 G W H -> SimS X.K W G H σ en -> wpR (aL (vX ng) fa fb en) (PostE X.K W G H Q) (PostX (E σ) G H) ->
   ta σ H fun y H1 => tb σ H1 fun x H2 => ∃ a o, x = .ref a /\ DGet H2 a y o /\ Q (.bl (if ng then !o.isSome else o.isSome)) H2 := by
 intro B G0 G W H σ en Q hh hs hw
 refine ma B G0 G W H σ en _ hh hs (DE.go hw fun y G1 H1 u s1 e1 h1 => ?_)
 refine mb B G0 G1 W H1 σ en _ (hh.step s1) (hs.step s1) (DE.go h1 fun x G2 H2 v s2 e2 h2 => ?_)
 have e1' := e1.step (Hs' := H1) s2
 unfold vX at h2
 split at h2
 ·rename_i k ey
  rw [ey] at e1'
  split at h2
  ·rename_i kvs ed
   split at h2
   ·rename_i o el
    obtain ⟨a, w, rfl, hg, hx⟩ := yV (Hs' := H1) s2.gh e2 ed e1' el
    refine ⟨a, w, rfl, hg, ?_⟩
    have z := h2 G2 H2 _ (Step.refl s2.gh) (.bl _)
    cases o with
    | none => rw [show w = none from hx]; exact z
    | some d => obtain ⟨x', rfl, _⟩ := hx; exact z
   ·exact h2.elim
  ·exact h2.elim
 ·exact h2.elim
theorem pZ (hu : X.A.units + 1 < cLine) (ha : DE X E a fa) (hb : DE X E b fb) (hk : behindInMarks .NotIn b = false := by with_unfolding_all rfl) : DT X E (.Compare a [.NotIn] [b] pos) (cU (aL (vX true) fa fb)) := by
 obtain ⟨ta, pa, ma⟩ := ha.out
 obtain ⟨tb, pb, mb⟩ := hb.out
 exact DT.in ⟨_, aHx (xH hu pa pb) hk, o9 (t := x6 ta tb) (aCw (ng := true) ma mb)⟩
def mDT : En -> Res Ev := fun _ => .ok (.f (.dict []))
theorem oX : DE X E (.Dict [] [] pos) mDT :=
 DE.in ⟨_, aB0, fun B G0 G W H σ en Q hh hs hw p hp => hw _ _ _ (Step.lay hh.gh hp) ⟨p, _, rfl, hp, hh.gh.free hp, bM, .dT .nil⟩⟩
noncomputable def x9 (kvs : List (D × D)) (k v : D) : Option (List (D × D)) := match dsp kvs with
 | (true, r) => if (aDq k).isSome = true /\ r.length <= 100000 then some ((.none, .none) :: aBe r k v) else none
 | (false, r) => if (aGj k).isSome = true /\ r.length <= 100000 then some (aBe r k v) else none
noncomputable def nB (i : Nat) (fk fv : En -> Res Ev) : MS := fun en => match en[i]? with
 | some (some (.o (.dict kvs))) => match fv en with
  | .exc C => some (.ex C en)
  | .bad => none
  | .ok rv => match fk en with
   | .exc C => some (.ex C en)
   | .bad => none
   | .ok rk => match rv.c with
    | .p v => match rk.c with
     | .p k => match x9 kvs k v with
      | some kvs' => some (.nx (en.set i (some (.o (.dict kvs')))))
      | none => none
     | _ => none
    | _ => none
 | _ => none
theorem rX {i : Nat} {x : Str} {pos' np : Pos} {ek ev : Expr} {fk fv : En -> Res Ev} (hu : X.A.units + 1 < cLine) (hd : PE X (.Name x np) (aJy i)) (hk : DE X E ek fk) (hv : DE X E ev fv) (hs : swapsWith ev (some (.Subscript (.Name x np) ek pos')) pos.line X.env = pure false) :
  DS X E (.Assign [.Subscript (.Name x np) ek pos'] ev pos) (nB i fk fv) := by
 obtain ⟨tk, pk, mk⟩ := hk.out
 obtain ⟨tv, pv', mv⟩ := hv.out
 refine DS.in ⟨_, aFb hu hd pk pv' hs, fun B G0 G W H σ en Dn hh hs hw => mv B G0 G W H σ en _ hh hs ?_⟩
 unfold nB at hw
 split at hw
 ·rename_i kvs ei
  obtain ⟨v0, f1, a, o, rfl, f2, f3, f4⟩ := hs.2 i _ ei
  cases ev' : fv en with
  | bad => rw [ev'] at hw; exact hw
  | exc C => rw [ev'] at hw; exact fun G1 H1 s => hw G1 W H1 σ (hh.step s) (hs.step s)
  | ok rv =>
   rw [ev'] at hw
   intro G1 H1 v s1 e1
   obtain ⟨G2, s2, e2⟩ := e1.c s1
   dsimp only at hw
   refine ⟨_, f1, mk B G0 G2 W H1 σ en _ (hh.step s2) (hs.step s2) ?_⟩
   cases ek' : fk en with
   | bad => rw [ek'] at hw; exact hw
   | exc C => rw [ek'] at hw; exact fun G3 H3 s => hw G3 W H3 σ ((hh.step s2).step s) ((hs.step s2).step s)
   | ok rk =>
    rw [ek'] at hw
    intro G3 H3 u s3 e3
    obtain ⟨G4, s4, e4⟩ := e3.c s3
    have e2' := e2.step (Hs' := H1) s4
    have s24 := s2.trans s4
    dsimp only at hw
    split at hw
    ·rename_i vd erv
     rw [erv] at e2'
     split at hw
     ·rename_i kd erk
      rw [erk] at e4
      split at hw
      ·rename_i kvs' ep
       have hx := s24.h _ _ f3
       refine ⟨a, ?_⟩
       unfold x9 at ep
       have f5 := f4.mono s24.g
       cases f5 with
       | @dT kv _ rT =>
        rw [aEq rT] at ep
        dsimp only at ep
        split at ep
        ·rename_i hz
         cases ep
         obtain ⟨ks, ek⟩ := Option.isSome_iff_exists.mp hz.1
         obtain ⟨b, rfl, hb⟩ := aD2 e4 ek
         have := rY ek
         subst this
         obtain ⟨w1, w2⟩ := lI (o' := .dT (putK kv ks v)) (d' := .dict (aBe kvs (tkD ks) vd)) (hh.step s24) (hs.step s24) f2 f1 (.dT (aMr e2' rT))
         exact ⟨_, rfl, .t hx (s4.gh _ _ hb) (Nat.lt_of_le_of_lt (by rw [rT.len]; exact hz.2) (by decide)), hw _ _ _ _ w1 w2⟩
        ·cases ep
       | @dK kv r rK =>
        dsimp only [dsp] at ep
        split at ep
        ·rename_i hz
         cases ep
         obtain ⟨ks, ek⟩ := Option.isSome_iff_exists.mp hz.1
         have hb := w9 e4 ek
         subst hb
         have := pH ek
         subst this
         obtain ⟨w1, w2⟩ := lI (o' := .dK (putK kv ks v)) (d' := .dict ((.none, .none) :: aBe r (kD ks) vd)) (hh.step s24) (hs.step s24) f2 f1 (.dK (aK4 e2' rK))
         exact ⟨_, rfl, .k hx (Nat.lt_of_le_of_lt (by rw [rK.len]; exact hz.2) (by decide)), hw _ _ _ _ w1 w2⟩
        ·cases ep
      ·exact hw.elim
     ·exact hw.elim
    ·exact hw.elim
 ·exact hw.elim
def kT (rs : List Ev) : Res Ev := match rs with
 | [x] => match i3 x with
  | some kvs => .ok (.p (.int ((dsp kvs).2.length : Nat)))
  | none => .bad
 | _ => .bad
theorem u4 : tH kT := by
 intro rs C h
 unfold kT at h
 split at h
 ·split at h <;> cases h
 ·cases h
def pR : D -> Bool
 | .none => true
 | .bool _ => true
 | .int _ => true
 | .str _ => true
 | _ => false
theorem uY {G : Hp} {v : V} {d : D} (h : Rep K G v d) (f : pR d = true) : mT v = true := by
 cases h <;> first | rfl | exact absurd f Bool.false_ne_true
theorem aFw {G : Hp} {v u : V} {d e : D} (h : Rep K G v d) (h2 : Rep K G u e) (f : pR d = true) (f2 : pR e = true) : eqV v u = PyData.eqv d e := by
 cases h <;> cases h2 <;> first | rfl | exact absurd f Bool.false_ne_true | exact absurd f2 Bool.false_ne_true | simp only [eqV, PyData.eqv]
def inE (ng : Bool) (x y : Ev) : Res Ev := match x with
 | .p d => match i5 y with
  | some ds => if pR d = true /\ ds.all pR = true then .ok (.p (.bool (if ng then !ds.any (fun e => PyData.eqv e d) else ds.any fun e => PyData.eqv e d))) else .bad
  | none => .bad
 | _ => .bad
theorem aG4 {ng : Bool} : NoX (inE ng) := by
 intro x y A h
 unfold inE at h
 split at h
 ·split at h
  ·split at h <;> cases h
  ·cases h
 ·cases h
theorem aA1 {G : Hp} {v : V} {d : D} (h : Rep K G v d) (f : pR d = true) : ∀ {xs : List V} {ds : List D}, Reps K G xs ds -> ds.all pR = true -> xs.all mT = true /\ inV v xs = ds.any (fun e => PyData.eqv e d)
 | _, _, .nil, _ => ⟨rfl, rfl⟩
 | _, _, .cons r t, hf => by
  rw [List.all_cons, Bool.and_eq_true] at hf
  obtain ⟨i1, i2⟩ := aA1 h f t hf.2
  unfold inV at i2 ⊢
  rw [List.all_cons, List.any_cons, List.any_cons, uY r hf.1, i1, i2, aFw r h hf.1 f]
  exact ⟨rfl, rfl⟩
theorem aGe {K : PySem.W.Frag} (h : X.K = K) : OpR X (compareOp .NotIn) (rIn K true) := h ▸ qK
theorem aL5 {ng : Bool} : OpM K (rIn K ng) (inE ng) := by
 intro W G H v u x y Q gh hx hy hw
 unfold inE at hw
 split at hw
 ·rename_i d ex
  rw [ex] at hx
  split at hw
  ·rename_i ds ed
   split at hw
   ·rename_i hf
    have hx : Rep K G v d := hx
    have fin : ∀ {xs : List V}, Reps K G xs ds -> xs.all mT = true /\ Q (.bl (if ng then !inV v xs else inV v xs)) H := fun r => by
     obtain ⟨i1, i2⟩ := aA1 hx hf.1 r hf.2
     rw [i2]
     exact ⟨i1, hw G H _ (Step.refl gh) (.bl _)⟩
    cases ey : y.c with
    | p dd =>
     rw [ey] at ed hy
     cases dd with
     | list es =>
      cases ed
      cases hy with
      | @lst a xs _ h1 h2 => exact ⟨a, xs, rfl, .inl (.inl (gT gh h1)), uY hx hf.1, fin h2⟩
     | tuple es =>
      cases ed
      cases hy with
      | @tup a xs _ h1 h2 => exact ⟨a, xs, rfl, .inr (SqT.of (gh _ _ h1)), uY hx hf.1, fin h2⟩
     | _ => cases ed
    | b dd =>
     rw [ey] at ed hy
     cases dd with
     | list es =>
      cases ed
      obtain ⟨a, k, o, rfl, h1, h2, h3⟩ := hy
      cases h3 with
      | @lst xs _ h4 => exact ⟨a, xs, rfl, .inl (.inl (.inl h2)), uY hx hf.1, fin h4⟩
     | _ => cases ed
    | f dd => rw [ey] at ed; cases ed
    | x C => rw [ey] at ed; cases ed
   ·exact hw.elim
  ·exact hw.elim
 ·exact hw.elim
def aA6 (i : Nat) (fk fv : En -> Res Ev) : MS := fun en => match en[i]? with
 | some (some (.o (.list ds))) => match fv en with
  | .exc C => some (.ex C en)
  | .bad => none
  | .ok rv => match fk en with
   | .exc C => some (.ex C en)
   | .bad => none
   | .ok rk => match rv.c with
    | .p v => match rk.c with
     | .p (.int k) => match ixN ds.length k with
      | some j => some (.nx (en.set i (some (.o (.list (ds.set j v))))))
      | none => none
     | _ => none
    | _ => none
 | _ => none
theorem aEn {i : Nat} {ek ev : Expr} {fk fv : En -> Res Ev} {st : Stmt} (hk : DE X E ek fk) (hv : DE X E ev fv) (hp : ∀ tk tv, PE X ek tk -> PE X ev tv -> PS X st (aK0 tv (aMn (aJy i) tk aJn))) : DS X E st (aA6 i fk fv) := by
 obtain ⟨tk, pk, mk⟩ := hk.out
 obtain ⟨tv, pv', mv⟩ := hv.out
 refine DS.in ⟨_, hp tk tv pk pv', fun B G0 G W H σ en Dn hh hs hw => mv B G0 G W H σ en _ hh hs ?_⟩
 unfold aA6 at hw
 split at hw
 ·rename_i ds ei
  obtain ⟨v0, f1, a, o, rfl, f2, f3, f4⟩ := hs.2 i _ ei
  cases f4 with
  | @lst xs _ rp =>
  cases ev' : fv en with
  | bad => rw [ev'] at hw; exact hw
  | exc C => rw [ev'] at hw; exact fun G1 H1 s => hw G1 W H1 σ (hh.step s) (hs.step s)
  | ok rv =>
   rw [ev'] at hw
   intro G1 H1 v s1 e1
   obtain ⟨G2, s2, e2⟩ := e1.c s1
   dsimp only at hw
   refine ⟨_, f1, mk B G0 G2 W H1 σ en _ (hh.step s2) (hs.step s2) ?_⟩
   cases ek' : fk en with
   | bad => rw [ek'] at hw; exact hw
   | exc C => rw [ek'] at hw; exact fun G3 H3 s => hw G3 W H3 σ ((hh.step s2).step s) ((hs.step s2).step s)
   | ok rk =>
    rw [ek'] at hw
    intro G3 H3 u s3 e3
    obtain ⟨G4, s4, e4⟩ := e3.c s3
    have e2' := e2.step (Hs' := H1) s4
    have s24 := s2.trans s4
    dsimp only at hw
    split at hw
    ·rename_i vd erv
     rw [erv] at e2'
     split at hw
     ·rename_i k erk
      rw [erk] at e4
      cases e4
      split at hw
      ·rename_i j ej
       obtain ⟨w1, w2⟩ := lI (o' := .lst (xs.set j v)) (d' := .list (ds.set j vd)) (hh.step s24) (hs.step s24) f2 f1 (.lst ((rp.mono s24.g).set e2' j))
       exact ⟨a, xs, k, j, rfl, rfl, s24.h _ _ f3, by rw [rp.length]; exact ej, hw _ _ _ _ w1 w2⟩
      ·exact hw.elim
     ·exact hw.elim
    ·exact hw.elim
 ·exact hw.elim
end
end M
namespace SRT
open PySem PySem.W PyProof.Rows
structure Ord (lt : Nat -> Nat -> Bool) : Prop where
 as : ∀ i j, lt i j = true -> lt j i = false
 tr : ∀ i j k, lt j i = false -> lt k j = false -> lt k i = false
section
variable {lt : Nat -> Nat -> Bool} {n : Nat} {cmp : Nat -> Nat -> (Bool -> Shared -> Prop) -> Shared -> Prop} {s : Shared}
def le (lt : Nat -> Nat -> Bool) (a b : Nat) : Prop := lt b a = false
theorem Ord.rf (o : Ord lt) (i : Nat) : le lt i i := by
 cases e : lt i i with
 | false => exact e
 | true => have := o.as i i e; rw [e] at this; cases this
theorem Ord.tot (o : Ord lt) {i j : Nat} (h : lt i j = true) : le lt i j := o.as i j h
def Pt (p : Array Nat) (i : Nat) : Nat := p.getD i 0
def Sd (lt : Nat -> Nat -> Bool) (p : Array Nat) (m : Nat) : Prop := ∀ i j, i <= j -> j < m -> le lt (Pt p i) (Pt p j)
def NI (lt : Nat -> Nat -> Bool) (p : Array Nat) (m : Nat) : Prop := ∀ i j, i <= j -> j < m -> le lt (Pt p j) (Pt p i)
def Pm (n : Nat) (p : Array Nat) : Prop := p.Perm (List.range n).toArray
theorem Pm.size {p : Array Nat} (h : Pm n p) : p.size = n := by
 have := h.size_eq
 simpa using this
theorem Pm.bd {p : Array Nat} (h : Pm n p) (hn : 0 < n) (i : Nat) : Pt p i < n := by
 unfold Pt
 by_cases hi : i < p.size
 ·have e : p.getD i 0 = p[i] := by simp [Array.getD, hi]
  rw [e]
  have : p[i] ∈ (List.range n).toArray := h.mem_iff.mp (Array.getElem_mem hi)
  simpa using this
 ·have e : p.getD i 0 = 0 := by simp [Array.getD, hi]
  rw [e]; exact hn
theorem aA3 {p q : Array Nat} {i j : Nat} (h : p[i]? = q[j]?) : Pt p i = Pt q j := by
 unfold Pt
 rw [Array.getD_eq_getD_getElem?, Array.getD_eq_getD_getElem?, h]
theorem pW {p : Array Nat} (h : Pm n p) (i j : Nat) : Pm n (kas_rev p i j) := (mirror_perm _ _ _ _).trans h
theorem qT {p : Array Nat} {i j : Nat} (hj : j <= p.size) (k : Nat) : Pt (kas_rev p i j) k = if i <= k /\ k < j then Pt p (i + j - 1 - k) else Pt p k := by
 have e := getElem?_mirror_all (xs := p) (i := i) hj k
 split
 ·rename_i h
  rw [if_pos h] at e
  exact aA3 e
 ·rename_i h
  rw [if_neg h] at e
  exact aA3 e
variable (hc : ∀ i j C, i < n -> j < n -> C (lt i j) s -> cmp i j C s) (hn : 0 < n) (o : Ord lt)
include hc hn
theorem zF {Q : Nat -> Shared -> Prop} {p : Array Nat} (hp : Pm n p) : ∀ (f a : Nat), (∀ m, a <= m -> m <= a + f -> (∀ k, a <= k -> k < m -> le lt (Pt p (k - 1)) (Pt p k)) -> (m < a + f -> lt (Pt p m) (Pt p (m - 1)) = true) -> Q m s) ->
  (kas_asc p f a).kasWp cmp Q s
 | 0, a, h => h a (Nat.le_refl _) (Nat.le_refl _) (fun k h1 h2 => absurd h2 (by omega)) (fun h => absurd h (by omega))
 | f + 1, a, h => by
  refine hc _ _ _ (hp.bd hn _) (hp.bd hn _) ?_
  show KasT.kasWp cmp (if lt (Pt p a) (Pt p (a - 1)) = true then .ret a else kas_asc p f (a + 1)) Q s
  cases e : lt (Pt p a) (Pt p (a - 1)) with
  | true =>
   rw [if_pos rfl]
   exact h a (Nat.le_refl _) (by omega) (fun k h1 h2 => absurd h2 (by omega)) fun _ => e
  | false =>
   rw [if_neg Bool.false_ne_true]
   refine zF hp f (a + 1) fun m h1 h2 h3 h4 => h m (by omega) (by omega) (fun k k1 k2 => ?_) fun z => h4 (by omega)
   by_cases ek : k = a
   ·subst ek; exact e
   ·exact h3 k (by omega) k2
include o
omit hc hn in
theorem aHg {p : Array Nat} {a m : Nat} (h1 : 1 <= a) (hs : Sd lt p a) (hk : ∀ k, a <= k -> k < m -> le lt (Pt p (k - 1)) (Pt p k)) : Sd lt p m := by
 intro i j hij hj
 induction j with
 | zero =>
  have : i = 0 := by omega
  subst this
  exact o.rf _
 | succ j ih =>
  by_cases e : i = j + 1
  ·subst e; exact o.rf _
  ·have ih := ih (by omega) (by omega)
   by_cases hja : j + 1 < a
   ·exact hs i (j + 1) hij hja
   ·have := hk (j + 1) (by omega) hj
    exact o.tr _ _ _ ih this
omit hc hn in
theorem aHh {p : Array Nat} {m : Nat} (hm : m <= p.size) (h : NI lt p m) : Sd lt (kas_rev p 0 m) m := by
 intro i j hij hj
 rw [qT hm, qT hm, if_pos ⟨Nat.zero_le _, by omega⟩, if_pos ⟨Nat.zero_le _, hj⟩]
 exact h _ _ (by omega) (by omega)
theorem xC {Q : Nat × Array Nat -> Shared -> Prop} {p : Array Nat} {a r : Nat} (hp : Pm n p) (h1 : 1 <= a) (ha : a <= r) (hr : r <= n) (hni : NI lt p a) (h : ∀ m q, 1 <= m -> m <= r -> Pm n q -> Sd lt q m -> Q (m, q) s) : (kas_tail3 a r p).kasWp cmp Q s := by
 unfold kas_tail3
 rw [KasT.kasWp_bind]
 have hz : a <= p.size := by rw [hp.size]; omega
 refine zF hc hn (pW hp 0 a) _ _ fun m h2 h3 h4 _ => ?_
 exact h m _ (by omega) (by omega) (pW hp 0 a) (aHg o h1 (aHh o hz hni) h4)
omit hc hn in
theorem rev_eq {p : Array Nat} {i j : Nat} (hj : j <= p.size) (he : ∀ a b, i <= a -> a < j -> i <= b -> b < j -> le lt (Pt p a) (Pt p b)) (k : Nat) : le lt (Pt (kas_rev p i j) k) (Pt p k) /\ le lt (Pt p k) (Pt (kas_rev p i j) k) := by
 rw [qT hj]
 split
 ·rename_i h
  exact ⟨he _ _ (by omega) (by omega) h.1 h.2, he _ _ h.1 h.2 (by omega) (by omega)⟩
 ·exact ⟨o.rf _, o.rf _⟩
omit hc hn in
theorem mO {p : Array Nat} {i j m : Nat} (hj : j <= p.size) (he : ∀ a b, i <= a -> a < j -> i <= b -> b < j -> le lt (Pt p a) (Pt p b)) (h : NI lt p m) : NI lt (kas_rev p i j) m := fun a b hab hb =>
 o.tr _ _ _ (rev_eq o hj he b).1 (o.tr _ _ _ (h a b hab hb) (rev_eq o hj he a).2)
theorem oD {Q : Array Nat × Nat × Nat -> Shared -> Prop} {r : Nat} (hr : r <= n) : ∀ (f : Nat) (p : Array Nat) (a q : Nat), Pm n p -> a + f <= r -> q + 1 <= a -> NI lt p a -> (∀ x y, a - (q + 1) <= x -> x < a -> a - (q + 1) <= y -> y < a -> le lt (Pt p x) (Pt p y)) ->
  (∀ p' a' q', Pm n p' -> a <= a' -> a' <= r -> q' + 1 <= a' -> NI lt p' a' -> (∀ x y, a' - (q' + 1) <= x -> x < a' -> a' - (q' + 1) <= y -> y < a' -> le lt (Pt p' x) (Pt p' y)) -> Q (p', a', q') s) -> (kas_desc f p a q).kasWp cmp Q s
 | 0, p, a, q, hp, hf, hq, hni, he, h => h p a q hp (Nat.le_refl _) (by omega) hq hni he
 | f + 1, p, a, q, hp, hf, hq, hni, he, h => by
  have hz : a <= p.size := by rw [hp.size]; omega
  refine hc _ _ _ (hp.bd hn _) (hp.bd hn _) ?_
  show KasT.kasWp cmp (if lt (Pt p a) (Pt p (a - 1)) = true then (if q > 0 then kas_desc f (kas_rev p (a - (q + 1)) a) (a + 1) 0 else kas_desc f p (a + 1) 0)
   else .ask (Pt p (a - 1)) (Pt p a) fun d => if d = true then .ret (p, a, q) else kas_desc f p (a + 1) (q + 1)) Q s
  have grow : ∀ {p' : Array Nat}, NI lt p' a -> le lt (Pt p' a) (Pt p' (a - 1)) -> NI lt p' (a + 1) := fun {p'} h1 h2 i j hij hj => by
   by_cases e : j = a
   ·subst e
    by_cases e2 : i = j
    ·subst e2; exact o.rf _
    ·exact o.tr _ _ _ h2 (h1 i (j - 1) (by omega) (by omega))
   ·exact h1 i j hij (by omega)
  cases e : lt (Pt p a) (Pt p (a - 1)) with
  | true =>
   rw [if_pos rfl]
   by_cases hq0 : q > 0
   ·rw [if_pos hq0]
    have n1 := mO o hz he hni
    have e1 : Pt (kas_rev p (a - (q + 1)) a) a = Pt p a := by rw [qT hz, if_neg (by omega)]
    have le1 : le lt (Pt (kas_rev p (a - (q + 1)) a) a) (Pt (kas_rev p (a - (q + 1)) a) (a - 1)) := by
     rw [e1]
     exact o.tr _ _ _ (o.tot e) (rev_eq o hz he (a - 1)).2
    refine oD hr f _ (a + 1) 0 (pW hp _ _) (by omega) (by omega) (grow n1 le1) (fun x y h1 h2 h3 h4 => ?_) fun p' a' q' k1 k2 k3 k4 k5 k6 => h p' a' q' k1 (by omega) k3 k4 k5 k6
    have : x = y := by omega
    subst this; exact o.rf _
   ·rw [if_neg hq0]
    refine oD hr f _ (a + 1) 0 hp (by omega) (by omega) (grow hni (o.tot e)) (fun x y h1 h2 h3 h4 => ?_) fun p' a' q' k1 k2 k3 k4 k5 k6 => h p' a' q' k1 (by omega) k3 k4 k5 k6
    have : x = y := by omega
    subst this; exact o.rf _
  | false =>
   rw [if_neg Bool.false_ne_true]
   refine hc _ _ _ (hp.bd hn _) (hp.bd hn _) ?_
   show KasT.kasWp cmp (if lt (Pt p (a - 1)) (Pt p a) = true then .ret (p, a, q) else kas_desc f p (a + 1) (q + 1)) Q s
   cases e2 : lt (Pt p (a - 1)) (Pt p a) with
   | true =>
    rw [if_pos rfl]
    exact h p a q hp (Nat.le_refl _) (by omega) hq hni he
   | false =>
    rw [if_neg Bool.false_ne_true]
    have eq1 : le lt (Pt p (a - 1)) (Pt p a) := e
    have eq2 : le lt (Pt p a) (Pt p (a - 1)) := e2
    refine oD hr f p (a + 1) (q + 1) hp (by omega) (by omega) (grow hni eq2) (fun x y h1 h2 h3 h4 => ?_) fun p' a' q' k1 k2 k3 k4 k5 k6 => h p' a' q' k1 (by omega) k3 k4 k5 k6
    by_cases hx : x = a
    ·subst hx
     by_cases hy : y = x
     ·subst hy; exact o.rf _
     ·exact o.tr _ _ _ eq2 (he _ _ (by omega) (by omega) (by omega) (by omega))
    ·by_cases hy : y = a
     ·subst hy
      exact o.tr _ _ _ (he _ (y - 1) (by omega) (by omega) (by omega) (by omega)) eq1
     ·exact he _ _ (by omega) (by omega) (by omega) (by omega)
theorem mF {Q : Nat × Array Nat -> Shared -> Prop} {p : Array Nat} {a r : Nat} (hp : Pm n p) (h1 : 1 <= a) (ha : a + 1 <= r) (hr : r <= n) (hni : NI lt p (a + 1)) (h : ∀ m q, 1 <= m -> m <= r -> Pm n q -> Sd lt q m -> Q (m, q) s) : (kas_descPart a r p).kasWp cmp Q s := by
 unfold kas_descPart
 rw [KasT.kasWp_bind]
 refine oD hc hn o hr _ p (a + 1) 0 hp (by omega) (by omega) hni (fun x y h1 h2 h3 h4 => ?_) fun p' a' q' k1 k2 k3 k4 k5 k6 => ?_
 ·have : x = y := by omega
  subst this; exact o.rf _
 ·have hz : a' <= p'.size := by rw [k1.size]; omega
  show KasT.kasWp cmp (if q' > 0 then kas_tail3 a' r (kas_rev p' (a' - (q' + 1)) a') else kas_tail3 a' r p') Q s
  by_cases hq : q' > 0
  ·rw [if_pos hq]
   exact xC hc hn o (pW k1 _ _) (by omega) k3 hr (mO o hz k6 k5) h
  ·rw [if_neg hq]
   exact xC hc hn o k1 (by omega) k3 hr k5 h
theorem aCv {Q : Nat × Array Nat -> Shared -> Prop} {p : Array Nat} {r : Nat} (hp : Pm n p) (h1 : 1 <= r) (hr : r <= n) (h : ∀ m q, 1 <= m -> m <= r -> Pm n q -> Sd lt q m -> Q (m, q) s) : (kas_count r p).kasWp cmp Q s := by
 unfold kas_count
 rw [KasT.kasWp_bind]
 have s1 : Sd lt p 1 := fun i j hij hj => by
  have : i = j := by omega
  subst this; exact o.rf _
 refine zF hc hn hp _ _ fun m h2 h3 h4 h5 => ?_
 have sm := aHg o (Nat.le_refl 1) s1 h4
 show KasT.kasWp cmp (if (m == r) = true then .ret (m, p) else if m > 1 then .ask (Pt p 0) (Pt p (m - 1)) fun c => if c = true then .ret (m, p) else kas_descPart m r (kas_rev p 0 m) else kas_descPart m r p) Q s
 by_cases em : m = r
 ·rw [if_pos (by simp [em])]
  exact h m p h2 (by omega) hp sm
 ·rw [if_neg (by simp [em])]
  have hlt := h5 (by omega)
  have hz : m <= p.size := by rw [hp.size]; omega
  by_cases hm : m > 1
  ·rw [if_pos hm]
   refine hc _ _ _ (hp.bd hn _) (hp.bd hn _) ?_
   show KasT.kasWp cmp (if lt (Pt p 0) (Pt p (m - 1)) = true then .ret (m, p) else kas_descPart m r (kas_rev p 0 m)) Q s
   cases e : lt (Pt p 0) (Pt p (m - 1)) with
   | true => rw [if_pos rfl]; exact h m p h2 (by omega) hp sm
   | false =>
    rw [if_neg Bool.false_ne_true]
    have e : le lt (Pt p (m - 1)) (Pt p 0) := e
    have he : ∀ a b, 0 <= a -> a < m -> 0 <= b -> b < m -> le lt (Pt p a) (Pt p b) := fun a b _ ha _ hb =>
     o.tr _ _ _ (sm a (m - 1) (by omega) (by omega)) (o.tr _ _ _ e (sm 0 b (by omega) hb))
    have nm : NI lt p m := fun i j hij hj => he j i (by omega) hj (by omega) (by omega)
    have n2 := mO o hz he nm
    have em1 : Pt (kas_rev p 0 m) m = Pt p m := by rw [qT hz, if_neg (by omega)]
    refine mF hc hn o (pW hp 0 m) (by omega) (by omega) hr (fun i j hij hj => ?_) h
    by_cases ej : j = m
    ·subst ej
     by_cases ei : i = j
     ·subst ei; exact o.rf _
     ·rw [em1]
      refine o.tr _ _ _ (o.tot hlt) (o.tr _ _ _ (rev_eq o hz he (j - 1)).2 ?_)
      exact n2 i (j - 1) (by omega) (by omega)
    ·exact n2 i j hij (by omega)
  ·rw [if_neg hm]
   have e1 : m = 1 := by omega
   subst e1
   refine mF hc hn o hp (Nat.le_refl 1) (by omega) hr (fun i j hij hj => ?_) h
   by_cases ei : i = j
   ·subst ei; exact o.rf _
   ·have : i = 0 /\ j = 1 := by omega
    obtain ⟨rfl, rfl⟩ := this
    exact o.tot hlt
theorem oK {Q : Nat -> Shared -> Prop} {p : Array Nat} {k : Nat} (hp : Pm n p) (hs : Sd lt p k) : ∀ (f l r : Nat), l <= r -> r <= k -> r - l <= f -> (∀ i, i < l -> le lt (Pt p i) (Pt p k)) -> (∀ i, r <= i -> i < k -> lt (Pt p k) (Pt p i) = true) ->
  (∀ m, m <= k -> (∀ i, i < m -> le lt (Pt p i) (Pt p k)) -> (∀ i, m <= i -> i < k -> lt (Pt p k) (Pt p i) = true) -> Q m s) -> (kas_place p k f l r).kasWp cmp Q s
 | 0, l, r, h1, h2, h3, h4, h5, h => by
  have : l = r := by omega
  subst this
  exact h l h2 h4 h5
 | f + 1, l, r, h1, h2, h3, h4, h5, h => by
  unfold kas_place
  by_cases e : l ≥ r
  ·rw [if_pos e]
   have : l = r := by omega
   subst this
   exact h l h2 h4 h5
  ·rw [if_neg e]
   refine hc _ _ _ (hp.bd hn _) (hp.bd hn _) ?_
   show KasT.kasWp cmp (if lt (Pt p k) (Pt p ((l + r) / 2)) = true then kas_place p k f l ((l + r) / 2) else kas_place p k f ((l + r) / 2 + 1) r) Q s
   cases ec : lt (Pt p k) (Pt p ((l + r) / 2)) with
   | true =>
    rw [if_pos rfl]
    refine oK hp hs f l ((l + r) / 2) (by omega) (by omega) (by omega) h4 (fun i i1 i2 => ?_) h
    cases ei : lt (Pt p k) (Pt p i) with
    | true => rfl
    | false =>
     have := o.tr _ _ _ (hs ((l + r) / 2) i i1 i2) ei
     rw [ec] at this; cases this
   | false =>
    rw [if_neg Bool.false_ne_true]
    refine oK hp hs f ((l + r) / 2 + 1) r (by omega) h2 (by omega) (fun i i1 => ?_) h5 h
    exact o.tr _ _ _ (hs i ((l + r) / 2) (by omega) (by omega)) ec
omit hc hn in
theorem aDh {p : Array Nat} {k l : Nat} (hk : k < p.size) (hl : l <= k) (i : Nat) : Pt (bubble p k (k - l)) i = if i = l then Pt p k else if l < i /\ i <= k then Pt p (i - 1) else Pt p i := by
 have e := getElem?_bubble hk (k - l) (by omega) i
 have e1 : k - (k - l) = l := by omega
 rw [e1] at e
 repeat' split
 ·rename_i h; rw [if_pos h] at e; exact aA3 e
 ·rename_i h h2; rw [if_neg h, if_pos h2] at e; exact aA3 e
 ·rename_i h h2; rw [if_neg h, if_neg h2] at e; exact aA3 e
theorem aDp {Q : Array Nat -> Shared -> Prop} : ∀ (f : Nat) (p : Array Nat) (k : Nat), Pm n p -> k + f <= n -> Sd lt p k -> (∀ q, Pm n q -> Sd lt q (k + f) -> Q q s) -> (kas_bin f p k).kasWp cmp Q s
 | 0, p, k, hp, _, hs, h => h p hp hs
 | f + 1, p, k, hp, hk, hs, h => by
  unfold kas_bin
  rw [KasT.kasWp_bind]
  have hz : k < p.size := by rw [hp.size]; omega
  refine oK hc hn o hp hs k 0 k (Nat.zero_le _) (Nat.le_refl _) (by omega) (fun i h => absurd h (by omega)) (fun i h1 h2 => absurd h2 (by omega)) fun l hl h1 h2 => ?_
  refine aDp f _ (k + 1) ((bubble_perm _ _ _).trans hp) (by omega) (fun i j hij hj => ?_) fun q q1 q2 => h q q1 (by rw [show k + (f + 1) = k + 1 + f by omega]; exact q2)
  rw [aDh o hz hl, aDh o hz hl]
  by_cases ei : i = l
  ·rw [if_pos ei]
   by_cases ej : j = l
   ·rw [if_pos ej]; exact o.rf _
   ·rw [if_neg ej, if_pos ⟨by omega, by omega⟩]
    exact o.tot (h2 (j - 1) (by omega) (by omega))
  ·rw [if_neg ei]
   by_cases ej : j = l
   ·rw [if_pos ej, if_neg (by omega)]
    exact h1 i (by omega)
   ·rw [if_neg ej]
    by_cases hi : l < i /\ i <= k
    ·rw [if_pos hi, if_pos ⟨by omega, by omega⟩]
     exact hs _ _ (by omega) (by omega)
    ·rw [if_neg hi]
     by_cases hj2 : l < j /\ j <= k
     ·rw [if_pos hj2]
      exact hs _ _ (by omega) (by omega)
     ·rw [if_neg hj2]
      exact hs _ _ (by omega) (by omega)
theorem aFd {Q : Array Nat -> Shared -> Prop} (h : ∀ q, Pm n q -> Sd lt q n -> Q q s) : (kas_sort n).kasWp cmp Q s := by
 unfold kas_sort
 rw [KasT.kasWp_bind]
 refine aCv hc hn o (Array.Perm.refl _) hn (Nat.le_refl n) fun m q h1 h2 h3 h4 => ?_
 show KasT.kasWp cmp (if m < n then kas_bin (n - max m 1) q (max m 1) else .ret q) Q s
 have em : max m 1 = m := by omega
 by_cases e : m < n
 ·rw [if_pos e, em]
  refine aDp hc hn o _ _ _ h3 (by omega) h4 fun q' k1 k2 => h q' k1 (by rw [show m + (n - m) = n by omega] at k2; exact k2)
 ·rw [if_neg e]
  have : m = n := by omega
  subst this
  exact h q h3 h4
end
end SRT
namespace SRT
open PySem PySem.W PyProof.Rows L2
def TupI (h : Heap) (v : Value) (ns : List Int) : Prop := ∃ t o xs c, v = .ref t /\ h.get? t = some o /\ o.cls = .type "tuple" /\ o.data = .seq xs c /\ IntsAre xs.toList ns
theorem TupI.at {h h' : Heap} {v : Value} {ns : List Int} (x : TupI h v ns) (k : ∀ t o, v = .ref t -> h.get? t = some o -> h'.get? t = some o) : TupI h' v ns :=
 let ⟨t, o, xs, c, e, ho, r⟩ := x; ⟨t, o, xs, c, e, k t o e ho, r⟩
theorem pG : ∀ {vs : List Value} {ns : List Int}, IntsAre vs ns -> vs.length = ns.length
 | _, _, .nil => rfl
 | _, _, .cons _ _ r => by rw [List.length_cons, List.length_cons, pG r]
theorem yC : ∀ a b : List Int, HT.lexLt a b = true -> HT.lexLt b a = false
 | [], [], h => by cases h
 | [], _ :: _, _ => rfl
 | _ :: _, [], h => by cases h
 | x :: a, y :: b, h => by
  rw [HT.iU] at h ⊢
  by_cases e : x = y
  ·rw [if_pos e] at h; rw [if_pos e.symm]; exact yC a b h
  ·rw [if_neg e] at h; rw [if_neg (Ne.symm e)]
   have := of_decide_eq_true h
   exact decide_eq_false (by omega)
theorem x5 : ∀ a b c : List Int, HT.lexLt b a = false -> HT.lexLt c b = false -> HT.lexLt c a = false
 | [], _, [], _, _ => rfl
 | [], b, _ :: _, _, _ => rfl
 | _ :: _, [], _, h, _ => by cases h
 | x :: a, y :: b, [], _, h => by cases h
 | x :: a, y :: b, z :: c, h1, h2 => by
  rw [HT.iU] at h1 h2 ⊢
  by_cases e1 : y = x
  ·subst e1
   rw [if_pos rfl] at h1
   by_cases e2 : z = y
   ·subst e2
    rw [if_pos rfl] at h2 ⊢
    exact x5 a b c h1 h2
   ·rw [if_neg e2] at h2 ⊢
    exact h2
  ·rw [if_neg e1] at h1
   have q1 := of_decide_eq_false h1
   by_cases e2 : z = y
   ·subst e2
    rw [if_neg e1]
    exact h1
   ·rw [if_neg e2] at h2
    have q2 := of_decide_eq_false h2
    have e3 : z ≠ x := by omega
    rw [if_neg e3]
    exact decide_eq_false (by omega)
theorem aDb : ∀ a b : List Int, HT.lexLt a b = false -> HT.lexLt b a = false -> a = b
 | [], [], _, _ => rfl
 | [], _ :: _, h, _ => by cases h
 | _ :: _, [], _, h => by cases h
 | x :: a, y :: b, h1, h2 => by
  rw [HT.iU] at h1 h2
  by_cases e : x = y
  ·subst e
   rw [if_pos rfl] at h1 h2
   rw [aDb a b h1 h2]
  ·rw [if_neg e] at h1; rw [if_neg (Ne.symm e)] at h2
   have q1 := of_decide_eq_false h1
   have q2 := of_decide_eq_false h2
   omega
theorem xP (ks : List (List Int)) : Ord fun i j => HT.lexLt (ks.getD i []) (ks.getD j []) := ⟨fun _ _ => yC _ _, fun _ _ _ => x5 _ _ _⟩
section
variable {prog : Program} {w : World} {A : Around} {E : Value -> Shared -> Prop} {s : Shared}
theorem aC8 {b fin : Bool} {Q : Bool -> Shared -> Prop} : ∀ {us ws : List Value} {ns ms : List Int} (i : Nat), IntsAre us ns -> IntsAre ws ms -> (fin = decide (ns.length < ms.length)) -> Q (HT.lexLt ns ms) s -> KatLex prog w A b fin Q (us.zip ws) i s
 | _, _, [], [], i, .nil, .nil, hf, q => by
  rw [hf]; exact q
 | _, _, [], m :: ms, i, .nil, .cons _ _ _, hf, q => by
  rw [hf]
  show Q (decide (0 < ms.length + 1)) s
  rw [decide_eq_true (Nat.succ_pos _)]
  exact q
 | _, _, n :: ns, [], i, .cons _ _ _, .nil, hf, q => by
  rw [hf]
  show Q (decide (ns.length + 1 < 0)) s
  rw [decide_eq_false (Nat.not_lt_zero _)]
  exact q
 | _, _, n :: ns, m :: ms, i, .cons _ t hi, .cons _ u hj, hf, q => by
  rw [HT.iU] at q
  refine kat_cons (wpAny_eqBool_int ?_)
  by_cases e : n = m
  ·rw [if_pos e] at q
   rw [show (n == m) = true by simp [e]]
   exact kat_yes (aC8 (i + 1) hi hj (by rw [hf]; simp) q)
  ·rw [if_neg e] at q
   rw [show (n == m) = false by simp [e]]
   refine kat_no ?_
   cases eb : (b && i == 0) with
   | true => exact oneLt_int q
   | false => exact kat_one _ _ (lt_int q)
theorem aB7 {x y : Value} {ns ms : List Int} {Q : Bool -> Shared -> Prop} (b : Bool) (hx : TupI s.heap x ns) (hy : TupI s.heap y ms) (q : Q (HT.lexLt ns ms) s) : wpAny (model prog w) A (keyLt' (tuples' b) x y) Q E s := by
 obtain ⟨t, o, xs, c, rfl, ho, hc, hd, hi⟩ := hx
 obtain ⟨t2, o2, xs2, c2, rfl, ho2, hc2, hd2, hi2⟩ := hy
 refine kat_lt ho hd ho2 hd2 (aC8 0 hi hi2 ?_ q)
 have e1 := pG hi
 have e2 := pG hi2
 rw [Array.length_toList] at e1 e2
 rw [e1, e2]
def TupsI (h : Heap) (vs : List Value) (ks : List (List Int)) : Prop := vs.length = ks.length /\ ∀ (i : Nat) (v : Value) (k : List Int), vs[i]? = some v -> ks[i]? = some k -> TupI h v k /\ k ≠ []
theorem TupsI.cons {h : Heap} {v : Value} {vs : List Value} {ks : List (List Int)} (x : TupsI h (v :: vs) ks) : ∃ k r, ks = k :: r /\ TupI h v k /\ k ≠ [] /\ TupsI h vs r := by
 obtain ⟨hl, ha⟩ := x
 cases ks with
 | nil => simp at hl
 | cons k r =>
  obtain ⟨h1, h2⟩ := ha 0 v k rfl rfl
  exact ⟨k, r, rfl, h1, h2, by simpa using hl, fun i v k e1 e2 => ha (i + 1) v k (by simpa using e1) (by simpa using e2)⟩
theorem aMl {h : Heap} : ∀ {vs : List Value} {ks : List (List Int)}, TupsI h vs ks -> ∃ fs, KatTups h vs fs /\ fs.length = vs.length /\ ∀ f ∈ fs, ∃ i t, f = Value.int i t
 | [], _, _ => ⟨[], KatTups.nil, rfl, fun _ z => nomatch z⟩
 | v :: vs, ks, x => by
  obtain ⟨k, r, rfl, ⟨t, o, xs, c, rfl, ho, hc, hd, hi⟩, hk, hr⟩ := x.cons
  obtain ⟨fs, h1, h2, h3⟩ := aMl hr
  cases k with
  | nil => exact absurd rfl hk
  | cons n k =>
   cases hx : xs.toList with
   | nil => rw [hx] at hi; cases hi
   | cons y ys =>
    rw [hx] at hi
    cases hi with
    | cons _ tt _ =>
     refine ⟨.int n tt :: fs, KatTups.cons ho hc hd ?_ h1, by simp [h2], fun f hf => ?_⟩
     ·have : xs.toList[0]? = some (Value.int n tt) := by rw [hx]; rfl
      simpa using this
     ·rcases List.mem_cons.mp hf with rfl | hf
      ·exact ⟨n, tt, rfl⟩
      ·exact h3 f hf
theorem range_getD (vs : List Value) : ((List.range vs.length).map fun i => vs.getD i Value.none) = vs := by
 refine List.ext_getElem? fun i => ?_
 rw [List.getElem?_map]
 by_cases hi : i < vs.length
 ·rw [List.getElem?_range hi]
  simp [hi]
 ·rw [List.getElem?_eq_none (by rw [List.length_range]; omega), List.getElem?_eq_none (by omega)]
  rfl
theorem oZ {a : Addr} {vs : List Value} {n : Nat} {ks : List (List Int)} {P : PySem.Fin -> Shared -> Prop} (ho : s.heap.get? a = some (seqObj "list" vs.toArray n)) (ht : TupsI s.heap vs ks) (hna : ∀ v ∈ vs, v ≠ .ref a) (h64 : vs.length < 64)
  (h : ∀ q : Array Nat, Pm vs.length q -> Sd (fun i j => HT.lexLt (ks.getD i []) (ks.getD j [])) q vs.length -> P (.done (.ret .none)) { s with heap := sortedHeap s.heap a vs (q.toList.map fun i => vs.getD i Value.none).toArray }) :
  wpAny (model prog w) A (Builtin.«list.sort» ⟨[.ref a], []⟩) P E s := by
 rw [list_sort_plain]
 have ha : a < s.heap.objs.size := Heap.lt_size ho
 refine wpAny_bind (listItems_at ho rfl ?_)
 refine wpAny_bind (listUpdate_at ho rfl ?_ (by rw [List.size_toArray, sizeLine_eq]; omega) (Nat.zero_le _))
 obtain ⟨e1, ho1⟩ : ∃ e1, (s.heap.update a (Obj.mapSeq fun _ => (#[] : Array Value))).get? a = some (seqObj "list" #[] e1) := ⟨_, get?_update_seq ho (fun _ => #[])⟩
 refine wpAny_bind (seqEpoch_at ho1 rfl ?_)
 refine wpAny_bind (wpAny_newTuple ?_ (by show vs.length <= _; rw [sizeLine_eq]; omega))
 refine wpAny_bind (wpAny_newList ?_ (Nat.zero_le _))
 refine wpAny_holding ?_
 have keep : ∀ b o, b ≠ a -> s.heap.get? b = some o -> (((s.heap.update a (Obj.mapSeq fun _ => (#[] : Array Value))).push (seqObj "tuple" vs.toArray 0)).push (seqObj "list" #[] 0)).get? b = some o := fun b o hb e => by
  refine Heap.get?_push_of_some _ (Heap.get?_push_of_some _ ?_)
  rw [Heap.get?_update_ne _ _ _ _ hb]
  exact e
 have ho6 : (((s.heap.update a (Obj.mapSeq fun _ => (#[] : Array Value))).push (seqObj "tuple" vs.toArray 0)).push (seqObj "list" #[] 0)).get? a = some (seqObj "list" #[] e1) := Heap.get?_push_of_some _ (Heap.get?_push_of_some _ ho1)
 show wpAny (model prog w) A _ P E { s with heap := ((s.heap.update a (Obj.mapSeq fun _ => (#[] : Array Value))).push (seqObj "tuple" vs.toArray 0)).push (seqObj "list" #[] 0) }
 dsimp only
 by_cases h2 : vs.toArray.size < 2
 ·rw [if_pos h2, if_pos h2]
  refine wpAny_bind (wpAny_pure ?_)
  rw [StateT.run_pure]
  refine wpAny_bind (wpAny_pure ?_)
  dsimp only
  have e0 : (arrOf (SortSt.mk' general' (vs.toArray.zip vs.toArray) #[] 7 none)).map (·.2) = ((List.range vs.length).toArray.toList.map fun i => vs.getD i Value.none).toArray := by
   show (vs.toArray.zip vs.toArray).map (·.2) = _
   rw [List.toList_toArray, range_getD]
   apply Array.toList_inj.mp
   simp [List.map_snd_zip]
  rw [e0]
  refine wpAny_bind (seqEpoch_at ho6 rfl ?_)
  refine wpAny_bind (listUpdate_at ho6 rfl ?_ (Nat.zero_le _) (by rw [List.toList_toArray, range_getD, List.size_toArray, sizeLine_eq]; omega))
  simp only [bne_self_eq_false, Bool.false_eq_true, if_false]
  refine wpAny_pure (h (List.range vs.length).toArray (Array.Perm.refl _) fun i j hij hj => ?_)
  have : i = j := by rw [List.size_toArray] at h2; omega
  subst this
  exact (xP ks).rf _
 ·rw [if_neg h2, if_neg h2]
  have h2' : 2 <= vs.length := by rw [List.size_toArray] at h2; omega
  have ht6 : TupsI (((s.heap.update a (Obj.mapSeq fun _ => (#[] : Array Value))).push (seqObj "tuple" vs.toArray 0)).push (seqObj "list" #[] 0)) vs ks := ⟨ht.1, fun i v k q1 q2 => by
   obtain ⟨z1, z2⟩ := ht.2 i v k q1 q2
   exact ⟨z1.at fun t o ev et => keep t o (fun z => hna v (List.mem_of_getElem? q1) (by rw [ev, z])) et, z2⟩⟩
  obtain ⟨fs, f1, f2, f3⟩ := aMl ht6
  refine wpAny_bind (kat_kind (T := .type "int") f1 (by rw [f2]; omega) (fun v hv => ?_) rfl ?_)
  ·obtain ⟨i, t, rfl⟩ := f3 v hv
   exact .now
  refine wpAny_bind (wpAny_mono (kat_run (κ := tuples' (Value.type "int" != Value.type "tuple")) (ks := vs) (Q := fun st' s' => ∃ p : Array Nat, s' = { s with heap := ((s.heap.update a (Obj.mapSeq fun _ => (#[] : Array Value))).push (seqObj "tuple" vs.toArray 0)).push (seqObj "list" #[] 0) } /\ p.size = vs.length /\ arrOf st' = p.map (kas_item (vs.toArray.zip vs.toArray)) /\ failedOf st' = none /\ Pm vs.length p /\ Sd (fun i j => HT.lexLt (ks.getD i []) (ks.getD j [])) p vs.length)
   (G := fun p s' => s' = { s with heap := ((s.heap.update a (Obj.mapSeq fun _ => (#[] : Array Value))).push (seqObj "tuple" vs.toArray 0)).push (seqObj "list" #[] 0) } /\ Pm vs.length p /\ Sd (fun i j => HT.lexLt (ks.getD i []) (ks.getD j [])) p vs.length)
   rfl h2' h64 (fun p st' s' a1 a2 a3 a4 => ⟨p, a4.1, a1, a2, a3, a4.2⟩) (aFd (n := vs.length) (lt := fun i j => HT.lexLt (ks.getD i []) (ks.getD j [])) (fun i j C hi hj hC => ?_) (by omega) (xP ks) fun q q1 q2 => ⟨rfl, q1, q2⟩)) ?_ fun _ _ e => e)
  ·unfold kas_ask
   have hi' : vs[i]? = some vs[i] := List.getElem?_eq_getElem hi
   have hj' : vs[j]? = some vs[j] := List.getElem?_eq_getElem hj
   have ki : i < ks.length := by rw [<- ht.1]; exact hi
   have kj : j < ks.length := by rw [<- ht.1]; exact hj
   have di : vs.getD i Value.none = vs[i] := by simp [hi]
   have dj : vs.getD j Value.none = vs[j] := by simp [hj]
   have ei : ks.getD i [] = ks[i] := by simp [ki]
   have ej : ks.getD j [] = ks[j] := by simp [kj]
   rw [di, dj]
   rw [ei, ej] at hC
   exact aB7 _ (ht6.2 i _ _ hi' (List.getElem?_eq_getElem ki)).1 (ht6.2 j _ _ hj' (List.getElem?_eq_getElem kj)).1 hC
  ·rintro ⟨⟨⟩, st'⟩ s' ⟨p, rfl, hp, har, hf, hpm, hsd⟩
   dsimp only
   have hout := kat_snds (ks := vs) (vs := vs) rfl har
   have hsz : (List.toArray (p.toList.map fun i => vs.getD i Value.none)).size = vs.length := by rw [List.size_toArray, List.length_map, Array.length_toList, hp]
   rw [hout]
   refine wpAny_bind (seqEpoch_at ho6 rfl ?_)
   refine wpAny_bind (listUpdate_at ho6 rfl ?_ (Nat.zero_le _) (Nat.le_trans (Nat.le_of_eq hsz) (by rw [sizeLine_eq]; omega)))
   rw [hf]
   simp only [bne_self_eq_false, Bool.false_eq_true, if_false]
   exact wpAny_pure (h p hpm hsd)
theorem sF {h : Heap} {a : Addr} {vs : List Value} {out : Array Value} {b : Addr} {o : Obj} (hb : b ≠ a) (e : h.get? b = some o) : (sortedHeap h a vs out).get? b = some o := by
 unfold sortedHeap
 rw [Heap.get?_update_ne _ _ _ _ hb]
 refine Heap.get?_push_of_some _ (Heap.get?_push_of_some _ ?_)
 rw [Heap.get?_update_ne _ _ _ _ hb]
 exact e
theorem sU {h : Heap} {a : Addr} {vs : List Value} {n : Nat} {out : Array Value} (e : h.get? a = some (seqObj "list" vs.toArray n)) : ∃ c, (sortedHeap h a vs out).get? a = some (seqObj "list" out c) := by
 obtain ⟨e1, ho1⟩ : ∃ e1, (h.update a (Obj.mapSeq fun _ => (#[] : Array Value))).get? a = some (seqObj "list" #[] e1) := ⟨_, get?_update_seq e (fun _ => #[])⟩
 exact ⟨_, get?_update_seq (Heap.get?_push_of_some _ (Heap.get?_push_of_some _ ho1)) fun _ => out⟩
theorem wC {r : Addr} {Q : Value -> Shared -> Prop} {Ok : List Value -> Prop} (hcol : ∀ R : List Value -> Shared -> Prop, (∀ h' tk vs, (∀ b o, s.heap.get? b = some o -> h'.get? b = some o) -> Ok vs -> R vs { s with heap := h', toks := tk }) -> wpAny (model prog w) A.in1 (collect (.ref r)) R E s)
  (ks : List (List Int)) (hok : ∀ vs, Ok vs -> TupsI s.heap vs ks /\ vs.length < 64)
  (h : ∀ (h' hf : Heap) (tk c : Nat) (vs : List Value) (q : Array Nat), (∀ b o, s.heap.get? b = some o -> h'.get? b = some o) -> (∀ b o, h'.get? b = some o -> hf.get? b = some o) -> Ok vs -> Pm vs.length q -> Sd (fun i j => HT.lexLt (ks.getD i []) (ks.getD j [])) q vs.length ->
   hf.get? h'.objs.size = some (seqObj "list" (q.toList.map fun i => vs.getD i Value.none).toArray c) -> Q (.ref h'.objs.size) { s with heap := hf, toks := tk }) :
  wpAny (model prog w) A (call (.builtin "sorted") [.ref r]) Q E s := by
 refine Calls.call_function_entry kind_sorted plain_sorted entry_sorted (args_sorted1 _) ?_
 unfold Builtin.«sorted»
 refine wpAny_bind (m := checkCount "sorted" 1 1 _) (wpAny_pure ?_)
 refine wpAny_bind (hcol _ fun h' tk vs keep ov => ?_)
 obtain ⟨ht, h64⟩ := hok vs ov
 refine wpAny_bind (wpAny_newList ?_ (by rw [sizeLine_eq]; omega))
 have hoL : (h'.push (seqObj "list" vs.toArray 0)).get? h'.objs.size = some (seqObj "list" vs.toArray 0) := Heap.get?_push_size _ rfl
 have keep2 : ∀ b o, s.heap.get? b = some o -> (h'.push (seqObj "list" vs.toArray 0)).get? b = some o := fun b o e => Heap.get?_push_of_some _ (keep b o e)
 have lt : ∀ b o, s.heap.get? b = some o -> b ≠ h'.objs.size := fun b o e => Nat.ne_of_lt (Heap.lt_size (keep b o e))
 have tat : ∀ v ∈ vs, ∃ t o, v = .ref t /\ s.heap.get? t = some o := fun v hv => by
  obtain ⟨i, hi, e⟩ := List.mem_iff_getElem.mp hv
  have ki : i < ks.length := by rw [<- ht.1]; exact hi
  obtain ⟨⟨t, o, _, _, e1, e2, _⟩, _⟩ := ht.2 i v ks[i] (by rw [List.getElem?_eq_getElem hi, e]) (List.getElem?_eq_getElem ki)
  exact ⟨t, o, e1, e2⟩
 have ht2 : TupsI (h'.push (seqObj "list" vs.toArray 0)) vs ks := ⟨ht.1, fun i v k q1 q2 => let ⟨z1, z2⟩ := ht.2 i v k q1 q2; ⟨z1.at fun t o _ et => keep2 t o et, z2⟩⟩
 refine wpAny_bind (wpAny_holding (wpAny_call_entry slot_list_sort ⟨_, hoL, rfl⟩ entry_list_sort (oZ (s := { s with heap := h'.push (seqObj "list" vs.toArray 0), toks := tk }) hoL ht2 (fun v hv z => ?_) h64 fun q a1 a2 => ⟨_, rfl, ?_⟩) (args_list_sort _)))
 ·obtain ⟨t, o, e1, e2⟩ := tat v hv
  rw [e1] at z
  injection z with z
  exact lt t o e2 z
 ·obtain ⟨c, hc⟩ := sU (out := (q.toList.map fun i => vs.getD i Value.none).toArray) hoL
  exact wpAny_pure ⟨_, rfl, h h' _ tk c vs q keep (fun b o e => sF (Nat.ne_of_lt (Heap.lt_size e)) (Heap.get?_push_of_some _ e)) ov a1 a2 hc⟩
def aLp (H : Hp) (ts : List V) (ks : List (List Int)) : Prop := ts.length = ks.length /\ ∀ (i : Nat) (t : V) (k : List Int), ts[i]? = some t -> ks[i]? = some k -> (∃ b, t = .ref b /\ H b = some (.tup (k.map V.int))) /\ k ≠ []
end
theorem zT {P : Program} {w : World} {H : Hp} {h : Heap} {ts : List V} {ks : List (List Int)} {vs : List Value} (ok : HOk P w H h) (r : aLp H ts ks) (v : Vals ts vs) : TupsI h vs ks := by
 have hl := v.length
 refine ⟨by rw [<- hl]; exact r.1, fun i u k e1 e2 => ?_⟩
 have hi : i < ts.length := by
  have := (List.getElem?_eq_some_iff.mp e1).1
  omega
 obtain ⟨⟨b, eb, hb⟩, hk⟩ := r.2 i ts[i] k (List.getElem?_eq_getElem hi) e2
 obtain ⟨u', e3, ru⟩ := v.get (i := i) (x := ts[i]) (List.getElem?_eq_getElem hi)
 rw [e1] at e3
 cases e3
 rw [eb] at ru
 cases (show u = Value.ref b from ru)
 obtain ⟨_, its, rv, o, ho, hc, n, hd⟩ := (show ObjOk P w H h b (.tup (k.map V.int)) from ok b _ hb)
 exact ⟨⟨b, o, _, n, rfl, ho, hc, hd, by rw [List.toList_toArray]; exact intsAre_of rv⟩, hk⟩
def aF9 (ks : List (List Int)) : Nat -> Nat -> Bool := fun i j => HT.lexLt (ks.getD i []) (ks.getD j [])
theorem rM {ts : List V} {vs : List Value} (v : Vals ts vs) : ∀ (l : List Nat), (∀ i ∈ l, i < ts.length) -> Vals (l.map fun i => ts.getD i .non) (l.map fun i => vs.getD i Value.none)
 | [], _ => .nil
 | i :: l, h => by
  have hi := h i (.head _)
  obtain ⟨u, e, r⟩ := v.get (i := i) (x := ts[i]) (List.getElem?_eq_getElem hi)
  have e1 : ts.getD i .non = ts[i] := by simp [hi]
  have e2 : vs.getD i Value.none = u := by simp [e]
  refine .cons ?_ (rM v l fun j hj => h j (.tail _ hj))
  show RelV (ts.getD i .non) (vs.getD i Value.none)
  rw [e1, e2]; exact r
theorem Paired.get {α β : Type} {F : α -> β -> Prop} : ∀ {l₁ : List α} {l₂ : List β} {i : Nat} {a : α}, Paired F l₁ l₂ -> l₁[i]? = some a -> ∃ b, l₂[i]? = some b /\ F a b
 | _, _, _, _, .nil, e => by simp at e
 | _, _, 0, _, .cons h _, e => by simp at e; subst e; exact ⟨_, rfl, h⟩
 | _, _, i + 1, _, .cons _ r, e => by
  have := Paired.get (i := i) r (by simpa using e)
  simpa using this
theorem q8 {κ : Type} : ∀ l : List (κ × Addr × Value), Vals (l.map fun x => V.ref x.2.1) (l.map fun x => Value.ref x.2.1)
 | [] => .nil
 | _ :: l => .cons rfl (q8 l)
section
variable {X : Cx}
theorem aCk {pins : List (Addr × Obj)} {σ : L2.St} {H : Hp} {s : Shared} {Q : VK} {ts : List V} {vs : List Value} {h' hf : Heap} {tk c : Nat} {q : Array Nat} (I : Inv X pins σ H s) (v : Vals ts vs) (h64 : vs.length < 64) (k1 : ∀ b o, s.heap.get? b = some o -> h'.get? b = some o) (k2 : ∀ b o, h'.get? b = some o -> hf.get? b = some o) (hp : Pm vs.length q)
  (hc : hf.get? h'.objs.size = some (seqObj "list" (q.toList.map fun i => vs.getD i Value.none).toArray c)) (hq : ∀ D, H D = none -> Q (.ref D) (upd H D (.lst (q.toList.map fun i => ts.getD i .non)))) : EP X pins σ Q (.ref h'.objs.size) { s with heap := hf, toks := tk } := by
 have I1 : Inv X pins σ H { s with heap := h', toks := tk } := I.kept (t' := tk) k1
 have hb : ∀ i ∈ q.toList, i < ts.length := fun i hi => by
  have : i ∈ (List.range vs.length).toArray := hp.mem_iff.mp (Array.mem_toList_iff.mp hi)
  rw [v.length]
  simpa using this
 have hl : q.toList.length = vs.length := by rw [Array.length_toList]; exact hp.size
 refine ⟨.ref h'.objs.size, _, I1.laid (a := h'.objs.size) (o := .lst (q.toList.map fun i => ts.getD i .non)) (t' := tk) k2 (Nat.le_refl _) ⟨?_, _, c, rM v _ hb, hc⟩, rfl, hq _ (I1.hok.fresh (Nat.le_refl _))⟩
 rw [List.length_map, hl, sizeLine_eq]
 omega
def aC3 : List V -> Hp -> VK -> Prop := fun xs H Q => ∃ a kv ks, xs = [.ref a] /\ H a = some (.dT kv) /\ kv.map (·.1) = ks.map (List.map Sum.inl) /\ (∀ k ∈ ks, k ≠ []) /\ kv.length < 64 /\
 ∀ ts D q, aLp H ts ks -> H D = none -> Pm ts.length q -> Sd (aF9 ks) q ts.length -> Q (.ref D) (upd H D (.lst (q.toList.map fun i => ts.getD i .non)))
theorem nV (hcm : X.calm = true) : CallR X (.builtin "sorted") aC3 := by
 intro pins s σ H xs us Q I r h
 obtain ⟨a, kv, ks, rfl, ha, hk, hne, h64, q⟩ := h
 obtain ⟨u, rfl, ru⟩ := vals1 r
 cases (show u = Value.ref a from ru)
 obtain ⟨hz, hsys, es0, rel, o, es, ep, h1, h2, h3, h4, h5⟩ := (show ObjOk X.prog X.w H s.heap a (.dT kv) from I.hok a _ ha)
 have hraw : RawD s.heap a es ep := ⟨o, h1, h2, h3⟩
 have len1 : kv.length = es0.length := rel.length
 have len2 : es.size = es0.length := by rw [<- Array.length_toList, h4, List.length_map]
 have len3 : ks.length = kv.length := by
  have := congrArg List.length hk
  simpa using this.symm
 have hts : aLp H (es0.map fun x => V.ref x.2.1) ks := by
  refine ⟨by rw [List.length_map]; omega, fun i t k e1 e2 => ?_⟩
  rw [List.getElem?_map] at e1
  cases ex : es0[i]? with
  | none => rw [ex] at e1; cases e1
  | some x =>
   rw [ex] at e1
   cases e1
   have hi : i < kv.length := by rw [len1]; exact (List.getElem?_eq_some_iff.mp ex).1
   obtain ⟨y, ey, hy1, hy2, _⟩ := Paired.get rel (List.getElem?_eq_getElem hi)
   rw [ex] at ey
   cases ey
   refine ⟨⟨x.2.1, rfl, ?_⟩, hne k (List.mem_of_getElem? e2)⟩
   have hkk : (kv.map (·.1))[i]? = (ks.map (List.map Sum.inl))[i]? := by rw [hk]
   rw [List.getElem?_map, List.getElem?_map, List.getElem?_eq_getElem hi, e2] at hkk
   have hkk : kv[i].1 = k.map Sum.inl := Option.some.inj hkk
   rw [hkk, List.map_map] at hy2
   exact hy2
 have hvs : ∀ vs : List Value, vs.length = es.size -> (∀ (j : Nat) v, vs[j]? = some v -> ∃ e, es[j]? = some e /\ v = e.key) -> Vals (es0.map fun x => V.ref x.2.1) vs := fun vs hl hv => by
  have ev : vs = es0.map fun x => Value.ref x.2.1 := by
   refine List.ext_getElem? fun i => ?_
   rw [List.getElem?_map]
   by_cases hi : i < vs.length
   ·have hi2 : i < es0.length := by omega
    obtain ⟨e, e1, e2⟩ := hv i vs[i] (List.getElem?_eq_getElem hi)
    have e3 : es.toList[i]? = some e := by simpa using e1
    rw [h4, List.getElem?_map, List.getElem?_eq_getElem hi2] at e3
    have e3 := Option.some.inj e3
    rw [List.getElem?_eq_getElem hi, List.getElem?_eq_getElem hi2, e2, <- e3]
    rfl
   ·rw [List.getElem?_eq_none (by omega), List.getElem?_eq_none (by omega)]
    rfl
  rw [ev]
  exact q8 _
 refine wC (Ok := fun vs => vs.length = es.size /\ ∀ (j : Nat) v, vs[j]? = some v -> ∃ e, es[j]? = some e /\ v = e.key) (fun R hR => ?_) ks (fun vs e => ⟨zT I.hok hts (hvs vs e.1 e.2), by omega⟩) fun h' hf tk c vs q' k1 k2 e p1 p2 hc => ?_
 ·refine kdu_collect (A := X.A.in1) (aE8 (prog := X.prog) (w := X.w) (ep := ep) (es := es) hsys) (I.ok.hd hcm) hraw (by omega) fun h' tk acc hk hacc => hR h' tk _ hk ⟨by rw [Array.length_toList]; exact hacc.1, fun j v e => hacc.2 j v (by simpa using e)⟩
 ·have rv := hvs vs e.1 e.2
  have hlen := rv.length
  exact aCk I rv (by omega) k1 k2 p1 hc fun D hD => q _ D q' hts hD (hlen ▸ p1) (hlen ▸ p2)
end
end SRT
namespace M
open PySem PySem.Spec PyProof.Rows L2 SRT
def nS (k : List Int) : D := .tuple (k.map .int)
def s8 : List D -> Option (List Int)
 | [] => some []
 | .int i :: ds => match s8 ds with
  | some r => some (i :: r)
  | none => none
 | _ => none
def yB : D -> Option (List Int)
 | .tuple ds => s8 ds
 | _ => none
def tF : List D -> Option (List (List Int))
 | [] => some []
 | d :: ds => match yB d with
  | none => none
  | some k => match tF ds with
   | none => none
   | some ks => some (k :: ks)
theorem uM : ∀ {ds : List D} {k : List Int}, s8 ds = some k -> ds = k.map .int
 | [], _, h => by cases h; rfl
 | d :: ds, k, h => by
  cases d with
  | int i =>
   unfold s8 at h
   cases e : s8 ds with
   | none => rw [e] at h; cases h
   | some r => rw [e] at h; cases h; rw [uM e]; rfl
  | _ => cases h
theorem q9 : ∀ k : List Int, s8 (k.map .int) = some k
 | [] => rfl
 | i :: k => by
  show (match s8 (k.map .int) with | some r => some (i :: r) | none => none) = _
  rw [q9 k]
theorem xM (k : List Int) : yB (nS k) = some k := q9 k
theorem aBm {d : D} {k : List Int} (h : yB d = some k) : d = nS k := by
 cases d with
 | tuple ds => unfold nS; rw [<- uM h]
 | _ => cases h
theorem u7 : ∀ {ds : List D} {ks : List (List Int)}, tF ds = some ks -> ds = ks.map nS
 | [], _, h => by cases h; rfl
 | d :: ds, ks, h => by
  unfold tF at h
  cases e : yB d with
  | none => rw [e] at h; cases h
  | some k =>
   rw [e] at h
   cases e2 : tF ds with
   | none => rw [e2] at h; cases h
   | some ks' => rw [e2] at h; cases h; rw [aBm e, u7 e2]; rfl
theorem qZ : ∀ ks : List (List Int), tF (ks.map nS) = some ks
 | [] => rfl
 | k :: ks => by
  show (match yB (nS k) with | none => none | some k => match tF (ks.map nS) with | none => none | some ks => some (k :: ks)) = _
  rw [xM, qZ ks]
def aFc (k : List Int) : List (List Int) -> List (List Int)
 | [] => [k]
 | x :: r => if HT.lexLt k x = true then k :: x :: r else x :: aFc k r
def jL : List (List Int) -> List (List Int)
 | [] => []
 | k :: ks => aFc k (jL ks)
def leK (a b : List Int) : Prop := HT.lexLt b a = false
theorem nG (k : List Int) : ∀ l, (aFc k l).Perm (k :: l)
 | [] => .refl _
 | x :: r => by
  unfold aFc
  split
  ·exact .refl _
  ·exact ((nG k r).cons x).trans (List.Perm.swap k x r)
theorem dQ : ∀ l, (jL l).Perm l
 | [] => .refl _
 | k :: ks => (nG k _).trans ((dQ ks).cons k)
theorem aCg {k y : List Int} {l : List (List Int)} (h : y ∈ aFc k l) : y = k \/ y ∈ l := by
 have := (nG k l).mem_iff.mp h
 exact List.mem_cons.mp this
theorem mJ (k : List Int) : ∀ l, l.Pairwise leK -> (aFc k l).Pairwise leK
 | [], _ => List.pairwise_singleton _ _
 | x :: r, h => by
  unfold aFc
  obtain ⟨h1, h2⟩ := List.pairwise_cons.mp h
  split
  ·rename_i e
   have e1 := yC _ _ e
   exact List.pairwise_cons.mpr ⟨fun y hy => by
    rcases List.mem_cons.mp hy with rfl | hy
    ·exact e1
    ·exact x5 _ _ _ e1 (h1 y hy), h⟩
  ·rename_i e
   refine List.pairwise_cons.mpr ⟨fun y hy => ?_, mJ k r h2⟩
   rcases aCg hy with rfl | hy
   ·exact Bool.eq_false_iff.mpr e
   ·exact h1 y hy
theorem fU : ∀ l, (jL l).Pairwise leK
 | [] => .nil
 | k :: ks => mJ k _ (fU ks)
theorem jO : ∀ {a b : List (List Int)}, a.Perm b -> a.Pairwise leK -> b.Pairwise leK -> a = b
 | [], b, p, _, _ => (List.Perm.nil_eq p)
 | x :: a, [], p, _, _ => absurd p.length_eq (by simp)
 | x :: a, y :: b, p, ha, hb => by
  obtain ⟨a1, a2⟩ := List.pairwise_cons.mp ha
  obtain ⟨b1, b2⟩ := List.pairwise_cons.mp hb
  have hx : x ∈ y :: b := p.mem_iff.mp (.head _)
  have hy : y ∈ x :: a := p.mem_iff.mpr (.head _)
  have e : x = y := by
   rcases List.mem_cons.mp hx with e | hx
   ·exact e
   ·rcases List.mem_cons.mp hy with e | hy
    ·exact e.symm
    ·exact aDb _ _ (b1 x hx) (a1 y hy)
  subst e
  rw [jO (List.Perm.cons_inv p) a2 b2]
theorem picked {ks : List (List Int)} {q : Array Nat} {n : Nat} (hn : n = ks.length) (hp : Pm n q) (hs : Sd (aF9 ks) q n) : (q.toList.map fun i => ks.getD i []) = jL ks := by
 subst hn
 have e0 : ((List.range ks.length).map fun i => ks.getD i []) = ks := by
  refine List.ext_getElem? fun i => ?_
  rw [List.getElem?_map]
  by_cases hi : i < ks.length
  ·rw [List.getElem?_range hi]; simp [hi]
  ·rw [List.getElem?_eq_none (by rw [List.length_range]; omega), List.getElem?_eq_none (by omega)]; rfl
 have p1 : q.toList.Perm (List.range ks.length) := by
  have := hp.toList
  simpa using this
 have p2 : (q.toList.map fun i => ks.getD i []).Perm ks := by
  have := p1.map (fun i => ks.getD i [])
  rwa [e0] at this
 refine jO (p2.trans (dQ ks).symm) ?_ (fU ks)
 rw [List.pairwise_iff_getElem]
 intro i j hi hj hij
 rw [List.length_map] at hi hj
 rw [List.getElem_map, List.getElem_map]
 have sz : q.toList.length = ks.length := by rw [Array.length_toList]; exact hp.size
 have := hs i j (Nat.le_of_lt hij) (by omega)
 unfold SRT.le aF9 Pt at this
 have e1 : q.getD i 0 = q.toList[i] := by
  have : i < q.size := by rw [<- Array.length_toList]; exact hi
  simp [Array.getD, this]
 have e2 : q.getD j 0 = q.toList[j] := by
  have : j < q.size := by rw [<- Array.length_toList]; exact hj
  simp [Array.getD, this]
 rw [e1, e2] at this
 exact this
section
variable {X : Cx} {K : PySem.W.Frag}
theorem aCn {G : Hp} {b : Addr} {k : List Int} (h : G b = some (.tup (k.map V.int))) : Rep K G (.ref b) (nS k) := by
 refine .tup h ?_
 clear h
 induction k with
 | nil => exact .nil
 | cons i k ih => exact .cons (.int i) ih
theorem rG {G : Hp} {ts : List V} {ks : List (List Int)} (h : ∀ (i : Nat), i < ks.length -> Rep K G (ts.getD i .non) (nS (ks.getD i []))) : ∀ l : List Nat, (∀ i ∈ l, i < ks.length) -> Reps K G (l.map fun i => ts.getD i .non) ((l.map fun i => ks.getD i []).map nS)
 | [], _ => .nil
 | i :: l, hl => .cons (h i (hl i (.head _))) (rG h l fun j hj => hl j (.tail _ hj))
theorem aL6 {n : Nat} {q : Array Nat} (hp : Pm n q) : ∀ i ∈ q.toList, i < n := fun i hi => by
 have : i ∈ (List.range n).toArray := hp.mem_iff.mp (Array.mem_toList_iff.mp hi)
 simpa using this
theorem aAy {ks : List (List Int)} (h : (ks.all fun k => !k.isEmpty) = true) : ∀ k ∈ ks, k ≠ [] := fun k hk z => by
 have := List.all_eq_true.mp h k hk
 rw [z] at this
 cases this
def wt (G H : Hp) : Hp := fun b => match G b with
 | some o => some o
 | none => match H b with
  | some (.tup xs) => some (.tup xs)
  | _ => none
theorem aF5 {G H : Hp} : Same G (wt G H) := fun b o e => by unfold wt; rw [e]
theorem aF4 {G H : Hp} (gh : Same G H) : Same (wt G H) H := fun b o e => by
 unfold wt at e
 cases eg : G b with
 | some u => rw [eg] at e; cases e; exact gh _ _ eg
 | none =>
  rw [eg] at e
  dsimp only at e
  split at e
  ·rename_i xs eh
   cases e; exact eh
  ·cases e
theorem aIs {G H : Hp} (gh : Same G H) {b : Addr} {xs : List V} (e : H b = some (.tup xs)) : wt G H b = some (.tup xs) := by
 unfold wt
 cases eg : G b with
 | some u =>
  have := gh _ _ eg
  rw [e] at this
  exact this.symm
 | none => dsimp only; rw [e]
theorem aEa {G H : Hp} (gh : Same G H) : Step G H (wt G H) H := ⟨aF5, Same.refl _, aF4 gh, fun b hb hg => by
 unfold wt
 rw [hg]
 dsimp only
 split
 ·rename_i xs eh; exact .inr ⟨xs, eh⟩
 ·exact .inl rfl⟩
def dO (rs : List Ev) : Res Ev := match rs with
 | [x] => match i3 x with
  | some kvs => if (dsp kvs).1 = false then match tF (kvs.map (·.1)) with
    | some ks => if (ks.all fun k => !k.isEmpty) = true /\ ks.length < 64 then .ok (.f (.list ((jL ks).map nS))) else .bad
    | none => .bad
   else .bad
  | none => .bad
 | _ => .bad
theorem mU : tH dO := by
 intro rs C h
 unfold dO at h
 split at h
 ·split at h
  ·split at h
   ·split at h
    ·split at h <;> cases h
    ·cases h
   ·cases h
  ·cases h
 ·cases h
theorem aBo {k : List Key} {n : List Int} (h : tkD k = nS n) : k = n.map Sum.inl := by
 unfold tkD nS at h
 injection h with h
 induction k generalizing n with
 | nil => cases n with
  | nil => rfl
  | cons _ _ => cases h
 | cons x k ih =>
  cases n with
  | nil => cases h
  | cons y n =>
   rw [List.map_cons, List.map_cons] at h
   injection h with h1 h2
   cases x with
   | inl i => cases h1; rw [ih h2]; rfl
   | inr i => cases h1
theorem qJ {G : Hp} : ∀ {kv : List (List Key × V)} {kvs : List (D × D)} {ks : List (List Int)}, RepT K G kv kvs -> kvs.map (·.1) = ks.map nS -> kv.map (·.1) = ks.map (List.map Sum.inl)
 | _, _, [], .nil, _ => rfl
 | _, _, _ :: _, .nil, h => by cases h
 | _, _, [], .cons _ _, h => by cases h
 | _, _, k :: ks, .cons _ t, h => by
  rw [List.map_cons, List.map_cons] at h
  injection h with h1 h2
  rw [List.map_cons, List.map_cons, qJ t h2, aBo h1]
theorem n8 : jN K aC3 dO := by
 intro W Hs G H vs rs Q gh he hw
 unfold dO at hw
 split at hw
 ·rename_i x
  match vs, he with
  | [v], ⟨h1, _⟩ =>
   split at hw
   ·rename_i kvs ed
    obtain ⟨a, rfl, hd⟩ := vE gh h1 ed
    split at hw
    ·rename_i hk
     rcases hd with ⟨kv, k1, k2⟩ | ⟨kv, r, rfl, k1, k2⟩
     ·split at hw
      ·rename_i ks ek
       split at hw
       ·rename_i hz
        have ek := u7 ek
        have hne := aAy hz.1
        have hl : kv.length = ks.length := by rw [k2.len, <- List.length_map (f := (·.1)), ek, List.length_map]
        refine ⟨a, kv, ks, rfl, k1, qJ k2 ek, hne, by omega, fun ts D q rI hD hp hs => ?_⟩
        have hl2 : ts.length = ks.length := rI.1
        have ep := picked hl2 hp hs
        have st := (aEa gh).trans (Step.lay (o := .lst (q.toList.map fun i => ts.getD i .non)) (aF4 gh) hD)
        refine hw _ _ _ st ⟨D, _, rfl, hD, (aF4 gh).free hD, bM, .lst ?_⟩
        rw [<- ep]
        refine rG (fun i hi => ?_) _ fun i hi => by rw [<- hl2]; exact aL6 hp i hi
        have hi' : i < ts.length := by omega
        obtain ⟨⟨b, eb, hb⟩, _⟩ := rI.2 i ts[i] ks[i] (List.getElem?_eq_getElem hi') (List.getElem?_eq_getElem hi)
        have e1 : ts.getD i .non = ts[i] := by simp [hi']
        have e2 : ks.getD i [] = ks[i] := by simp [hi]
        rw [e1, e2, eb]
        exact aCn (aIs gh hb)
       ·exact hw.elim
      ·exact hw.elim
     ·cases hk
    ·exact hw.elim
   ·exact hw.elim
 ·exact hw.elim
theorem aEt {prog : Program} {w : World} {A : Around} {E : Value -> Shared -> Prop} {s : Shared} {d : Addr} {es : Array DictEntry} {ep : Nat} {Q : Value -> Shared -> Prop} (hd : (d == sysModules) = false) (hm : RawD s.heap d es ep) (hfit : (es.size : Int) < 2 ^ 63)
  (h : Q (.int es.size (s.toks + 1)) { s with toks := s.toks + 1 + 1 }) : wpAny (model prog w) A (call (.builtin "len") [.ref d]) Q E s := by
 refine Calls.call_function_entry kind_len plain_len entry_len (args_len1 _) ?_
 unfold Builtin.«len»
 refine wpAny_bind (m := oneArg "len" _) (wpAny_pure ?_)
 have meets : MeetsIn prog w (Builtin.«dict.__len__» ⟨[.ref d], []⟩) (fun _ R s => RawD s.heap d es ep /\ R (.ok (.ret (.int es.size s.toks))) { s with toks := s.toks + 1 }) :=
  .of_wp fun A R s ⟨hm, h⟩ => by
   obtain ⟨o, ho, hc, hdat⟩ := hm
   show wpAny _ _ (dictSize d >>= _) _ _ s
   unfold dictSize
   refine wpAny_bind (wpAny_bind (wpAny_dictEntries ho hdat (wpAny_pure ?_)))
   show wpAny _ _ (Builtin.Dict.pendingCount d >>= _) _ _ s
   refine wpAny_bind (wpAny_pendingCount_other hd ?_)
   refine wpAny_ret_mkInt ?_
   rw [Nat.add_zero]; exact h
 refine wpAny_bind (m := callSpecial? (.ref d) (Str.ofString "__len__")) (wpAny_callSpecial?_slot (name := Str.ofString "__len__") hm.ty F.slot_dict_len
  (call_meetsIn F.slot_dict_len hm.ty F.entry_dict_len (F.args_dict_len_1 _) meets ⟨hm, ?_⟩))
 show wpAny _ _ _ _ _ { s with toks := s.toks + 1 }
 refine wpAny_bind (wpAny_holding (wpAny_pure ?_))
 refine wpAny_bind (wpAny_letGo ?_)
 show wpAny _ _ (if ((es.size : Nat) : Int) < 0 then _ else _) _ _ _
 rw [if_neg (by omega)]
 show wpAny _ _ (if ((es.size : Nat) : Int) ≥ 2 ^ 63 then _ else _) _ _ _
 rw [if_neg (by omega)]
 exact wpAny_bind (wpAny_mkInt (wpAny_pure ⟨_, rfl, h⟩))
def aH2 : List V -> Hp -> VK -> Prop := fun xs H Q => ∃ a, xs = [.ref a] /\ ((∃ kv, H a = some (.dT kv) /\ Q (.int kv.length) H) \/ ∃ kv, H a = some (.dK kv) /\ Q (.int kv.length) H)
theorem nU : CallR X (.builtin "len") aH2 := by
 intro pins s σ H xs us Q I r h
 obtain ⟨a, rfl, h⟩ := h
 obtain ⟨u, rfl, ru⟩ := vals1 r
 cases (show u = Value.ref a from ru)
 rcases h with ⟨kv, ha, q⟩ | ⟨kv, ha, q⟩
 ·obtain ⟨hz, hsys, es0, rel, o, es, ep, h1, h2, h3, h4, h5⟩ := (show ObjOk X.prog X.w H s.heap a (.dT kv) from I.hok a _ ha)
  have len1 : kv.length = es0.length := rel.length
  have len2 : es.size = es0.length := by rw [<- Array.length_toList, h4, List.length_map]
  rw [sizeLine_eq] at hz
  refine aEt hsys ⟨o, h1, h2, h3⟩ (by omega) ⟨.int kv.length, H, I.tok _, ⟨s.toks + 1, by rw [len2, len1]⟩, q⟩
 ·exact aKp I (.inl ha) fun t s' I' => ⟨.int kv.length, H, I', ⟨t, rfl⟩, q⟩
theorem xF : jN K aH2 kT := by
 intro W Hs G H vs rs Q gh he hw
 unfold kT at hw
 split at hw
 ·rename_i x
  match vs, he with
  | [v], ⟨h1, _⟩ =>
   split at hw
   ·rename_i kvs ed
    obtain ⟨a, rfl, hd⟩ := vE gh h1 ed
    refine ⟨a, rfl, ?_⟩
    rcases hd with ⟨kv, k1, k2⟩ | ⟨kv, r, rfl, k1, k2⟩
    ·refine .inl ⟨kv, k1, ?_⟩
     rw [aEq k2] at hw
     rw [k2.len]
     exact hw G H _ (Step.refl gh) (.int _)
    ·refine .inr ⟨kv, k1, ?_⟩
     rw [k2.len]
     exact hw G H _ (Step.refl gh) (.int _)
   ·exact hw.elim
 ·exact hw.elim
end
end M
namespace L2
open PySem PySem.Spec PyProof.Rows
def Ite (K : PySem.W.Frag) (a : Addr) : It :=
 ⟨fun i H => ∃ xs x, SqL K H a xs /\ xs[i]? = some x, fun i H v H' => ∃ p x, H p = none /\ v = .ref p /\ (∀ xs, SqL K H a xs -> xs[i]? = some x) /\ H' = upd H p (.tup [.int i, x]), fun i H => ∃ xs, SqL K H a xs /\ xs.length <= i⟩
theorem xT {P : Program} {w : World} {K : PySem.W.Frag} {elts : List Expr} {x1} {tp : Pos} (a e it : Addr) (hne : e ≠ it) : Turn P w K (.Tuple elts x1 tp) (Ite K a) [e, it] e (fun i h => (∃ old, IsEnum h e it ((i : Nat) : Int) old) /\ h.IsListIter it a i) where
 mem := by simp
 obj := fun i h st b hb => by
  rcases List.mem_cons.mp hb with rfl | hb
  ·obtain ⟨⟨old, q⟩, _⟩ := st
   exact ⟨_, q, fun v z => nomatch z⟩
  ·have : b = it := by simpa using hb
   subst this
   obtain ⟨_, o, q, c, d⟩ := st
   exact ⟨o, q, fun v z => by rw [d] at z; cases z⟩
 keep := fun i h h' st k => ⟨let ⟨old, q⟩ := st.1; ⟨old, k e (by simp) _ q⟩, st.2.at fun o q => k it (by simp) o q⟩
 item := by
  intro X hP hw hK hc i pins s σ H E I hf st hg
  subst hP hw hK
  obtain ⟨⟨old, he⟩, hit⟩ := st
  obtain ⟨xs, x, hq, hx⟩ := hg
  obtain ⟨its, rv, p, hz⟩ := I.list hq
  obtain ⟨u, hu, ru⟩ := rv.get hx
  obtain ⟨f0, f1, f2, f3, f4, f5⟩ := hf e (by simp)
  obtain ⟨g0, g1, g2, g3, g4, g5⟩ := hf it (by simp)
  refine wpAny_pyNext_enum_item he hit p.isList (x := u) (by simpa using hu) hne fun h₁ heo hit₁ ht₁ hz₁ hk₁ => ?_
  refine ⟨_, rfl, wpAny_letOwnedTupleGo_enum heo fun h₂ he₂ hs₂ => ?_⟩
  have hs₂ : Heap.SameBut e h₁ h₂ := hs₂
  have hn : H s.heap.objs.size = none := I.fresh
  have nn : ∀ b o, H b = some o -> b ≠ s.heap.objs.size := fun b o q => b0 q hn
  have eE : e < s.heap.objs.size := Heap.lt_size he
  have keep : ∀ b o, b ∉ [e, it] -> s.heap.get? b = some o -> h₂.get? b = some o := fun b o hb q => by
   have b1 : b ≠ e := fun z => hb (by simp [z])
   have b2 : b ≠ it := fun z => hb (by simp [z])
   exact (hs₂.2 b b1).trans (hk₁ b o b1 b2 q)
  have trk : ∀ b o, H b = some o -> b ∉ [e, it] := fun b o q hb => by
   rcases List.mem_cons.mp hb with z | hb
   ·rw [z, f0] at q; cases q
   ·rw [List.mem_singleton.mp hb, g0] at q; cases q
  refine ⟨.ref s.heap.objs.size, upd H s.heap.objs.size (.tup [.int i, x]), ?_, rfl, ⟨_, x, hn, rfl, fun ys hy => by rw [I.list_inj hy hq]; exact hx, rfl⟩, ⟨⟨u, ?_⟩, ?_⟩, fun b hb => ?_⟩
  ·refine Inv.step (X := X) (pins := pins) (σ := σ) (H := H) (s := s) (H' := upd H s.heap.objs.size (.tup [.int i, x])) (h' := h₂) (g' := s.gens) (d' := s.drawn) (t' := s.toks + 1) (ch := [e, it]) I (fun b hb => ?_) (fun b o _ _ hb q _ => keep b o hb q) (fun b o _ _ hb q _ => ⟨o.slots, keep b o hb q⟩) (fun b o _ q n => ?_) (fun b o hb q => ⟨o, keep b o hb q⟩)
    (fun b ys q => ?_) (fun b o v q => ?_) (fun b ps q => ⟨#[], ?_⟩) (fun m hm => ?_) (fun b v q => ?_) I.bare
   ·rcases List.mem_cons.mp hb with z | hb
    ·subst z; exact ⟨f3, f1, f4, f5⟩
    ·have z := List.mem_singleton.mp hb
     subst z; exact ⟨g3, g1, g4, g5⟩
   ·rw [bC (Nat.ne_of_lt (Heap.lt_size q))]; exact n
   ·rw [bC (nn b _ q)]; exact q
   ·rw [bC (nn b _ q)]; exact q
   ·rw [bC (nn b _ q), q]; simp
   ·obtain ⟨o, es, ep, ho, r⟩ := hm
    exact ⟨o, es, ep, keep _ o (fun z => by
     rcases List.mem_cons.mp z with y | y
     ·exact f1 y.symm
     ·exact g1 (List.mem_singleton.mp y).symm) ho, r⟩
   ·by_cases hb : b = s.heap.objs.size
    ·subst hb
     rw [bM] at q
     cases q
     refine ⟨by show 2 <= sizeLine; decide, [.int i s.toks, u], .cons ⟨_, rfl⟩ (.cons ru .nil), _, (hs₂.2 _ (Nat.ne_of_gt eE)).trans ht₁, rfl, _, rfl⟩
    ·rw [bC hb] at q
     refine (I.hok b v q).stay (fun c w' hc q' => keep c w' ?_ q') (fun c q' => ?_) (fun c ys q' => ?_) fun c ys q' => by rw [bC (nn c _ q')]; exact q'
     ·rcases hc with z | z
      ·rw [z]; exact trk b v q
      ·exact trk c _ z
     ·rw [bC (nn c _ q')]; exact q'
     ·rw [bC (nn c _ q')]; exact q'
  ·have : (((i + 1 : Nat)) : Int) = (i : Int) + 1 := by push_cast; rfl
   rw [this]; exact he₂
  ·exact hit₁.at fun o q => (hs₂.2 it (Ne.symm hne)).trans q
  ·have hb' := (hf b hb).1
   have : b ≠ s.heap.objs.size := by
    rcases List.mem_cons.mp hb with z | z
    ·rw [z]; exact Nat.ne_of_lt eE
    ·rw [List.mem_singleton.mp z]
     obtain ⟨o, q, _⟩ := id hit
     exact Nat.ne_of_lt (Heap.lt_size q)
   rw [bC this]; exact hb'
 done := by
  intro X hP hw hK hc i pins s σ H E I hf st hg
  subst hP hw hK
  obtain ⟨⟨old, he⟩, hit⟩ := st
  obtain ⟨xs, hq, hx⟩ := hg
  obtain ⟨its, rv, p, hz⟩ := I.list hq
  obtain ⟨g0, g1, g2, g3, g4, g5⟩ := hf it (by simp)
  have hl := rv.length
  exact wpAny_pyNext_enum_end (I.ok.hd hc) he hit p.isList (by simp; omega) fun h' eb => ⟨rfl, I.turned (t' := s.toks) (fun b o hb q => eb b o hb q) g0 g1 g3 g4 g5⟩
 self := fun _ _ _ _ _ st h => let ⟨_, q⟩ := st.1; wpAny_pyIter_enum q h
section
variable {X : Cx}
def aLu (K : PySem.W.Frag) (ta : TA) : TI := fun σ H R => ta σ H fun vs H1 => ∃ a xs, vs = [.ref a] /\ Rd H1 a (.lst xs) /\ R (Ite K a) H1
theorem zU : bootBuiltins "enumerate" = some (.type "enumerate") := by decide +kernel
theorem aFo {a : Expr} {ta : TA} {p pos tp : Pos} {elts : List Expr} {x1} (hg : Gl X "enumerate") (hm : X.mg "enumerate" = none) (ha : PA X [a] ta) (hs : starEach [a] X.env = [(false, eval a X.env)] := by rfl) : PI X (.Tuple elts x1 tp) (.Call (.Name "enumerate" p) [a] [] pos) (aLu X.K ta) := by
 intro pins s σ H R I h
 refine Call_ (qV I hg hm zU (PyProof.Rows.callWith_type1 (thn (ha pos pins s σ H _ I h) fun us s1 ⟨vs, H1, I1, r1, q1⟩ => ?_) hs rfl))
 obtain ⟨a, xs, rfl, hr, q⟩ := q1
 obtain ⟨u, rfl, ru⟩ := vals1 r1
 cases (show u = Value.ref a from ru)
 obtain ⟨_, its, n, rv, ho⟩ := hr.ok I1.hok
 refine call_enumerate_1 ho fun h' he hit hz hk => ?_
 refine wpAny_pyIter_enum (s := { s1 with heap := h' }) he ?_
 refine ⟨s1.heap.objs.size + 1, [s1.heap.objs.size + 1, s1.heap.objs.size], _, _, H1, rfl, I1.kept (t' := s1.toks) hk, xT a _ _ (Nat.ne_of_gt (Nat.lt_succ_self _)), ⟨⟨_, he⟩, hit⟩, fun b hb => ?_, q⟩
 have hle : s1.heap.objs.size <= b := by
  rcases List.mem_cons.mp hb with z | z
  ·rw [z]; exact Nat.le_succ _
  ·rw [List.mem_singleton.mp z]; exact Nat.le_refl _
 exact I1.fpOk hle (I1.hok.fresh hle)
end
end L2
namespace M
open PySem PySem.Spec PyProof.Rows L2
def kL (k : Nat) : List D -> List D
 | [] => []
 | d :: ds => .tuple [.int (k : Int), d] :: kL (k + 1) ds
theorem pX : ∀ (ds : List D) (k : Nat), (kL k ds).length = ds.length
 | [], _ => rfl
 | _ :: ds, k => by unfold kL; rw [List.length_cons, List.length_cons, pX ds]
theorem q0 : ∀ (ds : List D) (k i : Nat), (kL k ds)[i]? = (ds[i]?).map fun d => .tuple [.int ((k + i : Nat) : Int), d]
 | [], _, _ => by simp [kL]
 | d :: ds, k, 0 => by simp [kL]
 | d :: ds, k, i + 1 => by
  unfold kL
  rw [List.getElem?_cons_succ, List.getElem?_cons_succ, q0 ds (k + 1) i]
  have : k + 1 + i = k + (i + 1) := by omega
  rw [this]
def aBi (rs : List Ev) : Res (List D) := match rs with
 | [.p (.list ds)] => .ok (kL 0 ds)
 | _ => .bad
theorem yH {X : Cx} {E : L2.St -> XK} {a : Expr} {fr : En -> Res (List Ev)} {p pos tp : Pos} {elts : List Expr} {x1} (hg : Gl X "enumerate") (hm : X.mg "enumerate" = none) (ha : DA X E [a] fr) (hs : starEach [a] X.env = [(false, eval a X.env)] := by rfl) :
  DI X E (.Tuple elts x1 tp) (.Call (.Name "enumerate" p) [a] [] pos) (aDt aBi fr) := by
 obtain ⟨t, q, m⟩ := ha.out
 refine DI.in ⟨_, aFo hg hm q hs, fun B G0 G W H σ en R hh hs hw => m B G0 G W H σ en _ hh hs ?_⟩
 have hw : wpR ((fr en).bind _) _ _ := hw
 rw [bA] at hw
 refine aT hw (fun rs hr G1 H1 vs s e => ?_) fun C h => h
 unfold aBi at hr
 split at hr
 ·rename_i ds
  match vs, e with
  | [v], ⟨e1, _⟩ =>
   cases e1 with
   | @lst a xs _ h1 h2 =>
    refine ⟨a, xs, rfl, gT s.gh h1, hr G1 H1 _ s fun G3 H3 k1 k2 => ⟨fun i d ed => ?_, ?_⟩⟩
    ·rw [q0, Option.map_eq_some_iff] at ed
     obtain ⟨d', ed, rfl⟩ := ed
     obtain ⟨x, ex, rx⟩ := h2.get' ed
     have sq : SqL X.K H3 a xs := .inl (gT (k1.trans k2) h1)
     refine ⟨⟨xs, x, sq, ex⟩, fun v H' hy => ?_⟩
     obtain ⟨p, x', hp, rfl, hy, rfl⟩ := hy
     have := hy xs sq
     rw [ex] at this
     cases this
     have st := Step.put (o := .tup [.int i, x]) k2 hp
     refine ⟨_, st, .tup bM (.cons ?_ (.cons (rx.mono (k1.trans st.g)) .nil))⟩
     have : ((0 + i : Nat) : Int) = (i : Int) := by simp
     rw [this]
     exact .int _
    ·refine ⟨xs, .inl (gT (k1.trans k2) h1), ?_⟩
     rw [pX, h2.length]
     exact Nat.le_refl _
 ·exact hr.elim
section
variable {X : Cx} {E : L2.St -> XK}
def cutD (ds : List D) (lo hi : Option Int) : List D := (ds.drop (HT.sIx ds.length 0 lo)).take (HT.sIx ds.length ds.length hi - HT.sIx ds.length 0 lo)
theorem Reps.cut {K : PySem.W.Frag} {G : Hp} {xs : List V} {ds : List D} (r : Reps K G xs ds) (lo hi : Option Int) : Reps K G (aGl xs lo hi) (cutD ds lo hi) := by
 unfold aGl cutD
 rw [r.length]
 exact (r.drop _).take _
def rR : En -> Res (Option Int) := fun _ => .ok none
def mPt (fe : En -> Res Ev) : En -> Res (Option Int) := fun en => (fe en).bind fun x => match x.c with
 | .p (.int i) => .ok (some i)
 | _ => .bad
def tP (K : PySem.W.Frag) (E : L2.St -> XK) (f : En -> Res (Option Int)) : TO := fun σ H R => ∃ B G0 G W en, SimH B G0 G W H /\ SimS K W G H σ en /\ wpR (f en) (fun k => ∀ G' H', Step G H G' H' -> R k H') (PostX (E σ) G H)
def DP (X : Cx) (E : L2.St -> XK) (o : Option Expr) (f : En -> Res (Option Int)) : Prop := PO X o (tP X.K E f)
theorem jD : DP X E none rR := fun pins s σ H R I ⟨B, G0, G, W, en, hh, hs, hw⟩ => aEf pins s σ H R I (hw G H (Step.refl hh.gh))
theorem jS {e : Expr} {fe : En -> Res Ev} (he : DE X E e fe) : DP X E (some e) (mPt fe) := fun pins s σ H R I ⟨B, G0, G, W, en, hh, hs, hw⟩ => by
 obtain ⟨t, p, m⟩ := he.out
 refine aE0 p pins s σ H R I (m B G0 G W H σ en _ hh hs ?_)
 unfold mPt at hw
 rw [bA] at hw
 refine aT hw (fun x hx G1 H1 v s1 e1 => ?_) fun C h => h
 obtain ⟨G2, s2, e2⟩ := e1.c s1
 cases ex : x.c with
 | p d =>
  rw [ex] at hx e2
  cases d with
  | int i => cases e2; exact ⟨i, rfl, hx G2 H1 s2⟩
  | _ => exact hx.elim
 | f d => rw [ex] at hx; exact hx.elim
 | b d => rw [ex] at hx; exact hx.elim
 | x C => rw [ex] at hx; exact hx.elim
def mSl (fe : En -> Res Ev) (fl fh : En -> Res (Option Int)) : En -> Res Ev := fun en => (fe en).bind fun x => (fl en).bind fun l => (fh en).bind fun u => match iE x.c with
 | some ds => .ok (.f (.list (cutD ds l u)))
 | none => .bad
theorem vU {e : Expr} {lo hi : Option Expr} {fe : En -> Res Ev} {fl fh : En -> Res (Option Int)} {p2 pos : Pos} (he : DE X E e fe) (hl : DP X E lo fl) (hu : DP X E hi fh) : DE X E (.Subscript e (.Slice lo hi none p2) pos) (mSl fe fl fh) := by
 obtain ⟨t, p, m⟩ := he.out
 refine DE.in ⟨_, uU aGa p hl hu, fun B G0 G W H σ en Q hh hs hw => ?_⟩
 unfold mSl at hw
 refine m B G0 G W H σ en _ hh hs (DE.go hw fun x G1 H1 v s1 e1 h1 => ?_)
 refine ⟨B, G0, G1, W, en, hh.step s1, hs.step s1, ?_⟩
 rw [bA] at h1
 refine aT h1 (fun l hx G2 H2 s2 => ?_) fun C h => h
 refine ⟨B, G0, G2, W, en, (hh.step s1).step s2, (hs.step s1).step s2, ?_⟩
 have hx' := aT hx (fun r h => h.step s2) (fun C h => h.step s2)
 rw [bA] at hx'
 refine aT hx' (fun u hy G3 H3 s3 => ?_) fun C h => h
 cases ex : iE x.c with
 | none => rw [ex] at hy; exact hy.elim
 | some ds =>
  rw [ex] at hy
  obtain ⟨a, xs, rfl, rd, rp⟩ := n4 (Hs := H) s3.gh (e1.step (s2.trans s3)) ex
  exact ⟨a, xs, rfl, .inl rd, fun p hp => hy _ _ _ (s3.trans (Step.lay s3.gh hp)) ⟨p, _, rfl, s3.h.free hp, s3.gh.free hp, bM, .lst (rp.cut l u)⟩⟩
end
section
variable {K : PySem.W.Frag}
def vI (rs : List Ev) : Res Ev := match rs with
 | [.p (.int i)] => if i.natAbs.log2 < 1920 then .ok (.p (.str (toString i))) else .bad
 | _ => .bad
theorem gQ : tH vI := by
 intro rs C h
 unfold vI at h
 split at h
 ·split at h <;> cases h
 ·cases h
theorem kC : jN K (fun xs H Q => ∃ i, xs = [.int i] /\ i.natAbs.log2 < 1920 /\ Q (.str (toString i)) H) vI := by
 intro W Hs G H vs rs Q gh he hw
 unfold vI at hw
 split at hw
 ·rename_i i
  match vs, he with
  | [v], ⟨h1, _⟩ =>
   cases h1
   split at hw
   ·rename_i hl
    exact ⟨i, rfl, hl, hw G H _ (Step.refl gh) (.str _)⟩
   ·exact hw.elim
 ·exact hw.elim
def pV (rs : List Ev) : Res Ev := match rs with
 | [.p (.str z)] => if z.length <= sizeLine then .ok (.p (.int z.length)) else .bad
 | _ => .bad
theorem oU : tH pV := by
 intro rs C h
 unfold pV at h
 split at h
 ·split at h <;> cases h
 ·cases h
theorem sN : jN K (fun xs H Q => ∃ z, xs = [.str z] /\ z.length <= sizeLine /\ Q (.int z.length) H) pV := by
 intro W Hs G H vs rs Q gh he hw
 unfold pV at hw
 split at hw
 ·rename_i z
  match vs, he with
  | [v], ⟨h1, _⟩ =>
   cases h1
   split at hw
   ·rename_i hl
    exact ⟨z, rfl, hl, hw G H _ (Step.refl gh) (.int _)⟩
   ·exact hw.elim
 ·exact hw.elim
def aC1 (x y : Ev) : Res Ev := match x, y with
 | .p (.str z), .p (.int i) => if 0 <= i /\ i < 2 ^ 63 /\ i < z.length then match z.cps[i.toNat]? with
   | some c => .ok (.p (.str ⟨#[c]⟩))
   | none => .bad
  else .bad
 | _, _ => .bad
theorem aEu : NoX aC1 := by
 intro x y C h
 unfold aC1 at h
 split at h
 ·split at h
  ·split at h <;> cases h
  ·cases h
 ·cases h
theorem aG2 : OpM K (fun x y H Q => ∃ z i c, x = .str z /\ y = .int i /\ 0 <= i /\ i < 2 ^ 63 /\ i < z.length /\ z.cps[i.toNat]? = some c /\ Q (.str ⟨#[c]⟩) H) aC1 := by
 intro W G H v u x y Q gh hx hy hw
 unfold aC1 at hw
 split at hw
 ·rename_i z i ex ey
  rw [ex] at hx
  rw [ey] at hy
  cases hx
  cases hy
  split at hw
  ·rename_i hc
   split at hw
   ·rename_i c ec
    exact ⟨z, i, c, rfl, rfl, hc.1, hc.2.1, hc.2.2, ec, hw G H _ (Step.refl gh) (.str _)⟩
   ·exact hw.elim
  ·exact hw.elim
 ·exact hw.elim
theorem aG5 {X : Cx} {E : L2.St -> XK} {a b : Expr} {fa fb : En -> Res Ev} {pos : Pos} (ha : DE X E a fa) (hb : DE X E b fb) (hs : vC b) : DE X E (.Subscript a b pos) (aL aC1 fa fb) := by
 obtain ⟨ta, pa, ma⟩ := ha.out
 obtain ⟨tb, pb, mb⟩ := hb.out
 exact DE.in ⟨_, tJ pa pb hs, mS ma mb aG2 aEu⟩
def aD0 (ng : Bool) (x y : Ev) : Res Ev := match x, y with
 | .p (.str i), .p (.str j) => .ok (.p (.bool (if ng then (Builtin.Str.occurrences j i 0 j.length 1).isEmpty else !(Builtin.Str.occurrences j i 0 j.length 1).isEmpty)))
 | _, _ => .bad
theorem aAl {ng : Bool} : NoX (aD0 ng) := by
 intro x y C h
 unfold aD0 at h
 split at h <;> cases h
theorem aC7 : OpM K (fun x y H Q => ∃ i j, x = .str i /\ y = .str j /\ Q (.bl (!(Builtin.Str.occurrences j i 0 j.length 1).isEmpty)) H) (aD0 false) := by
 intro W G H v u x y Q gh hx hy hw
 unfold aD0 at hw
 split at hw
 ·rename_i i j ex ey
  rw [ex] at hx
  rw [ey] at hy
  cases hx
  cases hy
  exact ⟨i, j, rfl, rfl, hw G H _ (Step.refl gh) (.bl _)⟩
 ·exact hw.elim
end
end M
namespace L2
open PySem PySem.Spec PyProof.Rows
theorem wD {prog : Program} {w : World} {A : Around} {E : Value -> Shared -> Prop} {s : Shared} {nm : String} {a b : Addr} {oa ob : Obj} {ea : Array DictEntry} {pa pb : Nat} {Q : Bool -> Shared -> Prop}
  (ma : (a == sysModules) = false) (mb : (b == sysModules) = false) (ha : s.heap.get? a = some oa) (da : oa.data = .dict ea pa) (hb : s.heap.get? b = some ob) (db : ob.data = .dict #[] pb) (q : Q (ea.size == 0) s) :
  wpAny (model prog w) A (Builtin.Dict.samePairs nm a b) Q E s := by
 unfold Builtin.Dict.samePairs
 refine wpAny_bind ?_
 unfold Builtin.Dict.showsAll
 rw [ma]
 refine wpAny_pure ?_
 refine wpAny_bind ?_
 rw [mb]
 refine wpAny_pure ?_
 refine wpAny_bind (wpAny_dictEntries ha da ?_)
 dsimp only
 refine wpAny_bind (wpAny_dictEntries hb db ?_)
 by_cases h0 : ea.size = 0
 ·rw [h0]
  rw [h0] at q
  refine wpAny_bind (wpAny_dictEpoch ha da ?_)
  refine wpAny_bind ?_
  rw [Std.Legacy.Range.forIn_eq_forIn_range']
  simp only [Std.Legacy.Range.size]
  refine wpAny_pure ?_
  exact wpAny_pure q
 ·have : (ea.size != (#[] : Array DictEntry).size) = true := by simp [h0]
  rw [if_pos this]
  refine wpAny_bind (wpAny_rule ?_)
  refine wpAny_pure ?_
  have e : (ea.size == 0) = false := by simp [h0]
  rw [e] at q
  exact q
theorem zL (a b : Addr) : Builtin.«dict.__eq__» ⟨[.ref a, .ref b], []⟩ = (do
   let x <- Builtin.Dict.dictSlotArgs "__eq__" ⟨[.ref a, .ref b], []⟩
   match x with
   | (self, other) => do
    let i <- PySem.isInstance other (Value.type "dict")
    if (!i) = true then do
     rule (toString "dict." ++ toString "__eq__" ++ toString ".not-a-dict")
     ret Value.notImplemented
    else do
     let p <- Builtin.Dict.addrOf self
     let q <- Builtin.Dict.addrOf other
     let r <- Builtin.Dict.samePairs (toString "dict." ++ toString "__eq__") p q
     ret (Value.bool (r == true))) := by
 unfold Builtin.«dict.__eq__»
 rfl
theorem aAi {prog : Program} {w : World} {A : Around} {E : Value -> Shared -> Prop} {s : Shared} {a b : Addr} {oa ob : Obj} {Q : Value -> Shared -> Prop}
  (ha : s.heap.get? a = some oa) (xa : oa.ExactDict) (hb : s.heap.get? b = some ob) (xb : ob.ExactDict)
  (hu : A.units < cLine) (q : wpAny (model prog w) A.in1 (Builtin.«dict.__eq__» ⟨[.ref a, .ref b], []⟩) (fun fin s' => ∃ v, fin = Fin.done (Flow.ret v) /\ v ≠ Value.notImplemented /\ Q v s') E s) : wpAny (model prog w) A (compareOp .Eq (.ref a) (.ref b)) Q E s := by
 have t1 : s.TypeIs (.ref a) "dict" := ⟨oa, ha, xa.1⟩
 have t2 : s.TypeIs (.ref b) "dict" := ⟨ob, hb, xb.1⟩
 show wpAny (model prog w) A (richCompare .Eq (.ref a) (.ref b)) Q E s
 refine wpAny_richCompare_same_room (op := .Eq) t1 t2 F.slot_dict_eq ?_ hu
 exact wpAny_call_entry F.slot_dict_eq t1 F.entry_dict_eq q (F.args_dict_eq_2 _ _)
theorem wU {prog : Program} {w : World} {A : Around} {E : Value -> Shared -> Prop} {s : Shared} {a b : Addr} {n : Nat} {Q : Fin -> Shared -> Prop} (t1 : s.TypeIs (.ref a) "dict") (t2 : s.TypeIs (.ref b) "dict")
 (hs : ∀ {R : Bool -> Shared -> Prop}, R (n == 0) s -> wpAny (model prog w) A (Builtin.Dict.samePairs (toString "dict." ++ toString "__eq__") a b) R E s) (q : Q (Fin.done (Flow.ret (.bool ((n == 0) == true)))) s) : wpAny (model prog w) A (do
   let x <- Builtin.Dict.dictSlotArgs "__eq__" ⟨[.ref a, .ref b], []⟩
   match x with
   | (self, other) => do
    let i <- PySem.isInstance other (Value.type "dict")
    if (!i) = true then do
     rule (toString "dict." ++ toString "__eq__" ++ toString ".not-a-dict")
     ret Value.notImplemented
    else do
     let p <- Builtin.Dict.addrOf self
     let q <- Builtin.Dict.addrOf other
     let r <- Builtin.Dict.samePairs (toString "dict." ++ toString "__eq__") p q
     ret (Value.bool (r == true))) Q E s := by
 refine wpAny_bind ?_
 unfold Builtin.Dict.dictSlotArgs
 refine wpAny_bind (wpAny_notOrdered_dict t1 (wpAny_bind ?_))
 unfold slotArgs
 dsimp only
 rw [if_neg (by decide), if_neg (by simp)]
 refine wpAny_pure ?_
 dsimp only
 refine wpAny_pure ?_
 dsimp only
 refine wpAny_bind (wpAny_isInstance t2 F.sub_dict_dict ?_)
 rw [if_neg (by decide)]
 refine wpAny_bind ?_
 unfold Builtin.Dict.addrOf
 dsimp only
 refine wpAny_pure ?_
 refine wpAny_bind (wpAny_pure ?_)
 refine wpAny_bind (hs ?_)
 exact wpAny_pure q
theorem eq_empty {prog : Program} {w : World} {A : Around} {E : Value -> Shared -> Prop} {s : Shared} {a b : Addr} {oa ob : Obj} {ea : Array DictEntry} {pa pb : Nat} {Q : Value -> Shared -> Prop}
  (ma : (a == sysModules) = false) (mb : (b == sysModules) = false) (ha : s.heap.get? a = some oa) (xa : oa.ExactDict) (da : oa.data = .dict ea pa) (hb : s.heap.get? b = some ob) (xb : ob.ExactDict) (db : ob.data = .dict #[] pb)
  (hu : A.units < cLine) (q : Q (.bool (ea.size == 0)) s) : wpAny (model prog w) A (compareOp .Eq (.ref a) (.ref b)) Q E s := by
 refine aAi ha xa hb xb hu ?_
 rw [zL]
 refine wU ⟨oa, ha, xa.1⟩ ⟨ob, hb, xb.1⟩ (n := ea.size) (fun q => wD ma mb ha da hb db q) ⟨_, rfl, (fun z => nomatch z), ?_⟩
 have : (((ea.size == 0) == true)) = (ea.size == 0) := by cases (ea.size == 0) <;> rfl
 rw [this]
 exact q
section
variable {X : Cx}
def aMi : R2 := fun x y H Q => ∃ a b kv, x = .ref a /\ y = .ref b /\ H a = some (.dT kv) /\ H b = some (.dT []) /\ Q (.bl (kv.isEmpty)) H
theorem aG8 (hu : X.A.units < cLine) : OpR X (compareOp .Eq) aMi := by
 intro pins s σ H x y v u Q I rx ry h
 obtain ⟨a, b, kv, rfl, rfl, ha, hb, q⟩ := h
 cases rx
 cases ry
 obtain ⟨_, ma, xs, r, oa, ea, pa, h1, h2, h3, h4, h5⟩ := (show ObjOk X.prog X.w H s.heap a (.dT kv) from I.hok a _ ha)
 obtain ⟨_, mb, ys, r2, ob, eb, pb, g1, g2, g3, g4, g5⟩ := (show ObjOk X.prog X.w H s.heap b (.dT []) from I.hok b _ hb)
 cases r2
 have eb0 : eb = #[] := by
  have : eb.toList = [] := g4
  exact Array.toList_eq_nil_iff.mp this
 subst eb0
 refine eq_empty ma mb h1 h2 h3 g1 g2 g3 hu ⟨.bl kv.isEmpty, H, I, ?_, q⟩
 have hl : ea.size = kv.length := by
  have e1 : ea.toList.length = xs.length := by rw [h4, List.length_map]
  rw [Array.length_toList] at e1
  rw [e1]
  exact (Paired.length r).symm
 show Value.bool _ = Value.bool _
 rw [hl]
 cases kv <;> rfl
end
end L2
namespace M
open PySem PySem.Spec PyProof.Rows L2
variable {K : PySem.W.Frag}
def aD4 (x y : Ev) : Res Ev := match i3 x, y with
 | some kvs, .p (.dict []) => if (dsp kvs).1 = false then .ok (.p (.bool kvs.isEmpty)) else .bad
 | _, _ => .bad
theorem aE9 : NoX aD4 := by
 intro x y A h
 unfold aD4 at h
 split at h
 ·split at h <;> cases h
 ·cases h
theorem aHu : OpM K aMi aD4 := by
 intro W G H v u x y Q gh hx hy hw
 unfold aD4 at hw
 split at hw
 ·rename_i kvs e1 e2
  split at hw
  ·rename_i hd
   obtain ⟨a, rfl, hh⟩ := vE gh hx e1
   rw [e2] at hy
   have hy : Rep K G u (.dict []) := hy
   rcases hh with ⟨kv, h1, h2⟩ | ⟨kv, r, rfl, h1, h2⟩
   ·cases hy with
    | @dT b kv2 _ g1 g2 =>
     cases g2
     refine ⟨a, b, kv, rfl, rfl, h1, gh _ _ g1, ?_⟩
     have e : kv.isEmpty = kvs.isEmpty := by cases h2 <;> rfl
     rw [e]
     exact hw G H _ (Step.refl gh) (.bl _)
   ·cases hd
  ·exact hw.elim
 ·exact hw.elim
end M
namespace L2
open PySem PySem.Spec PyProof.Rows
section
variable {X : Cx} {pins : List (Addr × Obj)} {σ : St} {H : Hp} {s : Shared}
end
end L2
namespace SRT
open PySem PySem.W PyProof.Rows L2
section
variable {prog : Program} {w : World} {A : Around} {E : Value -> Shared -> Prop} {s : Shared}
end
end SRT
namespace L2
open PySem PySem.Spec PyProof.Rows
section
variable {X : Cx} {pins : List (Addr × Obj)} {σ : St}
end
section
variable {X : Cx} {tg : Expr}
def aMe (K : PySem.W.Frag) : List V -> Hp -> VK -> Prop := fun xs H Q => ∃ (a : Addr) (bs : List Bool), xs = [.ref a] /\ SqL K H a (bs.map V.bl) /\ Q (.bl (bs.all id)) H
theorem all_range (bs : List Bool) : ((List.range bs.length).all fun i => (bs[i]?).getD false) = bs.all id := by
 rw [Bool.eq_iff_iff, List.all_eq_true, List.all_eq_true]
 constructor
 ·intro h b hb
  obtain ⟨i, hi, e2⟩ := List.mem_iff_getElem.mp hb
  have := h i (List.mem_range.mpr hi)
  simpa [hi, e2] using this
 ·intro h i hi
  have hi := List.mem_range.mp hi
  have := h bs[i] (List.getElem_mem hi)
  simpa [hi] using this
theorem aCo (hc : X.calm = true) {K : PySem.W.Frag} (hK : X.K = K) : CallR X (.builtin "all") (aMe K) := by
 subst hK
 intro pins s σ H xs us Q I r h
 obtain ⟨a, bs, rfl, hq, q⟩ := h
 obtain ⟨u, rfl, ru⟩ := vals1 r
 cases ru
 obtain ⟨its, rv, p, hz⟩ := I.list hq
 have ei := sR rv
 have hl := p.isList
 have lt : a < s.heap.objs.size := by obtain ⟨_, e, _⟩ := hl; exact Heap.lt_size e
 refine call_all_walk (wpAny_pyIter_list hl ?_)
 refine ⟨s.heap.objs.size, [s.heap.objs.size, a], [s.heap.objs.size], its.toArray.size, _, _, fun i => (bs[i]?).getD false, rfl, Walks.list (A := X.A.in1) (I.ok.hd hc) _ a (Nat.ne_of_lt lt) its.toArray,
  ⟨⟨_, Heap.get?_push_size _ rfl, rfl, rfl⟩, hl.push _⟩, fun i v s' Q' E' hP hQ => ?_, fun h' tk hk => ?_⟩
 ·have e : its[i]? = some v := by simpa using hP
  rw [ei, List.getElem?_map] at e
  cases eb : bs[i]? with
  | none => rw [eb] at e; cases e
  | some b =>
   have hQ : Q' ((bs[i]?).getD false) s' := hQ
   rw [eb] at e hQ
   cases e
   exact wpAny_truthy_bool hQ
 ·have e : its.toArray.size = bs.length := by rw [List.size_toArray, ei, List.length_map]
  rw [e, all_range]
  exact ⟨.bl (bs.all id), H, I.kept (kA hk), rfl, q⟩
def x4 : V -> List V -> Hp -> VK -> Prop := fun x xs H Q => ∃ z y, x = .str z /\ xs = [.str y] /\ Q (.bl (Txt.startswith z y)) H
theorem yP : MtR X "str.startswith" x4 := by
 intro pins s σ H x xs v us Q I rx rs h
 obtain ⟨z, y, rfl, rfl, q⟩ := h
 obtain ⟨t, rfl⟩ := rx
 obtain ⟨u, rfl, ⟨t', rfl⟩⟩ := vals1 rs
 exact SC.startswith ⟨.bl _, H, I, rfl, q⟩
theorem kJ : ∀ (ys : List Str) (n : Nat), Vals (ys.map V.str) (strsFrom n ys)
 | [], _ => .nil
 | y :: ys, n => .cons ⟨n, rfl⟩ (kJ ys (n + 1))
def aC6 : V -> List V -> Hp -> VK -> Prop := fun x xs H Q => ∃ z y, x = .str z /\ xs = [.str y] /\ (y.length == 0) = false /\ z.length + 2 <= sizeLine /\ ∀ p, H p = none -> Q (.ref p) (upd H p (.lst ((Txt.split z y).map V.str)))
theorem j4 : MtR X "str.split" aC6 := by
 intro pins s σ H x xs v us Q I rx rs h
 obtain ⟨z, y, rfl, rfl, hy, hz, q⟩ := h
 obtain ⟨t, rfl⟩ := rx
 obtain ⟨u, rfl, ⟨t', rfl⟩⟩ := vals1 rs
 have q := q _ (I.hok.fresh (Nat.le_refl _))
 have one : ∀ S : PySem.Spec, S = listOfItself z t -> Meets (Builtin.«str.split» { pos := [Value.str z t, Value.str y t'] }) S -> Txt.split z y = [z] -> wpAny (model X.prog X.w) X.A (call (.builtin "str.split") [Value.str z t, Value.str y t']) (EP X pins σ Q) X.xe s := fun S eS hm e => by
  rw [e] at q
  subst eS
  refine call_meets F.slot_str_split (typeIs_str s z t) F.entry_str_split (F.args_str_split_2 _ _) hm ?_
  exact ⟨.ref s.heap.objs.size, _, I.laid (t' := s.toks) (o := .lst [V.str z]) (fun b ob q => Heap.get?_push_of_some _ q) (Nat.le_refl _) ⟨by rw [List.length_singleton]; omega, [Value.str z t], 0, .cons ⟨t, rfl⟩ .nil, Heap.get?_push_size _ rfl⟩, rfl, q⟩
 by_cases c1 : (decide (z.length < y.length) || decide (Builtin.Str.strKind z < Builtin.Str.strKind y)) = true
 ·exact one _ rfl (meets_str_split_cannot_occur z y t t' c1) (by unfold Txt.split; rw [if_pos c1])
 ·have c1' := Bool.eq_false_iff.mpr c1
  by_cases c2 : (Builtin.Str.occurrences z y 0 z.length (z.length + 1)).isEmpty = true
  ·exact one _ rfl (meets_str_split_not_found z y t t' c1' hy c2) (by unfold Txt.split; rw [if_neg c1, if_pos c2])
  ·have c2' := Bool.eq_false_iff.mpr c2
   have e : Txt.split z y = Builtin.Str.partsBetween z (Builtin.Str.occurrences z y 0 z.length (z.length + 1)) y.length := by unfold Txt.split; rw [if_neg c1, if_neg c2]
   have ln : (Builtin.Str.partsBetween z (Builtin.Str.occurrences z y 0 z.length (z.length + 1)) y.length).length <= sizeLine := by
    rw [length_partsBetween]
    have := StrLaws.occ_length_le_len z y 0 z.length (z.length + 1)
    omega
   rw [e] at q
   refine call_meets F.slot_str_split (typeIs_str s z t) F.entry_str_split (F.args_str_split_2 _ _) (meets_str_split_sep z y t t' c1' hy c2' (by omega) ln) ?_
   exact ⟨.ref s.heap.objs.size, _, I.laid (o := .lst ((Builtin.Str.partsBetween z (Builtin.Str.occurrences z y 0 z.length (z.length + 1)) y.length).map V.str)) (fun b ob q => Heap.get?_push_of_some _ q) (Nat.le_refl _) ⟨by rw [List.length_map]; exact ln, _, 0, kJ _ s.toks, Heap.get?_push_size _ rfl⟩, rfl, q⟩
theorem nQ : ∀ {ys : List Str} {us : List Value}, Vals (ys.map V.str) us -> StrsAre us ys
 | [], _, .nil => .nil
 | y :: ys, _, .cons ⟨t, e⟩ r => by subst e; exact .cons y t (nQ r)
def rJoin (K : PySem.W.Frag) : V -> List V -> Hp -> VK -> Prop := fun x xs H Q => ∃ z a ys, x = .str z /\ xs = [.ref a] /\ SqL K H a (ys.map V.str) /\ (List.map (fun x => x.length) ys).sum + ys.length * z.length <= 16777216 /\ Q (.str (Txt.join z ys)) H
theorem oV : MtR X "str.join" (rJoin X.K) := by
 intro pins s σ H x xs v us Q I rx rs h
 obtain ⟨z, a, ys, rfl, rfl, hq, hs, q⟩ := h
 obtain ⟨t, rfl⟩ := rx
 obtain ⟨u, rfl, ru⟩ := vals1 rs
 cases ru
 obtain ⟨its, rv, p, hz⟩ := I.list hq
 refine join_list p.isList (nQ rv) hs fun t' k => ⟨.str (Txt.join z ys), H, I.tok _, ⟨t', rfl⟩, q⟩
def aJv : List V -> Hp -> VK -> Prop := fun xs H Q => ∃ z n, xs = [.str z] /\ intText? z = some n /\ z.length <= 640 /\ Q (.int n) H
theorem xW : CallR X (.type "int") aJv := by
 intro pins s σ H xs us Q I r h
 obtain ⟨z, n, rfl, hn, hl, q⟩ := h
 obtain ⟨u, rfl, ⟨t, rfl⟩⟩ := vals1 r
 exact W.KIN.call_text hn hl ⟨.int n, H, I.tok _, ⟨_, rfl⟩, q⟩
def aM2 : V -> Option Int -> Option Int -> Hp -> VK -> Prop := fun x lo hi H Q => ∃ z, x = .str z /\ z.length <= sizeLine /\ Q (.str (Txt.slice z lo hi)) H
theorem rH {v : Value} {o : Option Int} (h : IsPart v o) : ∃ p : Option (Int × Tok), partValue p = v /\ p.map (·.1) = o := by
 cases h with
 | none => exact ⟨none, rfl, rfl⟩
 | int i t => exact ⟨some (i, t), rfl, rfl⟩
theorem aIt : SlR X aM2 := by
 intro pins s σ H x v vl vu lo hi sl Q I rx hs pl pu h
 obtain ⟨z, rfl, hz, q⟩ := h
 obtain ⟨t, rfl⟩ := rx
 obtain ⟨l, rfl, el⟩ := rH pl
 obtain ⟨u, rfl, eu⟩ := rH pu
 refine ⟨"str", _, slot_str_getitem.lookup, typeIs_str s z t, ?_⟩
 refine wpAny_getItem_str_slice (st := none) (show s.heap.IsSlice sl l u none from hs) rfl ?_
 unfold Txt.slice at q
 unfold sliceMade slicePicked
 rw [el, eu, show (Option.map (fun x : Int × Tok => x.fst) none).getD (1 : Int) = 1 from rfl]
 by_cases c : ((1 : Int) == 1 && (Builtin.Str.strSliceIndices lo hi 1 z.length).length == z.length) = true
 ·rw [if_pos c] at q
  rw [if_pos c]
  exact ⟨.str z, H, I, ⟨t, rfl⟩, q⟩
 ·rw [if_neg c] at q
  rw [if_neg c]
  have le := Txt.slice_le z lo hi
  unfold Txt.slice at le
  rw [if_neg c] at le
  exact ⟨Nat.le_trans le hz, .str _, H, I.tok _, ⟨_, rfl⟩, q⟩
def Its (z : Str) : It := ⟨fun i _ => i < z.cps.size, fun i H x H' => H' = H /\ ∃ c, z.cps[i]? = some c /\ x = .str ⟨#[c]⟩, fun i _ => z.cps.size <= i⟩
theorem aCa {P : Program} {w : World} {K : PySem.W.Frag} {tg : Expr} (it : Addr) (z : Str) (t : Tok) : Turn P w K tg (Its z) [it] it (fun i h => h.IsStrIter it (strIterType z) z t i) := by
 have ks : strIterType z = "str_ascii_iterator" \/ strIterType z = "str_iterator" := by
  unfold strIterType
  split
  ·exact .inl rfl
  ·exact .inr rfl
 have W : ∀ {A : Around}, A.handled = none -> Walks P w A it [it] [it] z.cps.size (SignAt z) (fun i h => h.IsStrIter it (strIterType z) z t i) := fun {A} hA => by
  rcases ks with e | e <;> rw [e]
  ·exact Walks.strAscii hA it z t
  ·exact Walks.strWide hA it z t
 refine ⟨by simp, fun i h st b hb => ?_, fun i h h' st k => ?_, ?_, ?_, fun A i s Q E st h => ?_⟩
 ·have e : b = it := by simpa using hb
  subst e
  obtain ⟨o, e, c, d⟩ := st
  exact ⟨o, e, fun v z => by rw [d] at z; cases z⟩
 ·obtain ⟨o, e, c, d⟩ := st
  exact ⟨o, k it (by simp) o e, c, d⟩
 ·intro X hP hw hK hc i pins s σ H E I hf st hg
  subst hP hw hK
  obtain ⟨f0, f1, f2, f3, f4, f5⟩ := hf it (by simp)
  refine (W (I.ok.hd hc)).item i s _ _ hg st fun v h' tk hv st' kk => ?_
  obtain ⟨c, u, ec, rfl⟩ := hv
  have I1 : Inv X pins σ H { s with heap := h', toks := tk } := I.turned (fun b o hb e => kk b o (by simpa using hb) e) f0 f1 f3 f4 f5
  obtain ⟨o, eo, co, d⟩ := id st'
  refine ⟨_, rfl, aCt (s := { s with heap := h', toks := tk }) (n := strIterType z) eo co d ?_ ⟨.str ⟨#[c]⟩, H, I1, ⟨u, rfl⟩, ⟨rfl, c, ec, rfl⟩, st', fun b hb => (hf b hb).1⟩⟩
  rcases ks with e | e <;> rw [e] <;> decide
 ·intro X hP hw hK hc i pins s σ H E I hf st hg
  subst hP hw hK
  obtain ⟨f0, f1, f2, f3, f4, f5⟩ := hf it (by simp)
  have en : z.cps[i]? = none := Array.getElem?_eq_none hg
  rcases ks with e | e
  ·rw [e] at st
   exact wpAny_pyNext_ascii_end (I.ok.hd hc) st en fun h' eb => ⟨rfl, I.turned (t' := s.toks) (fun b o hb e => eb b o hb e) f0 f1 f3 f4 f5⟩
  ·rw [e] at st
   exact wpAny_pyNext_wide_end (I.ok.hd hc) st en fun h' eb => ⟨rfl, I.turned (t' := s.toks) (fun b o hb e => eb b o hb e) f0 f1 f3 f4 f5⟩
 ·rcases ks with e | e <;> rw [e] at st
  ·exact wpAny_pyIter_striter_ascii st h
  ·exact wpAny_pyIter_striter_wide st h
def aNa (tl : TE) : TI := fun σ H R => tl σ H fun x H1 => ∃ z, x = .str z /\ R (Its z) H1
theorem aJr {l : Expr} {tl : TE} (hl : PE X l tl) : PI X tg l (aNa tl) := by
 intro pins s σ H R I h
 refine thn (hl pins s σ H _ I h) fun v s1 ⟨x, H1, I1, r1, q1⟩ => ?_
 obtain ⟨z, rfl, q⟩ := q1
 obtain ⟨t, rfl⟩ := r1
 refine wpAny_pyIter_strU ?_
 refine ⟨s1.heap.objs.size, [s1.heap.objs.size], _, _, H1, rfl, I1.kept (t' := s1.toks) fun b o e => Heap.get?_push_of_some _ e, aCa _ z t, ⟨_, Heap.get?_push_size _ rfl, rfl, rfl⟩, fun b hb => ?_, q⟩
 have e : b = s1.heap.objs.size := by simpa using hb
 subst e
 exact I1.fpOk (Nat.le_refl _) (I1.hok.fresh (Nat.le_refl _))
end
end L2
namespace M
open PySem PySem.Spec PyProof.Rows L2
section
variable {K : PySem.W.Frag}
def aD5 (rs : List Ev) : Res Ev := match rs with
 | [x] => match iE x with
  | some ds => match oM ds with
   | some bs => .ok (.p (.bool (bs.all id)))
   | none => .bad
  | none => .bad
 | _ => .bad
theorem aD8 : tH aD5 := by
 intro rs C h
 unfold aD5 at h
 split at h
 ·split at h
  ·split at h <;> cases h
  ·cases h
 ·cases h
theorem aJg : jN K (aMe K) aD5 := by
 intro W Hs G H vs rs Q gh he hw
 unfold aD5 at hw
 split at hw
 ·rename_i x
  match vs, he with
  | [v], ⟨h1, _⟩ =>
   split at hw
   ·rename_i ds ed
    obtain ⟨a, xs, rfl, k1, k2⟩ := n4 gh h1 ed
    split at hw
    ·rename_i bs eb
     have := o8 eb k2
     subst this
     exact ⟨a, bs, rfl, .inl k1, hw G H _ (Step.refl gh) (.bl _)⟩
    ·exact hw.elim
   ·exact hw.elim
 ·exact hw.elim
def lD (rs : List Ev) : Res Ev := match rs with
 | [.p (.int i)] => .ok (.p (.int i))
 | [.p (.bool k)] => .ok (.p (.int (if k then 1 else 0)))
 | [.p (.str z)] => match intText? z with
  | some n => if z.length <= 640 then .ok (.p (.int n)) else .bad
  | none => .bad
 | _ => .bad
theorem iW : tH lD := by
 intro rs C h
 unfold lD at h
 split at h
 ·cases h
 ·cases h
 ·split at h
  ·split at h <;> cases h
  ·cases h
 ·cases h
def aGz : List V -> Hp -> VK -> Prop := fun xs H Q => ((∃ i, xs = [.int i] /\ Q (.int i) H) \/ ∃ k, xs = [.bl k] /\ Q (.int (if k then 1 else 0)) H) \/ aJv xs H Q
theorem gI {X : Cx} : CallR X (.type "int") aGz := call_int1.or xW
theorem kO : jN K aGz lD := by
 intro W Hs G H vs rs Q gh he hw
 unfold lD at hw
 split at hw
 ·rename_i i
  match vs, he with
  | [v], ⟨h1, _⟩ => cases h1; exact .inl (.inl ⟨i, rfl, hw G H _ (Step.refl gh) (.int _)⟩)
 ·rename_i k
  match vs, he with
  | [v], ⟨h1, _⟩ => cases h1; exact .inl (.inr ⟨k, rfl, hw G H _ (Step.refl gh) (.int _)⟩)
 ·rename_i z
  match vs, he with
  | [v], ⟨h1, _⟩ =>
   cases h1
   split at hw
   ·rename_i n en
    split at hw
    ·rename_i hl
     exact .inr ⟨z, n, rfl, en, hl, hw G H _ (Step.refl gh) (.int _)⟩
    ·exact hw.elim
   ·exact hw.elim
 ·exact hw.elim
def isStr : Ev -> Bool
 | .p (.str _) => true
 | _ => false
def s9 (op : Ev -> Ev -> Res Ev) (fo fe : En -> Res Ev) : En -> Res Ev := fun en => (fo en).bind fun x => if isStr x.c = true then (fe en).bind fun y => op x.c y.c else .bad
theorem jA {X : Cx} {E : L2.St -> XK} {o e : Expr} {fo fe : En -> Res Ev} {name : Str} {id : String} {apos cpos : Pos} {r : V -> List V -> Hp -> VK -> Prop} {f : Ev -> Ev -> Res Ev} (slot : PySem.Slot "str" name id) (hty : typeOf (.builtin id) = pure (.type "method_descriptor")) (hm : MtR X id r) (hM : OpM X.K (fun v u H Q => r v [u] H Q) f) (hn : NoX f) (ho : DE X E o fo) (ha : DE X E e fe)
  (hbase : attributeBase o name X.env (eval o X.env) = eval o X.env := by rfl)
  (hfew : ((backTo cpos (starEach [e] X.env)).all (fun x => !x.1) && (backToKw cpos (keywordEach [] X.env)).all (fun x => x.1.isSome)
   && decide ([e].length + ([] : List Keyword).length + (if ([] : List Keyword).isEmpty then 0 else 1) < 30)) = true := by rfl)
  (hline : (apos.endLine == cpos.line) = true := by rfl) (hs : starEach [e] X.env = (false, eval e X.env) :: starEach [] X.env := by rfl) (hplain : (backTo cpos (starEach [] X.env)).any (·.1) = false := by rfl) :
  DE X E (.Call (.Attribute o name apos) [e] [] cpos) (s9 f fo fe) := by
 obtain ⟨to, po, mo⟩ := ho.out
 obtain ⟨te, pe, me⟩ := ha.out
 refine DE.in ⟨_, aJi PySem.F.plainAttrs_str slot hty hm po (mK pe uS hs) hbase hfew hline hs hplain, fun B G0 G W H σ en Q hh hs' hw => ?_⟩
 refine mo B G0 G W H σ en _ hh hs' (DE.go hw fun x G1 H1 v s1 e1 h1 => ?_)
 split at h1
 ·rename_i hx
  obtain ⟨z, ex⟩ : ∃ z, x.c = .p (.str z) := by
   unfold isStr at hx
   split at hx
   ·rename_i z e; exact ⟨z, e⟩
   ·cases hx
  have e1' := e1
  rw [ex] at e1'
  cases e1'
  refine ⟨rfl, ?_⟩
  refine me B G0 G1 W H1 σ en _ (hh.step s1) (hs'.step s1) (DE.go h1 fun y G2 H2 u s2 e2 h2 => ?_)
  exact hM W G2 H2 (.str z) u x y Q s2.gh (e1.step s2) (by cases y <;> exact e2) (noX h2 (hn _ _))
 ·exact h1.elim
def wN (x y : Ev) : Res Ev := match x, y with
 | .p (.str z), .p (.str w) => .ok (.p (.bool (Txt.startswith z w)))
 | _, _ => .bad
theorem wK : NoX wN := by
 intro x y C h
 unfold wN at h
 split at h <;> cases h
theorem y3 : OpM K (fun v u H Q => x4 v [u] H Q) wN := by
 intro W G H v u x y Q gh hx hy hw
 unfold wN at hw
 split at hw
 ·rename_i i j ex ey
  rw [ex] at hx
  rw [ey] at hy
  cases hx
  cases hy
  exact ⟨i, j, rfl, rfl, hw G H _ (Step.refl gh) (.bl _)⟩
 ·exact hw.elim
def gK (x y : Ev) : Res Ev := match x, y with
 | .p (.str z), .p (.str w) => if (w.length == 0) = false /\ z.length + 2 <= sizeLine then .ok (.f (.list ((Txt.split z w).map PyData.str))) else .bad
 | _, _ => .bad
theorem iF : NoX gK := by
 intro x y C h
 unfold gK at h
 split at h
 ·split at h <;> cases h
 ·cases h
theorem uA {G : Hp} : ∀ ys : List Str, Reps K G (ys.map V.str) (ys.map PyData.str)
 | [] => .nil
 | y :: ys => .cons (.str y) (uA ys)
theorem j5 : OpM K (fun v u H Q => aC6 v [u] H Q) gK := by
 intro W G H v u x y Q gh hx hy hw
 unfold gK at hw
 split at hw
 ·rename_i z w ex ey
  rw [ex] at hx
  rw [ey] at hy
  cases hx
  cases hy
  split at hw
  ·rename_i hc
   exact ⟨z, w, rfl, rfl, hc.1, hc.2, fun p hp => hw _ _ _ (Step.lay gh hp) ⟨p, _, rfl, hp, gh.free hp, bM, .lst (uA _)⟩⟩
  ·exact hw.elim
 ·exact hw.elim
def strsOf : List D -> Option (List Str)
 | [] => some []
 | .str z :: ds => match strsOf ds with
  | some zs => some (z :: zs)
  | none => none
 | _ => none
theorem rB {G : Hp} : ∀ {ds : List D} {zs : List Str} {xs : List V}, strsOf ds = some zs -> Reps K G xs ds -> xs = zs.map V.str
 | [], _, _, h, .nil => by cases h; rfl
 | d :: ds, zs, _, h, .cons r t => by
  unfold strsOf at h
  cases d with
  | str z =>
   dsimp only at h
   cases e : strsOf ds with
   | none => rw [e] at h; cases h
   | some ys =>
    rw [e] at h
    cases h
    cases r
    rw [rB e t]
    rfl
  | _ => cases h
theorem nY : ∀ zs : List Str, strsOf (zs.map PyData.str) = some zs
 | [] => rfl
 | z :: zs => by rw [List.map_cons, strsOf, nY zs]
def kQ (x y : Ev) : Res Ev := match x with
 | .p (.str z) => match iE y with
  | some ds => match strsOf ds with
   | some ys => if (List.map (fun x => x.length) ys).sum + ys.length * z.length <= 16777216 then .ok (.p (.str (Txt.join z ys))) else .bad
   | none => .bad
  | none => .bad
 | _ => .bad
theorem lQ : NoX kQ := by
 intro x y C h
 unfold kQ at h
 split at h
 ·split at h
  ·split at h
   ·split at h <;> cases h
   ·cases h
  ·cases h
 ·cases h
theorem oW : OpM K (fun v u H Q => rJoin K v [u] H Q) kQ := by
 intro W G H v u x y Q gh hx hy hw
 unfold kQ at hw
 split at hw
 ·rename_i z ex
  rw [ex] at hx
  cases hx
  split at hw
  ·rename_i ds ed
   obtain ⟨a, xs, rfl, k1, k2⟩ := n4 gh hy ed
   split at hw
   ·rename_i ys es
    have := rB es k2
    subst this
    split at hw
    ·rename_i hl
     exact ⟨z, a, ys, rfl, rfl, .inl k1, hl, hw G H _ (Step.refl gh) (.str _)⟩
    ·exact hw.elim
   ·exact hw.elim
  ·exact hw.elim
 ·exact hw.elim
def aHi (fe : En -> Res Ev) (fl fh : En -> Res (Option Int)) : En -> Res Ev := fun en => (fe en).bind fun x => (fl en).bind fun l => (fh en).bind fun u => match x.c with
 | .p (.str z) => if z.length <= sizeLine then .ok (.p (.str (Txt.slice z l u))) else .bad
 | _ => .bad
theorem aIx {X : Cx} {E : L2.St -> XK} {e : Expr} {lo hi : Option Expr} {fe : En -> Res Ev} {fl fh : En -> Res (Option Int)} {p2 pos : Pos} (he : DE X E e fe) (hl : DP X E lo fl) (hu : DP X E hi fh) : DE X E (.Subscript e (.Slice lo hi none p2) pos) (aHi fe fl fh) := by
 obtain ⟨t, p, m⟩ := he.out
 refine DE.in ⟨_, uU aIt p hl hu, fun B G0 G W H σ en Q hh hs hw => ?_⟩
 unfold aHi at hw
 refine m B G0 G W H σ en _ hh hs (DE.go hw fun x G1 H1 v s1 e1 h1 => ?_)
 refine ⟨B, G0, G1, W, en, hh.step s1, hs.step s1, ?_⟩
 rw [bA] at h1
 refine aT h1 (fun l hx G2 H2 s2 => ?_) fun C h => h
 refine ⟨B, G0, G2, W, en, (hh.step s1).step s2, (hs.step s1).step s2, ?_⟩
 have hx' := aT hx (fun r h => h.step s2) (fun C h => h.step s2)
 rw [bA] at hx'
 refine aT hx' (fun u hy G3 H3 s3 => ?_) fun C h => h
 have e3 := e1.step (Hs' := H) (s2.trans s3)
 split at hy
 ·rename_i z ex
  rw [ex] at e3
  cases e3
  split at hy
  ·rename_i hz
   exact ⟨z, rfl, hz, hy G3 H3 _ s3 (.str _)⟩
  ·exact hy.elim
 ·exact hy.elim
def signs (z : Str) : List D := z.cps.toList.map fun c => .str ⟨#[c]⟩
def aKk (r : Ev) : Res (List D) := match r with
 | .p (.str z) => .ok (signs z)
 | _ => .bad
def aJx (fe : En -> Res Ev) : En -> Res (List D) := fun en => (fe en).bind fun r => aKk r.c
theorem aIl {X : Cx} {E : L2.St -> XK} {tg e : Expr} {fe : En -> Res Ev} (he : DE X E e fe) : DI X E tg e (aJx fe) := by
 obtain ⟨t, p, m⟩ := he.out
 refine DI.in ⟨_, aJr p, fun B G0 G W H σ en R hh hs hw => m B G0 G W H σ en _ hh hs ?_⟩
 have hw : wpR ((fe en).bind _) _ _ := hw
 rw [bA] at hw
 refine aT hw (fun r hr G1 H1 v s e => ?_) fun C h => h
 obtain ⟨G2, s2, e2⟩ := e.c s
 unfold aKk at hr
 split at hr
 ·rename_i z er
  rw [er] at e2
  cases e2
  have hl : (signs z).length = z.cps.size := by unfold signs; rw [List.length_map, Array.length_toList]
  refine ⟨z, rfl, hr G2 H1 _ s2 fun G3 H3 k1 k2 => ⟨fun i d ed => ?_, by show z.cps.size <= _; rw [hl]; exact Nat.le_refl _⟩⟩
  unfold signs at ed
  rw [List.getElem?_map, Array.getElem?_toList] at ed
  cases ec : z.cps[i]? with
  | none => rw [ec] at ed; cases ed
  | some c =>
   rw [ec] at ed
   cases ed
   refine ⟨(Array.getElem?_eq_some_iff.mp ec).1, fun v H' hy => ?_⟩
   obtain ⟨rfl, c', ec', rfl⟩ := hy
   rw [ec] at ec'
   cases ec'
   exact ⟨G3, Step.refl k2, .str _⟩
 ·exact hr.elim
theorem uL {X : Cx} {E : L2.St -> XK} {pos : Pos} {x : Str} {z : Str} {t : Tok} (hg : Gl X x) (hm : X.mg x = some (.str z t)) (hd : (x == ("__debug__" : Str)) = false := by decide) : DE X E (.Name x pos) (mC (.str z)) := DE.in ⟨_, aA5 (v := .str z) hg hm ⟨t, rfl⟩ hd, gJ fun _ => .str z⟩
def aKc : MS := fun _ => none
theorem aFu {X : Cx} {E : L2.St -> XK} {st : Stmt} : DS X E st aKc := fun pins s σ H Q I h => by
 obtain ⟨_, _, _, _, _, _, _, hw⟩ := h
 exact hw.elim
end
end M
namespace N
open PySem PySem.Spec PyProof.Rows L2 M
def frD (x : Int × Int) : D := .tuple [.int x.1, .int x.2]
abbrev Pl := Int × Int × (Int × Int)
def plD (p : Pl) : D := .tuple [.int p.1, .int p.2.1, frD p.2.2]
def slD (p : Int × Int) : D := .tuple [.int p.1, .int p.2]
theorem at0 {α : Type} (x : α) (r : List α) : atI (x :: r) 0 = some x := tL (j := 0) rfl
theorem at1 {α : Type} (x y : α) (r : List α) : atI (x :: y :: r) 1 = some y := tL (j := 1) rfl
theorem at2 {α : Type} (x y z : α) (r : List α) : atI (x :: y :: z :: r) 2 = some z := tL (j := 2) rfl
theorem mG (i j : Int) : PyData.eqv (.int i) (.int j) = (i == j) := by simp [PyData.eqv]
theorem nE (i : Int) : SeqAt.shaped (.int i) = true := by simp [SeqAt.shaped, PyData.canLay0, PyData.depth]
def aKa {α : Type} (f : D -> Option α) : List D -> Option (List α)
 | [] => some []
 | d :: r => match f d with
  | none => none
  | some a => match aKa f r with
   | none => none
   | some as => some (a :: as)
theorem pO {α : Type} {f : D -> Option α} {enc : α -> D} (h : ∀ a, f (enc a) = some a) : ∀ xs : List α, aKa f (xs.map enc) = some xs
 | [] => rfl
 | x :: xs => by
  show (match f (enc x) with | none => none | some a => match aKa f (xs.map enc) with | none => none | some as => some (a :: as)) = _
  rw [h x, pO h xs]
def aNe : D -> Option (Int × Int)
 | .tuple [.int a, .int b] => some (a, b)
 | _ => none
def aK1 : D -> Option Pl
 | .tuple [.int i, .int j, .tuple [.int a, .int b]] => some (i, j, (a, b))
 | _ => none
theorem uR (x : Pl) : aK1 (plD x) = some x := rfl
theorem eW {α : Type} {g : D -> Option (Option D)} {enc : α -> D} {out : α -> D} : ∀ xs : List α, (∀ x ∈ xs, g (enc x) = some (some (out x))) -> wA g (xs.map enc) = some (xs.map out)
 | [], _ => rfl
 | x :: xs, h => by
  show (match g (enc x) with | none => none | some o => match wA g (xs.map enc) with | none => none | some r => some (match o with | some y => y :: r | none => r)) = _
  rw [h x (.head _), eW xs fun y hy => h y (.tail _ hy)]
  rfl
def ltF (x y : Int × Int) : Bool := decide (x.1 * y.2 < y.1 * x.2)
def FSz (n : Nat) (x : Int × Int) : Prop := Sz n x.1 /\ Sz n x.2
def hT (i : Int) (x : Int × Int) : Int × Int := FR.mk (i * x.1) (1 * x.2)
def hP (x y : Int × Int) : Int × Int := FR.mk (x.1 * y.2 + y.1 * x.2) (x.2 * y.2)
open Classical in
noncomputable def mOf {α : Type} (enc : α -> List L) (P : α -> Prop) (g : α -> Res L) (ls : List L) : Res L := if h : ∃ a, enc a = ls /\ P a then g h.choose else .bad
theorem nD {α : Type} {enc : α -> List L} {P : α -> Prop} {g : α -> Res L} (inj : ∀ a b, enc a = enc b -> a = b) {a : α} (h : P a) : mOf enc P g (enc a) = g a := by
 have hx : ∃ b, enc b = enc a /\ P b := ⟨a, rfl, h⟩
 unfold mOf
 rw [dif_pos hx, inj _ _ hx.choose_spec.1]
theorem mI {α : Type} {enc : α -> List L} {P : α -> Prop} {g : α -> Res L} {n : Nat} {f : MS} (h : ∀ a, P a -> dU n f (enc a) = g a) : ∀ ls, mOf enc P g ls = .bad \/ dU n f ls = mOf enc P g ls := by
 intro ls
 unfold mOf
 by_cases hx : ∃ a, enc a = ls /\ P a
 ·rw [dif_pos hx]
  exact .inr ((congrArg _ hx.choose_spec.1.symm).trans (h _ hx.choose_spec.2))
 ·exact .inl (dif_neg hx)
theorem frI {a b : Int × Int} (h : frD a = frD b) : a = b := Option.some.inj (congrArg aNe h)
theorem plI {a b : Pl} (h : plD a = plD b) : a = b := Option.some.inj (congrArg aK1 h)
theorem aM9 {a b : List Pl} (h : a.map plD = b.map plD) : a = b := by
 have e := congrArg (aKa aK1) h
 rw [pO uR, pO uR] at e
 exact Option.some.inj e
theorem nI (a : D) (r : List D) : ixE (.p (.tuple (a :: r))) (.p (.int 0)) = .ok (.p a) := by simp [ixE, i5, at0]
theorem nM (a b : D) (r : List D) : ixE (.p (.tuple (a :: b :: r))) (.p (.int 1)) = .ok (.p b) := by simp [ixE, i5, at1]
theorem aCd (a b d : D) (r : List D) : ixE (.p (.tuple (a :: b :: d :: r))) (.p (.int 2)) = .ok (.p d) := by simp [ixE, i5, at2]
theorem xO (p : Pl) : ixE (.p (plD p)) (.p (.int 0)) = .ok (.p (.int p.1)) := nI _ _
theorem w5 (p : Pl) : ixE (.p (plD p)) (.p (.int 1)) = .ok (.p (.int p.2.1)) := nM _ _ _
theorem yS (p : Pl) : ixE (.p (plD p)) (.p (.int 2)) = .ok (.p (frD p.2.2)) := aCd _ _ _ _
theorem aAj (p : Int × Int) : ixE (.p (frD p)) (.p (.int 0)) = .ok (.p (.int p.1)) := nI _ _
theorem aA8 (p : Int × Int) : ixE (.p (frD p)) (.p (.int 1)) = .ok (.p (.int p.2)) := nM _ _ _
section
variable {κ α : Type} [DecidableEq κ]
def eI : List (κ × α) -> κ -> Option α
 | [], _ => none
 | p :: r, k => if p.1 = k then some p.2 else eI r k
def yG (k : κ) (v : α) : List (κ × α) -> List (κ × α)
 | [] => []
 | p :: r => (if p.1 = k then (p.1, v) else p) :: yG k v r
def rQ (m : List (κ × α)) (k : κ) (v : α) : List (κ × α) := if (eI m k).isSome = true then yG k v m else m ++ [(k, v)]
def encM (ek : κ -> D) (ev : α -> D) (m : List (κ × α)) : List (D × D) := m.map fun p => (ek p.1, ev p.2)
variable {ek : κ -> D} {ev : α -> D} (inj : ∀ a b, ek a = ek b -> a = b)
include inj
theorem pC (k : κ) : ∀ m : List (κ × α), tZ (encM ek ev m) (ek k) = (eI m k).map ev
 | [] => rfl
 | p :: r => by
  unfold encM
  rw [List.map_cons]
  unfold tZ eI
  by_cases e : p.1 = k
  ·rw [if_pos (by rw [e]), if_pos e]; rfl
  ·rw [if_neg (fun z => e (inj _ _ z)), if_neg e]
   exact pC k r
theorem uN (k : κ) (v : α) : ∀ m : List (κ × α), aDz (ek k) (ev v) (encM ek ev m) = encM ek ev (yG k v m)
 | [] => rfl
 | p :: r => by
  have ih := uN k v r
  unfold encM at ih ⊢
  rw [List.map_cons]
  unfold aDz yG
  rw [List.map_cons, ih]
  by_cases e : p.1 = k
  ·rw [if_pos (by rw [e]), if_pos e]
  ·rw [if_neg (fun z => e (inj _ _ z)), if_neg e]
theorem aBj (k : κ) (v : α) (m : List (κ × α)) : aBe (encM ek ev m) (ek k) (ev v) = encM ek ev (rQ m k v) := by
 unfold aBe rQ
 rw [pC inj]
 cases e : eI m k with
 | none =>
  rw [if_neg (by simp), if_neg (by simp)]
  unfold encM
  rw [List.map_append]
  rfl
 | some x =>
  rw [if_pos (by rfl), if_pos (by rfl)]
  exact uN inj k v m
end
theorem o3 (a b : Int × Int) (h : slD a = slD b) : a = b := by
 unfold slD at h
 injection h with h
 injection h with h1 h2
 injection h2 with h2 _
 injection h1 with h1
 injection h2 with h2
 exact Prod.ext h1 h2
theorem nW {α : Type} {ev : α -> D} (m : List ((Int × Int) × α)) : dsp (encM slD ev m) = (false, encM slD ev m) := by
 cases m <;> rfl
theorem y7 (s : Int × Int) : (aGj (slD s)).isSome = true := rfl
theorem lP {α : Type} {ev : α -> D} (m : List ((Int × Int) × α)) (s : Int × Int) : sH (encM slD ev m) (slD s) = some ((eI m s).map ev) := by
 unfold sH
 rw [nW]
 dsimp only
 rw [if_pos (y7 s), pC o3]
theorem rS {α : Type} {ev : α -> D} (m : List ((Int × Int) × α)) (s : Int × Int) (v : α) (h : m.length <= 100000) : x9 (encM slD ev m) (slD s) (ev v) = some (encM slD ev (rQ m s v)) := by
 unfold x9
 rw [nW]
 dsimp only
 rw [if_pos ⟨y7 s, by unfold encM; rw [List.length_map]; exact h⟩, aBj o3]
theorem vP {α κ : Type} [DecidableEq κ] (k : κ) (v : α) : ∀ m : List (κ × α), (yG k v m).length = m.length
 | [] => rfl
 | _ :: r => by unfold yG; rw [List.length_cons, List.length_cons, vP k v r]
theorem vM {α κ : Type} [DecidableEq κ] (m : List (κ × α)) (k : κ) (v : α) : (rQ m k v).length <= m.length + 1 := by
 unfold rQ
 split
 ·rw [vP]; exact Nat.le_succ _
 ·rw [List.length_append]; exact Nat.le_refl _
theorem qW {α κ : Type} [DecidableEq κ] (k : κ) (v : α) (j : κ) : ∀ m : List (κ × α), eI (yG k v m) j = if j = k then (eI m k).map (fun _ => v) else eI m j
 | [] => by unfold yG eI; split <;> rfl
 | p :: r => by
  have ih := qW k v j r
  unfold yG eI
  by_cases e : p.1 = k
  ·rw [if_pos e]
   by_cases e2 : p.1 = j
   ·have : j = k := by rw [<- e2, e]
    rw [if_pos e2, if_pos this, if_pos e]; rfl
   ·have : j ≠ k := fun z => e2 (by rw [e, z])
    rw [if_neg e2, if_neg this, if_neg e2]
    rw [if_neg this] at ih
    exact ih
  ·rw [if_neg e]
   by_cases e2 : p.1 = j
   ·have : j ≠ k := fun z => e (by rw [e2, z])
    rw [if_pos e2, if_neg this, if_pos e2]
   ·rw [if_neg e2, ih]
    by_cases e3 : j = k
    ·rw [if_pos e3, if_pos e3, if_neg e]
    ·rw [if_neg e3, if_neg e3, if_neg e2]
theorem vA {α κ : Type} [DecidableEq κ] (j : κ) (l : List (κ × α)) : ∀ m : List (κ × α), eI (m ++ l) j = match eI m j with
  | some x => some x
  | none => eI l j
 | [] => rfl
 | p :: r => by
  have ih := vA j l r
  rw [List.cons_append]
  show (if p.1 = j then some p.2 else eI (r ++ l) j) = match (if p.1 = j then some p.2 else eI r j) with
   | some x => some x
   | none => eI l j
  by_cases e : p.1 = j
  ·rw [if_pos e, if_pos e]
  ·rw [if_neg e, if_neg e]; exact ih
theorem jZ {α κ : Type} [DecidableEq κ] (m : List (κ × α)) (k : κ) (v : α) (j : κ) : eI (rQ m k v) j = if j = k then some v else eI m j := by
 unfold rQ
 cases e : eI m k with
 | none =>
  rw [if_neg (by simp), vA]
  by_cases ej : j = k
  ·subst ej; rw [e, if_pos rfl]; unfold eI; rw [if_pos rfl]
  ·rw [if_neg ej]
   cases e2 : eI m j with
   | some x => rfl
   | none => unfold eI; rw [if_neg (fun z => ej z.symm)]; rfl
 | some x =>
  rw [if_pos (by rfl), qW]
  by_cases ej : j = k
  ·rw [if_pos ej, if_pos ej, e]; rfl
  ·rw [if_neg ej, if_neg ej]
def slp (p : Pl) : Int × Int := (p.1, p.2.1)
def kys {α : Type} (m : List ((Int × Int) × α)) : List (List Int) := m.map fun e => [e.1.1, e.1.2]
def un2 (k : List Int) : Int × Int := (k.getD 0 0, k.getD 1 0)
def aDn {α : Type} (m : List ((Int × Int) × α)) (d : α) (k : List Int) : α := (eI m (un2 k)).getD d
theorem aCe {α : Type} {ev : α -> D} (m : List ((Int × Int) × α)) : (encM slD ev m).map (·.1) = (kys m).map nS := by
 unfold encM kys
 rw [List.map_map, List.map_map]
 rfl
theorem aHp {α : Type} (m : List ((Int × Int) × α)) : ((kys m).all fun k => !k.isEmpty) = true := by
 unfold kys
 rw [List.all_map]
 exact List.all_eq_true.mpr fun _ _ => rfl
theorem qC {α : Type} {ev : α -> D} (m : List ((Int × Int) × α)) (h : m.length < 64) : dO [.p (.dict (encM slD ev m))] = .ok (.f (.list ((jL (kys m)).map nS))) := by
 unfold dO
 simp only [i3, nW, aCe, qZ]
 rw [if_pos trivial, if_pos ⟨aHp m, by unfold kys; rw [List.length_map]; exact h⟩]
theorem oH {α κ : Type} [DecidableEq κ] : ∀ {m : List (κ × α)} {e : κ × α}, e ∈ m -> ∃ v, eI m e.1 = some v
 | p :: r, e, h => by
  unfold eI
  by_cases q : p.1 = e.1
  ·rw [if_pos q]; exact ⟨_, rfl⟩
  ·rw [if_neg q]
   rcases List.mem_cons.mp h with z | z
   ·exact absurd (by rw [z]) q
   ·exact oH z
theorem u9 {α : Type} {m : List ((Int × Int) × α)} {k : List Int} (h : k ∈ jL (kys m)) (d : α) : nS k = slD (un2 k) /\ k = [(un2 k).1, (un2 k).2] /\ eI m (un2 k) = some (aDn m d k) := by
 have h1 := (dQ (kys m)).mem_iff.mp h
 obtain ⟨e, he, rfl⟩ := List.mem_map.mp h1
 obtain ⟨v, hv⟩ := oH he
 have hu : un2 [e.1.1, e.1.2] = e.1 := rfl
 refine ⟨rfl, rfl, ?_⟩
 unfold aDn
 rw [hu, hv]
 rfl
theorem rW {α : Type} (f : α -> Bool) : ∀ xs : List α, oM (xs.map fun x => PyData.bool (f x)) = some (xs.map f)
 | [] => rfl
 | x :: xs => by
  show (match oM (xs.map fun x => PyData.bool (f x)) with | some bs => some (f x :: bs) | none => none) = _
  rw [rW f xs]
  rfl
theorem any_map {α : Type} (f : α -> Bool) (xs : List α) : (xs.map f).any id = xs.any f := by rw [List.any_map]; rfl
theorem cm {i j : Int} {m n : Nat} (h1 : Sz m i) (h2 : Sz n j) (hm : m <= 60000) (hn : n <= 60000) : CMulW i j := ⟨h1.mono hm, h2.mono hn⟩
theorem cH {a b : Int} (hb : 0 < b) : 0 <= a.fmod b /\ a.fmod b < b := by
 rw [Int.fmod_eq_emod_of_nonneg a (Int.le_of_lt hb)]
 exact ⟨Int.emod_nonneg a (by omega), Int.emod_lt_of_pos a hb⟩
theorem aM {f g : MS} {en e1 : En} (h : f en = some (.nx e1)) : cO f g en = g e1 := by unfold cO; rw [h]
theorem qD {f g : MS} {en : En} {l : L} (h : f en = some (.rt l)) : cO f g en = some (.rt l) := by unfold cO; rw [h]
theorem fH {i : Nat} {fe : En -> Res Ev} {en : En} {d : D} (h : fe en = .ok (.p d)) : eR i fe en = some (.nx (en.set i (some (.p d)))) := by unfold eR; rw [h]
theorem i4 {i : Nat} {fe : En -> Res Ev} {en : En} {d : D} (h : fe en = .ok (.f d)) : eR i fe en = some (.nx (en.set i (some (.o d)))) := by unfold eR; rw [h]
theorem r8 {ft : En -> Res Bool} {f g : MS} {en : En} (h : ft en = .ok true) : gP ft f g en = f en := by unfold gP; rw [h]; rfl
theorem iX {ft : En -> Res Bool} {f g : MS} {en : En} (h : ft en = .ok false) : gP ft f g en = g en := by unfold gP; rw [h]; rfl
theorem bY {n : Nat} {f : MS} {ls : List L} {l : L} (h : f (bJ n ls) = some (.rt l)) : dU n f ls = .ok l := by unfold dU; rw [h]
theorem aNb {x : Int} (h0 : -100000 <= x) (h1 : x <= 100000) : Sz 100 x := by
 unfold Sz
 omega
theorem qN (C : Int) {b : Int} (h0 : 1 <= b) (h1 : b <= 100000) : kW C b := ⟨by omega, (aNb (by omega) h1).mono (by decide)⟩
theorem aAm {α : Type} (f : α -> D) (h : ∀ a, PyData.canLay0 (f a) = true) : ∀ xs : List α, PyData.canLayAll0 (xs.map f) = true
 | [] => rfl
 | x :: xs => by rw [List.map_cons, PyData.canLayAll0, h x, aAm f h xs]; rfl
theorem aAp {α : Type} (f : α -> D) (n : Nat) (h : ∀ a, PyData.depth (f a) <= n) : ∀ xs : List α, PyData.depthAll (xs.map f) <= n
 | [] => Nat.zero_le _
 | x :: xs => by
  rw [List.map_cons, PyData.depthAll]
  exact Nat.max_le.mpr ⟨h x, aAp f n h xs⟩
theorem aJk (p : Pl) : PyData.canLay0 (plD p) = true := by simp [plD, frD, PyData.canLay0, PyData.canLayAll0]
theorem aI1 (p : Pl) : PyData.depth (plD p) <= 9 := by simp [plD, frD, PyData.depth, PyData.depthAll]
theorem aE5 {α : Type} (f : α -> D) (h1 : ∀ a, PyData.canLay0 (f a) = true) (h2 : ∀ a, PyData.depth (f a) <= 9) (xs : List α) : SeqAt.shaped (.list (xs.map f)) = true := by
 have a : PyData.canLay0 (.list (xs.map f)) = true := by rw [PyData.canLay0]; exact aAm f h1 xs
 have b : PyData.depth (.list (xs.map f)) <= 64 := by
  rw [PyData.depth]
  have := aAp f 9 h2 xs
  omega
 unfold SeqAt.shaped
 rw [a, decide_eq_true b]
 rfl
theorem uX {x y : Ev} {d : D} (h1 : dat x = some d) (h2 : dat y = some d) (hs : SeqAt.shaped d = true) (ng : Bool) : eqE ng x y = .ok (.p (.bool (!ng))) := by
 have hc : PyData.canLay0 d = true := by
  unfold SeqAt.shaped at hs
  exact (Bool.and_eq_true_iff.mp hs).1
 unfold eqE
 rw [h1, h2]
 dsimp only
 rw [if_pos ⟨hs, hs⟩, SeqAt.eqv_refl d hc]
 cases ng <;> rfl
theorem aDa (ps : List Pl) : SeqAt.shaped (.list (ps.map plD)) = true := aE5 plD aJk aI1 ps
theorem wV {fi : En -> Res (List D)} {tg : D -> En -> Option En} {f : MS} {en : En} {ds : List D} (h : fi en = .ok ds) : aBd fi tg f en = iJ tg f ds en := by unfold aBd; rw [h]
theorem Sz.addM {m n : Nat} {x y : Int} (hx : Sz m x) (hy : Sz n y) : Sz (max m n + 1) (x + y) := Sz.add (hx.mono (Nat.le_max_left _ _)) (hy.mono (Nat.le_max_right _ _))
theorem cm2 {m n : Nat} {i j : Int} (h1 : Sz m i) (h2 : Sz n j) (hm : m <= 60000) (hn : n <= 60000) : CMulW i j := ⟨h1.mono hm, h2.mono hn⟩
theorem aDx {i j : Int} (h : CMulW i j) : k8 (.p (.int i)) (.p (.int j)) = .ok (.p (.int (i * j))) := by simp [k8, wX, h]
theorem iO {i j : Int} (h : kW i j) : jG (.p (.int i)) (.p (.int j)) = .ok (.p (.int (i.fdiv j))) := by simp [jG, wX, h]
theorem dM {i j : Int} (h : j ≠ 0) : iD (.p (.int i)) (.p (.int j)) = .ok (.p (.int (i.fmod j))) := by simp [iD, wX, h]
theorem jW {i j : Int} (h : aA9 i j) : uZ (.p (.int i)) (.p (.int j)) = .ok (.p (.int (i ^ j.toNat))) := by simp [uZ, wX, h]
theorem iG (i j : Int) : fK (.p (.int i)) (.p (.int j)) = .ok (.p (.int (i + j))) := by simp [fK]
theorem uT (i j : Int) : aF7 (.p (.int i)) (.p (.int j)) = .ok (.p (.int (i - j))) := by simp [aF7, kE]
def eII (a : Int × Int) : List L := [.p (.int a.1), .p (.int a.2)]
theorem aAd (a b : Int × Int) (h : eII a = eII b) : a = b := by
 unfold eII at h
 injection h with h1 h2
 injection h2 with h2 _
 injection h1 with h1
 injection h2 with h2
 injection h1 with h1
 injection h2 with h2
 exact Prod.ext h1 h2
def eFF (a : (Int × Int) × (Int × Int)) : List L := [.p (frD a.1), .p (frD a.2)]
theorem aFp (a b : (Int × Int) × (Int × Int)) (h : eFF a = eFF b) : a = b := by
 unfold eFF at h
 injection h with h1 h2
 injection h2 with h2 _
 injection h1 with h1
 injection h2 with h2
 exact Prod.ext (frI h1) (frI h2)
theorem xR {α β : Type} (a : α) (f : α -> Res β) : (Res.ok a).bind f = f a := rfl
theorem aBs {fe : En -> Res Ev} {en : En} {d : D} (h : fe en = .ok (.f d)) : eM fe en = some (.rt (.o d)) := by unfold eM; rw [h]; rfl
theorem eD {fe : En -> Res Ev} {en : En} {d : D} (h : fe en = .ok (.p d)) : eM fe en = some (.rt (.p d)) := by unfold eM; rw [h]; rfl
theorem j0 {n : Nat} {js : List Nat} {fi : En -> Res (List D)} {tg : D -> En -> Option En} {ft : En -> Res Bool} {fe : En -> Res Ev} {en : En} {ds es : List D} (h1 : fi en = .ok ds) (h2 : ds.length <= 100000) (h3 : wA (bZ n js tg ft fe en) ds = some es) : fD n js fi tg ft fe en = .ok (.f (.list es)) := by
 unfold fD
 rw [h1, xR]
 unfold aFt
 rw [if_pos h2, h3]
end N
local macro_rules | `(tactic| walk_at "z") => `(tactic| repeat (first | assumption | apply L2.Sz.mul | apply N.Sz.addM | apply N.Sz.subM | apply L2.Sz.neg | apply N.sz_fdiv | (apply N.sz_fmod; (first | decide | omega)) | exact N.sz_lit4 (by decide) | exact N.sz_lit (by decide) | exact N.sz_lit70 (by decide) | exact N.sz_big (by decide)))
local macro_rules | `(tactic| walk_at "d") => `(tactic| first | assumption | (first | apply N.cm2 | apply N.cd2) <;> (first | decide | omega | (walk_at "z")) | decide | omega)
namespace N
open PySem PySem.Spec PyProof.Rows L2 M
def leF (x y : Int × Int) : Prop := x.1 * y.2 <= y.1 * x.2
theorem hZ (x : Int × Int) : leF x x := Int.le_refl _
theorem aJt {x y : Int × Int} (h : ltF y x = false) : leF x y := by
 unfold ltF at h
 have := of_decide_eq_false h
 unfold leF
 omega
theorem aJ6 {x y : Int × Int} (h : ltF x y = true) : leF x y := by
 unfold ltF at h
 have := of_decide_eq_true h
 unfold leF
 omega
theorem lU {x y z : Int × Int} (hx : 1 <= x.2) (hy : 1 <= y.2) (hz : 1 <= z.2) (h1 : leF x y) (h2 : leF y z) : leF x z := by
 unfold leF at *
 have a := Int.mul_le_mul_of_nonneg_right h1 (show 0 <= z.2 by omega)
 have b := Int.mul_le_mul_of_nonneg_right h2 (show 0 <= x.2 by omega)
 refine Int.le_of_mul_le_mul_right (a := y.2) ?_ (by omega)
 have e1 : x.1 * z.2 * y.2 = x.1 * y.2 * z.2 := by ac_rfl
 have e2 : z.1 * x.2 * y.2 = z.1 * y.2 * x.2 := by ac_rfl
 have e3 : y.1 * x.2 * z.2 = y.1 * z.2 * x.2 := by ac_rfl
 omega
theorem zH {a b d : Int} (h : d ∣ a * b) (g : Int.gcd a d = 1) : d ∣ b := by
 have h1 : d.natAbs ∣ a.natAbs * b.natAbs := by
  rw [<- Int.natAbs_mul]
  exact Int.natAbs_dvd_natAbs.mpr h
 have c : Nat.Coprime d.natAbs a.natAbs := by
  show Nat.gcd d.natAbs a.natAbs = 1
  rw [Nat.gcd_comm]
  exact g
 exact Int.natAbs_dvd_natAbs.mp (Nat.Coprime.dvd_of_dvd_mul_left c h1)
theorem aHj {x y : Int × Int} (hx : FR.Fr x) (hy : FR.Fr y) (h1 : leF x y) (h2 : leF y x) : x = y := by
 have e : x.1 * y.2 = y.1 * x.2 := Int.le_antisymm h1 h2
 have p1 := hx.pos
 have p2 := hy.pos
 have d1 : x.2 ∣ y.2 := by
  have : x.2 ∣ x.1 * y.2 := ⟨y.1, by rw [e]; ac_rfl⟩
  exact zH this hx.low
 have d2 : y.2 ∣ x.2 := by
  have : y.2 ∣ y.1 * x.2 := ⟨x.1, by rw [<- e]; ac_rfl⟩
  exact zH this hy.low
 have eb : x.2 = y.2 := Int.dvd_antisymm (by omega) (by omega) d1 d2
 have et : x.1 = y.1 := by
  rw [eb] at e
  exact Int.eq_of_mul_eq_mul_right (by omega) e
 exact Prod.ext et eb
end N
namespace N
section
open PySem PySem.Spec PyProof.Rows L2 M
variable {en : En} {f g : En -> Res Ev} {x y : Ev} {o : Res Ev} {a b d r : D}
theorem aH {op : Ev -> Ev -> Res Ev} (h1 : f en = .ok x) (h2 : g en = .ok y) (h : op x.c y.c = o) : aL op f g en = o := by simp only [aL, h1, h2, Res.bind, h]
theorem aDw {op : Ev -> Res Ev} (h1 : f en = .ok x) (h : op x.c = o) : mUn op f en = o := by simp only [mUn, h1, Res.bind, h]
theorem cG {b : Bool} (h : f en = .ok (.p (.bool b))) : cU f en = .ok b := by simp only [cU, h, Res.bind, iK]
theorem iL {f : En -> Res Bool} (h : f en = .ok true) : mW f en = .ok false := by simp only [mW, h, Res.bind]; rfl
theorem wO {f g : En -> Res Bool} (h1 : f en = .ok false) (h2 : g en = .ok false) : mOr f g en = .ok false := by simp only [mOr, h1, h2, Res.bind]; rfl
theorem aHe {f g : En -> Res Bool} {o : Res Bool} (h1 : f en = .ok true) (h2 : g en = o) : aBc f g en = o := by simp only [aBc, h1, h2, Res.bind]; rfl
theorem aL7 {f g : En -> Res Bool} (h1 : f en = .ok false) : aBc f g en = .ok false := by simp only [aBc, h1, Res.bind]; rfl
theorem aV {g : En -> Res (List Ev)} {xs : List Ev} (h1 : f en = .ok x) (h2 : g en = .ok xs) : aB f g en = .ok (x.c :: xs) := by simp only [aB, h1, h2, Res.bind]
theorem aF2 {n : Nat} {m : List L -> Res L} {fr : En -> Res (List Ev)} {rs : List Ev} {ls : List L} {r : L} (h : fr en = .ok rs) (ha : gN wY rs = some ls) (hn : ls.length = n) (hm : m ls = .ok r) : a5 n m fr en = .ok (tM r) := by
 unfold a5
 rw [h]
 show kP n m rs = _
 unfold kP
 rw [ha]
 dsimp only
 rw [if_pos hn, hm]
 rfl
theorem aHy {n : Nat} {m : List L -> Res L} {fr : En -> Res (List Ev)} {rs : List Ev} {ls : List L} {r : L} (h : fr en = .ok rs) (h0 : gN wY rs = none) (ha : gN aDe rs = some ls) (hn : ls.length = n) (hm : m ls = .ok r) (hf : aA0 r = true) : a5 n m fr en = .ok (tM r) := by
 unfold a5
 rw [h]
 show kP n m rs = _
 unfold kP
 rw [h0, ha]
 dsimp only
 rw [if_pos hn, hm]
 show (if aA0 r = true then Res.ok (tM r) else .bad) = _
 rw [if_pos hf]
theorem bQ {r : List Ev -> Res Ev} {f : En -> Res (List Ev)} {rs : List Ev} (h1 : f en = .ok rs) (h : r rs = o) : aF r f en = o := by simp only [aF, h1, Res.bind, h]
theorem fE {m : List L -> Res L} {r : L} (h1 : f en = .ok x) (hx : x.c = .p a) (hm : m [.p a] = .ok r) : a5 1 m (aB f aS) en = .ok (tM r) := aF2 (aV h1 rfl) (by rw [hx]; rfl) rfl hm
theorem l7 {m : List L -> Res L} {r : L} (h1 : f en = .ok x) (h2 : g en = .ok y) (hm : m [.p a, .p b] = .ok r) (hx : x.c = .p a := by rfl) (hy : y.c = .p b := by rfl) : a5 2 m (aB f (aB g aS)) en = .ok (tM r) := aF2 (aV h1 (aV h2 rfl)) (by rw [hx, hy]; rfl) rfl hm
theorem aLw {h : En -> Res Ev} {z : Ev} {m : List L -> Res L} {r : L} (h1 : f en = .ok x) (h2 : g en = .ok y) (h3 : h en = .ok z) (hm : m [.p a, .p b, .p d] = .ok r) (hx : x.c = .p a := by rfl) (hy : y.c = .p b := by rfl) (hz : z.c = .p d := by rfl) : a5 3 m (aB f (aB g (aB h aS))) en = .ok (tM r) := aF2 (aV h1 (aV h2 (aV h3 rfl))) (by rw [hx, hy, hz]; rfl) rfl hm
theorem wZ (h1 : f en = .ok x) (h2 : g en = .ok y) (hx : x.c = .p a := by rfl) (hy : y.c = .p b := by rfl) : aF eC (aB f (aB g aS)) en = .ok (.p (.tuple [a, b])) := bQ (aV h1 (aV h2 rfl)) (by rw [hx, hy]; rfl)
theorem aIh {h : En -> Res Ev} {z : Ev} (h1 : f en = .ok x) (h2 : g en = .ok y) (h3 : h en = .ok z) (hx : x.c = .p a := by rfl) (hy : y.c = .p b := by rfl) (hz : z.c = .p d := by rfl) : aF eC (aB f (aB g (aB h aS))) en = .ok (.p (.tuple [a, b, d])) := bQ (aV h1 (aV h2 (aV h3 rfl))) (by rw [hx, hy, hz]; rfl)
theorem aNg (h1 : f en = .ok x) (hx : x.c = .p a := by rfl) : aF jX (aB f aS) en = .ok (.f (.list [a])) := bQ (aV h1 rfl) (by rw [hx]; rfl)
theorem itA {r : List Ev -> Res (List D)} {f : En -> Res (List Ev)} {rs : List Ev} {o : Res (List D)} (h1 : f en = .ok rs) (h : r rs = o) : aDt r f en = o := by simp only [aDt, h1, Res.bind, h]
theorem itL {ds : List D} (h1 : f en = .ok x) (h : x.c = .p (.list ds) := by rfl) : jT f en = .ok ds := by
 unfold jT
 rw [h1]
 show aFi x.c = _
 rw [h]
 rfl
theorem sJ {tg : D -> En -> Option En} {f : MS} {d : D} {ds : List D} {en e e' : En} (h1 : tg d en = some e) (h2 : f e = some (.nx e')) : iJ tg f (d :: ds) en = iJ tg f ds e' := by
 rw [iJ, h1]
 dsimp only
 rw [h2]
theorem aIe {i : Nat} {ds : List D} (h1 : en[i]? = some (some (.o (.list ds)))) (h2 : f en = .ok x) (h3 : ds.length <= 100000) (hx : x.c = .p d := by rfl) : mE i f en = some (.nx (en.set i (some (.o (.list (ds ++ [d])))))) := by
 unfold mE
 rw [h1]
 dsimp only
 rw [h2]
 dsimp only
 rw [hx]
 dsimp only
 rw [if_pos h3]
theorem aE6 {i : Nat} {ds : List D} {k : Nat} (h1 : en[i]? = some (some (.o (.list ds)))) (hk : f en = .ok (.p (.int (k : Int)))) (h2 : g en = .ok y) (hl : k < ds.length) (hy : y.c = .p d := by rfl) : aA6 i f g en = some (.nx (en.set i (some (.o (.list (ds.set k d)))))) := by
 unfold aA6
 rw [h1]
 dsimp only
 rw [h2]
 dsimp only
 rw [hk]
 dsimp only [Ev.c]
 have e : ixN ds.length (k : Int) = some k := by
  unfold ixN
  rw [if_pos (by omega), if_pos (by omega)]
  rfl
 rw [e]
 cases y with
 | p a => cases hy; rfl
 | f a => cases hy; rfl
 | b a => cases hy
 | x C => cases hy
theorem aA2 {i : Nat} {kvs kvs' : List (D × D)} {fk fv : En -> Res Ev} {k v : D} (h1 : en[i]? = some (some (.o (.dict kvs)))) (h2 : fv en = .ok (.p v)) (h3 : fk en = .ok (.p k)) (h : x9 kvs k v = some kvs') : nB i fk fv en = some (.nx (en.set i (some (.o (.dict kvs'))))) := by
 unfold nB
 rw [h1]
 dsimp only
 rw [h2]
 dsimp only
 rw [h3]
 dsimp only [Ev.c]
 rw [h]
theorem y6 {i : Nat} {f : MS} {en e1 : En} {o : Option Out} (h : frz i en = e1) (k : f e1 = o) : f (frz i en) = o := by rw [h]; exact k
theorem vW {g : D -> Option (Option D)} {lo : Int} : ∀ (n : Nat) (out : Nat -> D), (∀ k, k < n -> g (.int (lo + (k : Int))) = some (some (out k))) -> wA g (aDs lo n) = some ((List.range n).map out) := by
 intro n out h
 show wA g ((List.range n).map fun k : Nat => .int (lo + (k : Int))) = _
 exact eW (List.range n) fun k hk => h k (List.mem_range.mp hk)
theorem aIk {α : Type} {enc : α -> D} {xs : List α} {d : α} {k : Nat} {i : Int} (hx : i5 x = some (xs.map enc)) (hk : k < xs.length) (hi : i = (k : Int)) : ixE x (.p (.int i)) = .ok (.p (enc (xs.getD k d))) := by
 subst hi
 have e : atI (xs.map enc) (k : Int) = some (enc (xs.getD k d)) := by
  have e1 : ixN (xs.map enc).length (k : Int) = some k := by
   unfold ixN
   rw [List.length_map, if_pos (by omega), if_pos (by omega)]
   rfl
  unfold atI
  rw [e1]
  show (xs.map enc)[k]? = _
  rw [List.getElem?_map, List.getD_eq_getElem?_getD, List.getElem?_eq_getElem hk]
  rfl
 simp only [ixE, hx, e]
theorem aBp {ds : List D} (h1 : f en = .ok x) (hx : i5 x.c = some ds) : aF gY (aB f aS) en = .ok (.p (.int (ds.length : Nat))) := by
 refine bQ (aV h1 rfl) ?_
 cases hc : x.c with
 | p v =>
  rw [hc] at hx
  cases v <;> first | (cases hx; rfl) | cases hx
 | b v =>
  rw [hc] at hx
  cases v <;> first | (cases hx; rfl) | cases hx
 | f v => rw [hc] at hx; cases hx
 | x C => rw [hc] at hx; cases hx
theorem aMd {fl fh : En -> Res (Option Int)} {ds : List D} {l u : Option Int} (h1 : f en = .ok x) (hl : fl en = .ok l) (hu : fh en = .ok u) (hd : iE x.c = some ds := by rfl) : mSl f fl fh en = .ok (.f (.list (cutD ds l u))) := by
 simp only [mSl, h1, hl, hu, Res.bind, hd]
end
end N
namespace N
section
open PySem
abbrev tl (z : Str) : List Nat := z.cps.toList
theorem nA {a b : Str} (h : tl a = tl b) : a = b := by
 cases a with
 | mk a =>
  cases b with
  | mk b =>
   have : a = b := Array.toList_inj.mp h
   rw [this]
theorem iN (a b : Str) : tl (a ++ b) = tl a ++ tl b := by
 show (a.cps ++ b.cps).toList = _
 simp
theorem dH (z : Str) : z.length = (tl z).length := (Array.length_toList).symm
def dg (n : Nat) : List Nat := (Nat.toDigits 10 n).map Char.toNat
theorem i8 (n : Nat) : NumText.AllDigits (dg n) := fun c hc => by
 obtain ⟨d, hd, rfl⟩ := List.mem_map.mp hc
 have h := Nat.isDigit_of_mem_toDigits (by decide) (by decide) hd
 unfold Char.isDigit at h
 simp only [Bool.and_eq_true, decide_eq_true_eq, ge_iff_le] at h
 exact ⟨UInt32.le_iff_toNat_le.mp h.1, UInt32.le_iff_toNat_le.mp h.2⟩
theorem aC0 (n : Nat) : dg n ≠ [] := fun h => Nat.toDigits_ne_nil (List.map_eq_nil_iff.mp h)
theorem rN (n : Nat) : NumText.digitsVal (dg n) = n := W.KIN.val_back n
theorem aDj {m n : Nat} (h : dg m = dg n) : m = n := by rw [<- rN m, h, rN]
theorem aAk {n : Nat} (h : n ≠ 0) : ∃ c r, dg n = c :: r /\ 49 <= c := by
 have a := NumText.toDigits_all (dg n) (i8 n)
 rw [rN] at a
 have ln : (dg n).length = (Nat.toDigits 10 n).length := List.length_map _
 cases e : dg n with
 | nil => exact absurd e (aC0 n)
 | cons c r =>
  refine ⟨c, r, rfl, ?_⟩
  have ac := i8 n c (by rw [e]; exact .head _)
  by_cases z : c = 48
  ·exfalso
   rw [e, z] at a ln
   rw [List.dropWhile_cons_of_pos (by decide)] at a
   cases e2 : List.dropWhile (fun x => x == 48) r with
   | nil =>
    rw [e2] at a
    dsimp only at a
    have h0 : Nat.toDigits 10 0 = ['0'] := Nat.toDigits_zero _
    have : dg n = dg 0 := by unfold dg; rw [a, h0]
    exact h (aDj this)
   | cons d r2 =>
    rw [e2] at a
    dsimp only at a
    have l2 := congrArg List.length a
    rw [List.length_map, <- e2] at l2
    have := (List.dropWhile_suffix (l := r) (fun x => x == 48)).length_le
    rw [List.length_cons] at ln
    omega
  ·omega
theorem zD {n k : Nat} (hk : 0 < k) (h : n < 10 ^ k) : (dg n).length <= k := by
 unfold dg
 rw [List.length_map]
 exact (Nat.length_toDigits_le_iff (by decide) hk).mpr h
theorem aGt {n : Nat} (h : n < 10) : dg n = [48 + n] := by
 have : n = 0 \/ n = 1 \/ n = 2 \/ n = 3 \/ n = 4 \/ n = 5 \/ n = 6 \/ n = 7 \/ n = 8 \/ n = 9 := by omega
 rcases this with e | e | e | e | e | e | e | e | e | e <;> subst e <;> decide +kernel
def sg (i : Int) : List Nat := if i < 0 then 45 :: dg i.natAbs else dg i.natAbs
abbrev tx (i : Int) : Str := Str.ofString (toString i)
theorem oI (i : Int) : tl (tx i) = sg i := by
 unfold sg
 cases i with
 | ofNat m =>
  rw [if_neg (by simp)]
  exact W.KIN.signs_num m
 | negSucc m =>
  rw [if_pos (Int.negSucc_lt_zero m)]
  have e : toString (Int.negSucc m) = "-" ++ toString (m + 1) := rfl
  have s1 := PyProof.Rows.signs_ofString (toString (Int.negSucc m))
  have s2 := W.KIN.signs_num (m + 1)
  have s3 := PyProof.Rows.signs_ofString (toString ((m + 1 : Nat) : Int))
  rw [s2] at s3
  rw [e, String.toList_append, List.map_append] at s1
  have e2 : toString ((m + 1 : Nat) : Int) = toString (m + 1) := rfl
  rw [e2] at s3
  rw [<- s3] at s1
  show tl (Str.ofString (toString (Int.negSucc m))) = _
  rw [e]
  exact s1
theorem aEj {i : Int} (h : i.natAbs < 10 ^ 100) : intText? (tx i) = some i /\ (tx i).length <= 101 := by
 have t := oI i
 have l := zD (k := 100) (by decide) h
 have ln : (tx i).length <= 101 := by
  rw [dH, t]
  unfold sg
  split
  ·rw [List.length_cons]; omega
  ·omega
 refine ⟨?_, ln⟩
 unfold sg at t
 by_cases z : i < 0
 ·rw [if_pos z] at t
  rw [intText_neg t (i8 _) (aC0 _) (by omega), rN]
  congr 1
  omega
 ·rw [if_neg z] at t
  have t : (tx i).cps.toList = dg i.natAbs := t
  rw [intText_digits (by rw [t]; exact i8 _) (by rw [t]; exact aC0 _) (by omega), t, rN]
  congr 1
  omega
theorem oE {i : Int} {c : Nat} (h : c ∈ sg i) : c = 45 \/ 48 <= c /\ c <= 57 := by
 unfold sg at h
 split at h
 ·rcases List.mem_cons.mp h with z | z
  ·exact .inl z
  ·exact .inr (i8 _ c z)
 ·exact .inr (i8 _ c h)
def jl (c : List Nat) : List (List Nat) -> List Nat
 | [] => []
 | [a] => a
 | a :: b :: r => a ++ c ++ jl c (b :: r)
theorem gX (y : Str) : ∀ ps : List Str, tl (y.join ps) = jl (tl y) (ps.map tl)
 | [] => rfl
 | [a] => by rw [Str.join.eq_2]; rfl
 | a :: b :: r => by
  rw [Str.join.eq_3 y a (b :: r) (fun z => nomatch z), iN, iN, gX y (b :: r)]
  rfl
theorem yL {c : Nat} : ∀ {a b X Y : List Nat}, c ∉ a -> c ∉ b -> a ++ c :: X = b ++ c :: Y -> a = b /\ X = Y
 | [], [], _, _, _, _, h => ⟨rfl, by injection h⟩
 | [], b :: bs, _, _, _, hb, h => by injection h with h1; exact absurd (by rw [h1]; exact .head _) hb
 | a :: as, [], _, _, ha, _, h => by injection h with h1; exact absurd (by rw [h1]; exact .head _) ha
 | a :: as, b :: bs, X, Y, ha, hb, h => by
  injection h with h1 h2
  obtain ⟨e1, e2⟩ := yL (a := as) (b := bs) (fun z => ha (.tail _ z)) (fun z => hb (.tail _ z)) h2
  exact ⟨by rw [h1, e1], e2⟩
theorem aDl {c : Nat} {s : List Nat} : ∀ {ps qs : List (List Nat)}, ps ≠ [] -> qs ≠ [] -> (∀ p ∈ ps, c ∉ p) -> (∀ q ∈ qs, c ∉ q) -> jl (c :: s) ps = jl (c :: s) qs -> ps = qs
 | [], _, h, _, _, _, _ => absurd rfl h
 | _ :: _, [], _, h, _, _, _ => absurd rfl h
 | [a], [b], _, _, _, _, h => by
  have h : a = b := h
  rw [h]
 | [a], b :: b' :: r, _, _, ha, _, h => by
  have h : a = b ++ (c :: s) ++ jl (c :: s) (b' :: r) := h
  exact absurd (by rw [h]; simp) (ha a (.head _))
 | a :: a' :: r, [b], _, _, _, hb, h => by
  have h : a ++ (c :: s) ++ jl (c :: s) (a' :: r) = b := h
  exact absurd (by rw [<- h]; simp) (hb b (.head _))
 | a :: a' :: r, b :: b' :: r', _, _, ha, hb, h => by
  have h : a ++ (c :: s) ++ jl (c :: s) (a' :: r) = b ++ (c :: s) ++ jl (c :: s) (b' :: r') := h
  rw [List.append_assoc, List.append_assoc, List.cons_append, List.cons_append] at h
  obtain ⟨e1, e2⟩ := yL (ha a (.head _)) (hb b (.head _)) h
  have e2 := List.append_cancel_left e2
  rw [e1, aDl (ps := a' :: r) (qs := b' :: r') (List.cons_ne_nil _ _) (List.cons_ne_nil _ _) (fun p hp => ha p (.tail _ hp)) (fun q hq => hb q (.tail _ hq)) e2]
theorem aBk (x y : Str) : Txt.split x y ≠ [] := by
 unfold Txt.split
 split
 ·exact List.cons_ne_nil _ _
 ·split
  ·exact List.cons_ne_nil _ _
  ·intro z
   have := congrArg List.length z
   rw [length_partsBetween] at this
   cases this
theorem vD {c : Nat} {s : List Nat} {y : Str} (hy : tl y = c :: s) {ps : List Str} (h0 : ps ≠ []) (hf : ∀ p ∈ ps, c ∉ tl p) (hq : ∀ q ∈ Txt.split (y.join ps) y, c ∉ tl q) : Txt.split (y.join ps) y = ps := by
 have e := StrLaws.join_split (y.join ps) y
 have n := aBk (y.join ps) y
 generalize Txt.split (y.join ps) y = qs at *
 have t := congrArg tl e
 rw [gX, gX, hy] at t
 have := aDl (by simpa using n) (by simpa using h0) (fun p hp => by obtain ⟨q, hq', rfl⟩ := List.mem_map.mp hp; exact hq q hq') (fun p hp => by obtain ⟨q, hq', rfl⟩ := List.mem_map.mp hp; exact hf q hq') t
 exact (List.map_inj_right (fun _ _ e => nA e)).mp this
theorem lT {c : Nat} {y : Str} (hy : tl y = [c]) {ps : List Str} (h0 : ps ≠ []) (hf : ∀ p ∈ ps, c ∉ tl p) : Txt.split (y.join ps) y = ps := by
 refine vD hy h0 hf fun q hq => ?_
 have e : y = { cps := #[c] } := nA hy
 rw [e] at hq
 exact StrLaws.split_free _ _ q hq
def Fol (c d : Nat) (l : List Nat) : Prop := ∀ k, l[k]? = some c -> l[k + 1]? = some d
theorem aC2 {c d : Nat} (hcd : c ≠ d) : ∀ {ps : List (List Nat)}, (∀ p ∈ ps, c ∉ p) -> Fol c d (jl [c, d] ps)
 | [], _ => fun k h => by cases h
 | [a], ha => fun k h => absurd (List.mem_of_getElem? h) (ha a (.head _))
 | a :: b :: r, ha => fun k h => by
  have ih := aC2 hcd (ps := b :: r) (fun p hp => ha p (.tail _ hp))
  have h : (a ++ [c, d] ++ jl [c, d] (b :: r))[k]? = some c := h
  show (a ++ [c, d] ++ jl [c, d] (b :: r))[k + 1]? = some d
  rw [List.append_assoc] at h ⊢
  by_cases z : k < a.length
  ·rw [List.getElem?_append_left z] at h
   exact absurd (List.mem_of_getElem? h) (ha a (.head _))
  ·rw [List.getElem?_append_right (by omega)] at h
   rw [List.getElem?_append_right (by omega), show k + 1 - a.length = (k - a.length) + 1 by omega]
   generalize k - a.length = j at *
   match j, h with
   | 0, h => rfl
   | 1, h =>
    have h : d = c := Option.some.inj h
    exact absurd h.symm hcd
   | j + 2, h =>
    have h : (jl [c, d] (b :: r))[j]? = some c := h
    exact ih j h
theorem xJ {c d : Nat} (hcd : c ≠ d) (hc : c < 256) (hd : d < 256) {y : Str} (hy : tl y = [c, d]) {ps : List Str} (h0 : ps ≠ []) (hf : ∀ p ∈ ps, c ∉ tl p) : Txt.split (y.join ps) y = ps := by
 refine vD hy h0 hf fun q hq => ?_
 have fo : Fol c d (tl (y.join ps)) := by
  rw [gX, hy]
  exact aC2 hcd fun p hp => by obtain ⟨q, hq', rfl⟩ := List.mem_map.mp hp; exact hf q hq'
 generalize y.join ps = x at *
 have yl : y.length = 2 := by rw [dH, hy]; rfl
 have xl := dH x
 have at_ : ∀ k, (tl x)[k]? = some c -> StrLaws.At x y x.length k := fun k hk => by
  have h1 := fo k hk
  have l1 := (List.getElem?_eq_some_iff.mp h1).1
  refine ⟨by omega, ?_⟩
  rw [StrLaws.subAt_eq, show y.cps.toList = [c, d] from hy, yl]
  have : List.take 2 (List.drop k (tl x)) = [c, d] := by
   obtain ⟨hk', ek⟩ := List.getElem?_eq_some_iff.mp hk
   obtain ⟨_, e1⟩ := List.getElem?_eq_some_iff.mp h1
   rw [List.drop_eq_getElem_cons hk', List.take_succ_cons, List.drop_eq_getElem_cons l1, List.take_succ_cons, ek, e1]
   rfl
  rw [this]
  exact beq_self_eq_true _
 have free : (∀ k, ¬ StrLaws.At x y x.length k) -> c ∉ tl x := fun hn hm => by
  obtain ⟨k, hk⟩ := List.mem_iff_getElem?.mp hm
  exact hn k (at_ k hk)
 unfold Txt.split at hq
 split at hq
 ·rename_i cnd
  rw [List.mem_singleton.mp hq]
  refine free fun k hk => ?_
  have yk : Builtin.Str.strKind y = 1 := by
   unfold Builtin.Str.strKind
   rw [if_pos]
   rw [<- Array.all_toList, show y.cps.toList = [c, d] from hy]
   simp [hc, hd]
  have xk : 1 <= Builtin.Str.strKind x := by
   unfold Builtin.Str.strKind
   split
   ·decide
   ·split <;> decide
  rw [yk, yl] at cnd
  simp only [Bool.or_eq_true, decide_eq_true_eq] at cnd
  have := hk.1
  omega
 ·split at hq
  ·rename_i c2
   rw [List.mem_singleton.mp hq]
   refine free fun k hk => ?_
   obtain ⟨f, ch, hn⟩ := StrLaws.occ_tight x y (by omega)
   rw [List.isEmpty_iff.mp c2] at ch
   have ef : f = 0 := by
    have ch : StrLaws.ChainG x y x.length 0 [] f := ch
    unfold StrLaws.ChainG at ch
    exact ch
   exact hn k (by omega) hk
  ·obtain ⟨f, ch, hn⟩ := StrLaws.occ_tight x y (by omega)
   rw [StrLaws.partsBetween_eq] at hq
   generalize Builtin.Str.occurrences x y 0 x.length (x.length + 1) = cuts at *
   have part : ∀ a b, b <= x.length -> (∀ k, a <= k -> k < b -> ¬ StrLaws.At x y x.length k) -> c ∉ tl (Builtin.Str.strSub x a b) := fun a b hb hno hm => by
    rw [tl, StrLaws.strSub_toList] at hm
    obtain ⟨k, hk⟩ := List.mem_iff_getElem?.mp hm
    have kl : k < b - a := by
     have := (List.getElem?_eq_some_iff.mp hk).1
     rw [List.length_take] at this
     omega
    rw [List.getElem?_take_of_lt kl, List.getElem?_drop] at hk
    exact hno (a + k) (by omega) (by omega) (at_ _ hk)
   have gen : ∀ (cuts : List Nat) (a : Nat), StrLaws.ChainG x y x.length a cuts f -> ∀ q ∈ StrLaws.partsFrom x y.length a cuts, c ∉ tl q := by
    intro cuts
    induction cuts with
    | nil =>
     intro a ch q hq
     rw [StrLaws.partsFrom.eq_1] at hq
     rw [List.mem_singleton.mp hq]
     have ef : f = a := by unfold StrLaws.ChainG at ch; exact ch
     exact part a _ (Nat.le_refl _) fun k h1 _ => hn k (by omega)
    | cons i r ih =>
     intro a ch q hq
     rw [StrLaws.partsFrom.eq_2] at hq
     unfold StrLaws.ChainG at ch
     obtain ⟨h1, h2, h3, h4⟩ := ch
     rcases List.mem_cons.mp hq with e | hq
     ·rw [e]; exact part a i (by have := h2.1; omega) h3
     ·exact ih _ h4 q hq
   exact gen cuts 0 ch q hq
end
section
open PySem M L2
variable {en : En} {f g : En -> Res Ev} {x y : Ev} {o : Res Ev}
theorem aHn {c : En -> Res Bool} (h : c en = .ok true) (k : f en = o) : mIf c f g en = o := by
 unfold mIf
 rw [h]
 exact k
theorem aJw {c : En -> Res Bool} (h : c en = .ok false) (k : g en = o) : mIf c f g en = o := by
 unfold mIf
 rw [h]
 exact k
theorem aLf (h : f en = .ok (.p (.bool true))) : aBb f g en = .ok (.p (.bool true)) := by simp only [aBb, h, Res.bind]
theorem aKq (h : f en = .ok (.p (.bool false))) (h2 : g en = o) : aBb f g en = o := by simp only [aBb, h, Res.bind, h2]
theorem l9 (h : f en = .ok (.p (.bool true))) (h2 : g en = o) : kR f g en = o := by simp only [kR, h, Res.bind, h2]
theorem nF {op : Ev -> Ev -> Res Ev} {z : Str} (h1 : f en = .ok x) (h2 : g en = .ok y) (h : op (.p (.str z)) y.c = o) (hx : x.c = .p (.str z) := by rfl) : s9 op f g en = o := by
 unfold s9
 rw [h1]
 show (if isStr x.c = true then (g en).bind fun y => op x.c y.c else .bad) = o
 rw [hx, if_pos (show isStr (.p (.str z)) = true from rfl), h2]
 exact h
theorem aL2 {fl fh : En -> Res (Option Int)} {l u : Option Int} {z : Str} (h1 : f en = .ok x) (hl : fl en = .ok l) (hu : fh en = .ok u) (hz : z.length <= 100000) (hx : x.c = .p (.str z) := by rfl) : aHi f fl fh en = .ok (.p (.str (Txt.slice z l u))) := by
 have e : (if z.length <= sizeLine then Res.ok (Ev.p (.str (Txt.slice z l u))) else .bad) = .ok (.p (.str (Txt.slice z l u))) := if_pos (Nat.le_trans hz (by rw [sizeLine_eq]; decide))
 simp only [aHi, h1, hl, hu, Res.bind]
 rw [hx]
 exact e
theorem itS {z : Str} (h1 : f en = .ok x) (hx : x.c = .p (.str z) := by rfl) : aJx f en = .ok (signs z) := by
 unfold aJx
 rw [h1]
 show aKk x.c = _
 rw [hx]
 rfl
def P8 (a : Str) : Prop := ∀ c ∈ tl a, c < 256
theorem aC5 {a : Str} (h : P8 a) : SeqAt.shaped (.str a) = true := by
 have e : PyData.strOk a = true := by
  unfold PyData.strOk
  rw [<- Array.all_toList, List.all_eq_true]
  exact fun c hc => decide_eq_true (Nat.lt_trans (h c hc) (by decide))
 simp [SeqAt.shaped, PyData.canLay0, PyData.depth, e]
theorem aKt (i : Int) : P8 (tx i) := fun c hc => by
 rw [oI] at hc
 rcases oE hc with z | z <;> omega
theorem aAz {s : List Nat} {c : Nat} : ∀ {ps : List (List Nat)}, c ∈ jl s ps -> c ∈ s \/ ∃ p ∈ ps, c ∈ p
 | [], h => nomatch h
 | [a], h => .inr ⟨a, .head _, h⟩
 | a :: b :: r, h => by
  have h : c ∈ a ++ s ++ jl s (b :: r) := h
  rcases List.mem_append.mp h with h | h
  ·rcases List.mem_append.mp h with h | h
   ·exact .inr ⟨a, .head _, h⟩
   ·exact .inl h
  ·rcases aAz h with h | ⟨p, hp, h⟩
   ·exact .inl h
   ·exact .inr ⟨p, .tail _ hp, h⟩
theorem P8.join {z : Str} {ys : List Str} (hz : P8 z) (h : ∀ y ∈ ys, P8 y) : P8 (z.join ys) := fun c hc => by
 rw [gX] at hc
 rcases aAz hc with w | ⟨p, hp, w⟩
 ·exact hz c w
 ·obtain ⟨y, hy, rfl⟩ := List.mem_map.mp hp
  exact h y hy c w
theorem eq_str (ng : Bool) {a b : Str} (ha : P8 a) (hb : P8 b) : eqE ng (.p (.str a)) (.p (.str b)) = .ok (.p (.bool (if ng then !decide (a = b) else decide (a = b)))) := by
 have e : PyData.eqv (.str a) (.str b) = decide (a = b) := by
  rw [Bool.eq_iff_iff, decide_eq_true_iff]
  simp [PyData.eqv]
 simp [eqE, dat, aC5 ha, aC5 hb, e]
theorem eq_is {i j : Int} : eqE false (.p (.int i)) (.p (.int j)) = .ok (.p (.bool (i == j))) := by simp [eqE, dat, nE, mG]
theorem ne_is {i j : Int} : eqE true (.p (.int i)) (.p (.int j)) = .ok (.p (.bool (!(i == j)))) := by simp [eqE, dat, nE, mG]
theorem aDy (c : Nat) (w : Str) : aD0 false (.p (.str ⟨#[c]⟩)) (.p (.str w)) = .ok (.p (.bool (decide (c ∈ tl w)))) := by
 unfold aD0
 dsimp only
 rw [if_neg Bool.false_ne_true, StrLaws.found_one]
theorem aJp {n : Nat} (h : n < 10 ^ 100) : n.log2 < 1920 := by
 by_cases z : n = 0
 ·rw [z]; decide
 ·exact (Nat.log2_lt z).mpr (Nat.lt_trans h (by decide +kernel))
theorem oR {i : Int} (h : i.natAbs < 10 ^ 100) : vI [.p (.int i)] = .ok (.p (.str (tx i))) := if_pos (aJp h)
theorem qR {a b : Str} (h : a.length + b.length <= 100000) : fK (.p (.str a)) (.p (.str b)) = .ok (.p (.str (a ++ b))) := if_pos h
theorem sG {i : Int} (h : i.natAbs < 10 ^ 100) : lD [.p (.str (tx i))] = .ok (.p (.int i)) := by
 obtain ⟨e, l⟩ := aEj h
 unfold lD
 dsimp only
 rw [e]
 exact if_pos (by omega)
theorem aJb {z : Str} (h : z.length <= 100000) : pV [.p (.str z)] = .ok (.p (.int (z.length : Nat))) := if_pos (Nat.le_trans h (by rw [sizeLine_eq]; decide))
theorem tQ {z w : Str} (h1 : (w.length == 0) = false) (h2 : z.length <= 100000) : gK (.p (.str z)) (.p (.str w)) = .ok (.f (.list ((Txt.split z w).map PyData.str))) := if_pos ⟨h1, Nat.le_trans (Nat.add_le_add_right h2 2) (by rw [sizeLine_eq]; decide)⟩
theorem aDg {z : Str} {ys : List Str} {y : Ev} (hy : iE y = some (ys.map PyData.str)) (h : (ys.map fun x => x.length).sum + ys.length * z.length <= 16777216) : kQ (.p (.str z)) y = .ok (.p (.str (z.join ys))) := by
 unfold kQ
 dsimp only
 rw [hy]
 dsimp only
 rw [nY]
 dsimp only
 rw [if_pos h, Txt.join, StrLaws.glued_eq_join]
theorem aKl {α : Type} {y : Ev} {l : List α} {b : α -> Bool} (hy : iE y = some (l.map fun a => PyData.bool (b a))) : aD5 [y] = .ok (.p (.bool (l.all b))) := by
 have e : oM (l.map fun a => PyData.bool (b a)) = some (l.map b) := by
  exact rW b l
 unfold aD5
 dsimp only
 rw [hy]
 dsimp only
 rw [e]
 dsimp only
 congr 3
 rw [List.all_map]
 rfl
end
end N
namespace My
open PySem PySem.Spec PyProof.Rows L2 M N
local macro_rules | `(tactic| walk_at "z") => `(tactic| repeat (first | assumption | apply L2.Sz.mul | apply N.Sz.addM | apply N.Sz.subM | apply L2.Sz.neg | apply N.sz_fdiv | (apply N.sz_fmod; (first | decide | omega)) | exact N.sz_lit4 (by decide) | exact N.sz_lit (by decide) | exact N.sz_lit70 (by decide) | exact N.sz_big (by decide)))
local macro_rules | `(tactic| walk_at "d") => `(tactic| first | assumption | (first | apply N.cm2 | apply N.cd2) <;> (first | decide | omega | (walk_at "z")) | decide | omega)
local macro_rules | `(tactic| walk_at "1d") => `(tactic| simp (disch := (walk_at "d")) only [cO, eR, eM, gP, aG, mC, aL, mUn, aB, aS, a5, kP, gN, wY, aDe, Res.bind, Ev.c, aJ9, tM, aF, eC, jX, pN, cU, iK, aBc, mOr, mW, kR, aBb, v9, lC, dG, fK, kE, aL1, iE, dat, gY, eqE, nE, mG, yS, xO, w5, aAj, aA8, nI, nM, aCd, aDx, iO, dM, jW, List.getElem?_cons_zero, List.getElem?_cons_succ, List.set_cons_zero, List.set_cons_succ, List.length_cons, List.length_nil, List.length_map, List.length_append, if_true, if_false, ite_true, ite_false, decide_true, decide_false, Bool.false_eq_true, Nat.zero_add, Nat.reduceAdd, Nat.reduceEqDiff, Nat.reduceLeDiff, reduceIte, List.map_append, List.map_cons, List.map_nil])
local macro_rules | `(tactic| walk_at "2") => `(tactic| simp only [cO, eR, eM, gP, aG, mC, aL, mUn, aB, aS, a5, kP, gN, wY, aDe, Res.bind, Ev.c, aJ9, tM, aF, eC, jX, pN, cU, iK, aBc, mOr, mW, kR, aBb, v9, lC, dG, fK, kE, aL1, iE, dat, gY, eqE, nE, mG, yS, xO, w5, aAj, aA8, nI, nM, aCd, List.getElem?_cons_zero, List.getElem?_cons_succ, List.set_cons_zero, List.set_cons_succ, List.length_cons, List.length_nil, List.length_map, List.length_append, if_true, if_false, ite_true, ite_false, decide_true, decide_false, Bool.false_eq_true, Nat.zero_add, Nat.reduceAdd, Nat.reduceEqDiff, Nat.reduceLeDiff, reduceIte, List.map_append, List.map_cons, List.map_nil])
local macro_rules | `(tactic| ktr_call 2 ⟨$xs,*⟩) => `(tactic| simp only [cO, eR, eM, gP, aG, mC, aL, mUn, aB, aS, a5, kP, gN, wY, aDe, Res.bind, Ev.c, aJ9, tM, aF, eC, jX, pN, cU, iK, aBc, mOr, mW, kR, aBb, v9, lC, dG, fK, kE, aL1, iE, dat, gY, eqE, nE, mG, yS, xO, w5, aAj, aA8, nI, nM, aCd, List.getElem?_cons_zero, List.getElem?_cons_succ, List.set_cons_zero, List.set_cons_succ, List.length_cons, List.length_nil, List.length_map, List.length_append, if_true, if_false, ite_true, ite_false, decide_true, decide_false, Bool.false_eq_true, Nat.zero_add, Nat.reduceAdd, Nat.reduceEqDiff, Nat.reduceLeDiff, reduceIte, List.map_append, List.map_cons, List.map_nil, $[$xs:term],*])
local macro_rules | `(tactic| ktr_call 3 ⟨$xs,*⟩) => `(tactic| simp only [List.getElem?_cons_zero, List.getElem?_cons_succ, List.set_cons_zero, List.set_cons_succ, List.length_cons, List.length_nil, List.length_map, List.length_append, if_true, if_false, ite_true, ite_false, decide_true, decide_false, Bool.false_eq_true, Nat.zero_add, Nat.reduceAdd, Nat.reduceEqDiff, Nat.reduceLeDiff, reduceIte, List.map_append, List.map_cons, List.map_nil, $[$xs:term],*])
local macro_rules | `(tactic| ktr_call 13 ⟨$xs,*⟩) => `(tactic| simp (disch := assumption) only [List.getElem?_cons_zero, List.getElem?_cons_succ, List.set_cons_zero, List.set_cons_succ, List.length_cons, List.length_nil, List.length_map, List.length_append, if_true, if_false, ite_true, ite_false, decide_true, decide_false, Bool.false_eq_true, Nat.zero_add, Nat.reduceAdd, Nat.reduceEqDiff, Nat.reduceLeDiff, reduceIte, List.map_append, List.map_cons, List.map_nil, $[$xs:term],*])
def top (i : Nat) : Stmt := PySem.Challenge.pw_creasecurve_k05_roofs_written.main.body.getD i (.Pass ⟨0, 0, 0, 0⟩)
abbrev dB : Stmt := top 8
abbrev vH : Stmt := top 9
abbrev iR : Stmt := top 13
abbrev eY : Stmt := top 14
abbrev dE : Stmt := top 15
abbrev j9 : Stmt := top 16
abbrev iQ : Stmt := top 21
abbrev lJ : Stmt := top 22
abbrev gS : Stmt := top 23
abbrev gZ : Stmt := top 24
abbrev gR : Stmt := top 25
abbrev fI : Stmt := top 26
abbrev dN : Stmt := top 27
abbrev iY : Stmt := top 28
abbrev iT : Stmt := top 29
abbrev uC : Stmt := top 30
abbrev fV : Stmt := top 31
abbrev j6 : Stmt := top 32
abbrev e9 : Stmt := top 34
abbrev fW : Stmt := top 35
abbrev fX : Stmt := top 36
abbrev eZ : Stmt := top 37
abbrev eK : Stmt := top 38
abbrev dC : Stmt := top 39
abbrev dX : Stmt := top 40
abbrev dA : Stmt := top 41
abbrev e8 : Stmt := top 42
abbrev hV : Stmt := top 43
abbrev eL : Stmt := top 44
abbrev eV : Stmt := top 45
abbrev qM : Stmt := top 46
theorem uB : bootBuiltins "abs" = some (.builtin "abs") := by decide +kernel
theorem aHm : bootBuiltins "all" = some (.builtin "all") := by decide +kernel
theorem aH1 : bootBuiltins "any" = some (.builtin "any") := by decide +kernel
theorem aEw : bootBuiltins "bool" = some (.type "bool") := by decide +kernel
theorem mH : bootBuiltins "int" = some (.type "int") := by decide +kernel
theorem aAr : bootBuiltins "list" = some (.type "list") := by decide +kernel
theorem aH0 : bootBuiltins "max" = some (.builtin "max") := by decide +kernel
theorem aDr : bootBuiltins "min" = some (.builtin "min") := by decide +kernel
theorem rF : bootBuiltins "sorted" = some (.builtin "sorted") := by decide +kernel
theorem iB : bootBuiltins "str" = some (.type "str") := by decide +kernel
theorem uG : bootBuiltins "tuple" = some (.type "tuple") := by decide +kernel
structure Blt (mg : Str -> Option Value) : Prop where
 abs_ : mg "abs" = none
 all_ : mg "all" = none
 any_ : mg "any" = none
 bool_ : mg "bool" = none
 enumerate_ : mg "enumerate" = none
 int_ : mg "int" = none
 isinstance_ : mg "isinstance" = none
 len_ : mg "len" = none
 list_ : mg "list" = none
 max_ : mg "max" = none
 min_ : mg "min" = none
 range_ : mg "range" = none
 sorted_ : mg "sorted" = none
 str_ : mg "str" = none
 tuple_ : mg "tuple" = none
structure Cls where
 RoofError : Addr
 NoRoof : Addr
 TooSteep : Addr
 TooMany : Addr
 NoNumber : Addr
 NoText : Addr
structure i9 (mg : Str -> Option Value) (c : Cls) : Prop where
 mRoofError : mg "RoofError" = some (.ref c.RoofError)
 mNoRoof : mg "NoRoof" = some (.ref c.NoRoof)
 mTooSteep : mg "TooSteep" = some (.ref c.TooSteep)
 mTooMany : mg "TooMany" = some (.ref c.TooMany)
 mNoNumber : mg "NoNumber" = some (.ref c.NoNumber)
 mNoText : mg "NoText" = some (.ref c.NoText)
structure jB (mg : Str -> Option Value) (base : Heap) (c : Cls) : Prop where
 NoRoof : PyProof.Rows.OwnCls "NoRoof" c.NoRoof [.type "ValueError", .type "Exception", .type "BaseException", .type "object"] "ValueError.__new__" mg base
 TooMany : PyProof.Rows.OwnCls "TooMany" c.TooMany [.type "ValueError", .type "Exception", .type "BaseException", .type "object"] "ValueError.__new__" mg base
 TooSteep : PyProof.Rows.OwnCls "TooSteep" c.TooSteep [.type "ValueError", .type "Exception", .type "BaseException", .type "object"] "ValueError.__new__" mg base
noncomputable def bG (K : PySem.W.Frag) (c : Cls) : List L -> Res L := mOf eII (fun _ => True) fun a => .ok (.p (.int (Int.gcd a.1 a.2 : Nat)))
noncomputable def bE (K : PySem.W.Frag) (c : Cls) : En -> Res Bool := (cU (aL (eqE true) (aG 3) (mC (.int 0))))
noncomputable def bP (K : PySem.W.Frag) (c : Cls) : MS := (cO (eR 4 (aL iD (aG 2) (aG 3))) (cO (eR 2 (aG 3)) (eR 3 (aG 4))))
noncomputable def fR (K : PySem.W.Frag) (c : Cls) : MS := (cO (eR 2 (aF aC9 (aB (aG 0) aS))) (cO (eR 3 (aF aC9 (aB (aG 1) aS))) (cO (lX (bE K c) (bP K c)) (eM (aG 2)))))
theorem aKi (K : PySem.W.Frag) (c : Cls) (A B : Option L) : ∀ (n : Nat) (l s : Int) (r : Option L), 0 <= l -> 0 <= s -> s.toNat <= n -> ∃ r', mWh (bE K c) (bP K c) (n + 1) [A, B, some (.p (.int l)), some (.p (.int s)), r] = some (.nx [A, B, some (.p (.int (Int.gcd l s : Nat))), some (.p (.int 0)), r']) := by
 intro n
 have hc : ∀ (l s : Int) (r : Option L), bE K c [A, B, some (.p (.int l)), some (.p (.int s)), r] = .ok (!(s == 0)) := fun l s r => by
  ktr_call 3 ⟨bE, cU, aL, aG, mC, Res.bind, Ev.c, eqE, dat, nE, mG, iK⟩
  rfl
 have done : ∀ (n : Nat) (l : Int) (r : Option L), 0 <= l -> mWh (bE K c) (bP K c) (n + 1) [A, B, some (.p (.int l)), some (.p (.int 0)), r] = some (.nx [A, B, some (.p (.int (Int.gcd l 0 : Nat))), some (.p (.int 0)), r]) := fun n l r hl => by
  unfold mWh
  rw [hc, FR.yR hl]
  rfl
 induction n with
 | zero =>
  intro l s r hl hs hn
  have : s = 0 := by omega
  subst this
  exact ⟨r, done 0 l r hl⟩
 | succ n ih =>
  intro l s r hl hs hn
  by_cases h0 : s = 0
  ·subst h0
   exact ⟨r, done _ l r hl⟩
  ·have em : l.fmod s = l % s := Int.fmod_eq_emod_of_nonneg l hs
   have m0 := Int.emod_nonneg l h0
   have m1 := Int.emod_lt_of_pos l (show 0 < s by omega)
   obtain ⟨r', ih⟩ := ih s (l.fmod s) (some (.p (.int (l.fmod s)))) hs (by omega) (by omega)
   refine ⟨r', ?_⟩
   rw [em, FR.vG hl hs] at ih
   have hb : bP K c [A, B, some (.p (.int l)), some (.p (.int s)), r] = some (.nx [A, B, some (.p (.int s)), some (.p (.int (l % s))), some (.p (.int (l % s)))]) := by
    ktr_call 13 ⟨bP, aL, aG, mC, cO, eR, Res.bind, Ev.c, dM, em⟩
   have ht : bE K c [A, B, some (.p (.int l)), some (.p (.int s)), r] = .ok true := by rw [hc, beq_false_of_ne h0]; rfl
   unfold mWh
   rw [ht]
   dsimp only
   rw [hb]
   exact ih
theorem jF (K : PySem.W.Frag) (c : Cls) : ∀ ls, bG K c ls = .bad \/ dU 5 (fR K c) ls = bG K c ls := mI fun x _ => by
 obtain ⟨a, b⟩ := x
 obtain ⟨r', h⟩ := aKi K c (some (.p (.int a))) (some (.p (.int b))) _ (if a < 0 then -a else a) (if b < 0 then -b else b) none (by split <;> omega) (by split <;> omega) (Nat.le_refl _)
 have h := rJ h
 rw [FR.xQ] at h
 refine bY ?_
 rw [show bJ 5 (eII (a, b)) = [some (.p (.int a)), some (.p (.int b)), none, none, none] from rfl]
 refine (aM (fH (d := .int (if a < 0 then -a else a)) rfl)).trans ((aM (fH (d := .int (if b < 0 then -b else b)) rfl)).trans ((aM h).trans ?_))
 rfl
theorem aBh (K : PySem.W.Frag) (c : Cls) (a b : Int) : bG K c [.p (.int a), .p (.int b)] = .ok (.p (.int (Int.gcd a b : Nat))) := nD (a := (a, b)) aAd trivial
theorem aG7 {b : Int} (t : Int) (hb : b ≠ 0) (hz : Sz 8000 b) : kW t ((Int.gcd t b : Nat) : Int) /\ kW t (-((Int.gcd t b : Nat) : Int)) := by
 have g0 := FR.sE (t := t) hb
 have gle : Int.gcd t b <= b.natAbs := Nat.le_of_dvd (by omega) (Int.gcd_dvd_natAbs_right t b)
 refine ⟨⟨by omega, Sz.le hz (by rw [Int.natAbs_natCast]; exact gle)⟩, by omega, Sz.le hz (by rw [Int.natAbs_neg, Int.natAbs_natCast]; exact gle)⟩
noncomputable def i6 (K : PySem.W.Frag) (c : Cls) : List L -> Res L := mOf eFF (fun a => FSz 2000 a.1 /\ FSz 2000 a.2) fun a => .ok (.p (.bool (ltF a.1 a.2)))
noncomputable def aAv (K : PySem.W.Frag) (c : Cls) : MS := (eM (aL ltE (aL k8 (aL ixE (aG 0) (mC (.int 0))) (aL ixE (aG 1) (mC (.int 1)))) (aL k8 (aL ixE (aG 1) (mC (.int 0))) (aL ixE (aG 0) (mC (.int 1))))))
theorem aFz (K : PySem.W.Frag) (c : Cls) : ∀ ls, i6 K c ls = .bad \/ dU 2 (aAv K c) ls = i6 K c ls := mI fun a h => by
 obtain ⟨x, y⟩ := a
 obtain ⟨⟨x1, x2⟩, ⟨y1, y2⟩⟩ := h
 dsimp only at x1 x2 y1 y2 ⊢
 refine bY ?_
 rw [show bJ 2 (eFF (x, y)) = [some (.p (frD x)), some (.p (frD y))] from rfl]
 unfold aAv
 refine eD ?_
 walk_at "1d"
 rfl
theorem zN (K : PySem.W.Frag) (c : Cls) {x y : Int × Int} (hx : FSz 2000 x) (hy : FSz 2000 y) : i6 K c [.p (frD x), .p (frD y)] = .ok (.p (.bool (ltF x y))) := nD (a := (x, y)) aFp ⟨hx, hy⟩
def ePl (p : Pl) : List L := [.p (plD p)]
theorem aEg (a b : Pl) (h : ePl a = ePl b) : a = b := by
 unfold ePl at h
 injection h with h _
 injection h with h
 exact plI h
noncomputable def d4 (K : PySem.W.Frag) (c : Cls) : List L -> Res L := mOf ePl (fun _ => True) fun p => .ok (.p (slD (slp p)))
noncomputable def kN (K : PySem.W.Frag) (c : Cls) : MS := (eM (aF eC (aB (aL ixE (aG 0) (mC (.int 0))) (aB (aL ixE (aG 0) (mC (.int 1))) aS))))
theorem tD (K : PySem.W.Frag) (c : Cls) : ∀ ls, d4 K c ls = .bad \/ dU 1 (kN K c) ls = d4 K c ls := mI fun p _ => by
 refine bY ?_
 rw [show bJ 1 (ePl p) = [some (.p (plD p))] from rfl]
 unfold kN
 refine eD ?_
 walk_at "2"
 rfl
theorem nZ (K : PySem.W.Frag) (c : Cls) (p : Pl) : d4 K c [.p (plD p)] = .ok (.p (slD (slp p))) := nD (a := p) aEg trivial
theorem qI {α κ : Type} [DecidableEq κ] (k : κ) (v : α) : ∀ m : List (κ × α), (yG k v m).map (·.1) = m.map (·.1)
 | [] => rfl
 | p :: r => by
  unfold yG
  rw [List.map_cons, List.map_cons, qI k v r]
  split <;> rfl
theorem qB {α κ : Type} [DecidableEq κ] {k : κ} : ∀ {m : List (κ × α)}, eI m k = none -> k ∉ m.map (·.1)
 | [], _ => fun h => nomatch h
 | p :: r, e => by
  unfold eI at e
  split at e
  ·cases e
  ·rename_i z
   rw [List.map_cons, List.mem_cons]
   rintro (q | q)
   ·exact z q.symm
   ·exact qB e q
theorem xA {α κ : Type} [DecidableEq κ] {m : List (κ × α)} (h : (m.map (·.1)).Nodup) (k : κ) (v : α) : ((rQ m k v).map (·.1)).Nodup := by
 unfold rQ
 cases e : eI m k with
 | none =>
  rw [if_neg (by simp), List.map_append]
  refine List.nodup_append.mpr ⟨h, List.pairwise_singleton _ _, fun a ha b hb z => ?_⟩
  have : b = k := by simpa using hb
  rw [z, this] at ha
  exact qB e ha
 | some x =>
  rw [if_pos (by rfl), qI]
  exact h
abbrev Mp := List ((Int × Int) × (Int × Int))
def aO (m : Mp) : List Pl := (jL (kys m)).map fun k => ((un2 k).1, (un2 k).2, aDn m (0, 1) k)
theorem eO (m : Mp) : (aO m).length = m.length := by
 unfold aO
 rw [List.length_map, (dQ (kys m)).length_eq]
 unfold kys
 rw [List.length_map]
def ePs (ps : List Pl) : List L := [.p (.list (ps.map plD))]
theorem aEd (a b : List Pl) (h : ePs a = ePs b) : a = b := by
 unfold ePs at h
 injection h with h _
 injection h with h
 injection h with h
 exact aM9 h
def eSl (s : Int × Int) : List L := [.p (slD s)]
theorem aGg (a b : Int × Int) (h : eSl a = eSl b) : a = b := by
 unfold eSl at h
 injection h with h _
 injection h with h
 exact o3 _ _ h
def stp (s : Int × Int) : Bool := decide ((if s.2 < s.1 then s.2 else s.1) < 0) || decide (8 < (if s.1 < s.2 then s.2 else s.1))
noncomputable def cC (K : PySem.W.Frag) (c : Cls) : List L -> Res L := mOf eSl (fun _ => True) fun s => .ok (.p (.bool (stp s)))
noncomputable def gG (K : PySem.W.Frag) (c : Cls) : MS := (eM (aBb (aL ltE (aF (aF3 fun i j => if j < i then j else i) (aB (aG 0) aS)) (mC (.int 0))) (aL gtE (aF (aF3 fun i j => if i < j then j else i) (aB (aG 0) aS)) (mC (.int 8)))))
theorem mR (K : PySem.W.Frag) (c : Cls) : ∀ ls, cC K c ls = .bad \/ dU 1 (gG K c) ls = cC K c ls := mI fun s _ => by
 refine bY ?_
 rw [show bJ 1 (eSl s) = [some (.p (slD s))] from rfl]
 unfold gG stp
 refine eD ?_
 cases h : decide ((if s.2 < s.1 then s.2 else s.1) < 0) <;> ktr_call 2 ⟨slD, aF3, h, Bool.true_or, Bool.false_or⟩
theorem wF (K : PySem.W.Frag) (c : Cls) (s : Int × Int) : cC K c [.p (slD s)] = .ok (.p (.bool (stp s))) := nD (a := s) aGg trivial
def tkF (o : Option (Int × Int)) (h : Int × Int) : Bool := match o with
 | none => true
 | some f => ltF f h
def hbS (m : Mp) (s h : Int × Int) : Mp := if tkF (eI m s) h = true then rQ m s h else m
def hbR (rs : List ((Int × Int) × (Int × Int))) (m : Mp) : Mp := rs.foldl (fun m r => hbS m r.1 r.2) m
def hbM (ps : List Pl) : Mp := hbR (ps.map fun p => (slp p, p.2.2)) []
theorem aFr (m : Mp) (s h : Int × Int) : (hbS m s h).length <= m.length + 1 := by
 unfold hbS
 split
 ·exact vM _ _ _
 ·exact Nat.le_succ _
theorem aFe {P : (Int × Int) -> Prop} {m : Mp} (hm : ∀ k f, eI m k = some f -> P f) (s : Int × Int) {h : Int × Int} (hh : P h) : ∀ k f, eI (hbS m s h) k = some f -> P f := by
 intro k f e
 unfold hbS at e
 split at e
 ·rw [jZ] at e
  split at e
  ·cases e; exact hh
  ·exact hm k f e
 ·exact hm k f e
def rwD (r : (Int × Int) × (Int × Int)) : D := .tuple [slD r.1, frD r.2]
theorem rwI {a b : List ((Int × Int) × (Int × Int))} (h : a.map rwD = b.map rwD) : a = b := by
 refine List.map_inj_right (fun x y e => ?_) |>.mp h
 unfold rwD at e
 injection e with e
 injection e with e1 e2
 injection e2 with e2 _
 exact Prod.ext (o3 _ _ e1) (frI e2)
def aG3 (rs : List ((Int × Int) × (Int × Int))) : List L := [.p (.list (rs.map rwD))]
theorem aCy (a b : List ((Int × Int) × (Int × Int))) (h : aG3 a = aG3 b) : a = b := by
 unfold aG3 at h
 injection h with h _
 injection h with h
 injection h with h
 exact rwI h
noncomputable def a9 (K : PySem.W.Frag) (c : Cls) : List L -> Res L := mOf aG3 (fun rs => rs.length <= 1000 /\ ∀ r ∈ rs, FSz 2000 r.2) fun rs => .ok (.o (.dict (N.encM slD frD (hbR rs []))))
noncomputable def b6 (K : PySem.W.Frag) (c : Cls) : MS := (gP (mOr (cU (aL (vX true) (aG 2) (aG 1))) (cU (a5 2 (i6 K c) (aB (aL kB (aG 1) (aG 2)) (aB (aG 3) aS))))) (nB 1 (aG 2) (aG 3)) dG)
noncomputable def eJ (K : PySem.W.Frag) (c : Cls) : MS := (cO (eR 1 mDT) (cO (aBd (jT (aG 0)) (kI 2 (cQ (aQ 2) (cQ (aQ 3) kG))) (b6 K c)) (eM (aG 1))))
theorem aMo (K : PySem.W.Frag) (c : Cls) (A : Option L) (m : Mp) (hm : m.length <= 2000) (hz : ∀ k f, eI m k = some f -> FSz 2000 f) (s h : Int × Int) (hh : FSz 2000 h) : b6 K c [A, some (.o (.dict (N.encM slD frD m))), some (.p (slD s)), some (.p (frD h))] = some (.nx [A, some (.o (.dict (N.encM slD frD (hbS m s h)))), some (.p (slD s)), some (.p (frD h))]) := by
 have hd := lP (ev := frD) m s
 have hp := rS (ev := frD) m s h (by omega)
 have put : nB 1 (aG 2) (aG 3) [A, some (.o (.dict (N.encM slD frD m))), some (.p (slD s)), some (.p (frD h))] = some (.nx [A, some (.o (.dict (N.encM slD frD (rQ m s h)))), some (.p (slD s)), some (.p (frD h))]) := by
  unfold nB
  ktr_call 3 ⟨aG, Ev.c, hp⟩
 have tin : cU (aL (vX true) (aG 2) (aG 1)) [A, some (.o (.dict (N.encM slD frD m))), some (.p (slD s)), some (.p (frD h))] = .ok (!(eI m s).isSome) := by
  ktr_call 2 ⟨vX, i3, hd⟩
  simp
 unfold b6 hbS
 cases ea : eI m s with
 | none =>
  rw [ea] at tin
  have t : (mOr (cU (aL (vX true) (aG 2) (aG 1))) (cU (a5 2 (i6 K c) (aB (aL kB (aG 1) (aG 2)) (aB (aG 3) aS))))) [A, some (.o (.dict (N.encM slD frD m))), some (.p (slD s)), some (.p (frD h))] = .ok true := by
   unfold mOr
   rw [tin]
   rfl
  exact (r8 t).trans put
 | some f =>
  rw [ea] at tin hd
  have ef : (aL kB (aG 1) (aG 2)) [A, some (.o (.dict (N.encM slD frD m))), some (.p (slD s)), some (.p (frD h))] = .ok (.p (frD f)) := by
   ktr_call 2 ⟨kB, i3, hd, Option.map_some⟩
  have hl := zN K c (hz s f ea) hh
  have tl : cU (a5 2 (i6 K c) (aB (aL kB (aG 1) (aG 2)) (aB (aG 3) aS))) [A, some (.o (.dict (N.encM slD frD m))), some (.p (slD s)), some (.p (frD h))] = .ok (ltF f h) := by
   ktr_call 3 ⟨cU, a5, aB, aS, ef, aG, Res.bind, Ev.c, kP, gN, wY, hl, tM, iK⟩
  have t : (mOr (cU (aL (vX true) (aG 2) (aG 1))) (cU (a5 2 (i6 K c) (aB (aL kB (aG 1) (aG 2)) (aB (aG 3) aS))))) [A, some (.o (.dict (N.encM slD frD m))), some (.p (slD s)), some (.p (frD h))] = .ok (ltF f h) := by
   unfold mOr
   rw [tin, xR]
   exact tl
  show _ = some (Out.nx [A, some (.o (.dict (N.encM slD frD (if ltF f h = true then rQ m s h else m)))), some (.p (slD s)), some (.p (frD h))])
  cases e : ltF f h with
  | true => rw [e] at t; rw [if_pos rfl]; exact (r8 t).trans put
  | false => rw [e] at t; rw [if_neg (by decide)]; exact iX t
theorem zP (K : PySem.W.Frag) (c : Cls) (A : Option L) : ∀ (rs : List ((Int × Int) × (Int × Int))) (m : Mp) (r2 r3 : Option L), m.length + rs.length <= 2000 -> (∀ k f, eI m k = some f -> FSz 2000 f) -> (∀ r ∈ rs, FSz 2000 r.2) -> ∃ q2 q3, iJ (kI 2 (cQ (aQ 2) (cQ (aQ 3) kG))) (b6 K c) (rs.map rwD) [A, some (.o (.dict (N.encM slD frD m))), r2, r3] = some (.nx [A, some (.o (.dict (N.encM slD frD (hbR rs m)))), q2, q3])
 | [], m, r2, r3, _, _, _ => ⟨r2, r3, rfl⟩
 | r :: rs, m, r2, r3, hl, hz, hr => by
  rw [List.length_cons] at hl
  have hb := aMo K c A m (by omega) hz r.1 r.2 (hr r (.head _))
  have hn := aFr m r.1 r.2
  obtain ⟨q2, q3, ih⟩ := zP K c A rs (hbS m r.1 r.2) (some (.p (slD r.1))) (some (.p (frD r.2))) (by omega) (aFe hz r.1 (hr r (.head _))) fun x hx => hr x (.tail _ hx)
  refine ⟨q2, q3, ?_⟩
  rw [List.map_cons]
  unfold iJ
  have et : kI 2 (cQ (aQ 2) (cQ (aQ 3) kG)) (rwD r) [A, some (.o (.dict (N.encM slD frD m))), r2, r3] = some [A, some (.o (.dict (N.encM slD frD m))), some (.p (slD r.1)), some (.p (frD r.2))] := rfl
  rw [et]
  dsimp only
  rw [hb]
  exact ih
theorem jH (K : PySem.W.Frag) (c : Cls) : ∀ ls, a9 K c ls = .bad \/ dU 4 (eJ K c) ls = a9 K c ls := mI fun rs h => by
 obtain ⟨hl, hz⟩ := h
 refine bY ?_
 rw [show bJ 4 (aG3 rs) = [some (.p (.list (rs.map rwD))), none, none, none] from rfl]
 obtain ⟨r2, r3, hlp⟩ := zP K c (some (.p (.list (rs.map rwD)))) rs [] none none (by rw [List.length_nil]; omega) (fun _ _ e => nomatch e) hz
 unfold eJ
 refine (aM (i4 (d := .dict []) rfl)).trans ?_
 refine (aM ((wV (ds := rs.map rwD) rfl).trans hlp)).trans ?_
 rfl
theorem aD9 (K : PySem.W.Frag) (c : Cls) {ps : List Pl} (hl : ps.length <= 1000) (hz : ∀ p ∈ ps, FSz 2000 p.2.2) : a9 K c [.p (.list (ps.map fun p => .tuple [slD (slp p), frD p.2.2]))] = .ok (.o (.dict (N.encM slD frD (hbM ps)))) := by
 have e : (ps.map fun p => PyData.tuple [slD (slp p), frD p.2.2]) = (ps.map fun p => (slp p, p.2.2)).map rwD := by rw [List.map_map]; rfl
 rw [e]
 exact nD (a := ps.map fun p => (slp p, p.2.2)) aCy ⟨by rw [List.length_map]; exact hl, fun r hr => by
  obtain ⟨p, hp, rfl⟩ := List.mem_map.mp hr
  exact hz p hp⟩
noncomputable def tV (c : Cls) (ps : List Pl) : Res L := if ps = [] then .exc c.NoRoof else if (ps.any fun p => stp (slp p)) = true then .exc c.TooSteep else if 16 < (hbM ps).length then .exc c.TooMany else .ok (.o (.list ((aO (hbM ps)).map plD)))
noncomputable def fO (K : PySem.W.Frag) (c : Cls) : List L -> Res L := mOf ePs (fun ps => ps.length <= 1000 /\ ∀ p ∈ ps, FSz 2000 p.2.2) fun ps => tV c ps
noncomputable def fY (K : PySem.W.Frag) (c : Cls) : En -> Res Ev := (aF eC (aB (aL ixE (aG 0) (mC (.int 0))) (aB (aL ixE (aG 0) (mC (.int 1))) (aB (aL kB (aG 1) (aG 0)) aS))))
noncomputable def d6 (K : PySem.W.Frag) (c : Cls) : En -> Res Ev := (aF eC (aB (a5 1 (d4 K c) (aB (aG 0) aS)) (aB (aL ixE (aG 0) (mC (.int 2))) aS)))
noncomputable def d8 (K : PySem.W.Frag) (c : Cls) : En -> Res Ev := (a5 1 (cC K c) (aB (a5 1 (d4 K c) (aB (aG 0) aS)) aS))
noncomputable def gO (K : PySem.W.Frag) (c : Cls) : MS := (cO (gP (cU (aL (eqE false) (aF gY (aB (aG 0) aS)) (mC (.int 0)))) (lC c.NoRoof (aB (mC (.str "a roof has one plane or more")) aS)) dG) (cO (gP (cU (aF aDo (aB (fD 1 [] (jT (aG 0)) (aQ 0) iC (d8 K c)) aS))) (lC c.TooSteep (aB (mC (.str "a slope has two numbers from 0 to 8")) aS)) dG) (cO (eR 1 (a5 1 (a9 K c) (aB (fD 1 [] (jT (aG 0)) (aQ 0) iC (d6 K c)) aS))) (cO (gP (cU (aL gtE (aF kT (aB (aG 1) aS)) (mC (.int 16)))) (lC c.TooMany (aB (mC (.str "a roof has at most sixteen unlike slopes")) aS)) dG) (fun en => (eM (fD 1 [1] (jT (aF dO (aB (aG 1) aS))) (aQ 0) iC (fY K c))) (frz 1 en))))))
theorem zA {n : Nat} {f : MS} {ls : List L} {C : Addr} {e : En} (h : f (bJ n ls) = some (.ex C e)) : dU n f ls = .exc C := by unfold dU; rw [h]
theorem wG (K : PySem.W.Frag) (c : Cls) : ∀ ls, fO K c ls = .bad \/ dU 2 (gO K c) ls = fO K c ls := mI fun ps h => by
 obtain ⟨hl, hz⟩ := h
 have es : bJ 2 (ePs ps) = [some (.p (.list (ps.map plD))), none] := rfl
 have hlen : gY [.p (.list (ps.map plD))] = .ok (.p (.int (ps.length : Nat))) := by simp [gY, i5]
 have t0 : cU (aL (eqE false) (aF gY (aB (aG 0) aS)) (mC (.int 0))) [some (.p (.list (ps.map plD))), none] = .ok (((ps.length : Nat) : Int) == 0) := by
  ktr_call 3 ⟨cU, aL, aF, aB, aS, aG, mC, Res.bind, Ev.c, hlen, eqE, dat, nE, mG, iK⟩
  rfl
 unfold tV
 by_cases h0 : ps = []
 ·rw [if_pos h0]
  subst h0
  refine zA (e := [some (.p (.list [])), none]) ?_
  unfold gO cO
  rw [es, r8 (by rw [t0]; rfl)]
  rfl
 rw [if_neg h0]
 have h0' : (((ps.length : Nat) : Int) == 0) = false := by
  rw [beq_eq_false_iff_ne]
  exact fun z => h0 (List.length_eq_zero_iff.mp (by omega))
 rw [h0'] at t0
 have hm1 : wA (bZ 1 [] (aQ 0) iC (d8 K c) [some (.p (.list (ps.map plD))), none]) (ps.map plD) = some (ps.map fun p => .bool (stp (slp p))) := by
  refine eW _ fun p hp => ?_
  have he : d8 K c [some (.p (plD p))] = .ok (.p (.bool (stp (slp p)))) := by
   ktr_call 3 ⟨d8, a5, aB, aS, aG, Res.bind, Ev.c, kP, gN, wY, nZ, wF, tM⟩
  simp [bZ, aQ, wW, iC, he, Ev.c]
 have hc1 := j0 (n := 1) (js := []) (fi := jT (aG 0)) (tg := aQ 0) (ft := iC) (fe := d8 K c) (en := [some (.p (.list (ps.map plD))), none]) (ds := ps.map plD) rfl (by rw [List.length_map]; omega) hm1
 have hany : aDo [.p (.list (ps.map fun p => PyData.bool (stp (slp p))))] = .ok (.p (.bool (ps.any fun p => stp (slp p)))) := by
  simp only [aDo, iE, rW, any_map]
 have t1 : cU (aF aDo (aB (fD 1 [] (jT (aG 0)) (aQ 0) iC (d8 K c)) aS)) [some (.p (.list (ps.map plD))), none] = .ok (ps.any fun p => stp (slp p)) := by
  ktr_call 3 ⟨cU, aF, aB, aS, hc1, Res.bind, Ev.c, hany, iK⟩
 cases hs : (ps.any fun p => stp (slp p)) with
 | true =>
  rw [if_pos rfl]
  rw [hs] at t1
  refine zA (e := [some (.p (.list (ps.map plD))), none]) ?_
  rw [es]
  unfold gO
  refine (aM (iX t0)).trans ?_
  unfold cO
  rw [r8 t1]
  rfl
 | false =>
  rw [if_neg (by decide)]
  rw [hs] at t1
  have hm2 : wA (bZ 1 [] (aQ 0) iC (d6 K c) [some (.p (.list (ps.map plD))), none]) (ps.map plD) = some (ps.map fun p => .tuple [slD (slp p), frD p.2.2]) := by
   refine eW _ fun p hp => ?_
   have he : d6 K c [some (.p (plD p))] = .ok (.p (.tuple [slD (slp p), frD p.2.2])) := by
    ktr_call 2 ⟨d6, nZ⟩
   simp [bZ, aQ, wW, iC, he, Ev.c]
  have hc2 := j0 (n := 1) (js := []) (fi := jT (aG 0)) (tg := aQ 0) (ft := iC) (fe := d6 K c) (en := [some (.p (.list (ps.map plD))), none]) (ds := ps.map plD) rfl (by rw [List.length_map]; omega) hm2
  have hhb := aD9 K c hl hz
  have e2 : (a5 1 (a9 K c) (aB (fD 1 [] (jT (aG 0)) (aQ 0) iC (d6 K c)) aS)) [some (.p (.list (ps.map plD))), none] = .ok (.f (.dict (N.encM slD frD (hbM ps)))) := by
   ktr_call 3 ⟨a5, aB, aS, hc2, Res.bind, Ev.c, kP, gN, wY, hhb, tM⟩
  have hld : kT [.b (.dict (N.encM slD frD (hbM ps)))] = .ok (.p (.int ((hbM ps).length : Nat))) := by
   simp only [kT, i3, nW]
   unfold N.encM
   rw [List.length_map]
  have t2 : cU (aL gtE (aF kT (aB (aG 1) aS)) (mC (.int 16))) [some (.p (.list (ps.map plD))), some (.o (.dict (N.encM slD frD (hbM ps))))] = .ok (decide ((16 : Int) < ((hbM ps).length : Nat))) := by
   ktr_call 3 ⟨cU, aL, aF, aB, aS, aG, mC, Res.bind, Ev.c, hld, kE, iK⟩
  by_cases hm : 16 < (hbM ps).length
  ·rw [if_pos hm]
   rw [decide_eq_true (by omega)] at t2
   refine zA (e := [some (.p (.list (ps.map plD))), some (.o (.dict (N.encM slD frD (hbM ps))))]) ?_
   rw [es]
   unfold gO
   refine (aM (iX t0)).trans ((aM (iX t1)).trans ((aM (i4 e2)).trans ?_))
   simp only [List.set_cons_succ, List.set_cons_zero]
   unfold cO
   rw [r8 t2]
   rfl
  ·rw [if_neg hm]
   rw [decide_eq_false (by omega)] at t2
   refine bY ?_
   rw [es]
   unfold gO
   refine (aM (iX t0)).trans ((aM (iX t1)).trans ((aM (i4 e2)).trans ?_))
   simp only [List.set_cons_succ, List.set_cons_zero]
   refine (aM (iX t2)).trans ?_
   ktr_call 3 ⟨frz⟩
   generalize hbM ps = m at *
   have hso := qC (ev := frD) m (by omega)
   have hm3 : wA (bZ 1 [1] (aQ 0) iC (fY K c) [some (.p (.list (ps.map plD))), some (.p (.dict (N.encM slD frD m)))]) ((jL (kys m)).map nS) = some ((jL (kys m)).map fun k => plD ((un2 k).1, (un2 k).2, aDn m (0, 1) k)) := by
    refine eW _ fun k hk => ?_
    obtain ⟨h1, h2, h3⟩ := u9 hk (0, 1)
    have hd := lP (ev := frD) m (un2 k)
    rw [h3] at hd
    have x0 : ixE (.p (slD (un2 k))) (.p (.int 0)) = .ok (.p (.int (un2 k).1)) := nI _ _
    have x1 : ixE (.p (slD (un2 k))) (.p (.int 1)) = .ok (.p (.int (un2 k).2)) := nM _ _ _
    rw [h1]
    unfold bZ
    ktr_call 2 ⟨aQ, wW, aGm, iC, fY, List.replicate, List.cons_append, List.nil_append, kB, i3, hd, x0, x1, Option.map_some, plD⟩
   refine aBs ?_
   have hit : (jT (aF dO (aB (aG 1) aS))) [some (.p (.list (ps.map plD))), some (.p (.dict (N.encM slD frD m)))] = .ok ((jL (kys m)).map nS) := by
    ktr_call 3 ⟨jT, aF, aB, aS, aG, Res.bind, Ev.c, hso, aFi⟩
   have hc3 := j0 (n := 1) (js := [1]) (fi := jT (aF dO (aB (aG 1) aS))) (tg := aQ 0) (ft := iC) (fe := fY K c) (en := [some (.p (.list (ps.map plD))), some (.p (.dict (N.encM slD frD m)))]) hit (by rw [List.length_map, (dQ (kys m)).length_eq]; unfold kys; rw [List.length_map]; omega) hm3
   rw [hc3]
   unfold aO
   rw [List.map_map]
   rfl
theorem yF (K : PySem.W.Frag) (c : Cls) {ps : List Pl} (hl : ps.length <= 1000) (hz : ∀ p ∈ ps, FSz 2000 p.2.2) : fO K c [.p (.list (ps.map plD))] = tV c ps := nD (a := ps) aEd ⟨hl, hz⟩
theorem mem_keys {m : Mp} {k : Int × Int} : k ∈ m.map (·.1) ↔ (eI m k).isSome = true := by
 constructor
 ·intro h
  obtain ⟨e, he, rfl⟩ := List.mem_map.mp h
  obtain ⟨v, hv⟩ := oH he
  rw [hv]
  rfl
 ·intro h
  cases e : eI m k with
  | none => rw [e] at h; cases h
  | some v =>
   by_cases hk : k ∈ m.map (·.1)
   ·exact hk
   ·exfalso
    have : ∀ m : Mp, k ∉ m.map (·.1) -> eI m k = none := by
     intro m
     induction m with
     | nil => intro _; rfl
     | cons p r ih =>
      intro hn
      rw [List.map_cons, List.mem_cons, not_or] at hn
      unfold eI
      rw [if_neg (fun z => hn.1 z.symm)]
      exact ih hn.2
    rw [this m hk] at e
    cases e
theorem zE {α : Type} [DecidableEq α] : ∀ {a b : List α}, a.Nodup -> b.Nodup -> (∀ x, x ∈ a ↔ x ∈ b) -> a.Perm b
 | [], b, _, _, h => by
  cases b with
  | nil => exact .refl _
  | cons y r => exact absurd ((h y).mpr (.head _)) (fun z => nomatch z)
 | x :: a, b, ha, hb, h => by
  obtain ⟨h1, h2⟩ := List.nodup_cons.mp ha
  have hx : x ∈ b := (h x).mp (.head _)
  have p : b.Perm (x :: b.erase x) := List.perm_cons_erase hx
  have hb' : (b.erase x).Nodup := hb.erase x
  have : a.Perm (b.erase x) := zE h2 hb' fun y => by
   rw [List.Nodup.mem_erase_iff hb]
   constructor
   ·intro hy
    exact ⟨fun z => h1 (z ▸ hy), (h y).mp (.tail _ hy)⟩
   ·rintro ⟨q1, q2⟩
    rcases List.mem_cons.mp ((h y).mpr q2) with z | z
    ·exact absurd z q1
    ·exact z
  exact (this.cons x).trans p.symm
theorem n5 {m1 m2 : Mp} (n1 : (m1.map (·.1)).Nodup) (n2 : (m2.map (·.1)).Nodup) (h : ∀ k, eI m1 k = eI m2 k) : aO m1 = aO m2 := by
 have p : (m1.map (·.1)).Perm (m2.map (·.1)) := zE n1 n2 fun k => by rw [mem_keys, mem_keys, h]
 have e : ∀ m : Mp, kys m = (m.map (·.1)).map fun s => [s.1, s.2] := fun m => by unfold kys; rw [List.map_map]; rfl
 have q : (kys m1).Perm (kys m2) := by rw [e, e]; exact p.map _
 have s : jL (kys m1) = jL (kys m2) := jO ((dQ _).trans (q.trans (dQ _).symm)) (fU _) (fU _)
 unfold aO
 rw [s]
 refine List.map_congr_left fun k _ => ?_
 unfold aDn
 rw [h]
def mxO (o : Option (Int × Int)) (h : Int × Int) : Option (Int × Int) := if tkF o h = true then some h else o
theorem aBq (m : Mp) (s h k : Int × Int) : eI (hbS m s h) k = if k = s then mxO (eI m k) h else eI m k := by
 unfold hbS mxO
 by_cases e : k = s
 ·rw [if_pos e, e]
  split
  ·rw [jZ, if_pos rfl]
  ·rfl
 ·rw [if_neg e]
  split
  ·rw [jZ, if_neg e]
  ·rfl
theorem uE (k : Int × Int) : ∀ (rs : List ((Int × Int) × (Int × Int))) (m : Mp), eI (hbR rs m) k = ((rs.filter fun r => decide (k = r.1)).map (·.2)).foldl mxO (eI m k)
 | [], m => rfl
 | r :: rs, m => by
  show eI (hbR rs (hbS m r.1 r.2)) k = _
  rw [uE k rs, aBq]
  by_cases e : k = r.1
  ·rw [if_pos e, List.filter_cons_of_pos (by simpa using e), List.map_cons, List.foldl_cons]
  ·rw [if_neg e, List.filter_cons_of_neg (by simpa using e)]
theorem aDi : ∀ (rs : List ((Int × Int) × (Int × Int))) (m : Mp), (m.map (·.1)).Nodup -> ((hbR rs m).map (·.1)).Nodup
 | [], m, h => h
 | r :: rs, m, h => aDi rs (hbS m r.1 r.2) (by
  unfold hbS
  split
  ·exact xA h _ _
  ·exact h)
theorem x8 (ps : List Pl) : ((hbM ps).map (·.1)).Nodup := aDi _ _ List.Pairwise.nil
theorem pL : ∀ (hs : List (Int × Int)) (o : Option (Int × Int)), (∀ h ∈ hs, 1 <= h.2) -> (∀ f, o = some f -> 1 <= f.2) -> (hs.foldl mxO o = none -> o = none /\ hs = []) /\ ∀ b, hs.foldl mxO o = some b -> (b ∈ hs \/ o = some b) /\ (∀ h ∈ hs, leF h b) /\ (∀ f, o = some f -> leF f b) /\ 1 <= b.2
 | [], o, _, ho => ⟨fun e => ⟨e, rfl⟩, fun b e => ⟨.inr e, (fun _ h => nomatch h), (fun f hf => by
  have : f = b := Option.some.inj (hf.symm.trans e)
  rw [this]; exact hZ b), ho b e⟩⟩
 | h :: hs, o, hh, ho => by
  have h1 := hh h (.head _)
  have hn : ∀ f, mxO o h = some f -> 1 <= f.2 := fun f e => by
   unfold mxO at e
   split at e
   ·cases e; exact h1
   ·exact ho f e
  obtain ⟨a, b⟩ := pL hs (mxO o h) (fun x hx => hh x (.tail _ hx)) hn
  rw [List.foldl_cons]
  have some' : ∃ f, mxO o h = some f /\ leF h f /\ (∀ g, o = some g -> leF g f) /\ (f = h \/ o = some f) := by
   unfold mxO
   cases o with
   | none => exact ⟨h, if_pos rfl, hZ h, (fun _ e => nomatch e), .inl rfl⟩
   | some g =>
    show ∃ f, (if ltF g h = true then some h else some g) = some f /\ leF h f /\ (∀ g', some g = some g' -> leF g' f) /\ (f = h \/ some g = some f)
    cases e : ltF g h with
    | true => exact ⟨h, by rw [if_pos rfl], hZ h, fun g' z => by cases z; exact aJ6 e, .inl rfl⟩
    | false => exact ⟨g, by rw [if_neg (by decide)], aJt e, fun g' z => by cases z; exact hZ g, .inr rfl⟩
  obtain ⟨f, e1, e2, e3, e4⟩ := some'
  refine ⟨fun e => ?_, fun r e => ?_⟩
  ·have := (a e).1
   rw [e1] at this
   cases this
  ·obtain ⟨c1, c2, c3, c4⟩ := b r e
   have fr := c3 f e1
   have f1 := hn f e1
   refine ⟨?_, fun x hx => ?_, fun g hg => lU (ho g hg) f1 c4 (e3 g hg) fr, c4⟩
   ·rcases c1 with z | z
    ·exact .inl (.tail _ z)
    ·have : f = r := Option.some.inj (e1.symm.trans z)
     rcases e4 with q | q
     ·rw [<- this, q]; exact .inl (.head _)
     ·rw [<- this]; exact .inr q
   ·rcases List.mem_cons.mp hx with z | z
    ·rw [z]; exact lU h1 f1 c4 e2 fr
    ·exact c2 x z
def hts (ps : List Pl) (k : Int × Int) : List (Int × Int) := ((ps.map fun p => (slp p, p.2.2)).filter fun r => decide (k = r.1)).map (·.2)
theorem mem_hts {ps : List Pl} {k h : Int × Int} : h ∈ hts ps k ↔ ∃ p ∈ ps, slp p = k /\ p.2.2 = h := by
 unfold hts
 constructor
 ·intro hm
  obtain ⟨r, hr, rfl⟩ := List.mem_map.mp hm
  obtain ⟨h1, h2⟩ := List.mem_filter.mp hr
  obtain ⟨p, hp, rfl⟩ := List.mem_map.mp h1
  exact ⟨p, hp, (of_decide_eq_true h2).symm, rfl⟩
 ·rintro ⟨p, hp, rfl, rfl⟩
  exact List.mem_map.mpr ⟨_, List.mem_filter.mpr ⟨List.mem_map.mpr ⟨p, hp, rfl⟩, by simp⟩, rfl⟩
theorem oP (ps : List Pl) (k : Int × Int) : eI (hbM ps) k = (hts ps k).foldl mxO none := uE k _ []
theorem xG {m : Mp} (hn : (m.map (·.1)).Nodup) (hf : ∀ p ∈ aO m, FR.Fr p.2.2) : aO (hbM (aO m)) = aO m := by
 refine n5 (x8 _) hn fun k => ?_
 rw [oP]
 have at1 : ∀ h ∈ hts (aO m) k, eI m k = some h := fun h hh => by
  obtain ⟨p, hp, e1, e2⟩ := mem_hts.mp hh
  unfold aO at hp
  obtain ⟨k', hk, rfl⟩ := List.mem_map.mp hp
  obtain ⟨_, _, h3⟩ := u9 hk (0, 1)
  have : un2 k' = k := e1
  rw [this] at h3
  rw [h3]
  rw [<- e2]
 obtain ⟨a1, a2⟩ := pL (hts (aO m) k) none (fun h hh => by
  obtain ⟨p, hp, _, rfl⟩ := mem_hts.mp hh
  exact (hf p hp).pos) (fun _ e => nomatch e)
 cases e1 : (hts (aO m) k).foldl mxO none with
 | some b =>
  rcases (a2 b e1).1 with z | z
  ·exact (at1 b z).symm
  ·cases z
 | none =>
  cases e2 : eI m k with
  | none => rfl
  | some v =>
   exfalso
   have hk : k ∈ m.map (·.1) := mem_keys.mpr (by rw [e2]; rfl)
   obtain ⟨e, he, rfl⟩ := List.mem_map.mp hk
   have hs : [e.1.1, e.1.2] ∈ jL (kys m) := (dQ _).mem_iff.mpr (List.mem_map.mpr ⟨e, he, rfl⟩)
   have : aDn m (0, 1) [e.1.1, e.1.2] ∈ hts (aO m) e.1 := mem_hts.mpr ⟨_, List.mem_map.mpr ⟨_, hs, rfl⟩, rfl, rfl⟩
   rw [(a1 e1).2] at this
   cases this
structure GH (h : Int × Int) : Prop where
 f : FR.Fr h
 t : h.1.natAbs < 10 ^ 30
 b : h.2.natAbs < 10 ^ 30
theorem aBa {n : Nat} (h : n < 10 ^ 30) : n < 10 ^ 100 := Nat.lt_trans h (by decide +kernel)
theorem lY {i : Int} (h : i.natAbs < 10 ^ 30) : (tx i).length <= 31 := by
 rw [dH, oI]
 have := zD (k := 30) (by decide) h
 unfold sg
 split
 ·rw [List.length_cons]; omega
 ·omega
def nT (h : Int × Int) : Str := if h.2 = 1 then tx h.1 else tx h.1 ++ "/" ++ tx h.2
theorem yD (a b d : Str) : tl (a ++ b ++ d) = tl a ++ tl b ++ tl d := by rw [iN, iN]
theorem v3 : tl ("/" : Str) = [47] := by decide +kernel
theorem wM : tl (" " : Str) = [32] := by decide +kernel
theorem aB2 : tl ("; " : Str) = [59, 32] := by decide +kernel
theorem oN {z : Str} {l : List Nat} (h : tl z = l) : z.length = l.length := by rw [dH, h]
theorem uI {h : Int × Int} (g : GH h) : (nT h).length <= 63 := by
 have l1 := lY g.t
 have l2 := lY g.b
 unfold nT
 split
 ·omega
 ·rw [dH, yD, List.length_append, List.length_append, v3, <- dH, <- dH]
  simp only [List.length_singleton]
  omega
theorem aF8 {h : Int × Int} {c : Nat} (hc : c ∈ tl (nT h)) : c = 45 \/ c = 47 \/ 48 <= c /\ c <= 57 := by
 have key : ∀ {i : Int}, c ∈ tl (tx i) -> c = 45 \/ c = 47 \/ 48 <= c /\ c <= 57 := fun {i} z => by
  rw [oI] at z
  rcases oE z with w | w
  ·exact .inl w
  ·exact .inr (.inr w)
 unfold nT at hc
 split at hc
 ·exact key hc
 ·rw [yD, v3] at hc
  rcases List.mem_append.mp hc with z | z
  ·rcases List.mem_append.mp z with z | z
   ·exact key z
   ·exact .inr (.inl (List.mem_singleton.mp z))
  ·exact key z
theorem aEb {i : Int} {c : Nat} (hc : c ≠ 45) (hd : c < 48) : c ∉ tl (tx i) := fun z => by
 rw [oI] at z
 rcases oE z with w | w <;> omega
theorem aB1 (h : Int × Int) : Txt.split (nT h) "/" = if h.2 = 1 then [tx h.1] else [tx h.1, tx h.2] := by
 unfold nT
 have fr : ∀ i : Int, 47 ∉ tl (tx i) := fun i => aEb (by decide) (by decide)
 split
 ·have := lT (y := ("/" : Str)) v3 (ps := [tx h.1]) (List.cons_ne_nil _ _) fun p hp => by rw [List.mem_singleton.mp hp]; exact fr _
  rw [Str.join.eq_2] at this
  exact this
 ·have := lT (y := ("/" : Str)) v3 (ps := [tx h.1, tx h.2]) (List.cons_ne_nil _ _) fun p hp => by
   rcases List.mem_cons.mp hp with e | hp
   ·rw [e]; exact fr _
   ·rw [List.mem_singleton.mp hp]; exact fr _
  rw [Str.join.eq_3 _ _ [tx h.2] (fun z => nomatch z), Str.join.eq_2] at this
  exact this
noncomputable def fJ (K : PySem.W.Frag) (c : Cls) : MS := (cO (eR 1 (aF vI (aB (aL ixE (aG 0) (mC (.int 0))) aS))) (eM (mIf (cU (aL (eqE false) (aL ixE (aG 0) (mC (.int 1))) (mC (.int 1)))) (aG 1) (aL fK (aL fK (aG 1) (mC (.str "/"))) (aF vI (aB (aL ixE (aG 0) (mC (.int 1))) aS))))))
noncomputable def b9 (K : PySem.W.Frag) (c : Cls) (ls : List L) : Res L := dU 2 (fJ K c) ls
theorem nJ (K : PySem.W.Frag) (c : Cls) : ∀ ls, b9 K c ls = .bad \/ dU 2 (fJ K c) ls = b9 K c ls := fun _ => .inr rfl
theorem aJc (K : PySem.W.Frag) (c : Cls) {h : Int × Int} (g : GH h) : b9 K c [.p (frD h)] = .ok (.p (.str (nT h))) := by
 have i0 : ixE (.p (frD h)) (.p (.int 0)) = .ok (.p (.int h.1)) := nI _ _
 have i1 : ixE (.p (frD h)) (.p (.int 1)) = .ok (.p (.int h.2)) := nM _ _ _
 have l1 := lY g.t
 have l2 := lY g.b
 have sl := oN v3
 unfold b9
 refine bY ?_
 rw [show bJ 2 [.p (frD h)] = [some (.p (frD h)), none] from rfl]
 unfold fJ nT
 refine (aM (fH (bQ (aV (aH rfl rfl i0) rfl) (oR (aBa g.t))))).trans ?_
 by_cases z : h.2 = 1
 ·rw [if_pos z]
  exact eD (aHn (cG ((aH (aH rfl rfl i1) rfl eq_is).trans (by rw [beq_iff_eq.mpr z]))) rfl)
 ·rw [if_neg z]
  refine eD (aJw (cG ((aH (aH rfl rfl i1) rfl eq_is).trans (by rw [beq_eq_false_iff_ne.mpr z]))) (aH (aH rfl rfl (qR ?_)) (bQ (aV (aH rfl rfl i1) rfl) (oR (aBa g.b))) (qR ?_)))
  ·rw [sl]; show _ + 1 <= _; omega
  ·rw [dH, iN, List.length_append, <- dH, <- dH, sl]; show _ + 1 + _ <= _; omega
theorem aKr : tl ("0123456789" : Str) = [48, 49, 50, 51, 52, 53, 54, 55, 56, 57] := by decide +kernel
theorem aJd {c : Nat} (h : 48 <= c /\ c <= 57) : c ∈ tl ("0123456789" : Str) := by
 rw [aKr]
 have : c = 48 \/ c = 49 \/ c = 50 \/ c = 51 \/ c = 52 \/ c = 53 \/ c = 54 \/ c = 55 \/ c = 56 \/ c = 57 := by omega
 simp only [List.mem_cons, List.not_mem_nil, or_false]
 exact this
theorem aHk {z : Str} {n : Nat} (h : tl z = dg n) : P8 z := fun c hc => by
 rw [h] at hc
 have := i8 n c hc
 omega
theorem aK6 : P8 ("0" : Str) := by unfold P8; rw [show tl ("0" : Str) = [48] by decide +kernel]; intro c hc; rw [List.mem_singleton.mp hc]; decide
noncomputable def hU (K : PySem.W.Frag) (c : Cls) : En -> Res Ev := (aL (aD0 false) (aG 0) (mC (.str "0123456789")))
noncomputable def iV (K : PySem.W.Frag) (c : Cls) : MS := (cO (gP (mOr (cU (aL (eqE false) (aF pV (aB (aG 0) aS)) (mC (.int 0)))) (mOr (cU (aL gtE (aF pV (aB (aG 0) aS)) (mC (.int 30)))) (mW (cU (aF aD5 (aB (fD 1 [] (aJx (aG 0)) (aQ 0) iC (hU K c)) aS)))))) (eM (mC (.bool false))) dG) (eM (aBb (aL (eqE false) (aG 0) (mC (.str "0"))) (aL (eqE true) (aL aC1 (aG 0) (mC (.int 0))) (mC (.str "0"))))))
noncomputable def cK (K : PySem.W.Frag) (c : Cls) (ls : List L) : Res L := dU 1 (iV K c) ls
theorem sW (K : PySem.W.Frag) (c : Cls) : ∀ ls, cK K c ls = .bad \/ dU 1 (iV K c) ls = cK K c ls := fun _ => .inr rfl
theorem w4 (K : PySem.W.Frag) (c : Cls) {z : Str} {n : Nat} (hz : tl z = dg n) (hn : n < 10 ^ 30) : cK K c [.p (.str z)] = .ok (.p (.bool true)) := by
 have zl := oN hz
 have l1 := zD (k := 30) (by decide) hn
 have l0 : (dg n).length ≠ 0 := fun e => aC0 n (List.length_eq_zero_iff.mp e)
 have ln := aJb (z := z) (by omega)
 have cm : fD 1 [] (aJx (aG 0)) (aQ 0) iC (hU K c) [some (.p (.str z))] = .ok (.f (.list ((tl z).map fun _ => PyData.bool true))) := by
  refine j0 (ds := M.signs z) (itS rfl) (by unfold M.signs; rw [List.length_map, <- dH]; omega) ?_
  refine eW (enc := fun c : Nat => PyData.str ⟨#[c]⟩) (tl z) fun d hd => ?_
  have e : hU K c [some (.p (.str ⟨#[d]⟩))] = .ok (.p (.bool true)) := (aH rfl rfl (aDy d _)).trans (by rw [decide_eq_true (aJd (i8 n d (by rw [<- hz]; exact hd)))])
  unfold bZ
  ktr_call 3 ⟨aQ, iC, wW, aGm, List.replicate, List.cons_append, List.nil_append, List.append_nil, e, Ev.c⟩
 have al : aD5 [.p (.list ((tl z).map fun _ => PyData.bool true))] = .ok (.p (.bool true)) := (aKl (b := fun _ => true) rfl).trans (by rw [List.all_eq_true.mpr fun _ _ => rfl])
 have t1 : eqE false (.p (.int (z.length : Nat))) (.p (.int 0)) = .ok (.p (.bool false)) := eq_is.trans (by rw [beq_eq_false_iff_ne.mpr (by omega)])
 have t2 : gtE (.p (.int (z.length : Nat))) (.p (.int 30)) = .ok (.p (.bool false)) := by
  show Res.ok (Ev.p (.bool (decide (((z.length : Nat) : Int) > 30)))) = _
  rw [decide_eq_false (by omega)]
 unfold cK
 refine bY ?_
 rw [show bJ 1 [.p (.str z)] = [some (.p (.str z))] from rfl]
 unfold iV
 refine (aM (iX (wO (cG (aH (bQ (aV rfl rfl) ln) rfl t1)) (wO (cG (aH (bQ (aV rfl rfl) ln) rfl t2)) (iL (cG (bQ (aV cm rfl) al))))))).trans (eD ?_)
 by_cases n0 : n = 0
 ·have : z = ("0" : Str) := nA (by rw [hz, n0]; decide +kernel)
  exact aLf ((aH rfl rfl (eq_str false (aHk hz) aK6)).trans (by rw [decide_eq_true this]; rfl))
 ·obtain ⟨a, r, e, ha⟩ := aAk n0
  have ne : z ≠ ("0" : Str) := fun w => by
   rw [w, e, show tl ("0" : Str) = [48] by decide +kernel] at hz
   injection hz with hz
   omega
  have ix : aC1 (.p (.str z)) (.p (.int 0)) = .ok (.p (.str ⟨#[a]⟩)) := by
   have ec : z.cps[(0 : Int).toNat]? = some a := by
    rw [<- Array.getElem?_toList]
    show (tl z)[0]? = some a
    rw [hz, e]
    rfl
   unfold aC1
   dsimp only
   rw [if_pos ⟨by decide, by decide, by omega⟩, ec]
  have p8 : P8 ⟨#[a]⟩ := fun d hd => by
   have : d = a := List.mem_singleton.mp hd
   have := i8 n a (by rw [e]; exact .head _)
   omega
  have ne2 : (⟨#[a]⟩ : Str) ≠ ("0" : Str) := fun w => by
   have w := congrArg tl w
   rw [show tl ("0" : Str) = [48] by decide +kernel] at w
   injection w with w
   omega
  exact aKq ((aH rfl rfl (eq_str false (aHk hz) aK6)).trans (by rw [decide_eq_false ne]; rfl)) ((aH (aH rfl rfl ix) rfl (eq_str true p8 aK6)).trans (by rw [decide_eq_false ne2]; rfl))
noncomputable def lK (K : PySem.W.Frag) (c : Cls) : MS := (cO (gP (cU (s9 wN (aG 0) (mC (.str "-")))) (eM (kR (aL (eqE true) (aG 0) (mC (.str "-0"))) (a5 1 (cK K c) (aB (aHi (aG 0) (mPt (mC (.int 1))) rR) aS)))) dG) (eM (a5 1 (cK K c) (aB (aG 0) aS))))
noncomputable def fG (K : PySem.W.Frag) (c : Cls) (ls : List L) : Res L := dU 1 (lK K c) ls
theorem xI (K : PySem.W.Frag) (c : Cls) : ∀ ls, fG K c ls = .bad \/ dU 1 (lK K c) ls = fG K c ls := fun _ => .inr rfl
theorem aIr : tl ("-" : Str) = [45] := by decide +kernel
theorem aAt (z : Str) : Txt.startswith z "-" = decide ((tl z).head? = some 45) := by
 unfold Txt.startswith
 rw [StrLaws.subAt_eq, show ("-" : Str).cps.toList = [45] from aIr, show ("-" : Str).length = 1 from oN aIr, List.drop_zero]
 have zl := dH z
 have e : z.cps.toList = tl z := rfl
 rw [e]
 cases h : tl z with
 | nil =>
  rw [h] at zl
  rw [zl]
  rfl
 | cons a r =>
  rw [h, List.length_cons] at zl
  rw [decide_eq_true (show 0 + 1 <= z.length by omega), Bool.true_and, List.take_succ_cons, List.take_zero, List.head?_cons, Bool.eq_iff_iff, beq_iff_eq, decide_eq_true_iff]
  constructor
  ·intro w; injection w with w; rw [w]
  ·intro w; rw [Option.some.inj w]
theorem aI9 (K : PySem.W.Frag) (c : Cls) {i : Int} (hi : i.natAbs < 10 ^ 30) : fG K c [.p (.str (tx i))] = .ok (.p (.bool true)) := by
 have t := oI i
 have l := lY hi
 unfold sg at t
 unfold fG
 refine bY ?_
 rw [show bJ 1 [.p (.str (tx i))] = [some (.p (.str (tx i)))] from rfl]
 unfold lK
 have st : wN (.p (.str (tx i))) (.p (.str "-")) = .ok (.p (.bool (decide ((tl (tx i)).head? = some 45)))) := by
  show Res.ok (Ev.p (.bool (Txt.startswith (tx i) "-"))) = _
  rw [aAt]
 by_cases z : i < 0
 ·rw [if_pos z] at t
  have n0 : i.natAbs ≠ 0 := by omega
  rw [t, List.head?_cons, decide_eq_true rfl] at st
  have ne : tx i ≠ ("-0" : Str) := fun w => by
   rw [w, show tl ("-0" : Str) = [45, 48] by decide +kernel] at t
   obtain ⟨a, r, e, ha⟩ := aAk n0
   rw [e] at t
   injection t with _ t
   injection t with t
   omega
  have sc : tl (Txt.slice (tx i) (some 1) none) = dg i.natAbs := by
   have e : (tx i).cps.toList = 45 :: dg i.natAbs := t
   have := StrLaws.sliceText_from (x := tx i) (i := 1) ⟨by decide, by rw [e, List.length_cons]; omega⟩
   have this : Txt.slice (tx i) (some 1) none = _ := this
   rw [this, e]
   show List.take _ _ = _
   rw [show (1 : Int).toNat = 1 from rfl, List.drop_succ_cons, List.drop_zero, List.length_cons]
   exact List.take_of_length_le (by omega)
  have p8n : P8 ("-0" : Str) := by unfold P8; rw [show tl ("-0" : Str) = [45, 48] by decide +kernel]; intro c hc; simp only [List.mem_cons, List.not_mem_nil, or_false] at hc; omega
  refine qD ((r8 (cG (nF rfl rfl st))).trans (eD ?_))
  exact l9 ((aH rfl rfl (eq_str true (aKt i) p8n)).trans (by rw [decide_eq_false ne]; rfl)) (fE (aL2 rfl rfl rfl (by omega)) rfl (w4 K c sc hi))
 ·rw [if_neg z] at t
  have nh : (tl (tx i)).head? ≠ some 45 := fun w => by
   rw [t] at w
   have := i8 _ 45 (List.mem_of_head? w)
   omega
  rw [decide_eq_false nh] at st
  exact (aM (iX (cG (nF rfl rfl st)))).trans (eD (fE rfl rfl (w4 K c t hi)))
noncomputable def iA (K : PySem.W.Frag) (c : Cls) : MS := (eM (kR (aL (inE true) (aG 0) (aF eC (aB (mC (.str "0")) (aB (mC (.str "1")) aS)))) (a5 1 (cK K c) (aB (aG 0) aS))))
noncomputable def dJ (K : PySem.W.Frag) (c : Cls) (ls : List L) : Res L := dU 1 (iA K c) ls
theorem p9 (K : PySem.W.Frag) (c : Cls) : ∀ ls, dJ K c ls = .bad \/ dU 1 (iA K c) ls = dJ K c ls := fun _ => .inr rfl
theorem aJl (K : PySem.W.Frag) (c : Cls) {i : Int} (h2 : 2 <= i) (hi : i.natAbs < 10 ^ 30) : dJ K c [.p (.str (tx i))] = .ok (.p (.bool true)) := by
 have t := oI i
 unfold sg at t
 rw [if_neg (by omega)] at t
 have ne : ∀ (w : Str) (k : Nat), tl w = dg k -> (k : Int) ≠ i -> PyData.eqv (.str w) (.str (tx i)) = false := fun w k hw hk => by
  have : w ≠ tx i := fun e => by
   rw [e, t] at hw
   have := aDj hw
   omega
  simp [PyData.eqv, this]
 have n0 := ne "0" 0 (by decide +kernel) (by omega)
 have n1 := ne "1" 1 (by decide +kernel) (by omega)
 have ni : inE true (.p (.str (tx i))) (.p (.tuple [.str "0", .str "1"])) = .ok (.p (.bool true)) := by
  simp [inE, i5, pR, n0, n1]
 unfold dJ
 refine bY ?_
 rw [show bJ 1 [.p (.str (tx i))] = [some (.p (.str (tx i)))] from rfl]
 unfold iA
 exact eD (l9 (aH rfl (wZ rfl rfl) ni) (fE rfl rfl (w4 K c t hi)))
structure fQ (K : PySem.W.Frag) (c : Cls) : Prop where
 ii : PySem.W.kitOne K (.type "int") (.type "int") = some true
 ib : PySem.W.kitOne K (.type "int") (.type "bool") = some false
 tt : PySem.W.kitOne K (.type "tuple") (.type "tuple") = some true
 ll : PySem.W.kitOne K (.type "list") (.type "list") = some true
 ss : PySem.W.kitOne K (.type "str") (.type "str") = some true
theorem aEy {K : PySem.W.Frag} {c : Cls} (hk : fQ K c) (z : Str) : nH K (.type "str") (.p (.str z)) = .ok (.p (.bool true)) := by simp [nH, dat, tyD, hk.ss]
theorem w1 : (("/" : Str).length == 0) = false := by decide +kernel
theorem w2 : ((" " : Str).length == 0) = false := by decide +kernel
theorem w3 : (("; " : Str).length == 0) = false := by decide +kernel
theorem aHo {h : Int × Int} (g : GH h) : gK (.p (.str (nT h))) (.p (.str "/")) = .ok (.f (.list ((if h.2 = 1 then [tx h.1] else [tx h.1, tx h.2]).map PyData.str))) := by
 rw [tQ w1 (by have := uI g; omega), aB1]
noncomputable def gW (K : PySem.W.Frag) (c : Cls) : MS := (cO (gP (mW (cU (mUn (nH K (.type "str")) (aG 0)))) (eM (mC (.bool false))) dG) (cO (eR 1 (s9 gK (aG 0) (mC (.str "/")))) (cO (gP (cU (aL (eqE false) (aF gY (aB (aG 1) aS)) (mC (.int 1)))) (eM (a5 1 (fG K c) (aB (aG 0) aS))) dG) (cO (gP (mOr (cU (aL gtE (aF gY (aB (aG 1) aS)) (mC (.int 2)))) (mOr (mW (cU (a5 1 (fG K c) (aB (aL ixE (aG 1) (mC (.int 0))) aS)))) (mW (cU (a5 1 (dJ K c) (aB (aL ixE (aG 1) (mC (.int 1))) aS)))))) (eM (mC (.bool false))) dG) (eM (aL (eqE false) (a5 2 (bG K c) (aB (aF lD (aB (aL ixE (aG 1) (mC (.int 0))) aS)) (aB (aF lD (aB (aL ixE (aG 1) (mC (.int 1))) aS)) aS))) (mC (.int 1))))))))
noncomputable def cF (K : PySem.W.Frag) (c : Cls) (ls : List L) : Res L := dU 2 (gW K c) ls
theorem pT (K : PySem.W.Frag) (c : Cls) : ∀ ls, cF K c ls = .bad \/ dU 2 (gW K c) ls = cF K c ls := fun _ => .inr rfl
theorem aD3 (K : PySem.W.Frag) (c : Cls) (hk : fQ K c) {h : Int × Int} (g : GH h) : cF K c [.p (.str (nT h))] = .ok (.p (.bool true)) := by
 have sp := aHo g
 have tp := aI9 K c g.t
 have l2 : ∀ (xs : List Str) (n : Nat) (A : Option L), xs.length = n -> aF gY (aB (aG 1) aS) [A, some (.o (.list (xs.map PyData.str)))] = .ok (.p (.int (n : Int))) := fun xs n A e => by
  have := aBp (f := aG 1) (en := [A, some (.o (.list (xs.map PyData.str)))]) (x := .b (.list (xs.map PyData.str))) rfl rfl
  rw [List.length_map, e] at this
  exact this
 unfold cF
 refine bY ?_
 rw [show bJ 2 [.p (.str (nT h))] = [some (.p (.str (nT h))), none] from rfl]
 unfold gW
 refine (aM (iX (iL (cG (aDw rfl (aEy hk _)))))).trans ((aM (i4 (nF rfl rfl sp))).trans ?_)
 by_cases z : h.2 = 1
 ·rw [if_pos z]
  have e : nT h = tx h.1 := if_pos z
  rw [e]
  exact qD ((r8 (cG ((aH (l2 [tx h.1] 1 _ rfl) rfl eq_is).trans rfl))).trans (eD (fE rfl rfl tp)))
 ·rw [if_neg z]
  have bt := aJl K c (i := h.2) (by have := g.f.pos; omega) g.b
  have gc := aBh K c h.1 h.2
  rw [show Int.gcd h.1 h.2 = 1 from g.f.2] at gc
  refine (aM (iX (cG ((aH (l2 [tx h.1, tx h.2] 2 _ rfl) rfl eq_is).trans rfl)))).trans ?_
  refine (aM (iX (wO (cG ((aH (l2 [tx h.1, tx h.2] 2 _ rfl) rfl (o := .ok (.p (.bool false))) rfl))) (wO (iL (cG (fE (a := .str (tx h.1)) (aH rfl rfl rfl) rfl tp))) (iL (cG (fE (a := .str (tx h.2)) (aH rfl rfl rfl) rfl bt))))))).trans (eD ?_)
  exact (aH (l7 (bQ (aV (x := .p (.str (tx h.1))) (aH rfl rfl rfl) rfl) (sG (aBa g.t))) (bQ (aV (x := .p (.str (tx h.2))) (aH rfl rfl rfl) rfl) (sG (aBa g.b))) gc) rfl eq_is).trans rfl
noncomputable def g9 (K : PySem.W.Frag) (c : Cls) : MS := (cO (gP (mW (cU (a5 1 (cF K c) (aB (aG 0) aS)))) aKc dG) (cO (eR 1 (s9 gK (aG 0) (mC (.str "/")))) (cO (eR 2 (mIf (cU (aL (eqE false) (aF gY (aB (aG 1) aS)) (mC (.int 1)))) (mC (.int 1)) (aF lD (aB (aL ixE (aG 1) (mC (.int 1))) aS)))) (eM (aF eC (aB (aF lD (aB (aL ixE (aG 1) (mC (.int 0))) aS)) (aB (aG 2) aS)))))))
noncomputable def dI (K : PySem.W.Frag) (c : Cls) (ls : List L) : Res L := dU 3 (g9 K c) ls
theorem qH (K : PySem.W.Frag) (c : Cls) : ∀ ls, dI K c ls = .bad \/ dU 3 (g9 K c) ls = dI K c ls := fun _ => .inr rfl
theorem aHc (K : PySem.W.Frag) (c : Cls) (hk : fQ K c) {h : Int × Int} (g : GH h) : dI K c [.p (.str (nT h))] = .ok (.p (frD h)) := by
 have sp := aHo g
 have nk := aD3 K c hk g
 have l2 : ∀ (xs : List Str) (n : Nat) (A B : Option L), xs.length = n -> aF gY (aB (aG 1) aS) [A, some (.o (.list (xs.map PyData.str))), B] = .ok (.p (.int (n : Int))) := fun xs n A B e => by
  have := aBp (f := aG 1) (en := [A, some (.o (.list (xs.map PyData.str))), B]) (x := .b (.list (xs.map PyData.str))) rfl rfl
  rw [List.length_map, e] at this
  exact this
 unfold dI
 refine bY ?_
 rw [show bJ 3 [.p (.str (nT h))] = [some (.p (.str (nT h))), none, none] from rfl]
 unfold g9
 refine (aM (iX (iL (cG (fE rfl rfl nk))))).trans ((aM (i4 (nF rfl rfl sp))).trans ?_)
 by_cases z : h.2 = 1
 ·rw [if_pos z]
  refine (aM (fH (d := .int 1) (aHn (cG ((aH (l2 [tx h.1] 1 _ _ rfl) rfl eq_is).trans rfl)) rfl))).trans (eD ?_)
  refine (wZ (bQ (aV (x := .p (.str (tx h.1))) (aH rfl rfl rfl) rfl) (sG (aBa g.t))) rfl).trans ?_
  rw [<- z]
  rfl
 ·rw [if_neg z]
  refine (aM (fH (d := .int h.2) (aJw (cG ((aH (l2 [tx h.1, tx h.2] 2 _ _ rfl) rfl eq_is).trans rfl)) (bQ (aV (x := .p (.str (tx h.2))) (aH rfl rfl rfl) rfl) (sG (aBa g.b)))))).trans (eD ?_)
  exact wZ (bQ (aV (x := .p (.str (tx h.1))) (aH rfl rfl rfl) rfl) (sG (aBa g.t))) rfl
structure GPh (p : Pl) : Prop where
 a : 0 <= p.1
 b : p.1 <= 8
 c : 0 <= p.2.1
 d : p.2.1 <= 8
 h : GH p.2.2
theorem tY {i : Int} (a : 0 <= i) (b : i <= 8) : tx i = ⟨#[48 + i.natAbs]⟩ := by
 refine nA ?_
 rw [oI]
 unfold sg
 rw [if_neg (by omega), aGt (by omega)]
def plL (p : Pl) : List Str := [tx p.1, tx p.2.1, nT p.2.2]
def plT (p : Pl) : Str := (" " : Str).join (plL p)
theorem u2 {p : Pl} {c : Nat} {z : Str} (hz : z ∈ plL p) (hc : c ∈ tl z) : c = 45 \/ c = 47 \/ 48 <= c /\ c <= 57 := by
 have key : ∀ {i : Int}, c ∈ tl (tx i) -> c = 45 \/ c = 47 \/ 48 <= c /\ c <= 57 := fun {i} w => by
  rw [oI] at w
  rcases oE w with u | u
  ·exact .inl u
  ·exact .inr (.inr u)
 unfold plL at hz
 simp only [List.mem_cons, List.not_mem_nil, or_false] at hz
 rcases hz with rfl | rfl | rfl
 ·exact key hc
 ·exact key hc
 ·exact aF8 hc
theorem zO (p : Pl) : Txt.split (plT p) " " = plL p := lT wM (List.cons_ne_nil _ _) fun z hz w => by rcases u2 hz w with u | u | u <;> omega
theorem rV {p : Pl} (g : GPh p) : (plT p).length <= 67 := by
 have l1 := oN (z := tx p.1) (by rw [tY g.a g.b])
 have l2 := oN (z := tx p.2.1) (by rw [tY g.c g.d])
 have l3 := uI g.h
 have e1 : (tx p.1).length = 1 := l1
 have e2 : (tx p.2.1).length = 1 := l2
 unfold plT plL
 rw [dH, gX, wM]
 show (tl (tx p.1) ++ [32] ++ (tl (tx p.2.1) ++ [32] ++ tl (nT p.2.2))).length <= 67
 simp only [List.length_append, List.length_singleton, <- dH, e1, e2]
 omega
theorem uK {p : Pl} {c : Nat} (hc : c ∈ tl (plT p)) : c = 32 \/ c = 45 \/ c = 47 \/ 48 <= c /\ c <= 57 := by
 unfold plT at hc
 rw [gX, wM] at hc
 rcases aAz hc with w | ⟨q, hq, w⟩
 ·exact .inl (List.mem_singleton.mp w)
 ·obtain ⟨z, hz, rfl⟩ := List.mem_map.mp hq
  exact .inr (u2 hz w)
theorem aIb (p : Pl) : P8 (plT p) := fun c hc => by rcases uK hc with u | u | u | u <;> omega
noncomputable def dR (K : PySem.W.Frag) (c : Cls) : MS := (eM (kR (aL (eqE false) (aF pV (aB (aG 0) aS)) (mC (.int 1))) (aL (aD0 false) (aG 0) (mC (.str "012345678")))))
noncomputable def a6 (K : PySem.W.Frag) (c : Cls) (ls : List L) : Res L := dU 1 (dR K c) ls
theorem j7 (K : PySem.W.Frag) (c : Cls) : ∀ ls, a6 K c ls = .bad \/ dU 1 (dR K c) ls = a6 K c ls := fun _ => .inr rfl
theorem aC4 (K : PySem.W.Frag) (c : Cls) {i : Int} (a : 0 <= i) (b : i <= 8) : a6 K c [.p (.str (tx i))] = .ok (.p (.bool true)) := by
 have e := tY a b
 have ln : (tx i).length = 1 := by rw [e]; rfl
 have l := aJb (z := tx i) (by omega)
 rw [ln] at l
 have mi : 48 + i.natAbs ∈ tl ("012345678" : Str) := by
  rw [show tl ("012345678" : Str) = [48, 49, 50, 51, 52, 53, 54, 55, 56] by decide +kernel]
  simp only [List.mem_cons, List.not_mem_nil, or_false]
  omega
 have io := aDy (48 + i.natAbs) "012345678"
 rw [decide_eq_true mi, <- e] at io
 unfold a6
 refine bY ?_
 rw [show bJ 1 [.p (.str (tx i))] = [some (.p (.str (tx i)))] from rfl]
 unfold dR
 exact eD (l9 ((aH (bQ (aV rfl rfl) l) rfl eq_is).trans rfl) (aH rfl rfl io))
theorem aJq {p : Pl} (g : GPh p) : gK (.p (.str (plT p))) (.p (.str " ")) = .ok (.f (.list ((plL p).map PyData.str))) := by
 rw [tQ w2 (by have := rV g; omega), zO]
noncomputable def iS (K : PySem.W.Frag) (c : Cls) : MS := (cO (eR 1 (s9 gK (aG 0) (mC (.str " ")))) (eM (kR (aL (eqE false) (aF gY (aB (aG 1) aS)) (mC (.int 3))) (kR (a5 1 (a6 K c) (aB (aL ixE (aG 1) (mC (.int 0))) aS)) (kR (a5 1 (a6 K c) (aB (aL ixE (aG 1) (mC (.int 1))) aS)) (a5 1 (cF K c) (aB (aL ixE (aG 1) (mC (.int 2))) aS)))))))
noncomputable def eB (K : PySem.W.Frag) (c : Cls) (ls : List L) : Res L := dU 2 (iS K c) ls
theorem tO (K : PySem.W.Frag) (c : Cls) : ∀ ls, eB K c ls = .bad \/ dU 2 (iS K c) ls = eB K c ls := fun _ => .inr rfl
theorem aHl (K : PySem.W.Frag) (c : Cls) (hk : fQ K c) {p : Pl} (g : GPh p) : eB K c [.p (.str (plT p))] = .ok (.p (.bool true)) := by
 have ln := aBp (f := aG 1) (en := [some (.p (.str (plT p))), some (.o (.list ((plL p).map PyData.str)))]) (x := .b (.list ((plL p).map PyData.str))) rfl rfl
 unfold eB
 refine bY ?_
 rw [show bJ 2 [.p (.str (plT p))] = [some (.p (.str (plT p))), none] from rfl]
 unfold iS
 refine (aM (i4 (nF rfl rfl (aJq g)))).trans (eD ?_)
 exact l9 ((aH ln rfl eq_is).trans rfl) (l9 (fE (a := .str (tx p.1)) (aH rfl rfl rfl) rfl (aC4 K c g.a g.b)) (l9 (fE (a := .str (tx p.2.1)) (aH rfl rfl rfl) rfl (aC4 K c g.c g.d)) (fE (a := .str (nT p.2.2)) (aH rfl rfl rfl) rfl (aD3 K c hk g.h))))
noncomputable def iZ (K : PySem.W.Frag) (c : Cls) : MS := (cO (eR 1 (s9 gK (aG 0) (mC (.str " ")))) (eM (aF eC (aB (aF lD (aB (aL ixE (aG 1) (mC (.int 0))) aS)) (aB (aF lD (aB (aL ixE (aG 1) (mC (.int 1))) aS)) (aB (a5 1 (dI K c) (aB (aL ixE (aG 1) (mC (.int 2))) aS)) aS))))))
noncomputable def dZ (K : PySem.W.Frag) (c : Cls) (ls : List L) : Res L := dU 2 (iZ K c) ls
theorem rZ (K : PySem.W.Frag) (c : Cls) : ∀ ls, dZ K c ls = .bad \/ dU 2 (iZ K c) ls = dZ K c ls := fun _ => .inr rfl
theorem aGn {i : Int} (a : 0 <= i) (b : i <= 8) : i.natAbs < 10 ^ 100 := Nat.lt_of_le_of_lt (show i.natAbs <= 8 by omega) (by decide +kernel)
theorem aJ4 (K : PySem.W.Frag) (c : Cls) (hk : fQ K c) {p : Pl} (g : GPh p) : dZ K c [.p (.str (plT p))] = .ok (.p (plD p)) := by
 unfold dZ
 refine bY ?_
 rw [show bJ 2 [.p (.str (plT p))] = [some (.p (.str (plT p))), none] from rfl]
 unfold iZ
 refine (aM (i4 (nF rfl rfl (aJq g)))).trans (eD ?_)
 exact aIh (bQ (aV (x := .p (.str (tx p.1))) (aH rfl rfl rfl) rfl) (sG (aGn g.a g.b))) (bQ (aV (x := .p (.str (tx p.2.1))) (aH rfl rfl rfl) rfl) (sG (aGn g.c g.d))) (fE (a := .str (nT p.2.2)) (aH rfl rfl rfl) rfl (aHc K c hk g.h))
theorem o4 (p : Pl) : ixE (.p (plD p)) (.p (.int 0)) = .ok (.p (.int p.1)) := rfl
theorem oG (p : Pl) : ixE (.p (plD p)) (.p (.int 1)) = .ok (.p (.int p.2.1)) := rfl
theorem kS (p : Pl) : ixE (.p (plD p)) (.p (.int 2)) = .ok (.p (frD p.2.2)) := rfl
noncomputable def gA (K : PySem.W.Frag) (c : Cls) : MS := (eM (s9 kQ (mC (.str " ")) (aF jX (aB (aF vI (aB (aL ixE (aG 0) (mC (.int 0))) aS)) (aB (aF vI (aB (aL ixE (aG 0) (mC (.int 1))) aS)) (aB (a5 1 (b9 K c) (aB (aL ixE (aG 0) (mC (.int 2))) aS)) aS))))))
noncomputable def cR (K : PySem.W.Frag) (c : Cls) (ls : List L) : Res L := dU 1 (gA K c) ls
theorem oJ (K : PySem.W.Frag) (c : Cls) : ∀ ls, cR K c ls = .bad \/ dU 1 (gA K c) ls = cR K c ls := fun _ => .inr rfl
theorem aJ2 (K : PySem.W.Frag) (c : Cls) {p : Pl} (g : GPh p) : cR K c [.p (plD p)] = .ok (.p (.str (plT p))) := by
 have l1 : (tx p.1).length = 1 := by rw [tY g.a g.b]; rfl
 have l2 : (tx p.2.1).length = 1 := by rw [tY g.c g.d]; rfl
 have l3 := uI g.h
 have jo := aDg (z := " ") (ys := plL p) (y := .p (.list ((plL p).map PyData.str))) rfl (by
  unfold plL
  simp only [List.map_cons, List.map_nil, List.sum_cons, List.sum_nil, List.length_cons, List.length_nil, l1, l2, oN wM]
  omega)
 unfold cR
 refine bY ?_
 rw [show bJ 1 [.p (plD p)] = [some (.p (plD p))] from rfl]
 unfold gA
 exact eD (nF (y := .f (.list ((plL p).map PyData.str))) rfl (bQ (aV (bQ (aV (aH rfl rfl (o4 p)) rfl) (oR (aGn g.a g.b))) (aV (bQ (aV (aH rfl rfl (oG p)) rfl) (oR (aGn g.c g.d))) (aV (fE (aH rfl rfl (kS p)) rfl (aJc K c g.h)) rfl))) rfl) jo)
def rfT (ps : List Pl) : Str := ("; " : Str).join (ps.map plT)
theorem zK {ps : List Pl} (h0 : ps ≠ []) : Txt.split (rfT ps) "; " = ps.map plT := xJ (by decide) (by decide) (by decide) aB2 (by simpa using h0) fun z hz w => by
 obtain ⟨p, _, rfl⟩ := List.mem_map.mp hz
 rcases uK w with u | u | u | u <;> omega
theorem aH5 (ps : List Pl) : P8 (rfT ps) := P8.join (by unfold P8; rw [aB2]; intro c hc; simp only [List.mem_cons, List.not_mem_nil, or_false] at hc; omega) fun z hz => by
 obtain ⟨p, _, rfl⟩ := List.mem_map.mp hz
 exact aIb p
theorem aDu {s : List Nat} {n : Nat} (hs : s.length <= 2) : ∀ {ps : List (List Nat)}, (∀ p ∈ ps, p.length <= n) -> (jl s ps).length <= ps.length * (n + 2)
 | [], _ => Nat.zero_le _
 | [a], h => by have := h a (.head _); show a.length <= _; simp only [List.length_singleton]; omega
 | a :: b :: r, h => by
  have ih := aDu hs (ps := b :: r) fun p hp => h p (.tail _ hp)
  have := h a (.head _)
  show (a ++ s ++ jl s (b :: r)).length <= _
  rw [List.length_append, List.length_append, List.length_cons, Nat.succ_mul]
  omega
theorem aEr {ps : List Pl} (hg : ∀ p ∈ ps, GPh p) : (rfT ps).length <= ps.length * 69 := by
 unfold rfT
 rw [dH, gX, aB2]
 have := aDu (s := [59, 32]) (n := 67) (Nat.le_refl _) (ps := (ps.map plT).map tl) fun l hl => by
  obtain ⟨z, hz, rfl⟩ := List.mem_map.mp hl
  obtain ⟨p, hp, rfl⟩ := List.mem_map.mp hz
  rw [<- dH]
  exact rV (hg p hp)
 rw [List.length_map, List.length_map] at this
 exact this
theorem aGb {ps : List Pl} (hg : ∀ p ∈ ps, GPh p) : ((ps.map plT).map fun x => x.length).sum <= ps.length * 67 := by
 induction ps with
 | nil => exact Nat.zero_le _
 | cons p ps ih =>
  have := ih fun q hq => hg q (.tail _ hq)
  have := rV (hg p (.head _))
  rw [List.map_cons, List.map_cons, List.sum_cons, List.length_cons, Nat.succ_mul]
  omega
theorem yT {ps : List Pl} (hg : ∀ p ∈ ps, GPh p) (hl : ps.length <= 1000) {y : Ev} (hy : iE y = some ((ps.map plT).map PyData.str)) : kQ (.p (.str "; ")) y = .ok (.p (.str (rfT ps))) := aDg hy (by
 have := aGb hg
 rw [List.length_map, oN aB2]
 show _ + ps.length * 2 <= _
 omega)
theorem aDd {fe : En -> Res Ev} {en : En} {ps : List Pl} {i : Nat} (hi : jT (aG i) en = .ok (ps.map plD)) (hl : ps.length <= 1000) (he : ∀ p ∈ ps, fe [some (.p (plD p))] = .ok (.p (.str (plT p)))) : fD 1 [] (jT (aG i)) (aQ 0) iC fe en = .ok (.f (.list ((ps.map plT).map PyData.str))) := by
 refine (j0 (ds := ps.map plD) hi (by rw [List.length_map]; omega) (eW (out := fun p => PyData.str (plT p)) ps fun p hp => ?_)).trans (by rw [List.map_map]; rfl)
 unfold bZ
 ktr_call 3 ⟨aQ, iC, wW, List.replicate, List.cons_append, List.nil_append, List.append_nil, he p hp, Ev.c⟩
noncomputable def lA (K : PySem.W.Frag) (c : Cls) : En -> Res Ev := (a5 1 (cR K c) (aB (aG 0) aS))
noncomputable def kK (K : PySem.W.Frag) (c : Cls) : MS := (eM (s9 kQ (mC (.str "; ")) (fD 1 [] (jT (aG 0)) (aQ 0) iC (lA K c))))
noncomputable def dW (K : PySem.W.Frag) (c : Cls) (ls : List L) : Res L := dU 1 (kK K c) ls
theorem wQ (K : PySem.W.Frag) (c : Cls) : ∀ ls, dW K c ls = .bad \/ dU 1 (kK K c) ls = dW K c ls := fun _ => .inr rfl
theorem aHz (K : PySem.W.Frag) (c : Cls) {ps : List Pl} (hl : ps.length <= 1000) (hg : ∀ p ∈ ps, GPh p) : dW K c [.p (.list (ps.map plD))] = .ok (.p (.str (rfT ps))) := by
 unfold dW
 refine bY ?_
 rw [show bJ 1 [.p (.list (ps.map plD))] = [some (.p (.list (ps.map plD)))] from rfl]
 unfold kK
 exact eD (nF rfl (aDd (fe := lA K c) (i := 0) rfl hl fun p hp => fE rfl rfl (aJ2 K c (hg p hp))) (yT hg hl rfl))
noncomputable def mL (K : PySem.W.Frag) (c : Cls) : En -> Res Ev := (a5 1 (dZ K c) (aB (aG 0) aS))
noncomputable def lV (K : PySem.W.Frag) (c : Cls) : MS := (gP (mW (cU (a5 1 (eB K c) (aB (aG 3) aS)))) aKc dG)
noncomputable def uD (K : PySem.W.Frag) (c : Cls) : MS := (cO (gP (mW (cU (mUn (nH K (.type "str")) (aG 0)))) aKc dG) (cO (eR 1 (s9 gK (aG 0) (mC (.str "; ")))) (fun en => (cO (aBd (aDt aBi (aB (aG 1) aS)) (kI 2 (cQ (aQ 2) (cQ (aQ 3) kG))) (lV K c)) (eM (a5 1 (fO K c) (aB (fD 1 [] (jT (aG 1)) (aQ 0) iC (mL K c)) aS)))) (frz 1 en))))
noncomputable def kZ (K : PySem.W.Frag) (c : Cls) (ls : List L) : Res L := dU 4 (uD K c) ls
theorem aFl (K : PySem.W.Frag) (c : Cls) : ∀ ls, kZ K c ls = .bad \/ dU 4 (uD K c) ls = kZ K c ls := fun _ => .inr rfl
theorem yI (K : PySem.W.Frag) (c : Cls) (hk : fQ K c) (A B : Option L) : ∀ (ps : List Pl) (k : Nat) (r2 r3 : Option L), (∀ p ∈ ps, GPh p) -> ∃ q2 q3, iJ (kI 2 (cQ (aQ 2) (cQ (aQ 3) kG))) (lV K c) (kL k (ps.map fun p => PyData.str (plT p))) [A, B, r2, r3] = some (.nx [A, B, q2, q3])
 | [], k, r2, r3, _ => ⟨r2, r3, rfl⟩
 | p :: ps, k, r2, r3, hg => by
  obtain ⟨q2, q3, ih⟩ := yI K c hk A B ps (k + 1) (some (.p (.int (k : Int)))) (some (.p (.str (plT p)))) fun q hq => hg q (.tail _ hq)
  refine ⟨q2, q3, ?_⟩
  have hb : lV K c [A, B, some (.p (.int (k : Int))), some (.p (.str (plT p)))] = some (.nx [A, B, some (.p (.int (k : Int))), some (.p (.str (plT p)))]) := iX (iL (cG (fE rfl rfl (aHl K c hk (hg p (.head _))))))
  rw [List.map_cons, show kL k (PyData.str (plT p) :: ps.map fun p => PyData.str (plT p)) = .tuple [.int (k : Int), .str (plT p)] :: kL (k + 1) (ps.map fun p => PyData.str (plT p)) from rfl, sJ rfl hb]
  exact ih
theorem aE2 (K : PySem.W.Frag) (c : Cls) (hk : fQ K c) {ps : List Pl} (h0 : ps ≠ []) (hl : ps.length <= 1000) (hg : ∀ p ∈ ps, GPh p) (hz : ∀ p ∈ ps, FSz 2000 p.2.2) {qs : List Pl} (hr : tV c ps = .ok (.o (.list (qs.map plD)))) : kZ K c [.p (.str (rfT ps))] = .ok (.o (.list (qs.map plD))) := by
 have ln := aEr hg
 have sp : gK (.p (.str (rfT ps))) (.p (.str "; ")) = .ok (.f (.list (ps.map fun p => PyData.str (plT p)))) := by
  rw [tQ w3 (by omega), zK h0, List.map_map]
  rfl
 have rk := yF K c (ps := ps) hl hz
 rw [hr] at rk
 obtain ⟨q2, q3, lp⟩ := yI K c hk (some (.p (.str (rfT ps)))) (some (.p (.list (ps.map fun p => PyData.str (plT p))))) ps 0 none none hg
 have cm : fD 1 [] (jT (aG 1)) (aQ 0) iC (mL K c) [some (.p (.str (rfT ps))), some (.p (.list (ps.map fun p => PyData.str (plT p)))), q2, q3] = .ok (.f (.list (ps.map plD))) := by
  refine j0 (ds := ps.map fun p => PyData.str (plT p)) rfl (by rw [List.length_map]; omega) (eW ps fun p hp => ?_)
  have e : mL K c [some (.p (.str (plT p)))] = .ok (.p (plD p)) := fE rfl rfl (aJ4 K c hk (hg p hp))
  unfold bZ
  ktr_call 3 ⟨aQ, iC, wW, List.replicate, List.cons_append, List.nil_append, List.append_nil, e, Ev.c⟩
 unfold kZ
 refine bY ?_
 rw [show bJ 4 [.p (.str (rfT ps))] = [some (.p (.str (rfT ps))), none, none, none] from rfl]
 unfold uD
 refine (aM (iX (iL (cG (aDw rfl (aEy hk _)))))).trans ((aM (i4 (nF rfl rfl sp))).trans ?_)
 refine y6 (i := 1) (e1 := [some (.p (.str (rfT ps))), some (.p (.list (ps.map fun p => PyData.str (plT p)))), none, none]) rfl ?_
 refine (aM ((wV (itA (aV rfl rfl) rfl)).trans lp)).trans ?_
 exact aBs (fE cm rfl rk)
noncomputable def bN (K : PySem.W.Frag) (c : Cls) : List L -> Res L := mOf eII (fun _ => True) fun a => .ok (.p (.int (Int.gcd a.1 a.2 : Nat)))
noncomputable def cJ (K : PySem.W.Frag) (c : Cls) : En -> Res Bool := (cU (aL gtE (aG 1) (mC (.int 0))))
noncomputable def cL (K : PySem.W.Frag) (c : Cls) : MS := (cO (eR 2 (aL iD (aG 0) (aG 1))) (cO (eR 0 (aG 1)) (eR 1 (aG 2))))
noncomputable def i7 (K : PySem.W.Frag) (c : Cls) : MS := (cO (eR 0 (aF aC9 (aB (aG 0) aS))) (cO (eR 1 (aF aC9 (aB (aG 1) aS))) (cO (lX (cJ K c) (cL K c)) (eM (aG 0)))))
theorem aKv (K : PySem.W.Frag) (c : Cls) : ∀ (n : Nat) (l s : Int) (r : Option L), 0 <= l -> 0 <= s -> s.toNat <= n -> ∃ r', mWh (cJ K c) (cL K c) (n + 1) [some (.p (.int l)), some (.p (.int s)), r] = some (.nx [some (.p (.int (Int.gcd l s : Nat))), some (.p (.int 0)), r']) := by
 intro n
 have hc : ∀ (l s : Int) (r : Option L), cJ K c [some (.p (.int l)), some (.p (.int s)), r] = .ok (decide (0 < s)) := fun l s r => cG (aH rfl rfl rfl)
 have done : ∀ (n : Nat) (l : Int) (r : Option L), 0 <= l -> mWh (cJ K c) (cL K c) (n + 1) [some (.p (.int l)), some (.p (.int 0)), r] = some (.nx [some (.p (.int (Int.gcd l 0 : Nat))), some (.p (.int 0)), r]) := fun n l r hl => by
  unfold mWh
  rw [hc, FR.yR hl]
  rfl
 induction n with
 | zero =>
  intro l s r hl hs hn
  have : s = 0 := by omega
  subst this
  exact ⟨r, done 0 l r hl⟩
 | succ n ih =>
  intro l s r hl hs hn
  by_cases h0 : s = 0
  ·subst h0
   exact ⟨r, done _ l r hl⟩
  ·have em : l.fmod s = l % s := Int.fmod_eq_emod_of_nonneg l hs
   have m0 := Int.emod_nonneg l h0
   have m1 := Int.emod_lt_of_pos l (show 0 < s by omega)
   obtain ⟨r', ih⟩ := ih s (l % s) (some (.p (.int (l % s)))) hs m0 (by omega)
   refine ⟨r', ?_⟩
   rw [FR.vG hl hs] at ih
   have hb : cL K c [some (.p (.int l)), some (.p (.int s)), r] = some (.nx [some (.p (.int s)), some (.p (.int (l % s))), some (.p (.int (l % s)))]) := by
    ktr_call 13 ⟨cL, aL, aG, mC, cO, eR, Res.bind, Ev.c, dM, em⟩
   have ht : cJ K c [some (.p (.int l)), some (.p (.int s)), r] = .ok true := by rw [hc, decide_eq_true (by omega)]
   unfold mWh
   rw [ht]
   dsimp only
   rw [hb]
   exact ih
theorem mP (K : PySem.W.Frag) (c : Cls) : ∀ ls, bN K c ls = .bad \/ dU 3 (i7 K c) ls = bN K c ls := mI fun x _ => by
 obtain ⟨a, b⟩ := x
 obtain ⟨r', h⟩ := aKv K c _ (if a < 0 then -a else a) (if b < 0 then -b else b) none (by split <;> omega) (by split <;> omega) (Nat.le_refl _)
 have h := rJ h
 rw [FR.xQ] at h
 refine bY ?_
 rw [show bJ 3 (eII (a, b)) = [some (.p (.int a)), some (.p (.int b)), none] from rfl]
 refine (aM (fH (d := .int (if a < 0 then -a else a)) rfl)).trans ((aM (fH (d := .int (if b < 0 then -b else b)) rfl)).trans ((aM h).trans ?_))
 rfl
theorem zB (K : PySem.W.Frag) (c : Cls) (a b : Int) : bN K c [.p (.int a), .p (.int b)] = .ok (.p (.int (Int.gcd a b : Nat))) := nD (a := (a, b)) aAd trivial
noncomputable def eF (K : PySem.W.Frag) (c : Cls) : MS := (cO (eR 2 (a5 2 (bN K c) (aB (aG 0) (aB (aG 1) aS)))) (eM (aF eC (aB (aL jG (aG 0) (aG 2)) (aB (aL jG (aG 1) (aG 2)) aS)))))
noncomputable def bH (K : PySem.W.Frag) (c : Cls) (ls : List L) : Res L := dU 3 (eF K c) ls
theorem lG (K : PySem.W.Frag) (c : Cls) : ∀ ls, bH K c ls = .bad \/ dU 3 (eF K c) ls = bH K c ls := fun _ => .inr rfl
theorem aDm (K : PySem.W.Frag) (c : Cls) {t b : Int} (hb : 1 <= b) (hz : Sz 8000 b) : bH K c [.p (.int t), .p (.int b)] = .ok (.p (frD (FR.mk t b))) := by
 obtain ⟨q1, _⟩ := aG7 t (show b ≠ 0 by omega) hz
 obtain ⟨q2, _⟩ := aG7 t (show b ≠ 0 by omega) hz
 have q3 : kW b ((Int.gcd t b : Nat) : Int) := ⟨q1.1, q1.2⟩
 unfold bH
 refine bY ?_
 rw [show bJ 3 [.p (.int t), .p (.int b)] = [some (.p (.int t)), some (.p (.int b)), none] from rfl]
 unfold eF
 refine (aM (fH (l7 rfl rfl (zB K c t b)))).trans (eD ((wZ (aH rfl rfl (iO q1)) (aH rfl rfl (iO q3))).trans ?_))
 unfold FR.mk FR.sgn
 rw [if_neg (by omega)]
 rfl
structure GT (h : Int × Int) : Prop where
 f : FR.Fr h
 t : h.1.natAbs <= 10 ^ 29
 b : h.2 <= 10 ^ 29
theorem GT.g {h : Int × Int} (g : GT h) : GH h := by
 have e1 : (10 : Nat) ^ 29 < 10 ^ 30 := by decide
 have e2 : (10 : Int) ^ 29 = ((10 ^ 29 : Nat) : Int) := by decide
 have h1 := g.t
 have h2 := g.b
 have h3 := g.f.pos
 exact ⟨g.f, by omega, by omega⟩
theorem aJm {t b : Int} (ht : t.natAbs <= 10 ^ 29) (h1 : 1 <= b) (hb : b <= 10 ^ 29) : GT (FR.mk t b) := by
 have f := (FR.aLy (t := t) (b := b) (by omega)).1
 have l1 : (FR.mk t b).1.natAbs <= t.natAbs := natAbs_fdiv_le _ _
 have l2 : (FR.mk t b).2.natAbs <= b.natAbs := natAbs_fdiv_le _ _
 have := f.pos
 exact ⟨f, by omega, by omega⟩
theorem p29 : (10 : Int) ^ 29 = 100000000000000000000000000000 := by decide
theorem aLz {h : Int × Int} (g : GH h) : FSz 2000 h := by
 have e : (10 : Nat) ^ 30 <= 2 ^ 100 := by decide
 have z1 : Sz 100 h.1 := by have := g.t; unfold Sz; omega
 have z2 : Sz 100 h.2 := by have := g.b; unfold Sz; omega
 exact ⟨z1.mono (by decide), z2.mono (by decide)⟩
noncomputable def cX (K : PySem.W.Frag) (c : Cls) : MS := (cO (eR 2 (mC (.int 0))) (cO (gP (cU (aL ltE (aG 1) (aF gY (aB (aG 0) aS)))) (eR 2 (aL iD (aL ixE (aG 0) (aG 1)) (aL uZ (mC (.int 10)) (mC (.int 60))))) dG) (eM (aL fK (aL k8 (aG 2) (mC (.int 1000003))) (aL iD (aL k8 (aL iD (aL k8 (aL fK (aL fK (aL fK (aG 2) (aL k8 (aL k8 (mC (.int 7)) (aG 1)) (aG 1))) (aL k8 (mC (.int 13)) (aG 1))) (mC (.int 5))) (mC (.int 48271))) (mC (.int 2147483647))) (mC (.int 69621))) (mC (.int 1000000007)))))))
noncomputable def aR (K : PySem.W.Frag) (c : Cls) (ls : List L) : Res L := dU 3 (cX K c) ls
theorem l5 (K : PySem.W.Frag) (c : Cls) : ∀ ls, aR K c ls = .bad \/ dU 3 (cX K c) ls = aR K c ls := fun _ => .inr rfl
theorem ml9 {n : Nat} {x y : Int} (hx : Sz n x) (hy : Sz n y) (hn : n <= 2000) : k8 (.p (.int x)) (.p (.int y)) = .ok (.p (.int (x * y))) := aDx ⟨hx.mono (by omega), hy.mono (by omega)⟩
theorem sZ (K : PySem.W.Frag) (c : Cls) (ns : List Int) (k : Nat) (hk : k <= 100) : ∃ v : Int, 0 <= v /\ aR K c [.p (.list (ns.map .int)), .p (.int (k : Int))] = .ok (.p (.int v)) := by
 have hlen : gY [.p (.list (ns.map .int))] = .ok (.p (.int (ns.length : Nat))) := by simp [gY, i5]
 have p60 : aA9 10 60 := ⟨by decide, by decide, by decide⟩
 have pn : (10 : Int) ^ Int.toNat 60 ≠ 0 := by decide
 have d1 : (2147483647 : Int) ≠ 0 := by decide
 have d2 : (1000000007 : Int) ≠ 0 := by decide
 have zk : Sz 20 (k : Int) := by unfold Sz; omega
 have z7 : Sz 20 (7 : Int) := by unfold Sz; decide
 have z13 : Sz 20 (13 : Int) := by unfold Sz; decide
 have zkk : Sz 40 (7 * (k : Int)) := Sz.mul z7 zk
 have zc : Sz 40 (48271 : Int) := by unfold Sz; decide
 have zd : Sz 40 (69621 : Int) := by unfold Sz; decide
 have ze : Sz 40 (1000003 : Int) := by unfold Sz; decide
 have fin : ∀ (v : Int), 0 <= v -> v < 10 ^ 60 -> ∃ w : Int, 0 <= w /\ eM (aL fK (aL k8 (aG 2) (mC (.int 1000003))) (aL iD (aL k8 (aL iD (aL k8 (aL fK (aL fK (aL fK (aG 2) (aL k8 (aL k8 (mC (.int 7)) (aG 1)) (aG 1))) (aL k8 (mC (.int 13)) (aG 1))) (mC (.int 5))) (mC (.int 48271))) (mC (.int 2147483647))) (mC (.int 69621))) (mC (.int 1000000007)))) [some (.p (.list (ns.map .int))), some (.p (.int (k : Int))), some (.p (.int v))] = some (.rt (.p (.int w))) := fun v v0 v1 => by
  have zv : Sz 200 v := by
   have : (10 : Int) ^ 60 < 2 ^ 200 := by decide
   unfold Sz
   have : (2 : Int) ^ 200 = ((2 ^ 200 : Nat) : Int) := by decide
   omega
  have zs : Sz 300 (v + 7 * (k : Int) * (k : Int) + 13 * (k : Int) + 5) := (N.Sz.addM (N.Sz.addM (N.Sz.addM zv (Sz.mul zkk zk)) (Sz.mul z13 zk)) (show Sz 20 (5 : Int) by unfold Sz; decide)).mono (by decide)
  have f1 := cH (a := (v + 7 * (k : Int) * (k : Int) + 13 * (k : Int) + 5) * 48271) (b := 2147483647) (by decide)
  have zm : Sz 40 (((v + 7 * (k : Int) * (k : Int) + 13 * (k : Int) + 5) * 48271).fmod 2147483647) := by unfold Sz; omega
  have f2 := cH (a := ((v + 7 * (k : Int) * (k : Int) + 13 * (k : Int) + 5) * 48271).fmod 2147483647 * 69621) (b := 1000000007) (by decide)
  refine ⟨v * 1000003 + (((v + 7 * (k : Int) * (k : Int) + 13 * (k : Int) + 5) * 48271).fmod 2147483647 * 69621).fmod 1000000007, by omega, ?_⟩
  exact eD (aH (aH rfl rfl (ml9 zv (ze.mono (by decide)) (by decide))) (aH (aH (aH (aH (aH (aH (aH rfl (aH (aH rfl rfl (ml9 z7 zk (by decide))) rfl (ml9 zkk (zk.mono (by decide)) (by decide))) (iG _ _)) (aH rfl rfl (ml9 z13 zk (by decide))) (iG _ _)) rfl (iG _ _)) rfl (ml9 zs (zc.mono (by decide)) (by decide))) rfl (dM d1)) rfl (ml9 zm zd (by decide))) rfl (dM d2)) (iG _ _))
 have ht : cU (aL ltE (aG 1) (aF gY (aB (aG 0) aS))) [some (.p (.list (ns.map .int))), some (.p (.int (k : Int))), some (.p (.int 0))] = .ok (decide (k < ns.length)) := by
  simp [cU, aL, aG, aF, aB, aS, Res.bind, Ev.c, hlen, kE, iK]
 have run : ∀ {w : Int}, cX K c [some (.p (.list (ns.map .int))), some (.p (.int (k : Int))), none] = some (.rt (.p (.int w))) -> aR K c [.p (.list (ns.map .int)), .p (.int (k : Int))] = .ok (.p (.int w)) := fun h => by
  unfold aR
  exact bY h
 by_cases h : k < ns.length
 ·rw [decide_eq_true h] at ht
  have ix : ixE (.p (.list (ns.map .int))) (.p (.int (k : Int))) = .ok (.p (.int (ns.getD k 0))) := aIk (xs := ns) (enc := PyData.int) rfl h rfl
  have fp := cH (a := ns.getD k 0) (b := 10 ^ Int.toNat 60) (by decide)
  obtain ⟨w, w0, e⟩ := fin ((ns.getD k 0).fmod (10 ^ Int.toNat 60)) fp.1 fp.2
  refine ⟨w, w0, run ?_⟩
  unfold cX
  exact (aM (fH rfl)).trans ((aM ((r8 ht).trans (fH (aH (aH rfl rfl ix) (aH rfl rfl (jW p60)) (dM pn))))).trans e)
 ·rw [decide_eq_false h] at ht
  obtain ⟨w, w0, e⟩ := fin 0 (by decide) (by decide)
  refine ⟨w, w0, run ?_⟩
  unfold cX
  exact (aM (fH rfl)).trans ((aM (iX ht)).trans e)
noncomputable def fP (K : PySem.W.Frag) (c : Cls) : En -> Res Ev := (a5 2 (aR K c) (aB (aG 1) (aB (aG 0) aS)))
noncomputable def fT (K : PySem.W.Frag) (c : Cls) : MS := (eM (fD 1 [0] (aDt vV (aB (aG 1) (aB (aF (aEv fun i j => if j < i then j else i) (aB (aG 2) (aB (aF gY (aB (aG 0) aS)) aS))) aS))) (aQ 0) iC (fP K c)))
noncomputable def b8 (K : PySem.W.Frag) (c : Cls) (ls : List L) : Res L := dU 3 (fT K c) ls
theorem pJ (K : PySem.W.Frag) (c : Cls) : ∀ ls, b8 K c ls = .bad \/ dU 3 (fT K c) ls = b8 K c ls := fun _ => .inr rfl
theorem aBv (K : PySem.W.Frag) (c : Cls) (ns : List Int) (hn : ns.length <= 63) : ∃ vs : List Int, vs.length <= 60 /\ b8 K c [.p (.list (ns.map .int)), .p (.int 2), .p (.int 62)] = .ok (.o (.list (vs.map .int))) := by
 have hlen : gY [.p (.list (ns.map .int))] = .ok (.p (.int (ns.length : Nat))) := by simp [gY, i5]
 have ex : ∀ k : Nat, ∃ v : Int, k <= 98 -> aR K c [.p (.list (ns.map .int)), .p (.int (2 + (k : Int)))] = .ok (.p (.int v)) := fun k => by
  by_cases h : k <= 98
  ·obtain ⟨v, _, e⟩ := sZ K c ns (2 + k) (by omega)
   rw [show ((2 + k : Nat) : Int) = 2 + (k : Int) by omega] at e
   exact ⟨v, fun _ => e⟩
  ·exact ⟨0, fun z => absurd z h⟩
 let F : Nat -> Int := fun k => Classical.choose (ex k)
 have hF : ∀ k : Nat, k <= 98 -> aR K c [.p (.list (ns.map .int)), .p (.int (2 + (k : Int)))] = .ok (.p (.int (F k))) := fun k => Classical.choose_spec (ex k)
 generalize F = F at hF
 have mn : (aEv fun i j => if j < i then j else i) [.p (.int 62), .p (.int (ns.length : Nat))] = .ok (.p (.int (if ((ns.length : Nat) : Int) < 62 then ((ns.length : Nat) : Int) else 62))) := rfl
 have rg : vV [.p (.int 2), .p (.int (if ((ns.length : Nat) : Int) < 62 then ((ns.length : Nat) : Int) else 62))] = .ok (aDs 2 ((if ((ns.length : Nat) : Int) < 62 then ((ns.length : Nat) : Int) else 62) - 2).toNat) := by
  unfold vV
  dsimp only
  rw [if_pos ⟨by decide, by decide, by split <;> omega, by split <;> omega⟩]
 have bd : ((if ((ns.length : Nat) : Int) < 62 then ((ns.length : Nat) : Int) else 62) - 2).toNat <= 60 := by split <;> omega
 generalize ((if ((ns.length : Nat) : Int) < 62 then ((ns.length : Nat) : Int) else 62) - 2).toNat = n at *
 refine ⟨(List.range n).map F, by rw [List.length_map, List.length_range]; exact bd, ?_⟩
 have cm : fD 1 [0] (aDt vV (aB (aG 1) (aB (aF (aEv fun i j => if j < i then j else i) (aB (aG 2) (aB (aF gY (aB (aG 0) aS)) aS))) aS))) (aQ 0) iC (fP K c) [some (.p (.list (ns.map .int))), some (.p (.int 2)), some (.p (.int 62))] = .ok (.f (.list ((List.range n).map fun k => PyData.int (F k)))) := by
  refine j0 (ds := aDs 2 n) (itA (aV rfl (aV (bQ (aV rfl (aV (bQ (aV rfl rfl) hlen) rfl)) mn) rfl)) rg) (by unfold aDs; rw [List.length_map, List.length_range]; omega) (vW n _ fun k hk => ?_)
  have e : fP K c [some (.p (.int (2 + (k : Int)))), some (.p (.list (ns.map .int)))] = .ok (.p (.int (F k))) := l7 rfl rfl (hF k (by omega))
  unfold bZ
  ktr_call 3 ⟨aQ, iC, wW, aGm, List.replicate, List.cons_append, List.nil_append, e, Ev.c⟩
 unfold b8
 refine bY ?_
 rw [show bJ 3 [.p (.list (ns.map .int)), .p (.int 2), .p (.int 62)] = [some (.p (.list (ns.map .int))), some (.p (.int 2)), some (.p (.int 62))] from rfl]
 unfold fT
 refine aBs (cm.trans ?_)
 rw [List.map_map]
 rfl
noncomputable def bT (K : PySem.W.Frag) (c : Cls) : MS := (cO (eR 2 (aL iD (aG 0) (aL uZ (mC (.int 10)) (mC (.int 60))))) (cO (gP (cU (aL (eqE false) (aL iD (aG 1) (mC (.int 3))) (mC (.int 0)))) (eM (aF eC (aB (aL aF7 (aL iD (aG 2) (mC (.int 7))) (mC (.int 3))) (aB (mC (.int 1)) aS)))) dG) (cO (gP (cU (aL (eqE false) (aL iD (aG 1) (mC (.int 3))) (mC (.int 1)))) (eM (a5 2 (bH K c) (aB (aL aF7 (aL iD (aG 2) (mC (.int 41))) (mC (.int 20))) (aB (aL fK (mC (.int 1)) (aL iD (aL jG (aG 2) (mC (.int 41))) (mC (.int 12)))) aS)))) dG) (cO (eR 3 (aL fK (mC (.int 1)) (aL iD (aL k8 (aG 2) (mC (.int 48271))) (aL uZ (mC (.int 10)) (mC (.int 29)))))) (eM (a5 2 (bH K c) (aB (aL aF7 (aL iD (aL k8 (aG 2) (aL uZ (mC (.int 1000003)) (mC (.int 4)))) (aL fK (aL k8 (mC (.int 2)) (aL uZ (mC (.int 10)) (mC (.int 29)))) (mC (.int 1)))) (aL uZ (mC (.int 10)) (mC (.int 29)))) (aB (aG 3) aS))))))))
noncomputable def aY (K : PySem.W.Frag) (c : Cls) (ls : List L) : Res L := dU 4 (bT K c) ls
theorem kX (K : PySem.W.Frag) (c : Cls) : ∀ ls, aY K c ls = .bad \/ dU 4 (bT K c) ls = aY K c ls := fun _ => .inr rfl
theorem aGq (K : PySem.W.Frag) (c : Cls) (cell kind : Int) : ∃ h, GT h /\ aY K c [.p (.int cell), .p (.int kind)] = .ok (.p (frD h)) := by
 have p60 : aA9 10 60 := ⟨by decide, by decide, by decide⟩
 have p29' : aA9 10 29 := ⟨by decide, by decide, by decide⟩
 have p4 : aA9 1000003 4 := ⟨by decide, by decide, by decide⟩
 have pn : (10 : Int) ^ Int.toNat 60 ≠ 0 := by decide
 have pn29 : (10 : Int) ^ Int.toNat 29 ≠ 0 := by decide
 have e29 : (10 : Int) ^ Int.toNat 29 = 100000000000000000000000000000 := by decide
 have d3 : (3 : Int) ≠ 0 := by decide
 have fp := cH (a := cell) (b := 10 ^ Int.toNat 60) (by decide)
 have run : ∀ {w : Int × Int}, bT K c [some (.p (.int cell)), some (.p (.int kind)), none, none] = some (.rt (.p (frD w))) -> aY K c [.p (.int cell), .p (.int kind)] = .ok (.p (frD w)) := fun h => by
  unfold aY
  exact bY h
 have s1 := aH (en := [some (.p (.int cell)), some (.p (.int kind)), none, none]) (f := aG 0) (g := aL uZ (mC (.int 10)) (mC (.int 60))) rfl (aH rfl rfl (jW p60)) (dM (i := cell) pn)
 generalize cell.fmod (10 ^ Int.toNat 60) = v at *
 have zv : Sz 200 v := by
  have : (10 : Int) ^ Int.toNat 60 < 2 ^ 200 := by decide
  unfold Sz
  have : (2 : Int) ^ 200 = ((2 ^ 200 : Nat) : Int) := by decide
  omega
 have tt : ∀ (n : Int) (B : Option L), cU (aL (eqE false) (aL iD (aG 1) (mC (.int 3))) (mC (.int n))) [some (.p (.int cell)), some (.p (.int kind)), some (.p (.int v)), B] = .ok (kind.fmod 3 == n) := fun n B => cG (aH (aH rfl rfl (dM d3)) rfl eq_is)
 by_cases h0 : kind.fmod 3 = 0
 ·have f7 := cH (a := v) (b := 7) (by decide)
  have b10 : 10 <= (10 : Nat) ^ 29 := by decide
  have gz : (v.fmod 7 - 3).natAbs <= 10 ^ 29 := by omega
  refine ⟨(v.fmod 7 - 3, 1), ⟨⟨Int.le_refl 1, Int.gcd_one⟩, gz, show (1 : Int) <= 10 ^ 29 by decide⟩, run ?_⟩
  unfold bT
  exact (aM (fH s1)).trans (qD ((r8 ((tt 0 none).trans (by rw [beq_iff_eq.mpr h0]))).trans (eD (wZ (aH (aH rfl rfl (dM (by decide))) rfl (uT _ _)) rfl))))
 ·by_cases h1 : kind.fmod 3 = 1
  ·have f41 := cH (a := v) (b := 41) (by decide)
   have f12 := cH (a := v.fdiv 41) (b := 12) (by decide)
   have c41 : kW v 41 := qN _ (by decide) (by decide)
   have b29 : (41 : Nat) <= 10 ^ 29 := by decide
   have b29' : (41 : Int) <= 10 ^ 29 := by decide
   refine ⟨FR.mk (v.fmod 41 - 20) (1 + (v.fdiv 41).fmod 12), aJm (by omega) (by omega) (by omega), run ?_⟩
   unfold bT
   exact (aM (fH s1)).trans ((aM (iX ((tt 0 none).trans (by rw [beq_eq_false_iff_ne.mpr h0])))).trans (qD ((r8 ((tt 1 none).trans (by rw [beq_iff_eq.mpr h1]))).trans (eD (l7 (aH (aH rfl rfl (dM (by decide))) rfl (uT _ _)) (aH rfl (aH (aH rfl rfl (iO c41)) rfl (dM (by decide))) (iG _ _)) (aDm K c (by omega) ((show Sz 10 (1 + (v.fdiv 41).fmod 12) by unfold Sz; omega).mono (by decide))))))))
  ·have z4 : Sz 40 (48271 : Int) := by unfold Sz; decide
   have zp : Sz 200 ((1000003 : Int) ^ Int.toNat 4) := by unfold Sz; decide
   have m1 := ml9 zv (z4.mono (by decide)) (by decide)
   have m2 := ml9 zv zp (by decide)
   have m3 : k8 (.p (.int 2)) (.p (.int (10 ^ Int.toNat 29))) = .ok (.p (.int (2 * 10 ^ Int.toNat 29))) := ml9 (n := 200) (by unfold Sz; decide) (by unfold Sz; decide) (by decide)
   have dn : (2 * 10 ^ Int.toNat 29 + 1 : Int) ≠ 0 := by decide
   have fb := cH (a := v * 48271) (b := 10 ^ Int.toNat 29) (by decide)
   have ft := cH (a := v * 1000003 ^ Int.toNat 4) (b := 2 * 10 ^ Int.toNat 29 + 1) (by decide)
   have n29 : (10 : Nat) ^ 29 = 100000000000000000000000000000 := by decide
   have zb : Sz 200 (1 + (v * 48271).fmod (10 ^ Int.toNat 29)) := by
    have : (100000000000000000000000000000 : Nat) < 2 ^ 200 := by decide
    unfold Sz
    omega
   refine ⟨FR.mk ((v * 1000003 ^ Int.toNat 4).fmod (2 * 10 ^ Int.toNat 29 + 1) - 10 ^ Int.toNat 29) (1 + (v * 48271).fmod (10 ^ Int.toNat 29)), aJm (by omega) (by omega) (by rw [p29]; omega), run ?_⟩
   unfold bT
   refine (aM (fH s1)).trans ((aM (iX ((tt 0 none).trans (by rw [beq_eq_false_iff_ne.mpr h0])))).trans ((aM (iX ((tt 1 none).trans (by rw [beq_eq_false_iff_ne.mpr h1])))).trans ?_))
   refine (aM (fH (aH rfl (aH (aH rfl rfl m1) (aH rfl rfl (jW p29')) (dM pn29)) (iG _ _)))).trans ?_
   exact eD (l7 (aH (aH (aH rfl (aH rfl rfl (jW p4)) m2) (aH (aH rfl (aH rfl rfl (jW p29')) m3) rfl (iG _ _)) (dM dn)) (aH rfl rfl (jW p29')) (uT _ _)) rfl (aDm K c (by omega) (zb.mono (by decide))))
noncomputable def c0 (K : PySem.W.Frag) (c : Cls) : MS := (cO (gP (cU (aL (eqE false) (aL ixE (aG 0) (mC (.int 1))) (mC (.int 1)))) (eM (aF vI (aB (aL ixE (aG 0) (mC (.int 0))) aS))) dG) (eM (aL fK (aL fK (aF vI (aB (aL ixE (aG 0) (mC (.int 0))) aS)) (mC (.str "/"))) (aF vI (aB (aL ixE (aG 0) (mC (.int 1))) aS)))))
noncomputable def a7 (K : PySem.W.Frag) (c : Cls) (ls : List L) : Res L := dU 1 (c0 K c) ls
theorem jR (K : PySem.W.Frag) (c : Cls) : ∀ ls, a7 K c ls = .bad \/ dU 1 (c0 K c) ls = a7 K c ls := fun _ => .inr rfl
theorem aH4 (K : PySem.W.Frag) (c : Cls) {h : Int × Int} (g : GH h) : a7 K c [.p (frD h)] = .ok (.p (.str (nT h))) := by
 have i0 : ixE (.p (frD h)) (.p (.int 0)) = .ok (.p (.int h.1)) := nI _ _
 have i1 : ixE (.p (frD h)) (.p (.int 1)) = .ok (.p (.int h.2)) := nM _ _ _
 have l1 := lY g.t
 have l2 := lY g.b
 have sl := oN v3
 unfold a7
 refine bY ?_
 rw [show bJ 1 [.p (frD h)] = [some (.p (frD h))] from rfl]
 unfold c0 nT
 by_cases z : h.2 = 1
 ·rw [if_pos z]
  exact qD ((r8 (cG ((aH (aH rfl rfl i1) rfl eq_is).trans (by rw [beq_iff_eq.mpr z])))).trans (eD (bQ (aV (aH rfl rfl i0) rfl) (oR (aBa g.t)))))
 ·rw [if_neg z]
  refine (aM (iX (cG ((aH (aH rfl rfl i1) rfl eq_is).trans (by rw [beq_eq_false_iff_ne.mpr z]))))).trans ?_
  refine eD (aH (aH (bQ (aV (aH rfl rfl i0) rfl) (oR (aBa g.t))) rfl (qR ?_)) (bQ (aV (aH rfl rfl i1) rfl) (oR (aBa g.b))) (qR ?_))
  ·rw [sl]; show _ + 1 <= _; omega
  ·rw [dH, iN, List.length_append, <- dH, <- dH, sl]; show _ + 1 + _ <= _; omega
noncomputable def gU (K : PySem.W.Frag) (c : Cls) : MS := (eM (aL fK (aL fK (aL fK (aL fK (aF vI (aB (aL ixE (aG 0) (mC (.int 0))) aS)) (mC (.str " "))) (aF vI (aB (aL ixE (aG 0) (mC (.int 1))) aS))) (mC (.str " "))) (a5 1 (a7 K c) (aB (aL ixE (aG 0) (mC (.int 2))) aS))))
noncomputable def cS (K : PySem.W.Frag) (c : Cls) (ls : List L) : Res L := dU 1 (gU K c) ls
theorem qS (K : PySem.W.Frag) (c : Cls) : ∀ ls, cS K c ls = .bad \/ dU 1 (gU K c) ls = cS K c ls := fun _ => .inr rfl
theorem aH9 (p : Pl) : tx p.1 ++ " " ++ tx p.2.1 ++ " " ++ nT p.2.2 = plT p := by
 refine nA ?_
 unfold plT plL
 rw [gX, iN, iN, iN, iN, wM]
 show _ = tl (tx p.1) ++ [32] ++ (tl (tx p.2.1) ++ [32] ++ tl (nT p.2.2))
 simp only [List.append_assoc]
theorem zR (K : PySem.W.Frag) (c : Cls) {p : Pl} (g : GPh p) : cS K c [.p (plD p)] = .ok (.p (.str (plT p))) := by
 have l1 : (tx p.1).length = 1 := by rw [tY g.a g.b]; rfl
 have l2 : (tx p.2.1).length = 1 := by rw [tY g.c g.d]; rfl
 have l3 := uI g.h
 have bl := oN wM
 have la : ∀ a b : Str, (a ++ b).length = a.length + b.length := fun a b => by rw [dH, iN, List.length_append, <- dH, <- dH]
 unfold cS
 refine bY ?_
 rw [show bJ 1 [.p (plD p)] = [some (.p (plD p))] from rfl]
 unfold gU
 rw [<- aH9]
 have b1 : [32].length = 1 := rfl
 rw [b1] at bl
 exact eD (aH (aH (aH (aH (bQ (aV (aH rfl rfl (o4 p)) rfl) (oR (aGn g.a g.b))) rfl (qR (by omega))) (bQ (aV (aH rfl rfl (oG p)) rfl) (oR (aGn g.c g.d))) (qR (by rw [la]; omega))) rfl (qR (by rw [la, la]; omega))) (fE (aH rfl rfl (kS p)) rfl (aH4 K c g.h)) (qR (by rw [la, la, la]; omega)))
structure GPt (p : Pl) : Prop where
 a : 0 <= p.1
 b : p.1 <= 8
 c : 0 <= p.2.1
 d : p.2.1 <= 8
 h : GT p.2.2
theorem GPt.g {p : Pl} (g : GPt p) : GPh p := ⟨g.a, g.b, g.c, g.d, g.h.g⟩
structure Gm (m : Mp) : Prop where
 g : ∀ k h, eI m k = some h -> GPt (k.1, k.2, h)
 n : (m.map (·.1)).Nodup
 l : m.length <= 16
theorem aKe {α : Type} {ev : α -> D} {ng : Bool} {f g : En -> Res Ev} {en : En} {y : Ev} {m : List ((Int × Int) × α)} {s : Int × Int} (h1 : f en = .ok (.p (slD s))) (h2 : g en = .ok y) (hd : i3 y.c = some (N.encM slD ev m)) : aL (vX ng) f g en = .ok (.p (.bool (if ng then !(eI m s).isSome else (eI m s).isSome))) := by
 refine aH h1 h2 ?_
 generalize y.c = z at *
 show vX ng (.p (slD s)) z = _
 simp only [vX, hd, lP, Option.isSome_map]
theorem aL3 {α : Type} {ev : α -> D} {f g : En -> Res Ev} {en : En} {y : Ev} {m : List ((Int × Int) × α)} {s : Int × Int} {v : α} (h1 : f en = .ok (.p (slD s))) (h2 : g en = .ok y) (hd : i3 y.c = some (N.encM slD ev m)) (e : eI m s = some v) : aL kB g f en = .ok (.p (ev v)) := by
 refine aH h2 h1 ?_
 generalize y.c = z at *
 show kB z (.p (slD s)) = _
 simp only [kB, hd, lP, e, Option.map_some]
noncomputable def cP (K : PySem.W.Frag) (c : Cls) : En -> Res Ev := (aF eC (aB (aG 0) (aB (aG 1) (aB (aL kB (aG 2) (aF eC (aB (aG 0) (aB (aG 1) aS)))) aS))))
noncomputable def cN (K : PySem.W.Frag) (c : Cls) : MS := (cO (eR 4 (aL iD (aG 3) (aL uZ (mC (.int 10)) (mC (.int 60))))) (cO (eR 5 (aF eC (aB (aL iD (aG 4) (mC (.int 9))) (aB (aL iD (aL jG (aG 4) (mC (.int 9))) (mC (.int 9))) aS)))) (gP (aBc (cU (aL ltE (aF kT (aB (aG 2) aS)) (mC (.int 16)))) (cU (aL (vX true) (aG 5) (aG 2)))) (nB 2 (aG 5) (a5 2 (aY K c) (aB (aL jG (aG 4) (mC (.int 81))) (aB (aG 1) aS)))) dG)))
noncomputable def fA (K : PySem.W.Frag) (c : Cls) : MS := (cO (eR 2 mDT) (cO (aBd (jT (a5 3 (b8 K c) (aB (aG 0) (aB (mC (.int 2)) (aB (mC (.int 62)) aS))))) (aQ 3) (cN K c)) (cO (gP (cU (aL aD4 (aG 2) mDT)) (nB 2 (aF eC (aB (aL iD (aG 1) (mC (.int 9))) (aB (mC (.int 0)) aS))) (aF eC (aB (mC (.int 1)) (aB (mC (.int 2)) aS)))) dG) (fun en => (eM (fD 2 [2] (jT (aF dO (aB (aG 2) aS))) (kI 2 (cQ (aQ 0) (cQ (aQ 1) kG))) iC (cP K c))) (frz 2 en)))))
noncomputable def bO (K : PySem.W.Frag) (c : Cls) (ls : List L) : Res L := dU 6 (fA K c) ls
theorem nC (K : PySem.W.Frag) (c : Cls) : ∀ ls, bO K c ls = .bad \/ dU 6 (fA K c) ls = bO K c ls := fun _ => .inr rfl
theorem Gm.put {m : Mp} (g : Gm m) {s h : Int × Int} (hp : GPt (s.1, s.2, h)) (hl : m.length < 16) : Gm (rQ m s h) := by
 refine ⟨fun k h' e => ?_, xA g.n _ _, by have := vM m s h; omega⟩
 rw [jZ] at e
 by_cases z : k = s
 ·rw [if_pos z] at e
  cases e
  rw [z]
  exact hp
 ·rw [if_neg z] at e
  exact g.g k h' e
theorem aM4 (K : PySem.W.Frag) (c : Cls) (A : Option L) (kind cell : Int) (m : Mp) (g : Gm m) (r4 r5 : Option L) : ∃ m' q4 q5, Gm m' /\ cN K c [A, some (.p (.int kind)), some (.o (.dict (N.encM slD frD m))), some (.p (.int cell)), r4, r5] = some (.nx [A, some (.p (.int kind)), some (.o (.dict (N.encM slD frD m'))), some (.p (.int cell)), q4, q5]) := by
 have p60 : aA9 10 60 := ⟨by decide, by decide, by decide⟩
 have pn : (10 : Int) ^ Int.toNat 60 ≠ 0 := by decide
 have d9 : (9 : Int) ≠ 0 := by decide
 have gl := g.l
 have s1 := aH (en := [A, some (.p (.int kind)), some (.o (.dict (N.encM slD frD m))), some (.p (.int cell)), r4, r5]) (f := aG 3) (g := aL uZ (mC (.int 10)) (mC (.int 60))) rfl (aH rfl rfl (jW p60)) (dM (i := cell) pn)
 generalize cell.fmod (10 ^ Int.toNat 60) = v at *
 have f1 := cH (a := v) (b := 9) (by decide)
 have f2 := cH (a := v.fdiv 9) (b := 9) (by decide)
 have c9 : kW v 9 := qN _ (by decide) (by decide)
 have c81 : kW v 81 := qN _ (by decide) (by decide)
 obtain ⟨h, gh, eh⟩ := aGq K c (v.fdiv 81) kind
 have gp : GPt (v.fmod 9, (v.fdiv 9).fmod 9, h) := ⟨f1.1, by show v.fmod 9 <= 8; omega, f2.1, by show (v.fdiv 9).fmod 9 <= 8; omega, gh⟩
 have ld : kT [.b (.dict (N.encM slD frD m))] = .ok (.p (.int (m.length : Nat))) := by
  simp only [kT, i3, nW]
  unfold N.encM
  rw [List.length_map]
 have tl' : cU (aL ltE (aF kT (aB (aG 2) aS)) (mC (.int 16))) [A, some (.p (.int kind)), some (.o (.dict (N.encM slD frD m))), some (.p (.int cell)), some (.p (.int v)), some (.p (slD (v.fmod 9, (v.fdiv 9).fmod 9)))] = .ok (decide ((m.length : Int) < 16)) := cG (aH (bQ (aV rfl rfl) ld) rfl rfl)
 have td := cG (aKe (ev := frD) (ng := true) (f := aG 5) (g := aG 2) (en := [A, some (.p (.int kind)), some (.o (.dict (N.encM slD frD m))), some (.p (.int cell)), some (.p (.int v)), some (.p (slD (v.fmod 9, (v.fdiv 9).fmod 9)))]) (m := m) (s := (v.fmod 9, (v.fdiv 9).fmod 9)) rfl rfl rfl)
 have st : ∀ {o : Option Out}, (gP (aBc (cU (aL ltE (aF kT (aB (aG 2) aS)) (mC (.int 16)))) (cU (aL (vX true) (aG 5) (aG 2)))) (nB 2 (aG 5) (a5 2 (aY K c) (aB (aL jG (aG 4) (mC (.int 81))) (aB (aG 1) aS)))) dG) [A, some (.p (.int kind)), some (.o (.dict (N.encM slD frD m))), some (.p (.int cell)), some (.p (.int v)), some (.p (slD (v.fmod 9, (v.fdiv 9).fmod 9)))] = o -> cN K c [A, some (.p (.int kind)), some (.o (.dict (N.encM slD frD m))), some (.p (.int cell)), r4, r5] = o := fun h => by
  unfold cN
  exact (aM (fH s1)).trans ((aM (fH (wZ (aH rfl rfl (dM d9)) (aH (aH rfl rfl (iO c9)) rfl (dM d9))))).trans h)
 by_cases hl : m.length < 16
 ·rw [decide_eq_true (by omega)] at tl'
  cases ea : eI m (v.fmod 9, (v.fdiv 9).fmod 9) with
  | none =>
   rw [ea] at td
   refine ⟨rQ m (v.fmod 9, (v.fdiv 9).fmod 9) h, some (.p (.int v)), some (.p (slD (v.fmod 9, (v.fdiv 9).fmod 9))), g.put gp hl, st ((r8 (aHe tl' td)).trans ?_)⟩
   exact aA2 (i := 2) rfl (l7 (aH rfl rfl (iO c81)) rfl eh) rfl (rS (ev := frD) m _ h (by omega))
  | some f =>
   rw [ea] at td
   exact ⟨m, some (.p (.int v)), some (.p (slD (v.fmod 9, (v.fdiv 9).fmod 9))), g, st (iX (aHe tl' td))⟩
 ·rw [decide_eq_false (by omega)] at tl'
  exact ⟨m, some (.p (.int v)), some (.p (slD (v.fmod 9, (v.fdiv 9).fmod 9))), g, st (iX (aL7 tl'))⟩
theorem yZ (K : PySem.W.Frag) (c : Cls) (A : Option L) (kind : Int) : ∀ (vs : List Int) (m : Mp) (r3 r4 r5 : Option L), Gm m -> ∃ m' q3 q4 q5, Gm m' /\ iJ (aQ 3) (cN K c) (vs.map .int) [A, some (.p (.int kind)), some (.o (.dict (N.encM slD frD m))), r3, r4, r5] = some (.nx [A, some (.p (.int kind)), some (.o (.dict (N.encM slD frD m'))), q3, q4, q5])
 | [], m, r3, r4, r5, g => ⟨m, r3, r4, r5, g, rfl⟩
 | v :: vs, m, r3, r4, r5, g => by
  obtain ⟨m1, q4, q5, g1, hb⟩ := aM4 K c A kind v m g r4 r5
  obtain ⟨m2, p3, p4, p5, g2, ih⟩ := yZ K c A kind vs m1 (some (.p (.int v))) q4 q5 g1
  refine ⟨m2, p3, p4, p5, g2, ?_⟩
  rw [List.map_cons, sJ rfl hb]
  exact ih
theorem u0 {m : Mp} (g : Gm m) {p : Pl} (hp : p ∈ aO m) : GPt p := by
 unfold aO at hp
 obtain ⟨k, hk, rfl⟩ := List.mem_map.mp hp
 obtain ⟨_, _, h3⟩ := u9 hk (0, 1)
 exact g.g _ _ h3
theorem aIp (K : PySem.W.Frag) (c : Cls) (ns : List Int) (hn : ns.length <= 63) (kind : Int) : ∃ m : Mp, Gm m /\ m ≠ [] /\ bO K c [.p (.list (ns.map .int)), .p (.int kind)] = .ok (.o (.list ((aO m).map plD))) := by
 obtain ⟨vs, vl, ec⟩ := aBv K c ns hn
 obtain ⟨m, q3, q4, q5, g, lp⟩ := yZ K c (some (.p (.list (ns.map .int)))) kind vs [] none none none ⟨(fun _ _ e => nomatch e), List.nodup_nil, Nat.zero_le _⟩
 have d9 : (9 : Int) ≠ 0 := by decide
 have f9 := cH (a := kind) (b := 9) (by decide)
 have dq : ∀ m : Mp, aD4 (.b (.dict (N.encM slD frD m))) (.p (.dict [])) = .ok (.p (.bool m.isEmpty)) := fun m => by
  unfold aD4
  simp only [i3, nW, if_true]
  congr 3
  cases m <;> rfl
 have body : ∀ {m' : Mp}, Gm m' -> (cO (gP (cU (aL aD4 (aG 2) mDT)) (nB 2 (aF eC (aB (aL iD (aG 1) (mC (.int 9))) (aB (mC (.int 0)) aS))) (aF eC (aB (mC (.int 1)) (aB (mC (.int 2)) aS)))) dG) (fun en => (eM (fD 2 [2] (jT (aF dO (aB (aG 2) aS))) (kI 2 (cQ (aQ 0) (cQ (aQ 1) kG))) iC (cP K c))) (frz 2 en))) [some (.p (.list (ns.map .int))), some (.p (.int kind)), some (.o (.dict (N.encM slD frD m))), q3, q4, q5] = (fun en => (eM (fD 2 [2] (jT (aF dO (aB (aG 2) aS))) (kI 2 (cQ (aQ 0) (cQ (aQ 1) kG))) iC (cP K c))) (frz 2 en)) [some (.p (.list (ns.map .int))), some (.p (.int kind)), some (.o (.dict (N.encM slD frD m'))), q3, q4, q5] -> bO K c [.p (.list (ns.map .int)), .p (.int kind)] = .ok (.o (.list ((aO m').map plD))) := fun {m'} g' e => by
  have gl := g'.l
  have cm : fD 2 [2] (jT (aF dO (aB (aG 2) aS))) (kI 2 (cQ (aQ 0) (cQ (aQ 1) kG))) iC (cP K c) [some (.p (.list (ns.map .int))), some (.p (.int kind)), some (.p (.dict (N.encM slD frD m'))), q3, q4, q5] = .ok (.f (.list ((aO m').map plD))) := by
   have kl : (kys m').length = m'.length := by unfold kys; rw [List.length_map]
   refine (j0 (ds := (jL (kys m')).map nS) (itL (bQ (aV rfl rfl) (qC (ev := frD) m' (by omega)))) (by rw [List.length_map, (dQ (kys m')).length_eq]; omega) (eW (out := fun k => plD ((un2 k).1, (un2 k).2, aDn m' (0, 1) k)) _ fun k hk => ?_)).trans (by unfold aO; rw [List.map_map]; rfl)
   obtain ⟨h1, h2, h3⟩ := u9 hk (0, 1)
   have e : cP K c [some (.p (.int (un2 k).1)), some (.p (.int (un2 k).2)), some (.p (.dict (N.encM slD frD m')))] = .ok (.p (plD ((un2 k).1, (un2 k).2, aDn m' (0, 1) k))) := aIh rfl rfl (aL3 (ev := frD) (s := un2 k) (wZ rfl rfl) rfl rfl h3)
   rw [h1]
   unfold bZ
   have tg : kI 2 (cQ (aQ 0) (cQ (aQ 1) kG)) (slD (un2 k)) (List.replicate 2 none ++ wW [2] [some (.p (.list (ns.map .int))), some (.p (.int kind)), some (.p (.dict (N.encM slD frD m'))), q3, q4, q5]) = some [some (.p (.int (un2 k).1)), some (.p (.int (un2 k).2)), some (.p (.dict (N.encM slD frD m')))] := rfl
   rw [tg]
   simp only [iC, e, Ev.c]
  unfold bO
  refine bY ?_
  rw [show bJ 6 [.p (.list (ns.map .int)), .p (.int kind)] = [some (.p (.list (ns.map .int))), some (.p (.int kind)), none, none, none, none] from rfl]
  unfold fA
  have hit : jT (a5 3 (b8 K c) (aB (aG 0) (aB (mC (.int 2)) (aB (mC (.int 62)) aS)))) [some (.p (.list (ns.map .int))), some (.p (.int kind)), some (.o (.dict [])), none, none, none] = .ok (vs.map .int) := itL (aLw rfl rfl rfl ec)
  refine (aM (i4 (d := .dict []) rfl)).trans ((aM ((wV hit).trans lp)).trans (e.trans ?_))
  exact y6 (i := 2) (e1 := [some (.p (.list (ns.map .int))), some (.p (.int kind)), some (.p (.dict (N.encM slD frD m'))), q3, q4, q5]) rfl (aBs cm)
 by_cases h0 : m = []
 ·subst h0
  have gt : GT (1, 2) := ⟨⟨by decide, by decide⟩, by decide, by decide⟩
  have gp : GPt (kind.fmod 9, 0, ((1, 2) : Int × Int)) := ⟨f9.1, by show kind.fmod 9 <= 8; omega, Int.le_refl 0, show (0 : Int) <= 8 by decide, gt⟩
  have g' : Gm (rQ ([] : Mp) (kind.fmod 9, 0) (1, 2)) := g.put (s := (kind.fmod 9, 0)) gp (by decide)
  refine ⟨rQ [] (kind.fmod 9, 0) (1, 2), g', (fun z => nomatch z), body g' ?_⟩
  refine aM ((r8 (cG ((aH rfl rfl (dq [])).trans rfl))).trans ?_)
  exact aA2 (i := 2) (v := frD (1, 2)) rfl (wZ rfl rfl) (wZ (aH rfl rfl (dM d9)) rfl) (rS (ev := frD) ([] : Mp) (kind.fmod 9, 0) (1, 2) (by decide))
 ·refine ⟨m, g, h0, body g (aM (iX (cG ((aH rfl rfl (dq m)).trans ?_))))⟩
  cases m with
  | nil => exact absurd rfl h0
  | cons a r => rfl
theorem x3 {c : Cls} {ps : List Pl} (h0 : ps ≠ []) (hs : ∀ p ∈ ps, stp (slp p) = false) (hl : (hbM ps).length <= 16) : tV c ps = .ok (.o (.list ((aO (hbM ps)).map plD))) := by
 unfold tV
 rw [if_neg h0, if_neg (by
  intro h
  obtain ⟨p, hp, e⟩ := List.any_eq_true.mp h
  rw [hs p hp] at e
  cases e), if_neg (by omega)]
theorem aI5 {ps qs : List Pl} (hf : ∀ p ∈ ps, FR.Fr p.2.2) (hg : ∀ q ∈ qs, FR.Fr q.2.2) (h1 : ∀ p ∈ ps, p ∈ qs) (h2 : ∀ q ∈ qs, ∃ p ∈ ps, slp p = slp q /\ leF q.2.2 p.2.2) (k : Int × Int) : eI (hbM qs) k = eI (hbM ps) k := by
 rw [oP, oP]
 have pos : ∀ {xs : List Pl}, (∀ p ∈ xs, FR.Fr p.2.2) -> ∀ h ∈ hts xs k, FR.Fr h := fun hx h hh => by
  obtain ⟨p, hp, _, rfl⟩ := mem_hts.mp hh
  exact hx p hp
 have sub : ∀ {h}, h ∈ hts ps k -> h ∈ hts qs k := fun {h} hh => by
  obtain ⟨p, a, b⟩ := mem_hts.mp hh
  exact mem_hts.mpr ⟨p, h1 p a, b⟩
 have up : ∀ {h}, h ∈ hts qs k -> ∃ h' ∈ hts ps k, leF h h' := fun {h} hh => by
  obtain ⟨q, a, b, e⟩ := mem_hts.mp hh
  obtain ⟨p, hp, es, le⟩ := h2 q a
  exact ⟨p.2.2, mem_hts.mpr ⟨p, hp, es.trans b, rfl⟩, by rw [<- e]; exact le⟩
 obtain ⟨a1, a2⟩ := pL (hts ps k) none (fun h hh => (pos hf h hh).pos) (fun _ e => nomatch e)
 obtain ⟨b1, b2⟩ := pL (hts qs k) none (fun h hh => (pos hg h hh).pos) (fun _ e => nomatch e)
 cases e1 : (hts ps k).foldl mxO none with
 | none =>
  cases e2 : (hts qs k).foldl mxO none with
  | none => rfl
  | some b =>
   rcases (b2 b e2).1 with z | z
   ·obtain ⟨h', m, _⟩ := up z
    rw [(a1 e1).2] at m
    cases m
   ·cases z
 | some a =>
  obtain ⟨c1, c2, _, _⟩ := a2 a e1
  have ca : a ∈ hts ps k := c1.elim id (fun z => nomatch z)
  cases e2 : (hts qs k).foldl mxO none with
  | none =>
   have := sub ca
   rw [(b1 e2).2] at this
   cases this
  | some b =>
   obtain ⟨d1, d2, _, _⟩ := b2 b e2
   have db : b ∈ hts qs k := d1.elim id (fun z => nomatch z)
   obtain ⟨h', m, le⟩ := up db
   rw [aHj (pos hg b db) (pos hf a ca) (lU (pos hg b db).pos (pos hf h' m).pos (pos hf a ca).pos le (c2 h' m)) (d2 a (sub ca))]
structure Rd8 (m : Mp) (qs : List Pl) : Prop where
 n : qs ≠ []
 l : qs.length <= 100
 g : ∀ q ∈ qs, GPh q
 a : ∀ p ∈ aO m, p ∈ qs
 b : ∀ q ∈ qs, ∃ p ∈ aO m, slp p = slp q /\ leF q.2.2 p.2.2
theorem aFs {c : Cls} {m : Mp} (g : Gm m) {qs : List Pl} (h : Rd8 m qs) : tV c qs = .ok (.o (.list ((aO m).map plD))) := by
 have hf : ∀ p ∈ aO m, FR.Fr p.2.2 := fun p hp => (u0 g hp).h.f
 have e : aO (hbM qs) = aO m := (n5 (x8 qs) (x8 _) (aI5 hf (fun q hq => (h.g q hq).h.f) h.a h.b)).trans (xG g.n hf)
 have ln := congrArg List.length e
 rw [eO, eO] at ln
 rw [x3 h.n (fun q hq => ?_) (by have := g.l; omega), e]
 have gq := h.g q hq
 have a := gq.a; have b := gq.b; have c := gq.c; have d := gq.d
 unfold stp slp
 dsimp only
 rw [decide_eq_false (by split <;> omega), decide_eq_false (by split <;> omega)]
 rfl
theorem aMj {fe : En -> Res Ev} {en : En} {i : Int} (h : fe en = .ok (.p (.int i))) : mPt fe en = .ok (some i) := by
 unfold mPt
 rw [h]
 rfl
theorem aDf (ds es : List D) (h : ds.length + es.length <= 100000) : fK (.p (.list ds)) (.p (.list es)) = .ok (.f (.list (ds ++ es))) := by
 unfold fK
 dsimp only [iE]
 rw [if_pos h]
theorem aEo {en : En} {f fa : En -> Res Ev} {qs : List Pl} {q : Pl} {a : Nat} (h2 : aG 2 en = .ok (.b (.list (qs.map plD)))) (ha : fa en = .ok (.p (.int (a : Int)))) (hq : f en = .ok (.p (plD q))) (hl : qs.length <= 1000) : aL fK (aL fK (mSl (aG 2) rR (mPt fa)) (aF jX (aB f aS))) (mSl (aG 2) (mPt fa) rR) en = .ok (.f (.list ((qs.take a ++ q :: qs.drop a).map plD))) := by
 have c1 : M.cutD (qs.map plD) none (some (a : Int)) = (qs.take a).map plD := by
  unfold M.cutD
  rw [HT.aAf, List.length_map]
  show ((qs.map plD).drop 0).take (min a qs.length - 0) = _
  rw [List.drop_zero, Nat.sub_zero, List.map_take]
  by_cases z : a <= qs.length
  ·rw [Nat.min_eq_left z]
  ·rw [Nat.min_eq_right (by omega), List.take_of_length_le (by rw [List.length_map]; omega), List.take_of_length_le (by rw [List.length_map]; omega)]
 have c2 : M.cutD (qs.map plD) (some (a : Int)) none = (qs.drop a).map plD := by
  unfold M.cutD
  rw [HT.aAf, List.length_map]
  show ((qs.map plD).drop (min a qs.length)).take (qs.length - min a qs.length) = _
  rw [List.map_drop, List.take_of_length_le (by rw [List.length_drop, List.length_map]; omega)]
  by_cases z : a <= qs.length
  ·rw [Nat.min_eq_left z]
  ·rw [Nat.min_eq_right (by omega), List.drop_of_length_le (by rw [List.length_map]; omega), List.drop_of_length_le (by rw [List.length_map]; omega)]
 have l1 : (qs.take a).length <= qs.length := by rw [List.length_take]; omega
 have l2 : (qs.drop a).length <= qs.length := by rw [List.length_drop]; omega
 have s1 := aMd (fl := rR) (fh := mPt fa) (l := none) (u := some (a : Int)) h2 rfl (aMj ha)
 have s2 := aMd (fl := mPt fa) (fh := rR) (l := some (a : Int)) (u := none) h2 (aMj ha) rfl
 rw [c1] at s1
 rw [c2] at s2
 refine (aH (aH s1 (aNg hq) (aDf _ _ (by rw [List.length_map]; show _ + 1 <= _; omega))) s2 (aDf _ _ (by rw [List.length_append, List.length_map, List.length_map]; show _ + 1 + _ <= _; omega))).trans ?_
 rw [List.map_append, List.map_cons, List.append_assoc]
 rfl
theorem mem_ins {qs : List Pl} {q x : Pl} {a : Nat} : x ∈ qs.take a ++ q :: qs.drop a ↔ x = q \/ x ∈ qs := by
 have e : x ∈ qs ↔ x ∈ qs.take a \/ x ∈ qs.drop a := by rw [<- List.mem_append, List.take_append_drop]
 rw [List.mem_append, List.mem_cons, e]
 constructor
 ·rintro (h | h | h)
  ·exact .inr (.inl h)
  ·exact .inl h
  ·exact .inr (.inr h)
 ·rintro (h | h | h)
  ·exact .inr (.inl h)
  ·exact .inl h
  ·exact .inr (.inr h)
theorem zQ {qs : List Pl} {q : Pl} {a : Nat} : (qs.take a ++ q :: qs.drop a).length = qs.length + 1 := by
 rw [List.length_append, List.length_cons, List.length_take, List.length_drop]
 omega
def low (p : Pl) (k : Int) : Pl := (p.1, p.2.1, (p.2.2.1 - p.2.2.2 * k, p.2.2.2))
theorem aIf {p : Pl} (g : GPt p) {k : Int} (h1 : 1 <= k) (h5 : k <= 5) : GPh (low p k) /\ leF (low p k).2.2 p.2.2 := by
 have f := g.h.f
 have pp := f.pos
 have t := g.h.t
 have b := g.h.b
 have n29 : (10 : Nat) ^ 29 = 100000000000000000000000000000 := by decide
 have n30 : (10 : Nat) ^ 30 = 1000000000000000000000000000000 := by decide
 rw [p29] at b
 have kb : p.2.2.2 * k <= p.2.2.2 * 5 := Int.mul_le_mul_of_nonneg_left h5 (by omega)
 have k0 : 0 <= p.2.2.2 * k := Int.mul_nonneg (by omega) (by omega)
 refine ⟨⟨g.a, g.b, g.c, g.d, ⟨⟨pp, ?_⟩, ?_, ?_⟩⟩, ?_⟩
 ·show Int.gcd (p.2.2.1 - p.2.2.2 * k) p.2.2.2 = 1
  rw [Int.mul_comm p.2.2.2 k, Int.gcd_sub_mul_right_left]
  exact f.2
 ·show (p.2.2.1 - p.2.2.2 * k).natAbs < _
  omega
 ·show p.2.2.2.natAbs < _
  omega
 ·unfold leF
  show (p.2.2.1 - p.2.2.2 * k) * p.2.2.2 <= p.2.2.1 * p.2.2.2
  exact Int.mul_le_mul_of_nonneg_right (by omega) (by omega)
structure Mx (rf pre qs : List Pl) : Prop where
 g : ∀ q ∈ qs, GPh q
 b : ∀ q ∈ qs, ∃ p ∈ rf, slp p = slp q /\ leF q.2.2 p.2.2
 a : ∀ p ∈ pre, p ∈ qs
 l : qs.length <= 3 * pre.length
theorem Mx.ins {rf pre qs : List Pl} (h : Mx rf pre qs) {q : Pl} (hq : GPh q) (hb : ∃ p ∈ rf, slp p = slp q /\ leF q.2.2 p.2.2) {pre' : List Pl} (hp : ∀ p ∈ pre', p ∈ pre \/ p = q) {a : Nat} (hl : qs.length + 1 <= 3 * pre'.length) : Mx rf pre' (qs.take a ++ q :: qs.drop a) := by
 refine ⟨fun x hx => ?_, fun x hx => ?_, fun p hp' => ?_, by rw [zQ]; exact hl⟩
 ·rcases mem_ins.mp hx with e | e
  ·rw [e]; exact hq
  ·exact h.g x e
 ·rcases mem_ins.mp hx with e | e
  ·rw [e]; exact hb
  ·exact h.b x e
 ·rcases hp p hp' with e | e
  ·exact mem_ins.mpr (.inr (h.a p e))
  ·exact mem_ins.mpr (.inl e)
abbrev eMx (A : Option L) (ns : List Int) (qs : List Pl) (k : Nat) (p : Pl) (r5 r6 r7 : Option L) : En := [A, some (.p (.list (ns.map .int))), some (.o (.list (qs.map plD))), some (.p (.int (k : Int))), some (.p (plD p)), r5, r6, r7]
noncomputable def b7 (K : PySem.W.Frag) (c : Cls) : MS := (cO (eR 5 (aL iD (aL k8 (aL iD (a5 2 (aR K c) (aB (aG 1) (aB (aL fK (mC (.int 2)) (aG 3)) aS))) (aL uZ (mC (.int 10)) (mC (.int 20)))) (mC (.int 48271))) (mC (.int 1000003)))) (cO (eR 6 (aL iD (aG 5) (aL fK (aF gY (aB (aG 2) aS)) (mC (.int 1))))) (cO (eR 2 (aL fK (aL fK (mSl (aG 2) rR (mPt (aG 6))) (aF jX (aB (aG 4) aS))) (mSl (aG 2) (mPt (aG 6)) rR))) (cO (eR 6 (aL iD (aL jG (aG 5) (mC (.int 17))) (aL fK (aF gY (aB (aG 2) aS)) (mC (.int 1))))) (cO (eR 7 (aF eC (aB (aL ixE (aG 4) (mC (.int 0))) (aB (aL ixE (aG 4) (mC (.int 1))) (aB (aF eC (aB (aL aF7 (aL ixE (aL ixE (aG 4) (mC (.int 2))) (mC (.int 0))) (aL k8 (aL ixE (aL ixE (aG 4) (mC (.int 2))) (mC (.int 1))) (aL fK (mC (.int 1)) (aL iD (aG 5) (mC (.int 5)))))) (aB (aL ixE (aL ixE (aG 4) (mC (.int 2))) (mC (.int 1))) aS))) aS))))) (cO (gP (cU (aL (eqE false) (aL iD (aL jG (aG 5) (mC (.int 300))) (mC (.int 3))) (mC (.int 1)))) (eR 2 (aL fK (aL fK (mSl (aG 2) rR (mPt (aG 6))) (aF jX (aB (aG 7) aS))) (mSl (aG 2) (mPt (aG 6)) rR))) dG) (gP (cU (aL (eqE false) (aL iD (aL jG (aG 5) (mC (.int 300))) (mC (.int 3))) (mC (.int 2)))) (eR 2 (aL fK (aL fK (mSl (aG 2) rR (mPt (aG 6))) (aF jX (aB (aG 4) aS))) (mSl (aG 2) (mPt (aG 6)) rR))) dG)))))))
noncomputable def eG (K : PySem.W.Frag) (c : Cls) : MS := (cO (eR 2 (aF jX aS)) (cO (aBd (aDt aBi (aB (aG 0) aS)) (kI 2 (cQ (aQ 3) (cQ (aQ 4) kG))) (b7 K c)) (eM (aG 2))))
noncomputable def bF (K : PySem.W.Frag) (c : Cls) (ls : List L) : Res L := dU 8 (eG K c) ls
theorem lE (K : PySem.W.Frag) (c : Cls) : ∀ ls, bF K c ls = .bad \/ dU 8 (eG K c) ls = bF K c ls := fun _ => .inr rfl
theorem aMw (K : PySem.W.Frag) (c : Cls) (A : Option L) (ns : List Int) {rf pre qs : List Pl} (h : Mx rf pre qs) {k : Nat} (hk : k <= 90) {p : Pl} (gp : GPt p) (hp : p ∈ rf) (hl : pre.length <= 100) (r5 r6 r7 : Option L) : ∃ qs' q5 q6 q7, Mx rf (pre ++ [p]) qs' /\ b7 K c (eMx A ns qs k p r5 r6 r7) = some (.nx (eMx A ns qs' k p q5 q6 q7)) := by
 obtain ⟨v, v0, ev⟩ := sZ K c ns (2 + k) (by omega)
 rw [show ((2 + k : Nat) : Int) = 2 + (k : Int) by omega] at ev
 have p20 : aA9 10 20 := ⟨by decide, by decide, by decide⟩
 have pn : (10 : Int) ^ Int.toNat 20 ≠ 0 := by decide
 have d3 : (1000003 : Int) ≠ 0 := by decide
 have ql := h.l
 have f20 := cH (a := v) (b := 10 ^ Int.toNat 20) (by decide)
 have z20 : Sz 100 (v.fmod (10 ^ Int.toNat 20)) := by
  have : (10 : Int) ^ Int.toNat 20 = 100000000000000000000 := by decide
  have : (100000000000000000000 : Nat) < 2 ^ 100 := by decide
  unfold Sz
  omega
 have s5 : aL iD (aL k8 (aL iD (a5 2 (aR K c) (aB (aG 1) (aB (aL fK (mC (.int 2)) (aG 3)) aS))) (aL uZ (mC (.int 10)) (mC (.int 20)))) (mC (.int 48271))) (mC (.int 1000003)) (eMx A ns qs k p r5 r6 r7) = .ok (.p (.int ((v.fmod (10 ^ Int.toNat 20) * 48271).fmod 1000003))) := aH (aH (aH (l7 rfl (aH rfl rfl (iG _ _)) ev) (aH rfl rfl (jW p20)) (dM pn)) rfl (ml9 z20 (by unfold Sz; decide) (by decide))) rfl (dM d3)
 have fc := cH (a := v.fmod (10 ^ Int.toNat 20) * 48271) (b := 1000003) (by decide)
 generalize (v.fmod (10 ^ Int.toNat 20) * 48271).fmod 1000003 = w at *
 have lq : ∀ (xs : List Pl) (a b d : Option L), aF gY (aB (aG 2) aS) (eMx A ns xs k p a b d) = .ok (.p (.int (xs.length : Int))) := fun xs a b d => by
  have := aBp (f := aG 2) (en := eMx A ns xs k p a b d) (x := .b (.list (xs.map plD))) rfl rfl
  rw [List.length_map] at this
  exact this
 have at_ : ∀ (x : Int) (n : Nat), ∃ a : Nat, x.fmod ((n : Int) + 1) = (a : Int) := fun x n => by
  have := cH (a := x) (b := (n : Int) + 1) (by omega)
  exact ⟨(x.fmod ((n : Int) + 1)).toNat, by omega⟩
 obtain ⟨a1, e1⟩ := at_ w qs.length
 have c17 : kW w 17 := qN _ (by decide) (by decide)
 have c300 : kW w 300 := qN _ (by decide) (by decide)
 have m1 : Mx rf (pre ++ [p]) (qs.take a1 ++ p :: qs.drop a1) := h.ins gp.g ⟨p, hp, rfl, hZ _⟩ (fun x hx => by rcases List.mem_append.mp hx with e | e; exact .inl e; exact .inr (List.mem_singleton.mp e)) (by rw [List.length_append, List.length_singleton]; omega)
 have l1 : (qs.take a1 ++ p :: qs.drop a1).length = qs.length + 1 := zQ
 have n1 : (pre ++ [p]).length = pre.length + 1 := by rw [List.length_append, List.length_singleton]
 have f5 := cH (a := w) (b := 5) (by decide)
 obtain ⟨gl, ll⟩ := aIf gp (k := 1 + w.fmod 5) (by omega) (by omega)
 have mlo : k8 (.p (.int p.2.2.2)) (.p (.int (1 + w.fmod 5))) = .ok (.p (.int (p.2.2.2 * (1 + w.fmod 5)))) := ml9 (n := 200) (by
  have := gp.h.b
  have := gp.h.f.pos
  have : (100000000000000000000000000000 : Nat) < 2 ^ 200 := by decide
  rw [p29] at *
  unfold Sz
  omega) (by
  have : (10 : Nat) < 2 ^ 200 := by decide
  unfold Sz
  omega) (by decide)
 have j2 : ∀ x : Int × Int, ixE (.p (frD x)) (.p (.int 0)) = .ok (.p (.int x.1)) := fun x => nI _ _
 have j3 : ∀ x : Int × Int, ixE (.p (frD x)) (.p (.int 1)) = .ok (.p (.int x.2)) := fun x => nM _ _ _
 obtain ⟨a2, e2⟩ := at_ (w.fdiv 17) (qs.take a1 ++ p :: qs.drop a1).length
 have io := fun (en : En) (f fa : En -> Res Ev) h2 ha hq => aEo (en := en) (f := f) (fa := fa) (qs := qs) (q := p) (a := a1) h2 ha hq (by omega)
 generalize qs.take a1 ++ p :: qs.drop a1 = xs at *
 have m2 : ∀ {q : Pl}, GPh q -> (∃ p ∈ rf, slp p = slp q /\ leF q.2.2 p.2.2) -> Mx rf (pre ++ [p]) (xs.take a2 ++ q :: xs.drop a2) := fun hq hb => m1.ins hq hb (fun x hx => .inl hx) (by omega)
 have t3 : ∀ (n : Int) (ys : List Pl) (B : Option L), cU (aL (eqE false) (aL iD (aL jG (aG 5) (mC (.int 300))) (mC (.int 3))) (mC (.int n))) (eMx A ns ys k p (some (.p (.int w))) (some (.p (.int (a2 : Int)))) B) = .ok ((w.fdiv 300).fmod 3 == n) := fun n ys B => cG (aH (aH (aH rfl rfl (iO c300)) rfl (dM (by decide))) rfl eq_is)
 have st : ∀ {o : Option Out}, (cO (gP (cU (aL (eqE false) (aL iD (aL jG (aG 5) (mC (.int 300))) (mC (.int 3))) (mC (.int 1)))) (eR 2 (aL fK (aL fK (mSl (aG 2) rR (mPt (aG 6))) (aF jX (aB (aG 7) aS))) (mSl (aG 2) (mPt (aG 6)) rR))) dG) (gP (cU (aL (eqE false) (aL iD (aL jG (aG 5) (mC (.int 300))) (mC (.int 3))) (mC (.int 2)))) (eR 2 (aL fK (aL fK (mSl (aG 2) rR (mPt (aG 6))) (aF jX (aB (aG 4) aS))) (mSl (aG 2) (mPt (aG 6)) rR))) dG)) (eMx A ns xs k p (some (.p (.int w))) (some (.p (.int (a2 : Int)))) (some (.p (plD (low p (1 + w.fmod 5)))))) = o -> b7 K c (eMx A ns qs k p r5 r6 r7) = o := fun {o} ho => by
  unfold b7
  refine (aM (fH s5)).trans ?_
  refine (aM (fH (d := .int (a1 : Int)) ((aH rfl (aH (lq qs _ _ _) rfl (iG _ _)) (dM (by omega))).trans (by rw [e1])))).trans ?_
  refine (aM (i4 (io _ _ _ rfl rfl rfl))).trans ?_
  refine (aM (fH (d := .int (a2 : Int)) ((aH (aH rfl rfl (iO c17)) (aH (lq xs _ _ _) rfl (iG _ _)) (dM (by omega))).trans (by rw [e2])))).trans ?_
  exact (aM (fH (d := plD (low p (1 + w.fmod 5))) (aIh (aH rfl rfl (o4 p)) (aH rfl rfl (oG p)) (wZ (aH (aH (aH rfl rfl (kS p)) rfl (j2 _)) (aH (aH (aH rfl rfl (kS p)) rfl (j3 _)) (aH rfl (aH rfl rfl (dM (by decide))) (iG _ _)) mlo) (uT _ _)) (aH (aH rfl rfl (kS p)) rfl (j3 _)))))).trans ho
 by_cases z1 : (w.fdiv 300).fmod 3 = 1
 ·refine ⟨xs.take a2 ++ low p (1 + w.fmod 5) :: xs.drop a2, some (.p (.int w)), some (.p (.int (a2 : Int))), some (.p (plD (low p (1 + w.fmod 5)))), m2 gl ⟨p, hp, rfl, ll⟩, st ?_⟩
  refine (aM ((r8 ((t3 1 xs _).trans (by rw [beq_iff_eq.mpr z1]))).trans (i4 (aEo (qs := xs) (q := low p (1 + w.fmod 5)) (a := a2) rfl rfl rfl (by omega))))).trans ?_
  exact iX ((t3 2 _ _).trans (by rw [z1]; rfl))
 ·have q1 := (t3 1 xs (some (.p (plD (low p (1 + w.fmod 5)))))).trans (by rw [beq_eq_false_iff_ne.mpr z1])
  by_cases z2 : (w.fdiv 300).fmod 3 = 2
  ·refine ⟨xs.take a2 ++ p :: xs.drop a2, some (.p (.int w)), some (.p (.int (a2 : Int))), some (.p (plD (low p (1 + w.fmod 5)))), m2 gp.g ⟨p, hp, rfl, hZ _⟩, st ?_⟩
   exact (aM (iX q1)).trans ((r8 ((t3 2 xs _).trans (by rw [beq_iff_eq.mpr z2]))).trans (i4 (aEo (qs := xs) (q := p) (a := a2) rfl rfl rfl (by omega))))
  ·exact ⟨xs, some (.p (.int w)), some (.p (.int (a2 : Int))), some (.p (plD (low p (1 + w.fmod 5)))), m1, st ((aM (iX q1)).trans (iX ((t3 2 xs _).trans (by rw [beq_eq_false_iff_ne.mpr z2]))))⟩
theorem zY (K : PySem.W.Frag) (c : Cls) (A : Option L) (ns : List Int) {rf : List Pl} (hg : ∀ p ∈ rf, GPt p) (hl : rf.length <= 16) : ∀ (ps pre qs : List Pl) (k : Nat) (r3 r4 r5 r6 r7 : Option L), rf = pre ++ ps -> Mx rf pre qs -> k + ps.length <= 90 -> ∃ qs' q3 q4 q5 q6 q7, Mx rf rf qs' /\ iJ (kI 2 (cQ (aQ 3) (cQ (aQ 4) kG))) (b7 K c) (kL k (ps.map plD)) [A, some (.p (.list (ns.map .int))), some (.o (.list (qs.map plD))), r3, r4, r5, r6, r7] = some (.nx [A, some (.p (.list (ns.map .int))), some (.o (.list (qs'.map plD))), q3, q4, q5, q6, q7])
 | [], pre, qs, k, r3, r4, r5, r6, r7, e, h, _ => ⟨qs, r3, r4, r5, r6, r7, by rw [List.append_nil] at e; rw [<- e] at h; exact h, rfl⟩
 | p :: ps, pre, qs, k, r3, r4, r5, r6, r7, e, h, hk => by
  rw [List.length_cons] at hk
  have hp : p ∈ rf := by rw [e]; exact List.mem_append.mpr (.inr (.head _))
  have pl : pre.length <= 16 := by
   have := congrArg List.length e
   rw [List.length_append] at this
   omega
  obtain ⟨q1, q5, q6, q7, h1, hb⟩ := aMw K c A ns h (k := k) (by omega) (hg p hp) hp (by omega) r5 r6 r7
  obtain ⟨q2, p3, p4, p5, p6, p7, h2, ih⟩ := zY K c A ns hg hl ps (pre ++ [p]) q1 (k + 1) (some (.p (.int (k : Int)))) (some (.p (plD p))) q5 q6 q7 (by rw [e, List.append_assoc]; rfl) h1 (by omega)
  refine ⟨q2, p3, p4, p5, p6, p7, h2, ?_⟩
  rw [List.map_cons, show kL k (plD p :: ps.map plD) = .tuple [.int (k : Int), plD p] :: kL (k + 1) (ps.map plD) from rfl, sJ rfl hb]
  exact ih
theorem aI2 (K : PySem.W.Frag) (c : Cls) (ns : List Int) {m : Mp} (g : Gm m) (h0 : m ≠ []) : ∃ qs, Rd8 m qs /\ bF K c [.p (.list ((aO m).map plD)), .p (.list (ns.map .int))] = .ok (.o (.list (qs.map plD))) := by
 have rl : (aO m).length <= 16 := by rw [eO]; exact g.l
 obtain ⟨qs, q3, q4, q5, q6, q7, h, lp⟩ := zY K c (some (.p (.list ((aO m).map plD)))) ns (fun p hp => u0 g hp) rl (aO m) [] [] 0 none none none none none rfl ⟨(fun _ z => nomatch z), (fun _ z => nomatch z), (fun _ z => nomatch z), Nat.zero_le _⟩ (by omega)
 have hl := h.l
 refine ⟨qs, ⟨fun z => ?_, by omega, h.g, h.a, h.b⟩, ?_⟩
 ·cases e : aO m with
  | nil =>
   have := eO m
   rw [e] at this
   exact h0 (List.length_eq_zero_iff.mp this.symm)
  | cons p r =>
   have := h.a p (by rw [e]; exact .head _)
   rw [z] at this
   cases this
 ·unfold bF
  refine bY ?_
  rw [show bJ 8 [.p (.list ((aO m).map plD)), .p (.list (ns.map .int))] = [some (.p (.list ((aO m).map plD))), some (.p (.list (ns.map .int))), none, none, none, none, none, none] from rfl]
  unfold eG
  refine (aM (i4 (d := .list []) rfl)).trans ((aM ((wV (itA (aV rfl rfl) rfl)).trans lp)).trans ?_)
  rfl
noncomputable def gB (K : PySem.W.Frag) (c : Cls) : MS := (eM (kR (mUn (nH K (.type "int")) (aG 0)) (v9 (mUn (nH K (.type "bool")) (aG 0)))))
noncomputable def bI (K : PySem.W.Frag) (c : Cls) (ls : List L) : Res L := dU 1 (gB K c) ls
theorem oS (K : PySem.W.Frag) (c : Cls) : ∀ ls, bI K c ls = .bad \/ dU 1 (gB K c) ls = bI K c ls := fun _ => .inr rfl
theorem lL (K : PySem.W.Frag) (c : Cls) (hk : fQ K c) (i : Int) : bI K c [.p (.int i)] = .ok (.p (.bool true)) := by
 have i1 : nH K (.type "int") (.p (.int i)) = .ok (.p (.bool true)) := by simp [nH, dat, tyD, hk.ii]
 have i2 : nH K (.type "bool") (.p (.int i)) = .ok (.p (.bool false)) := by simp [nH, dat, tyD, hk.ib]
 unfold bI
 refine bY ?_
 rw [show bJ 1 [.p (.int i)] = [some (.p (.int i))] from rfl]
 unfold gB
 refine eD (l9 (aDw rfl i1) ?_)
 simp only [v9, aDw (f := aG 0) (en := [some (.p (.int i))]) rfl i2, Res.bind]
 rfl
noncomputable def dF (K : PySem.W.Frag) (c : Cls) : MS := (cO (gP (mOr (mW (cU (mUn (nH K (.type "tuple")) (aG 0)))) (cU (aL (eqE true) (aF gY (aB (aG 0) aS)) (mC (.int 2))))) (eM (mC (.bool false))) dG) (cO (gP (mOr (mW (cU (a5 1 (bI K c) (aB (aL ixE (aG 0) (mC (.int 0))) aS)))) (mOr (mW (cU (a5 1 (bI K c) (aB (aL ixE (aG 0) (mC (.int 1))) aS)))) (cU (aL ltE (aL ixE (aG 0) (mC (.int 1))) (mC (.int 1)))))) (eM (mC (.bool false))) dG) (eM (aL (eqE false) (a5 2 (bN K c) (aB (aL ixE (aG 0) (mC (.int 0))) (aB (aL ixE (aG 0) (mC (.int 1))) aS))) (mC (.int 1))))))
noncomputable def a8 (K : PySem.W.Frag) (c : Cls) (ls : List L) : Res L := dU 1 (dF K c) ls
theorem jI (K : PySem.W.Frag) (c : Cls) : ∀ ls, a8 K c ls = .bad \/ dU 1 (dF K c) ls = a8 K c ls := fun _ => .inr rfl
theorem aG6 (K : PySem.W.Frag) (c : Cls) (hk : fQ K c) {h : Int × Int} (f : FR.Fr h) : a8 K c [.p (frD h)] = .ok (.p (.bool true)) := by
 have it : nH K (.type "tuple") (.p (frD h)) = .ok (.p (.bool true)) := by simp [nH, dat, frD, tyD, hk.tt]
 have ln : gY [.p (frD h)] = .ok (.p (.int 2)) := by simp [gY, i5, frD]
 have i0 : ixE (.p (frD h)) (.p (.int 0)) = .ok (.p (.int h.1)) := nI _ _
 have i1 : ixE (.p (frD h)) (.p (.int 1)) = .ok (.p (.int h.2)) := nM _ _ _
 have lt : ltE (.p (.int h.2)) (.p (.int 1)) = .ok (.p (.bool false)) := by
  show Res.ok (Ev.p (.bool (decide (h.2 < 1)))) = _
  rw [decide_eq_false (by have := f.pos; omega)]
 have dv := zB K c h.1 h.2
 rw [show Int.gcd h.1 h.2 = 1 from f.2] at dv
 unfold a8
 refine bY ?_
 rw [show bJ 1 [.p (frD h)] = [some (.p (frD h))] from rfl]
 unfold dF
 refine (aM (iX (wO (iL (cG (aDw rfl it))) (cG ((aH (bQ (aV rfl rfl) ln) rfl ne_is).trans rfl))))).trans ?_
 refine (aM (iX (wO (iL (cG (fE (aH rfl rfl i0) rfl (lL K c hk _)))) (wO (iL (cG (fE (aH rfl rfl i1) rfl (lL K c hk _)))) (cG (aH (aH rfl rfl i1) rfl lt)))))).trans (eD ?_)
 exact (aH (l7 (aH rfl rfl i0) (aH rfl rfl i1) dv) rfl eq_is).trans rfl
noncomputable def dP (K : PySem.W.Frag) (c : Cls) : MS := (cO (gP (mOr (mW (cU (mUn (nH K (.type "tuple")) (aG 2)))) (mOr (cU (aL (eqE true) (aF gY (aB (aG 2) aS)) (mC (.int 3)))) (mW (cU (a5 1 (a8 K c) (aB (aL ixE (aG 2) (mC (.int 2))) aS)))))) (eM (mC (.bool false))) dG) (gP (mOr (mW (cU (a5 1 (bI K c) (aB (aL ixE (aG 2) (mC (.int 0))) aS)))) (mW (cU (a5 1 (bI K c) (aB (aL ixE (aG 2) (mC (.int 1))) aS))))) (eM (mC (.bool false))) dG))
noncomputable def eX (K : PySem.W.Frag) (c : Cls) : MS := (cO (gP (mOr (mW (cU (mUn (nH K (.type "list")) (aG 0)))) (cU (aL (eqE true) (aF gY (aB (aG 0) aS)) (aF gY (aB (aG 1) aS))))) (eM (mC (.bool false))) dG) (cO (aBd (jT (aG 0)) (aQ 2) (dP K c)) (eM (aL (eqE false) (aG 0) (aG 1)))))
noncomputable def bX (K : PySem.W.Frag) (c : Cls) (ls : List L) : Res L := dU 3 (eX K c) ls
theorem mM (K : PySem.W.Frag) (c : Cls) : ∀ ls, bX K c ls = .bad \/ dU 3 (eX K c) ls = bX K c ls := fun _ => .inr rfl
theorem xB (K : PySem.W.Frag) (c : Cls) (hk : fQ K c) (A B : Option L) : ∀ (ps : List Pl) (r : Option L), (∀ p ∈ ps, FR.Fr p.2.2) -> ∃ q, iJ (aQ 2) (dP K c) (ps.map plD) [A, B, r] = some (.nx [A, B, q])
 | [], r, _ => ⟨r, rfl⟩
 | p :: ps, r, hf => by
  obtain ⟨q, ih⟩ := xB K c hk A B ps (some (.p (plD p))) fun x hx => hf x (.tail _ hx)
  refine ⟨q, ?_⟩
  have it : nH K (.type "tuple") (.p (plD p)) = .ok (.p (.bool true)) := by simp [nH, dat, plD, tyD, hk.tt]
  have ln : gY [.p (plD p)] = .ok (.p (.int 3)) := by simp [gY, i5, plD]
  have hb : dP K c [A, B, some (.p (plD p))] = some (.nx [A, B, some (.p (plD p))]) := by
   unfold dP
   refine (aM (iX (wO (iL (cG (aDw rfl it))) (wO (cG ((aH (bQ (aV rfl rfl) ln) rfl ne_is).trans rfl)) (iL (cG (fE (aH rfl rfl (kS p)) rfl (aG6 K c hk (hf p (.head _)))))))))).trans ?_
   exact iX (wO (iL (cG (fE (aH rfl rfl (o4 p)) rfl (lL K c hk _)))) (iL (cG (fE (aH rfl rfl (oG p)) rfl (lL K c hk _)))))
  rw [List.map_cons, sJ rfl hb]
  exact ih
theorem aGo (K : PySem.W.Frag) (c : Cls) (hk : fQ K c) {ps : List Pl} (hf : ∀ p ∈ ps, FR.Fr p.2.2) : bX K c [.p (.list (ps.map plD)), .p (.list (ps.map plD))] = .ok (.p (.bool true)) := by
 have il : nH K (.type "list") (.p (.list (ps.map plD))) = .ok (.p (.bool true)) := by simp [nH, dat, tyD, hk.ll]
 have ln : gY [.p (.list (ps.map plD))] = .ok (.p (.int (ps.length : Nat))) := by simp [gY, i5]
 obtain ⟨q, lp⟩ := xB K c hk (some (.p (.list (ps.map plD)))) (some (.p (.list (ps.map plD)))) ps none hf
 unfold bX
 refine bY ?_
 rw [show bJ 3 [.p (.list (ps.map plD)), .p (.list (ps.map plD))] = [some (.p (.list (ps.map plD))), some (.p (.list (ps.map plD))), none] from rfl]
 unfold eX
 refine (aM (iX (wO (iL (cG (aDw rfl il))) (cG ((aH (bQ (aV rfl rfl) ln) (bQ (aV rfl rfl) ln) ne_is).trans (by rw [beq_self_eq_true]; rfl)))))).trans ?_
 refine (aM ((wV (itL rfl)).trans lp)).trans (eD ?_)
 exact aH rfl rfl (uX rfl rfl (aDa ps) false)
abbrev eLw (ns : List Int) (A : Option L) (ps : List Pl) (t : Str) (B C D : Option L) : En := [some (.p (.list (ns.map .int))), A, some (.p (.list (ps.map plD))), some (.o (.list (ps.map plD))), some (.p (.str t)), B, C, D]
noncomputable def lN (K : PySem.W.Frag) (c : Cls) : MS := (cO (eR 7 (a5 1 (kZ K c) (aB (aG 6) aS))) (cO (gP (mW (cU (a5 2 (bX K c) (aB (aG 7) (aB (aG 2) aS))))) (eM (mC (.bool false))) dG) (cO (mE 7 (aF eC (aB (mC (.int 8)) (aB (mC (.int 8)) (aB (aF eC (aB (mC (.int 1)) (aB (mC (.int 3)) aS))) aS))))) (aA6 7 (mC (.int 0)) (aF eC (aB (mC (.int 0)) (aB (mC (.int 0)) (aB (aF eC (aB (mC (.int 0)) (aB (mC (.int 1)) aS))) aS))))))))
noncomputable def oF (K : PySem.W.Frag) (c : Cls) : En -> Res Ev := (a5 1 (cS K c) (aB (aG 0) aS))
noncomputable def o6 (K : PySem.W.Frag) (c : Cls) : En -> Res Ev := (a5 1 (cS K c) (aB (aG 0) aS))
noncomputable def aB9 (K : PySem.W.Frag) (c : Cls) : MS := (cO (eR 1 (a5 2 (aR K c) (aB (aG 0) (aB (mC (.int 0)) aS)))) (cO (eR 2 (a5 2 (bO K c) (aB (aG 0) (aB (aG 1) aS)))) (fun en => (cO (eR 3 (aF listE (aB (aG 2) aS))) (cO (eR 4 (a5 1 (dW K c) (aB (aG 3) aS))) (cO (gP (mOr (mW (cU (mUn (nH K (.type "str")) (aG 4)))) (mOr (cU (aL (eqE true) (aG 4) (s9 kQ (mC (.str "; ")) (fD 1 [] (jT (aG 2)) (aQ 0) iC (o6 K c))))) (cU (aL (eqE true) (aG 3) (aG 2))))) (eM (mC (.bool false))) dG) (cO (eR 5 (s9 kQ (mC (.str "; ")) (fD 1 [] (jT (a5 2 (bF K c) (aB (aG 2) (aB (aG 0) aS)))) (aQ 0) iC (oF K c)))) (cO (aBd (aLx (aF eC (aB (aG 4) (aB (aG 5) (aB (aG 4) aS))))) (aQ 6) (lN K c)) (eM (aL (eqE false) (a5 1 (dW K c) (aB (aG 3) aS)) (aG 4)))))))) (frz 2 en))))
noncomputable def vY (K : PySem.W.Frag) (c : Cls) (ls : List L) : Res L := dU 8 (aB9 K c) ls
theorem aIc (K : PySem.W.Frag) (c : Cls) : ∀ ls, vY K c ls = .bad \/ dU 8 (aB9 K c) ls = vY K c ls := fun _ => .inr rfl
theorem aKu (K : PySem.W.Frag) (c : Cls) (hk : fQ K c) (ns : List Int) (A B : Option L) (t : Str) {m : Mp} (g : Gm m) {qs : List Pl} (h : Rd8 m qs) (D : Option L) : ∃ q, lN K c (eLw ns A (aO m) t B (some (.p (.str (rfT qs)))) D) = some (.nx (eLw ns A (aO m) t B (some (.p (.str (rfT qs)))) q)) := by
 have hf : ∀ p ∈ aO m, FR.Fr p.2.2 := fun p hp => (u0 g hp).h.f
 have rd := aE2 K c hk h.n (by have := h.l; omega) h.g (fun q hq => aLz (h.g q hq).h) (aFs g h)
 have rl : (aO m).length <= 16 := by rw [eO]; exact g.l
 have ne : 0 < ((aO m).map plD ++ [PyData.tuple [.int 8, .int 8, .tuple [.int 1, .int 3]]]).length := by rw [List.length_append]; show 0 < _ + 1; omega
 refine ⟨some (.o (.list (((aO m).map plD ++ [PyData.tuple [.int 8, .int 8, .tuple [.int 1, .int 3]]]).set 0 (.tuple [.int 0, .int 0, .tuple [.int 0, .int 1]])))), ?_⟩
 unfold lN
 refine (aM (i4 (fE rfl rfl rd))).trans ?_
 refine (aM (iX (iL (cG (aHy (aV rfl (aV rfl rfl)) rfl rfl rfl (aGo K c hk hf) rfl))))).trans ?_
 refine (aM (aIe (i := 7) (ds := (aO m).map plD) rfl (aIh rfl rfl (wZ rfl rfl)) (by rw [List.length_map]; omega))).trans ?_
 exact aE6 (i := 7) (k := 0) rfl rfl (aIh rfl rfl (wZ rfl rfl)) ne
theorem aGs (K : PySem.W.Frag) (c : Cls) (hk : fQ K c) (ns : List Int) (hn : ns.length <= 63) : vY K c [.p (.list (ns.map .int))] = .ok (.p (.bool true)) := by
 obtain ⟨kind, _, e1⟩ := sZ K c ns 0 (by decide)
 obtain ⟨m, g, h0, e2⟩ := aIp K c ns hn kind
 obtain ⟨qs, hq, e5⟩ := aI2 K c ns g h0
 have rl : (aO m).length <= 16 := by rw [eO]; exact g.l
 have gp : ∀ p ∈ aO m, GPh p := fun p hp => (u0 g hp).g
 have rn : aO m ≠ [] := fun z => by
  have := eO m
  rw [z] at this
  exact h0 (List.length_eq_zero_iff.mp this.symm)
 have hr : Rd8 m (aO m) := ⟨rn, by omega, gp, fun p hp => hp, fun p hp => ⟨p, hp, rfl, hZ _⟩⟩
 have wr := aHz K c (ps := aO m) (by omega) gp
 have ql := hq.l
 generalize hX : aO m = rf at *
 have p8 := aH5 rf
 have c3 : s9 kQ (mC (.str "; ")) (fD 1 [] (jT (aG 2)) (aQ 0) iC (o6 K c)) (eLw ns (some (.p (.int kind))) rf (rfT rf) none none none) = .ok (.p (.str (rfT rf))) := nF rfl (aDd (fe := o6 K c) (i := 2) rfl (by omega) fun p hp => fE rfl rfl (zR K c (gp p hp))) (yT gp (by omega) rfl)
 have c5 : s9 kQ (mC (.str "; ")) (fD 1 [] (jT (a5 2 (bF K c) (aB (aG 2) (aB (aG 0) aS)))) (aQ 0) iC (oF K c)) (eLw ns (some (.p (.int kind))) rf (rfT rf) none none none) = .ok (.p (.str (rfT qs))) := by
  refine nF (y := .f (.list ((qs.map plT).map PyData.str))) rfl ?_ (yT hq.g (by omega) rfl)
  refine (j0 (ds := qs.map plD) (itL (l7 rfl rfl e5)) (by rw [List.length_map]; omega) (eW (out := fun p => PyData.str (plT p)) qs fun p hp => ?_)).trans (by rw [List.map_map]; rfl)
  have e : oF K c [some (.p (plD p))] = .ok (.p (.str (plT p))) := fE rfl rfl (zR K c (hq.g p hp))
  unfold bZ
  ktr_call 3 ⟨aQ, iC, wW, List.replicate, List.cons_append, List.nil_append, List.append_nil, e, Ev.c⟩
 subst hX
 obtain ⟨q1, b1⟩ := aKu K c hk ns (some (.p (.int kind))) (some (.p (.str (rfT qs)))) (rfT (aO m)) g hr none
 obtain ⟨q2, b2⟩ := aKu K c hk ns (some (.p (.int kind))) (some (.p (.str (rfT qs)))) (rfT (aO m)) g hq q1
 obtain ⟨q3, b3⟩ := aKu K c hk ns (some (.p (.int kind))) (some (.p (.str (rfT qs)))) (rfT (aO m)) g hr q2
 have lp : iJ (aQ 6) (lN K c) [.str (rfT (aO m)), .str (rfT qs), .str (rfT (aO m))] (eLw ns (some (.p (.int kind))) (aO m) (rfT (aO m)) (some (.p (.str (rfT qs)))) none none) = some (.nx (eLw ns (some (.p (.int kind))) (aO m) (rfT (aO m)) (some (.p (.str (rfT qs)))) (some (.p (.str (rfT (aO m))))) q3)) := by
  rw [sJ rfl b1, sJ rfl b2, sJ rfl b3]
  rfl
 have wc : ∀ (B C D : Option L) (t : Option L), a5 1 (dW K c) (aB (aG 3) aS) [some (.p (.list (ns.map .int))), some (.p (.int kind)), some (.p (.list ((aO m).map plD))), some (.o (.list ((aO m).map plD))), t, B, C, D] = .ok (.p (.str (rfT (aO m)))) := fun B C D t => aHy (aV rfl rfl) rfl rfl rfl wr rfl
 unfold vY
 refine bY ?_
 rw [show bJ 8 [.p (.list (ns.map .int))] = [some (.p (.list (ns.map .int))), none, none, none, none, none, none, none] from rfl]
 unfold aB9
 refine (aM (fH (l7 rfl rfl e1))).trans ((aM (i4 (l7 rfl rfl e2))).trans ?_)
 refine y6 (i := 2) (e1 := [some (.p (.list (ns.map .int))), some (.p (.int kind)), some (.p (.list ((aO m).map plD))), none, none, none, none, none]) rfl ?_
 refine (aM (i4 (d := .list ((aO m).map plD)) (bQ (aV rfl rfl) rfl))).trans ((aM (fH (wc _ _ _ _))).trans ?_)
 refine (aM (iX (wO (iL (cG (aDw rfl (aEy hk _)))) (wO (cG ((aH rfl c3 (eq_str true p8 p8)).trans (by rw [decide_eq_true rfl]; rfl))) (cG (aH rfl rfl (uX rfl rfl (aDa _) true))))))).trans ?_
 refine (aM (fH c5)).trans ?_
 refine (aM ((wV (show aLx (aF eC (aB (aG 4) (aB (aG 5) (aB (aG 4) aS)))) (eLw ns (some (.p (.int kind))) (aO m) (rfT (aO m)) (some (.p (.str (rfT qs)))) none none) = .ok [.str (rfT (aO m)), .str (rfT qs), .str (rfT (aO m))] from rfl)).trans lp)).trans (eD ?_)
 exact (aH (wc _ _ _ _) rfl (eq_str false p8 p8)).trans (by rw [decide_eq_true rfl]; rfl)
section
variable {P : Program} {w : World} {K : PySem.W.Frag} {mg : Str -> Option Value} {base : Heap}
theorem rU : aX ["plane"] ["plane"] (aK iR) := ⟨rfl, rfl, rfl, by decide +kernel, rfl, by decide +kernel, by decide +kernel⟩
theorem sM {c : Cls} (Df : Def K mg "slope_of" ["plane"] iR) (B : Blt mg) (C : i9 mg c) (O : jB mg base c) (hk : fQ K c) : Cal P w K mg base 1 "slope_of" 1 (d4 K c) := by
 refine jU (k := 0) Df rU rfl (fun f cdv A outer s H E hr => ⟨kN K c, ?_, tD K c⟩)
 exact (aJ (aZ (eA (aA (bS (dv 0) aC (fun _ _ => rfl)) (aA (bS (dv 0) aC (fun _ _ => rfl)) aD)))))
theorem sc__law_divisor : aX ["_law_a", "_law_b", "_law_rest"] ["_law_a", "_law_b"] (aK eZ) := ⟨rfl, rfl, rfl, by decide +kernel, rfl, by decide +kernel, by decide +kernel⟩
theorem mY {c : Cls} (Df : Def K mg "_law_divisor" ["_law_a", "_law_b"] eZ) (B : Blt mg) (C : i9 mg c) (O : jB mg base c) (hk : fQ K c) : Cal P w K mg base 1 "_law_divisor" 2 (bN K c) := by
 refine jU (k := 0) Df sc__law_divisor rfl (fun f cdv A outer s H E hr => ⟨i7 K c, ?_, mP K c⟩)
 exact (aE (bB (i := 0) sc__law_divisor.nd rfl (Or.inl rfl) (aW lO uF oB rfl B.abs_ uB (aA (dv 0) aD))) (aE (bB (i := 1) sc__law_divisor.nd rfl (Or.inl rfl) (aW lO uF oB rfl B.abs_ uB (aA (dv 1) aD))) (aE (vQ PassesOwn.leaving (cZ aAs jC cB (dv 1) aC (bL _)) (aE (bB (i := 2) sc__law_divisor.nd rfl (Or.inl rfl) (aU bW dD aI (dv 0) (dv 1))) (aE (bB (i := 0) sc__law_divisor.nd rfl (Or.inl rfl) (dv 1)) (aJ (bB (i := 1) sc__law_divisor.nd rfl (Or.inl rfl) (dv 2)))))) (aJ (aZ (dv 0))))))
theorem sc__law_fraction : aX ["_law_top", "_law_bottom", "_law_by"] ["_law_top", "_law_bottom"] (aK eK) := ⟨rfl, rfl, rfl, by decide +kernel, rfl, by decide +kernel, by decide +kernel⟩
theorem lF {c : Cls} (Df : Def K mg "_law_fraction" ["_law_top", "_law_bottom"] eK) (B : Blt mg) (C : i9 mg c) (O : jB mg base c) (hk : fQ K c) (c__law_divisor : Cal P w K mg base 1 "_law_divisor" 2 (bN K c)) : Cal P w K mg base 2 "_law_fraction" 2 (bH K c) := by
 refine jU (k := 1) Df sc__law_fraction rfl (fun f cdv A outer s H E hr => ⟨eF K c, ?_, lG K c⟩)
 exact (aE (bB (i := 2) sc__law_fraction.nd rfl (Or.inl rfl) (aN c__law_divisor hr cY (aA (dv 0) (aA (dv 1) aD)))) (aJ (aZ (eA (aA (aU fS iM aI (dv 0) (dv 2)) (aA (aU fS iM aI (dv 1) (dv 2)) aD))))))
theorem sc_law : aX ["_law_script", "_law_kind", "_law_roof", "_law_handed", "_law_text", "_law_other", "_law_words", "_law_found"] ["_law_script"] (aK qM) := ⟨rfl, rfl, rfl, by decide +kernel, rfl, by decide +kernel, by decide +kernel⟩
theorem aJ3 {c : Cls} {f : Addr} {fd : FuncData} (F : Fun K "law" "law" qM f fd) (B : Blt mg) (C : i9 mg c) (O : jB mg base c) (hk : fQ K c) (c_written : Cal P w K mg base 3 "written" 1 (dW K c)) (c__law_is_roof : Cal P w K mg base 3 "_law_is_roof" 2 (bX K c)) (c_read : Cal P w K mg base 6 "read" 1 (kZ K c)) (c__law_mixed_up : Cal P w K mg base 2 "_law_mixed_up" 2 (bF K c)) (c__law_part : Cal P w K mg base 2 "_law_part" 1 (cS K c)) (c__law_roof_by : Cal P w K mg base 4 "_law_roof_by" 2 (bO K c)) (c__law_cell_at : Cal P w K mg base 1 "_law_cell_at" 2 (aR K c)) : FnOk P w K mg base (CXr P w) 7 f fd ["_law_script"] (spM K 1 (vY K c)) := by
 refine fnM (k := 6) F sc_law rfl (fun cdv A outer s H E hr => ⟨aB9 K c, ?_, aIc K c⟩)
 exact (aE (bB (i := 1) sc_law.nd rfl (Or.inl rfl) (aN c__law_cell_at hr cY (aA (dv 0) (aA aC aD)))) (aE (bB (i := 2) sc_law.nd rfl (Or.inl rfl) (aN c__law_roof_by hr cY (aA (dv 0) (aA (dv 1) aD)))) (pK 2 (aE (bB (i := 3) sc_law.nd rfl (Or.inl rfl) (bV qP aFa aCu rfl B.list_ aAr (aA (dv 2) aD))) (aE (bB (i := 4) sc_law.nd rfl (Or.inl rfl) (aN c_written hr cY (aA (dv 3) aD))) (aE (eN (DW.t (kF (fB (dY (lB (cv := .type "str") rfl B.isinstance_ (.inl ⟨_, rfl⟩) rfl (dv 4) (iI (v := .ty "str") rfl B.str_ iB rfl)))) (kF (cZ (kY (u64 hr)) fF cV (dv 4) (jA PySem.F.slot_str_join PySem.F.type_str_join oV oW lQ dS (gC (xs := ["_law_plane"]) (ys := []) (js := []) (cl := []) rfl (fM (dv 2)) (nO (ys := []) (js := []) rfl (fun _ h => nomatch h) cI (by decide +kernel) (by decide +kernel)) cI (by decide +kernel) rfl (by decide +kernel) rfl (by decide) (fun C s₀ H₀ ex pn => (cM (i := 0) (show (["_law_plane"] : List Str).Nodup by decide +kernel) rfl (Or.inl rfl))) (fun C s₀ H₀ ex pn => gH) (fun C s₀ H₀ ex pn => (aN c__law_part hr qQ (aA (dv 0) aD))))) (bL _)) (jV (cZ (kY (u64 hr)) fF cV (dv 3) (dv 2) (bL _)))))) (aJ (aZ nK)) bK) (aE (bB (i := 5) sc_law.nd rfl (Or.inl rfl) (jA PySem.F.slot_str_join PySem.F.type_str_join oV oW lQ dS (gC (xs := ["_law_plane"]) (ys := []) (js := []) (cl := []) rfl (fM (aN c__law_mixed_up hr cY (aA (dv 2) (aA (dv 0) aD)))) (nO (ys := []) (js := []) rfl (fun _ h => nomatch h) cI (by decide +kernel) (by decide +kernel)) cI (by decide +kernel) rfl (by decide +kernel) rfl (by decide) (fun C s₀ H₀ ex pn => (cM (i := 0) (show (["_law_plane"] : List Str).Nodup by decide +kernel) rfl (Or.inl rfl))) (fun C s₀ H₀ ex pn => gH) (fun C s₀ H₀ ex pn => (aN c__law_part hr qQ (aA (dv 0) aD)))))) (aE (nR PassesOwn.leaving rfl (aGx (eA (aA (dv 4) (aA (dv 5) (aA (dv 4) aD))))) (cM (i := 6) sc_law.nd rfl (Or.inl rfl)) (aE (bB (i := 7) sc_law.nd rfl (Or.inl rfl) (aN c_read hr cY (aA (dv 6) aD))) (aE (eN (fB (dY (aN c__law_is_roof hr cY (aA (dv 7) (aA (dv 2) aD))))) (aJ (aZ nK)) bK) (aE (zX (i := 7) (eA (aA aC (aA aC (aA (eA (aA aC (aA aC aD))) aD)))) (fun t q => aFg (aJi PySem.F.plainAttrs_list PySem.F.slot_list_append PySem.F.type_list_append yW (pv 7) (mK q uS)))) (aJ (aEn (i := 7) aC (eA (aA aC (aA aC (aA (eA (aA aC (aA aC aD))) aD)))) (fun _ _ p q => aJh q (aHd (pv 7) p set_list)))))))) (aJ (aZ (fN (fC (u64 hr)) fF cV (aN c_written hr cY (aA (dv 3) aD)) (dv 4) (bL _))))))))))))
end
section
variable {P : Program} {w : World} {K : PySem.W.Frag} {mg : Str -> Option Value} {base : Heap}
theorem sc_roof_of : aX ["planes", "highest"] ["planes"] (aK j9) := ⟨rfl, rfl, rfl, by decide +kernel, rfl, by decide +kernel, by decide +kernel⟩
theorem wL {c : Cls} (Df : Def K mg "roof_of" ["planes"] j9) (B : Blt mg) (C : i9 mg c) (O : jB mg base c) (hk : fQ K c) (c_highest_by_slope : Cal P w K mg base 2 "highest_by_slope" 1 (a9 K c)) (c_slope_of : Cal P w K mg base 1 "slope_of" 1 (d4 K c)) (c_is_too_steep : Cal P w K mg base 1 "is_too_steep" 1 (cC K c)) {t_MOST_PLANES : Tok} (c_MOST_PLANES : mg "MOST_PLANES" = some (.int 16 t_MOST_PLANES)) : Cal P w K mg base 3 "roof_of" 1 (fO K c) := by
 refine jU (k := 2) Df sc_roof_of rfl (fun f cdv A outer s H E hr => ⟨gO K c, ?_, wG K c⟩)
 exact (aE (eN (cZ (fC (u64 hr)) fF cV (aW bD gL eQ rfl B.len_ PySem.boot_len (aA (dv 0) aD)) aC (bL _)) (aJ (oA sO rfl rfl O.NoRoof PySem.F.excBase_ValueError (aA dS aD))) bK) (aE (eN (dY (aW (aBt rfl rfl) aG1 aFf rfl B.any_ aH1 (aA (gC (xs := ["plane"]) (ys := []) (js := []) (cl := []) rfl (fM (dv 0)) (nO (ys := []) (js := []) rfl (fun _ h => nomatch h) cI (by decide +kernel) (by decide +kernel)) cI (by decide +kernel) rfl (by decide +kernel) rfl (by decide) (fun C s₀ H₀ ex pn => (cM (i := 0) (show (["plane"] : List Str).Nodup by decide +kernel) rfl (Or.inl rfl))) (fun C s₀ H₀ ex pn => gH) (fun C s₀ H₀ ex pn => (aN c_is_too_steep hr qQ (aA (aN c_slope_of hr qQ (aA (dv 0) aD)) aD)))) aD))) (aJ (oA sO rfl rfl O.TooSteep PySem.F.excBase_ValueError (aA dS aD))) bK) (aE (bB (i := 1) sc_roof_of.nd rfl (Or.inr rfl) (aN c_highest_by_slope hr cY (aA (gC (xs := ["plane"]) (ys := []) (js := []) (cl := []) rfl (fM (dv 0)) (nO (ys := []) (js := []) rfl (fun _ h => nomatch h) cI (by decide +kernel) (by decide +kernel)) cI (by decide +kernel) rfl (by decide +kernel) rfl (by decide) (fun C s₀ H₀ ex pn => (cM (i := 0) (show (["plane"] : List Str).Nodup by decide +kernel) rfl (Or.inl rfl))) (fun C s₀ H₀ ex pn => gH) (fun C s₀ H₀ ex pn => (eA (aA (aN c_slope_of hr qQ (aA (dv 0) aD)) (aA (bS (dv 0) aC (fun _ _ => rfl)) aD))))) aD))) (aE (eN (cZ aAs jC cB (aW nU xF u4 rfl B.len_ PySem.boot_len (aA (dv 1) aD)) (pA rfl c_MOST_PLANES) (bL _)) (aJ (oA sO rfl rfl O.TooMany PySem.F.excBase_ValueError (aA dS aD))) bK) (pK 1 (aJ (aZ (gC (xs := ["slope"]) (ys := ["highest"]) (js := [1]) (cl := [("highest", s.heap.objs.size + 1)]) rfl (fM (aW (SRT.nV rfl) n8 mU rfl B.sorted_ rF (aA (dv 1) aD))) (nO (ys := ["highest"]) (js := [1]) rfl (List.forall_mem_cons.mpr ⟨rfl, (fun _ h => nomatch h)⟩) (iP ⟨rfl, .inl rfl, .inl rfl, rfl, rfl⟩ cI) (by decide +kernel) (by decide +kernel)) (iP ⟨rfl, .inl rfl, .inl rfl, rfl, rfl⟩ cI) (by decide +kernel) rfl (by decide +kernel) rfl (by decide) (fun C s₀ H₀ ex pn => (cM (i := 0) (show (["slope", "highest"] : List Str).Nodup by decide +kernel) rfl (Or.inl rfl))) (fun C s₀ H₀ ex pn => gH) (fun C s₀ H₀ ex pn => (eA (aA (bS (dv 0) aC (fun _ _ => rfl)) (aA (bS (dv 0) aC (fun _ _ => rfl)) (aA (sS (u1 hr) (dv 1) (dv 0) (fun _ _ => rfl)) aD)))))))))))))
theorem yE : aX ["word"] ["word"] (aK lJ) := ⟨rfl, rfl, rfl, by decide +kernel, rfl, by decide +kernel, by decide +kernel⟩
theorem zI {c : Cls} (Df : Def K mg "is_top" ["word"] lJ) (B : Blt mg) (C : i9 mg c) (O : jB mg base c) (hk : fQ K c) (c_is_whole : Cal P w K mg base 1 "is_whole" 1 (cK K c)) : Cal P w K mg base 2 "is_top" 1 (fG K c) := by
 refine jU (k := 1) Df yE rfl (fun f cdv A outer s H E hr => ⟨lK K c, ?_, xI K c⟩)
 exact (aE (eN (dY (jA PySem.F.slot_str_startswith PySem.F.type_str_startswith yP y3 wK (dv 0) dS)) (aJ (aZ (mV (fN (kY (u64 hr)) fF cV (dv 0) dS (bL _)) (lZ (aN c_is_whole hr cY (aA (aIx (dv 0) (jS aC) jD) aD)))))) bK) (aJ (aZ (aN c_is_whole hr cY (aA (dv 0) aD)))))
theorem sc_number_of : aX ["word", "parts", "bottom"] ["word"] (aK gR) := ⟨rfl, rfl, rfl, by decide +kernel, rfl, by decide +kernel, by decide +kernel⟩
theorem pS {c : Cls} (Df : Def K mg "number_of" ["word"] gR) (B : Blt mg) (C : i9 mg c) (O : jB mg base c) (hk : fQ K c) (c_is_number : Cal P w K mg base 3 "is_number" 1 (cF K c)) : Cal P w K mg base 4 "number_of" 1 (dI K c) := by
 refine jU (k := 3) Df sc_number_of rfl (fun f cdv A outer s H E hr => ⟨g9 K c, ?_, qH K c⟩)
 exact (aE (eN (fB (dY (aN c_is_number hr cY (aA (dv 0) aD)))) (aJ aFu) bK) (aE (bB (i := 1) sc_number_of.nd rfl (Or.inl rfl) (jA PySem.F.slot_str_split PySem.F.type_str_split j4 j5 iF (dv 0) dS)) (aE (bB (i := 2) sc_number_of.nd rfl (Or.inl rfl) (aGy (cZ (fC (u64 hr)) fF cV (aW bD gL eQ rfl B.len_ PySem.boot_len (aA (dv 1) aD)) aC (bL _)) aC (bV gI kO iW rfl B.int_ mH (aA (bS (dv 1) aC (fun _ _ => rfl)) aD)))) (aJ (aZ (eA (aA (bV gI kO iW rfl B.int_ mH (aA (bS (dv 1) aC (fun _ _ => rfl)) aD)) (aA (dv 2) aD))))))))
theorem wI : aX ["roof"] ["roof"] (aK j6) := ⟨rfl, rfl, rfl, by decide +kernel, rfl, by decide +kernel, by decide +kernel⟩
theorem wB {c : Cls} (Df : Def K mg "written" ["roof"] j6) (B : Blt mg) (C : i9 mg c) (O : jB mg base c) (hk : fQ K c) (c_plane_text : Cal P w K mg base 2 "plane_text" 1 (cR K c)) : Cal P w K mg base 3 "written" 1 (dW K c) := by
 refine jU (k := 2) Df wI rfl (fun f cdv A outer s H E hr => ⟨kK K c, ?_, wQ K c⟩)
 exact (aJ (aZ (jA PySem.F.slot_str_join PySem.F.type_str_join oV oW lQ dS (gC (xs := ["plane"]) (ys := []) (js := []) (cl := []) rfl (fM (dv 0)) (nO (ys := []) (js := []) rfl (fun _ h => nomatch h) cI (by decide +kernel) (by decide +kernel)) cI (by decide +kernel) rfl (by decide +kernel) rfl (by decide) (fun C s₀ H₀ ex pn => (cM (i := 0) (show (["plane"] : List Str).Nodup by decide +kernel) rfl (Or.inl rfl))) (fun C s₀ H₀ ex pn => gH) (fun C s₀ H₀ ex pn => (aN c_plane_text hr qQ (aA (dv 0) aD)))))))
end
section
variable {P : Program} {w : World} {K : PySem.W.Frag} {mg : Str -> Option Value} {base : Heap}
theorem lR : aX ["slope"] ["slope"] (aK eY) := ⟨rfl, rfl, rfl, by decide +kernel, rfl, by decide +kernel, by decide +kernel⟩
theorem mX {c : Cls} (Df : Def K mg "is_too_steep" ["slope"] eY) (B : Blt mg) (C : i9 mg c) (O : jB mg base c) (hk : fQ K c) {t_STEEPEST : Tok} (c_STEEPEST : mg "STEEPEST" = some (.int 8 t_STEEPEST)) : Cal P w K mg base 1 "is_too_steep" 1 (cC K c) := by
 refine jU (k := 0) Df lR rfl (fun f cdv A outer s H E hr => ⟨gG K c, ?_, mR K c⟩)
 exact (aJ (aZ (aHq (fN xZ jC cB (aW (zS rfl rfl) aD7 yA rfl B.min_ aDr (aA (dv 0) aD)) aC (bL _)) (lZ (fN aAs jC cB (aW (yN rfl rfl) aD7 yA rfl B.max_ aH0 (aA (dv 0) aD)) (pA rfl c_STEEPEST) (bL _))))))
theorem sc_plane_of : aX ["part", "words"] ["part"] (aK iT) := ⟨rfl, rfl, rfl, by decide +kernel, rfl, by decide +kernel, by decide +kernel⟩
theorem sI {c : Cls} (Df : Def K mg "plane_of" ["part"] iT) (B : Blt mg) (C : i9 mg c) (O : jB mg base c) (hk : fQ K c) (c_number_of : Cal P w K mg base 4 "number_of" 1 (dI K c)) : Cal P w K mg base 5 "plane_of" 1 (dZ K c) := by
 refine jU (k := 4) Df sc_plane_of rfl (fun f cdv A outer s H E hr => ⟨iZ K c, ?_, rZ K c⟩)
 exact (aE (bB (i := 1) sc_plane_of.nd rfl (Or.inl rfl) (jA PySem.F.slot_str_split PySem.F.type_str_split j4 j5 iF (dv 0) dS)) (aJ (aZ (eA (aA (bV gI kO iW rfl B.int_ mH (aA (bS (dv 1) aC (fun _ _ => rfl)) aD)) (aA (bV gI kO iW rfl B.int_ mH (aA (bS (dv 1) aC (fun _ _ => rfl)) aD)) (aA (aN c_number_of hr cY (aA (bS (dv 1) aC (fun _ _ => rfl)) aD)) aD)))))))
theorem sc__law_cell_at : aX ["_law_script", "_law_k", "_law_cell"] ["_law_script", "_law_k"] (aK e9) := ⟨rfl, rfl, rfl, by decide +kernel, rfl, by decide +kernel, by decide +kernel⟩
theorem l8 {c : Cls} (Df : Def K mg "_law_cell_at" ["_law_script", "_law_k"] e9) (B : Blt mg) (C : i9 mg c) (O : jB mg base c) (hk : fQ K c) : Cal P w K mg base 1 "_law_cell_at" 2 (aR K c) := by
 refine jU (k := 0) Df sc__law_cell_at rfl (fun f cdv A outer s H E hr => ⟨cX K c, ?_, l5 K c⟩)
 exact (aE (bB (i := 2) sc__law_cell_at.nd rfl (Or.inl rfl) aC) (aE (eN (cZ xZ jC cB (dv 1) (aW bD gL eQ rfl B.len_ PySem.boot_len (aA (dv 0) aD)) (bL _)) (aJ (bB (i := 2) sc__law_cell_at.nd rfl (Or.inl rfl) (aU bW dD aI (bS (dv 0) (dv 1) (fun _ _ => rfl)) (aU k7 k9 aI aC aC)))) bK) (aJ (aZ (aU bU cW bR (aU eT gM aI (dv 2) aC) (aU bW dD aI (aU eT gM aI (aU bW dD aI (aU eT gM aI (aU bU cW bR (aU bU cW bR (aU bU cW bR (dv 2) (aU eT gM aI (aU eT gM aI aC (dv 1)) (dv 1))) (aU eT gM aI aC (dv 1))) aC) aC) aC) aC) aC))))))
theorem sc__law_mixed_up : aX ["_law_roof", "_law_script", "_law_planes", "_law_k", "_law_plane", "_law_c", "_law_at", "_law_low"] ["_law_roof", "_law_script"] (aK eL) := ⟨rfl, rfl, rfl, by decide +kernel, rfl, by decide +kernel, by decide +kernel⟩
theorem lH {c : Cls} (Df : Def K mg "_law_mixed_up" ["_law_roof", "_law_script"] eL) (B : Blt mg) (C : i9 mg c) (O : jB mg base c) (hk : fQ K c) (c__law_cell_at : Cal P w K mg base 1 "_law_cell_at" 2 (aR K c)) : Cal P w K mg base 2 "_law_mixed_up" 2 (bF K c) := by
 refine jU (k := 1) Df sc__law_mixed_up rfl (fun f cdv A outer s H E hr => ⟨eG K c, ?_, lE K c⟩)
 exact (aE (bB (i := 2) sc__law_mixed_up.nd rfl (Or.inl rfl) (rO aD)) (aE (nR PassesOwn.leaving rfl (yH rfl B.enumerate_ (aA (dv 0) aD)) (vJ (n := 2) rfl (fZ (cM (i := 3) sc__law_mixed_up.nd rfl (Or.inl rfl)) (fZ (cM (i := 4) sc__law_mixed_up.nd rfl (Or.inl rfl)) o5))) (aE (bB (i := 5) sc__law_mixed_up.nd rfl (Or.inl rfl) (aU bW dD aI (aU eT gM aI (aU bW dD aI (aN c__law_cell_at hr cY (aA (dv 1) (aA (aU bU cW bR aC (dv 3)) aD))) (aU k7 k9 aI aC aC)) aC) aC)) (aE (bB (i := 6) sc__law_mixed_up.nd rfl (Or.inl rfl) (aU bW dD aI (dv 5) (aU bU cW bR (aW bD gL eQ rfl B.len_ PySem.boot_len (aA (dv 2) aD)) aC))) (aE (bB (i := 2) sc__law_mixed_up.nd rfl (Or.inl rfl) (aU bU cW bR (aU bU cW bR (vU (dv 2) jD (jS (dv 6))) (rO (aA (dv 4) aD))) (vU (dv 2) (jS (dv 6)) jD))) (aE (bB (i := 6) sc__law_mixed_up.nd rfl (Or.inl rfl) (aU bW dD aI (aU fS iM aI (dv 5) aC) (aU bU cW bR (aW bD gL eQ rfl B.len_ PySem.boot_len (aA (dv 2) aD)) aC))) (aE (bB (i := 7) sc__law_mixed_up.nd rfl (Or.inl rfl) (eA (aA (bS (dv 4) aC (fun _ _ => rfl)) (aA (bS (dv 4) aC (fun _ _ => rfl)) (aA (eA (aA (aU vS uH cB (bS (bS (dv 4) aC (fun _ _ => rfl)) aC (fun _ _ => rfl)) (aU eT gM aI (bS (bS (dv 4) aC (fun _ _ => rfl)) aC (fun _ _ => rfl)) (aU bU cW bR aC (aU bW dD aI (dv 5) aC)))) (aA (bS (bS (dv 4) aC (fun _ _ => rfl)) aC (fun _ _ => rfl)) aD))) aD))))) (aE (eN (cZ (fC (u64 hr)) fF cV (aU bW dD aI (aU fS iM aI (dv 5) aC) aC) aC (bL _)) (aJ (bB (i := 2) sc__law_mixed_up.nd rfl (Or.inl rfl) (aU bU cW bR (aU bU cW bR (vU (dv 2) jD (jS (dv 6))) (rO (aA (dv 7) aD))) (vU (dv 2) (jS (dv 6)) jD)))) bK) (aJ (eN (cZ (fC (u64 hr)) fF cV (aU bW dD aI (aU fS iM aI (dv 5) aC) aC) aC (bL _)) (aJ (bB (i := 2) sc__law_mixed_up.nd rfl (Or.inl rfl) (aU bU cW bR (aU bU cW bR (vU (dv 2) jD (jS (dv 6))) (rO (aA (dv 4) aD))) (vU (dv 2) (jS (dv 6)) jD)))) bK))))))))) (aJ (aZ (dv 2)))))
end
section
variable {P : Program} {w : World} {K : PySem.W.Frag} {mg : Str -> Option Value} {base : Heap}
theorem jY : aX ["word"] ["word"] (aK dN) := ⟨rfl, rfl, rfl, by decide +kernel, rfl, by decide +kernel, by decide +kernel⟩
theorem kH {c : Cls} (Df : Def K mg "is_slope_figure" ["word"] dN) (B : Blt mg) (C : i9 mg c) (O : jB mg base c) (hk : fQ K c) {t_SLOPE_FIGURES : Tok} (c_SLOPE_FIGURES : mg "SLOPE_FIGURES" = some (.str "012345678" t_SLOPE_FIGURES)) : Cal P w K mg base 1 "is_slope_figure" 1 (a6 K c) := by
 refine jU (k := 0) Df jY rfl (fun f cdv A outer s H E hr => ⟨dR K c, ?_, j7 K c⟩)
 exact (aJ (aZ (mV (fN (fC (u64 hr)) fF cV (aW iH sN oU rfl B.len_ PySem.boot_len (aA (dv 0) aD)) aC (bL _)) (lZ (fN qY aC7 aAl (dv 0) (uL rfl c_SLOPE_FIGURES) (by with_unfolding_all rfl))))))
theorem oQ : aX ["_law_script", "_law_first", "_law_last"] ["_law_script", "_law_first", "_law_last"] (aK fW) := ⟨rfl, rfl, rfl, by decide +kernel, rfl, by decide +kernel, by decide +kernel⟩
theorem pP {c : Cls} (Df : Def K mg "_law_cells" ["_law_script", "_law_first", "_law_last"] fW) (B : Blt mg) (C : i9 mg c) (O : jB mg base c) (hk : fQ K c) (c__law_cell_at : Cal P w K mg base 1 "_law_cell_at" 2 (aR K c)) : Cal P w K mg base 2 "_law_cells" 3 (b8 K c) := by
 refine jU (k := 1) Df oQ rfl (fun f cdv A outer s H E hr => ⟨fT K c, ?_, pJ K c⟩)
 exact (aJ (aZ (gC (xs := ["_law_k"]) (ys := ["_law_script"]) (js := [0]) (cl := [("_law_script", s.heap.objs.size + 1)]) rfl (zC rfl B.range_ (aA (dv 1) (aA (aW (aAx rfl) aIu aGc rfl B.min_ aDr (aA (dv 2) (aA (aW bD gL eQ rfl B.len_ PySem.boot_len (aA (dv 0) aD)) aD))) aD))) (nO (ys := ["_law_script"]) (js := [0]) rfl (List.forall_mem_cons.mpr ⟨rfl, (fun _ h => nomatch h)⟩) (iP ⟨rfl, .inl rfl, .inl rfl, rfl, rfl⟩ cI) (by decide +kernel) (by decide +kernel)) (iP ⟨rfl, .inl rfl, .inl rfl, rfl, rfl⟩ cI) (by decide +kernel) rfl (by decide +kernel) rfl (by decide) (fun C s₀ H₀ ex pn => (cM (i := 0) (show (["_law_k", "_law_script"] : List Str).Nodup by decide +kernel) rfl (Or.inl rfl))) (fun C s₀ H₀ ex pn => gH) (fun C s₀ H₀ ex pn => (aN c__law_cell_at hr qQ (aA (dv 1) (aA (dv 0) aD)))))))
theorem jQ : aX ["_law_a"] ["_law_a"] (aK dA) := ⟨rfl, rfl, rfl, by decide +kernel, rfl, by decide +kernel, by decide +kernel⟩
theorem jP {c : Cls} (Df : Def K mg "_law_number_text" ["_law_a"] dA) (B : Blt mg) (C : i9 mg c) (O : jB mg base c) (hk : fQ K c) : Cal P w K mg base 1 "_law_number_text" 1 (a7 K c) := by
 refine jU (k := 0) Df jQ rfl (fun f cdv A outer s H E hr => ⟨c0 K c, ?_, jR K c⟩)
 exact (aE (eN (cZ (fC (u64 hr)) fF cV (bS (dv 0) aC (fun _ _ => rfl)) aC (bL _)) (aJ (aZ (bV cA kC gQ rfl B.str_ iB (aA (bS (dv 0) aC (fun _ _ => rfl)) aD)))) bK) (aJ (aZ (aU bU cW bR (aU bU cW bR (bV cA kC gQ rfl B.str_ iB (aA (bS (dv 0) aC (fun _ _ => rfl)) aD)) dS) (bV cA kC gQ rfl B.str_ iB (aA (bS (dv 0) aC (fun _ _ => rfl)) aD))))))
theorem sc__law_roof_by : aX ["_law_script", "_law_kind", "_law_found", "_law_cell", "_law_c", "_law_slope"] ["_law_script", "_law_kind"] (aK e8) := ⟨rfl, rfl, rfl, by decide +kernel, rfl, by decide +kernel, by decide +kernel⟩
theorem mD {c : Cls} (Df : Def K mg "_law_roof_by" ["_law_script", "_law_kind"] e8) (B : Blt mg) (C : i9 mg c) (O : jB mg base c) (hk : fQ K c) (c__law_cells : Cal P w K mg base 2 "_law_cells" 3 (b8 K c)) (c__law_number_by : Cal P w K mg base 3 "_law_number_by" 2 (aY K c)) : Cal P w K mg base 4 "_law_roof_by" 2 (bO K c) := by
 refine jU (k := 3) Df sc__law_roof_by rfl (fun f cdv A outer s H E hr => ⟨fA K c, ?_, nC K c⟩)
 exact (aE (bB (i := 2) sc__law_roof_by.nd rfl (Or.inr rfl) oX) (aE (nR PassesOwn.leaving rfl (fM (aN c__law_cells hr cY (aA (dv 0) (aA aC (aA aC aD))))) (cM (i := 3) sc__law_roof_by.nd rfl (Or.inl rfl)) (aE (bB (i := 4) sc__law_roof_by.nd rfl (Or.inl rfl) (aU bW dD aI (dv 3) (aU k7 k9 aI aC aC))) (aE (bB (i := 5) sc__law_roof_by.nd rfl (Or.inl rfl) (eA (aA (aU bW dD aI (dv 4) aC) (aA (aU bW dD aI (aU fS iM aI (dv 4) aC) aC) aD)))) (aJ (eN (DW.t (aI6 (cZ xZ jC cB (aW nU xF u4 rfl B.len_ PySem.boot_len (aA (dv 2) aD)) aC (bL _)) (aFq (pZ (u1 hr) (dv 5) (dv 2))))) (aJ (rX (i := 2) (u1 hr) (pv 2) (dv 5) (aN c__law_number_by hr cY (aA (aU fS iM aI (dv 4) aC) (aA (dv 1) aD))) rfl)) bK))))) (aE (eN (cZ (aG8 (Nat.lt_of_succ_lt (u1 hr))) aHu aE9 (dv 2) oX (bL _)) (aJ (rX (i := 2) (u1 hr) (pv 2) (eA (aA (aU bW dD aI (dv 1) aC) (aA aC aD))) (eA (aA aC (aA aC aD))) rfl)) bK) (pK 2 (aJ (aZ (gC (xs := ["_law_i", "_law_j"]) (ys := ["_law_found"]) (js := [2]) (cl := [("_law_found", s.heap.objs.size + 1)]) rfl (fM (aW (SRT.nV rfl) n8 mU rfl B.sorted_ rF (aA (dv 2) aD))) (nO (ys := ["_law_found"]) (js := [2]) rfl (List.forall_mem_cons.mpr ⟨rfl, (fun _ h => nomatch h)⟩) (iP ⟨rfl, .inl rfl, .inl rfl, rfl, rfl⟩ cI) (by decide +kernel) (by decide +kernel)) (iP ⟨rfl, .inl rfl, .inl rfl, rfl, rfl⟩ cI) (by decide +kernel) rfl (by decide +kernel) rfl (by decide) (fun C s₀ H₀ ex pn => (vJ (n := 2) rfl (fZ (cM (i := 0) (show (["_law_i", "_law_j", "_law_found"] : List Str).Nodup by decide +kernel) rfl (Or.inl rfl)) (fZ (cM (i := 1) (show (["_law_i", "_law_j", "_law_found"] : List Str).Nodup by decide +kernel) rfl (Or.inl rfl)) o5)))) (fun C s₀ H₀ ex pn => gH) (fun C s₀ H₀ ex pn => (eA (aA (dv 0) (aA (dv 1) (aA (sS (u1 hr) (dv 2) (eA (aA (dv 0) (aA (dv 1) aD))) (fun _ _ => rfl)) aD))))))))))))
end
section
variable {P : Program} {w : World} {K : PySem.W.Frag} {mg : Str -> Option Value} {base : Heap}
theorem sc_greatest_divisor : aX ["a", "b", "larger", "smaller", "rest"] ["a", "b"] (aK dB) := ⟨rfl, rfl, rfl, by decide +kernel, rfl, by decide +kernel, by decide +kernel⟩
theorem jJ {c : Cls} (Df : Def K mg "greatest_divisor" ["a", "b"] dB) (B : Blt mg) (C : i9 mg c) (O : jB mg base c) (hk : fQ K c) : Cal P w K mg base 1 "greatest_divisor" 2 (bG K c) := by
 refine jU (k := 0) Df sc_greatest_divisor rfl (fun f cdv A outer s H E hr => ⟨fR K c, ?_, jF K c⟩)
 exact (aE (bB (i := 2) sc_greatest_divisor.nd rfl (Or.inl rfl) (aW lO uF oB rfl B.abs_ uB (aA (dv 0) aD))) (aE (bB (i := 3) sc_greatest_divisor.nd rfl (Or.inl rfl) (aW lO uF oB rfl B.abs_ uB (aA (dv 1) aD))) (aE (vQ PassesOwn.leaving (cZ (kY (u64 hr)) fF cV (dv 3) aC (bL _)) (aE (bB (i := 4) sc_greatest_divisor.nd rfl (Or.inl rfl) (aU bW dD aI (dv 2) (dv 3))) (aE (bB (i := 2) sc_greatest_divisor.nd rfl (Or.inl rfl) (dv 3)) (aJ (bB (i := 3) sc_greatest_divisor.nd rfl (Or.inl rfl) (dv 4)))))) (aJ (aZ (dv 2))))))
theorem oT : aX ["_law_found"] ["_law_found"] (aK fX) := ⟨rfl, rfl, rfl, by decide +kernel, rfl, by decide +kernel, by decide +kernel⟩
theorem pB {c : Cls} (Df : Def K mg "_law_whole" ["_law_found"] fX) (B : Blt mg) (C : i9 mg c) (O : jB mg base c) (hk : fQ K c) : Cal P w K mg base 1 "_law_whole" 1 (bI K c) := by
 refine jU (k := 0) Df oT rfl (fun f cdv A outer s H E hr => ⟨gB K c, ?_, oS K c⟩)
 exact (aJ (aZ (mV (lB (cv := .type "int") rfl B.isinstance_ (.inl ⟨_, rfl⟩) rfl (dv 0) (iI (v := .ty "int") rfl B.int_ mH rfl)) (lZ (aI8 (lB (cv := .type "bool") rfl B.isinstance_ (.inl ⟨_, rfl⟩) rfl (dv 0) (iI (v := .ty "bool") rfl B.bool_ aEw rfl)))))))
theorem jM : aX ["_law_found"] ["_law_found"] (aK dC) := ⟨rfl, rfl, rfl, by decide +kernel, rfl, by decide +kernel, by decide +kernel⟩
theorem jE {c : Cls} (Df : Def K mg "_law_is_fraction" ["_law_found"] dC) (B : Blt mg) (C : i9 mg c) (O : jB mg base c) (hk : fQ K c) (c__law_divisor : Cal P w K mg base 1 "_law_divisor" 2 (bN K c)) (c__law_whole : Cal P w K mg base 1 "_law_whole" 1 (bI K c)) : Cal P w K mg base 2 "_law_is_fraction" 1 (a8 K c) := by
 refine jU (k := 1) Df jM rfl (fun f cdv A outer s H E hr => ⟨dF K c, ?_, jI K c⟩)
 exact (aE (eN (DW.t (kF (fB (dY (lB (cv := .type "tuple") rfl B.isinstance_ (.inl ⟨_, rfl⟩) rfl (dv 0) (iI (v := .ty "tuple") rfl B.tuple_ uG rfl)))) (jV (cZ (kY (u64 hr)) fF cV (aW bD gL eQ rfl B.len_ PySem.boot_len (aA (dv 0) aD)) aC (bL _))))) (aJ (aZ nK)) bK) (aE (eN (DW.t (kF (fB (dY (aN c__law_whole hr cY (aA (bS (dv 0) aC (fun _ _ => rfl)) aD)))) (kF (fB (dY (aN c__law_whole hr cY (aA (bS (dv 0) aC (fun _ _ => rfl)) aD)))) (jV (cZ xZ jC cB (bS (dv 0) aC (fun _ _ => rfl)) aC (bL _)))))) (aJ (aZ nK)) bK) (aJ (aZ (fN (fC (u64 hr)) fF cV (aN c__law_divisor hr cY (aA (bS (dv 0) aC (fun _ _ => rfl)) (aA (bS (dv 0) aC (fun _ _ => rfl)) aD))) aC (bL _))))))
theorem sc__law_number_by : aX ["_law_cell", "_law_kind", "_law_c", "_law_bottom"] ["_law_cell", "_law_kind"] (aK dX) := ⟨rfl, rfl, rfl, by decide +kernel, rfl, by decide +kernel, by decide +kernel⟩
theorem kU {c : Cls} (Df : Def K mg "_law_number_by" ["_law_cell", "_law_kind"] dX) (B : Blt mg) (C : i9 mg c) (O : jB mg base c) (hk : fQ K c) (c__law_fraction : Cal P w K mg base 2 "_law_fraction" 2 (bH K c)) : Cal P w K mg base 3 "_law_number_by" 2 (aY K c) := by
 refine jU (k := 2) Df sc__law_number_by rfl (fun f cdv A outer s H E hr => ⟨bT K c, ?_, kX K c⟩)
 exact (aE (bB (i := 2) sc__law_number_by.nd rfl (Or.inl rfl) (aU bW dD aI (dv 0) (aU k7 k9 aI aC aC))) (aE (eN (cZ (fC (u64 hr)) fF cV (aU bW dD aI (dv 1) aC) aC (bL _)) (aJ (aZ (eA (aA (aU vS uH cB (aU bW dD aI (dv 2) aC) aC) (aA aC aD))))) bK) (aE (eN (cZ (fC (u64 hr)) fF cV (aU bW dD aI (dv 1) aC) aC (bL _)) (aJ (aZ (aN c__law_fraction hr cY (aA (aU vS uH cB (aU bW dD aI (dv 2) aC) aC) (aA (aU bU cW bR aC (aU bW dD aI (aU fS iM aI (dv 2) aC) aC)) aD))))) bK) (aE (bB (i := 3) sc__law_number_by.nd rfl (Or.inl rfl) (aU bU cW bR aC (aU bW dD aI (aU eT gM aI (dv 2) aC) (aU k7 k9 aI aC aC)))) (aJ (aZ (aN c__law_fraction hr cY (aA (aU vS uH cB (aU bW dD aI (aU eT gM aI (dv 2) (aU k7 k9 aI aC aC)) (aU bU cW bR (aU eT gM aI aC (aU k7 k9 aI aC aC)) aC)) (aU k7 k9 aI aC aC)) (aA (dv 3) aD)))))))))
theorem rC : aX ["_law_plane"] ["_law_plane"] (aK hV) := ⟨rfl, rfl, rfl, by decide +kernel, rfl, by decide +kernel, by decide +kernel⟩
theorem pU {c : Cls} (Df : Def K mg "_law_part" ["_law_plane"] hV) (B : Blt mg) (C : i9 mg c) (O : jB mg base c) (hk : fQ K c) (c__law_number_text : Cal P w K mg base 1 "_law_number_text" 1 (a7 K c)) : Cal P w K mg base 2 "_law_part" 1 (cS K c) := by
 refine jU (k := 1) Df rC rfl (fun f cdv A outer s H E hr => ⟨gU K c, ?_, qS K c⟩)
 exact (aJ (aZ (aU bU cW bR (aU bU cW bR (aU bU cW bR (aU bU cW bR (bV cA kC gQ rfl B.str_ iB (aA (bS (dv 0) aC (fun _ _ => rfl)) aD)) dS) (bV cA kC gQ rfl B.str_ iB (aA (bS (dv 0) aC (fun _ _ => rfl)) aD))) dS) (aN c__law_number_text hr cY (aA (bS (dv 0) aC (fun _ _ => rfl)) aD)))))
end
section
variable {P : Program} {w : World} {K : PySem.W.Frag} {mg : Str -> Option Value} {base : Heap}
theorem aF1 : aX ["a", "b"] ["a", "b"] (aK vH) := ⟨rfl, rfl, rfl, by decide +kernel, rfl, by decide +kernel, by decide +kernel⟩
theorem aF0 {c : Cls} (Df : Def K mg "less" ["a", "b"] vH) (B : Blt mg) (C : i9 mg c) (O : jB mg base c) (hk : fQ K c) : Cal P w K mg base 1 "less" 2 (i6 K c) := by
 refine jU (k := 0) Df aF1 rfl (fun f cdv A outer s H E hr => ⟨aAv K c, ?_, aFz K c⟩)
 exact (aJ (aZ (fN xZ jC cB (aU eT gM aI (bS (dv 0) aC (fun _ _ => rfl)) (bS (dv 1) aC (fun _ _ => rfl))) (aU eT gM aI (bS (dv 1) aC (fun _ _ => rfl)) (bS (dv 0) aC (fun _ _ => rfl))) (bL _))))
theorem sc_highest_by_slope : aX ["rows", "highest", "slope", "height"] ["rows"] (aK dE) := ⟨rfl, rfl, rfl, by decide +kernel, rfl, by decide +kernel, by decide +kernel⟩
theorem jK {c : Cls} (Df : Def K mg "highest_by_slope" ["rows"] dE) (B : Blt mg) (C : i9 mg c) (O : jB mg base c) (hk : fQ K c) (c_less : Cal P w K mg base 1 "less" 2 (i6 K c)) : Cal P w K mg base 2 "highest_by_slope" 1 (a9 K c) := by
 refine jU (k := 1) Df sc_highest_by_slope rfl (fun f cdv A outer s H E hr => ⟨eJ K c, ?_, jH K c⟩)
 exact (aE (bB (i := 1) sc_highest_by_slope.nd rfl (Or.inl rfl) oX) (aE (nR PassesOwn.leaving rfl (fM (dv 0)) (vJ (n := 2) rfl (fZ (cM (i := 2) sc_highest_by_slope.nd rfl (Or.inl rfl)) (fZ (cM (i := 3) sc_highest_by_slope.nd rfl (Or.inl rfl)) o5))) (aJ (eN (DW.t (kF (pZ (u1 hr) (dv 2) (dv 1)) (jV (dY (aN c_less hr cY (aA (sS (u1 hr) (dv 1) (dv 2) (fun _ _ => rfl)) (aA (dv 3) aD))))))) (aJ (rX (i := 1) (u1 hr) (pv 1) (dv 2) (dv 3) rfl)) bK))) (aJ (aZ (dv 1)))))
theorem tU : aX ["word"] ["word"] (aK iQ) := ⟨rfl, rfl, rfl, by decide +kernel, rfl, by decide +kernel, by decide +kernel⟩
theorem sY {c : Cls} (Df : Def K mg "is_whole" ["word"] iQ) (B : Blt mg) (C : i9 mg c) (O : jB mg base c) (hk : fQ K c) {t_MOST_FIGURES : Tok} (c_MOST_FIGURES : mg "MOST_FIGURES" = some (.int 30 t_MOST_FIGURES)) {t_FIGURES : Tok} (c_FIGURES : mg "FIGURES" = some (.str "0123456789" t_FIGURES)) : Cal P w K mg base 1 "is_whole" 1 (cK K c) := by
 refine jU (k := 0) Df tU rfl (fun f cdv A outer s H E hr => ⟨iV K c, ?_, sW K c⟩)
 exact (aE (eN (DW.t (kF (cZ (fC (u64 hr)) fF cV (aW iH sN oU rfl B.len_ PySem.boot_len (aA (dv 0) aD)) aC (bL _)) (kF (cZ aAs jC cB (aW iH sN oU rfl B.len_ PySem.boot_len (aA (dv 0) aD)) (pA rfl c_MOST_FIGURES) (bL _)) (jV (fB (dY (aW (aCo rfl rfl) aJg aD8 rfl B.all_ aHm (aA (gC (xs := ["sign"]) (ys := []) (js := []) (cl := []) rfl (aIl (dv 0)) (nO (ys := []) (js := []) rfl (fun _ h => nomatch h) cI (by decide +kernel) (by decide +kernel)) cI (by decide +kernel) rfl (by decide +kernel) rfl (by decide) (fun C s₀ H₀ ex pn => (cM (i := 0) (show (["sign"] : List Str).Nodup by decide +kernel) rfl (Or.inl rfl))) (fun C s₀ H₀ ex pn => gH) (fun C s₀ H₀ ex pn => (fN qY aC7 aAl (dv 0) (uL rfl c_FIGURES) (by with_unfolding_all rfl)))) aD)))))))) (aJ (aZ nK)) bK) (aJ (aZ (aHq (fN (fC (u64 hr)) fF cV (dv 0) dS (bL _)) (lZ (fN (kY (u64 hr)) fF cV (aG5 (dv 0) aC (fun _ _ => rfl)) dS (bL _)))))))
theorem o7 : aX ["plane"] ["plane"] (aK fV) := ⟨rfl, rfl, rfl, by decide +kernel, rfl, by decide +kernel, by decide +kernel⟩
theorem pM {c : Cls} (Df : Def K mg "plane_text" ["plane"] fV) (B : Blt mg) (C : i9 mg c) (O : jB mg base c) (hk : fQ K c) (c_number_text : Cal P w K mg base 1 "number_text" 1 (b9 K c)) : Cal P w K mg base 2 "plane_text" 1 (cR K c) := by
 refine jU (k := 1) Df o7 rfl (fun f cdv A outer s H E hr => ⟨gA K c, ?_, oJ K c⟩)
 exact (aJ (aZ (jA PySem.F.slot_str_join PySem.F.type_str_join oV oW lQ dS (rO (aA (bV cA kC gQ rfl B.str_ iB (aA (bS (dv 0) aC (fun _ _ => rfl)) aD)) (aA (bV cA kC gQ rfl B.str_ iB (aA (bS (dv 0) aC (fun _ _ => rfl)) aD)) (aA (aN c_number_text hr cY (aA (bS (dv 0) aC (fun _ _ => rfl)) aD)) aD)))))))
theorem sc__law_is_roof : aX ["_law_found", "_law_due", "_law_plane"] ["_law_found", "_law_due"] (aK eV) := ⟨rfl, rfl, rfl, by decide +kernel, rfl, by decide +kernel, by decide +kernel⟩
theorem mZ {c : Cls} (Df : Def K mg "_law_is_roof" ["_law_found", "_law_due"] eV) (B : Blt mg) (C : i9 mg c) (O : jB mg base c) (hk : fQ K c) (c__law_whole : Cal P w K mg base 1 "_law_whole" 1 (bI K c)) (c__law_is_fraction : Cal P w K mg base 2 "_law_is_fraction" 1 (a8 K c)) : Cal P w K mg base 3 "_law_is_roof" 2 (bX K c) := by
 refine jU (k := 2) Df sc__law_is_roof rfl (fun f cdv A outer s H E hr => ⟨eX K c, ?_, mM K c⟩)
 exact (aE (eN (DW.t (kF (fB (dY (lB (cv := .type "list") rfl B.isinstance_ (.inl ⟨_, rfl⟩) rfl (dv 0) (iI (v := .ty "list") rfl B.list_ aAr rfl)))) (jV (cZ (kY (u64 hr)) fF cV (aW bD gL eQ rfl B.len_ PySem.boot_len (aA (dv 0) aD)) (aW bD gL eQ rfl B.len_ PySem.boot_len (aA (dv 1) aD)) (bL _))))) (aJ (aZ nK)) bK) (aE (nR PassesOwn.leaving rfl (fM (dv 0)) (cM (i := 2) sc__law_is_roof.nd rfl (Or.inl rfl)) (aE (eN (DW.t (kF (fB (dY (lB (cv := .type "tuple") rfl B.isinstance_ (.inl ⟨_, rfl⟩) rfl (dv 2) (iI (v := .ty "tuple") rfl B.tuple_ uG rfl)))) (kF (cZ (kY (u64 hr)) fF cV (aW bD gL eQ rfl B.len_ PySem.boot_len (aA (dv 2) aD)) aC (bL _)) (jV (fB (dY (aN c__law_is_fraction hr cY (aA (bS (dv 2) aC (fun _ _ => rfl)) aD)))))))) (aJ (aZ nK)) bK) (aJ (eN (DW.t (kF (fB (dY (aN c__law_whole hr cY (aA (bS (dv 2) aC (fun _ _ => rfl)) aD)))) (jV (fB (dY (aN c__law_whole hr cY (aA (bS (dv 2) aC (fun _ _ => rfl)) aD))))))) (aJ (aZ nK)) bK)))) (aJ (aZ (fN (fC (u64 hr)) fF cV (dv 0) (dv 1) (bL _))))))
end
section
variable {P : Program} {w : World} {K : PySem.W.Frag} {mg : Str -> Option Value} {base : Heap}
theorem p0 : aX ["word"] ["word"] (aK gS) := ⟨rfl, rfl, rfl, by decide +kernel, rfl, by decide +kernel, by decide +kernel⟩
theorem qA {c : Cls} (Df : Def K mg "is_bottom" ["word"] gS) (B : Blt mg) (C : i9 mg c) (O : jB mg base c) (hk : fQ K c) (c_is_whole : Cal P w K mg base 1 "is_whole" 1 (cK K c)) : Cal P w K mg base 2 "is_bottom" 1 (dJ K c) := by
 refine jU (k := 1) Df p0 rfl (fun f cdv A outer s H E hr => ⟨iA K c, ?_, p9 K c⟩)
 exact (aJ (aZ (mV (fN (aGe rfl) aL5 aG4 (dv 0) (eA (aA dS (aA dS aD))) (by with_unfolding_all rfl)) (lZ (aN c_is_whole hr cY (aA (dv 0) aD))))))
theorem sc_is_number : aX ["thing", "parts"] ["thing"] (aK gZ) := ⟨rfl, rfl, rfl, by decide +kernel, rfl, by decide +kernel, by decide +kernel⟩
theorem qU {c : Cls} (Df : Def K mg "is_number" ["thing"] gZ) (B : Blt mg) (C : i9 mg c) (O : jB mg base c) (hk : fQ K c) (c_greatest_divisor : Cal P w K mg base 1 "greatest_divisor" 2 (bG K c)) (c_is_top : Cal P w K mg base 2 "is_top" 1 (fG K c)) (c_is_bottom : Cal P w K mg base 2 "is_bottom" 1 (dJ K c)) : Cal P w K mg base 3 "is_number" 1 (cF K c) := by
 refine jU (k := 2) Df sc_is_number rfl (fun f cdv A outer s H E hr => ⟨gW K c, ?_, pT K c⟩)
 exact (aE (eN (fB (dY (lB (cv := .type "str") rfl B.isinstance_ (.inl ⟨_, rfl⟩) rfl (dv 0) (iI (v := .ty "str") rfl B.str_ iB rfl)))) (aJ (aZ nK)) bK) (aE (bB (i := 1) sc_is_number.nd rfl (Or.inl rfl) (jA PySem.F.slot_str_split PySem.F.type_str_split j4 j5 iF (dv 0) dS)) (aE (eN (cZ (fC (u64 hr)) fF cV (aW bD gL eQ rfl B.len_ PySem.boot_len (aA (dv 1) aD)) aC (bL _)) (aJ (aZ (aN c_is_top hr cY (aA (dv 0) aD)))) bK) (aE (eN (DW.t (kF (cZ aAs jC cB (aW bD gL eQ rfl B.len_ PySem.boot_len (aA (dv 1) aD)) aC (bL _)) (kF (fB (dY (aN c_is_top hr cY (aA (bS (dv 1) aC (fun _ _ => rfl)) aD)))) (jV (fB (dY (aN c_is_bottom hr cY (aA (bS (dv 1) aC (fun _ _ => rfl)) aD)))))))) (aJ (aZ nK)) bK) (aJ (aZ (fN (fC (u64 hr)) fF cV (aN c_greatest_divisor hr cY (aA (bV gI kO iW rfl B.int_ mH (aA (bS (dv 1) aC (fun _ _ => rfl)) aD)) (aA (bV gI kO iW rfl B.int_ mH (aA (bS (dv 1) aC (fun _ _ => rfl)) aD)) aD))) aC (bL _))))))))
theorem sc_number_text : aX ["a", "top"] ["a"] (aK fI) := ⟨rfl, rfl, rfl, by decide +kernel, rfl, by decide +kernel, by decide +kernel⟩
theorem nP {c : Cls} (Df : Def K mg "number_text" ["a"] fI) (B : Blt mg) (C : i9 mg c) (O : jB mg base c) (hk : fQ K c) : Cal P w K mg base 1 "number_text" 1 (b9 K c) := by
 refine jU (k := 0) Df sc_number_text rfl (fun f cdv A outer s H E hr => ⟨fJ K c, ?_, nJ K c⟩)
 exact (aE (bB (i := 1) sc_number_text.nd rfl (Or.inl rfl) (bV cA kC gQ rfl B.str_ iB (aA (bS (dv 0) aC (fun _ _ => rfl)) aD))) (aJ (aZ (aGy (cZ (fC (u64 hr)) fF cV (bS (dv 0) aC (fun _ _ => rfl)) aC (bL _)) (dv 1) (aU bU cW bR (aU bU cW bR (dv 1) dS) (bV cA kC gQ rfl B.str_ iB (aA (bS (dv 0) aC (fun _ _ => rfl)) aD)))))))
theorem sc_is_plane : aX ["part", "words"] ["part"] (aK iY) := ⟨rfl, rfl, rfl, by decide +kernel, rfl, by decide +kernel, by decide +kernel⟩
theorem sL {c : Cls} (Df : Def K mg "is_plane" ["part"] iY) (B : Blt mg) (C : i9 mg c) (O : jB mg base c) (hk : fQ K c) (c_is_slope_figure : Cal P w K mg base 1 "is_slope_figure" 1 (a6 K c)) (c_is_number : Cal P w K mg base 3 "is_number" 1 (cF K c)) : Cal P w K mg base 4 "is_plane" 1 (eB K c) := by
 refine jU (k := 3) Df sc_is_plane rfl (fun f cdv A outer s H E hr => ⟨iS K c, ?_, tO K c⟩)
 exact (aE (bB (i := 1) sc_is_plane.nd rfl (Or.inl rfl) (jA PySem.F.slot_str_split PySem.F.type_str_split j4 j5 iF (dv 0) dS)) (aJ (aZ (mV (fN (fC (u64 hr)) fF cV (aW bD gL eQ rfl B.len_ PySem.boot_len (aA (dv 1) aD)) aC (bL _)) (mV (aN c_is_slope_figure hr cY (aA (bS (dv 1) aC (fun _ _ => rfl)) aD)) (mV (aN c_is_slope_figure hr cY (aA (bS (dv 1) aC (fun _ _ => rfl)) aD)) (lZ (aN c_is_number hr cY (aA (bS (dv 1) aC (fun _ _ => rfl)) aD)))))))))
theorem sc_read : aX ["thing", "parts", "at", "part"] ["thing"] (aK uC) := ⟨rfl, rfl, rfl, by decide +kernel, rfl, by decide +kernel, by decide +kernel⟩
theorem aE4 {c : Cls} (Df : Def K mg "read" ["thing"] uC) (B : Blt mg) (C : i9 mg c) (O : jB mg base c) (hk : fQ K c) (c_roof_of : Cal P w K mg base 3 "roof_of" 1 (fO K c)) (c_plane_of : Cal P w K mg base 5 "plane_of" 1 (dZ K c)) (c_is_plane : Cal P w K mg base 4 "is_plane" 1 (eB K c)) : Cal P w K mg base 6 "read" 1 (kZ K c) := by
 refine jU (k := 5) Df sc_read rfl (fun f cdv A outer s H E hr => ⟨uD K c, ?_, aFl K c⟩)
 exact (aE (eN (fB (dY (lB (cv := .type "str") rfl B.isinstance_ (.inl ⟨_, rfl⟩) rfl (dv 0) (iI (v := .ty "str") rfl B.str_ iB rfl)))) (aJ aFu) bK) (aE (bB (i := 1) sc_read.nd rfl (Or.inl rfl) (jA PySem.F.slot_str_split PySem.F.type_str_split j4 j5 iF (dv 0) dS)) (pK 1 (aE (nR PassesOwn.leaving rfl (yH rfl B.enumerate_ (aA (dv 1) aD)) (vJ (n := 2) rfl (fZ (cM (i := 2) sc_read.nd rfl (Or.inl rfl)) (fZ (cM (i := 3) sc_read.nd rfl (Or.inl rfl)) o5))) (aJ (eN (fB (dY (aN c_is_plane hr cY (aA (dv 3) aD)))) (aJ aFu) bK))) (aJ (aZ (aN c_roof_of hr cY (aA (gC (xs := ["part"]) (ys := []) (js := []) (cl := []) rfl (fM (dv 1)) (nO (ys := []) (js := []) rfl (fun _ h => nomatch h) cI (by decide +kernel) (by decide +kernel)) cI (by decide +kernel) rfl (by decide +kernel) rfl (by decide) (fun C s₀ H₀ ex pn => (cM (i := 0) (show (["part"] : List Str).Nodup by decide +kernel) rfl (Or.inl rfl))) (fun C s₀ H₀ ex pn => gH) (fun C s₀ H₀ ex pn => (aN c_plane_of hr qQ (aA (dv 0) aD)))) aD))))))))
end
theorem aAu {K : PySem.W.Frag} {h₀ : Heap} {mg : Str -> Option Value} {x : Str} {C : Addr} {bmB : List Value} {newId : String} (X : K.In h₀) (G : h₀.Ns mainGlobals mg) (e : PySem.W.nsIn K mainGlobals x = some (some (.ref C))) (q : PySem.W.excIn K C bmB newId = true) : PyProof.Rows.OwnCls x C bmB newId mg h₀ := by
 refine ⟨PySem.W.mg_of X G e, ?_⟩
 unfold PySem.W.excIn at q
 split at q
 ·rename_i d1 cd1 sl1 ho1
  split at q
  ·rename_i C1 bm1 s0 s1 s2 s3 n1 s5 hm1 hs1
   simp only [Bool.and_eq_true, beq_iff_eq, Bool.not_eq_true'] at q
   obtain ⟨⟨⟨⟨⟨rfl, rfl⟩, hdl⟩, htl⟩, hnok⟩, hini⟩ := q
   obtain ⟨c1, c2, c3, c4, c5, c6, c7, c8, c9, c10, c11⟩ := cd1
   dsimp only at hm1 hdl hnok hini
   subst hm1 hdl
   obtain ⟨sll⟩ := sl1
   simp only at hs1
   subst hs1
   exact ⟨bm1, c4, c1, c5, c2, c6, c7, c8, c9, c10, d1, s0, s1, s2, s3, s5, _, X _ _ ho1, .of_isNs (PySem.W.isNs_of_in X hnok), PySem.W.nsMap_none_of_in X hnok hini, PySem.W.tail_of_in X htl⟩
  ·cases q
 ·cases q
theorem gF {α : Type} {us : List α} (h : us.length = 1) : ∃ a, us = [a] := List.length_eq_one_iff.mp h
theorem nL {α : Type} {us : List α} (h : us.length = 2) : ∃ a b, us = [a, b] := by
 cases us with
 | nil => cases h
 | cons a r => obtain ⟨b, rfl⟩ := gF (Nat.succ.inj h); exact ⟨a, b, rfl⟩
theorem aLi {α : Type} {us : List α} (h : us.length = 3) : ∃ a b c, us = [a, b, c] := by
 cases us with
 | nil => cases h
 | cons a r => obtain ⟨b, c, rfl⟩ := nL (Nat.succ.inj h); exact ⟨a, b, c, rfl⟩
def xX (K : PySem.W.Frag) : Bool := K.all fun p => match p.2.cls with
 | .type n => !(n == "list")
 | _ => true
theorem lookup_mem {a : Addr} {o : Obj} : ∀ {l : List (Addr × Obj)}, l.lookup a = some o -> (a, o) ∈ l
 | (k, v) :: r, h => by
  unfold List.lookup at h
  split at h
  ·rename_i z
   have e : a = k := by simpa using z
   cases h
   rw [e]
   exact .head _
  ·exact .tail _ (lookup_mem h)
theorem wR {K : PySem.W.Frag} (h : xX K = true) {a : Addr} {o : Obj} (e : K.lookup a = some o) (hc : o.cls = .type "list") : False := by
 have := List.all_eq_true.mp h (a, o) (lookup_mem e)
 dsimp only at this
 rw [hc] at this
 cases this
def aCz : Sp := fun vs H Q _ => ∃ (a : Addr) (ns : List Int), vs = [.ref a] /\ Rd H a (.lst (ns.map V.int)) /\ ns.length <= 63 /\ ∀ H', Q (.bl true) H'
theorem pY {K : PySem.W.Frag} {G : Hp} : ∀ ns : List Int, Reps K G (ns.map V.int) (ns.map PyData.int)
 | [] => .nil
 | i :: r => .cons (.int i) (pY r)
theorem aIo {P : Program} {w : World} {K : PySem.W.Frag} {mg : Str -> Option Value} {base : Heap} {f : Addr} {fd : FuncData} {c : Cls} (hk : fQ K c) (F : FnOk P w K mg base (CXr P w) 7 f fd ["_law_script"] (spM K 1 (vY K c))) : FnOk P w K mg base (CXr P w) 7 f fd ["_law_script"] aCz :=
 F.imp fun vs H Q E h => by
  obtain ⟨a, ns, rfl, rd, hl, hq⟩ := h
  refine ⟨rfl, H, [.p (.list (ns.map .int))], Same.refl _, ⟨.lst rd (pY ns), trivial⟩, ?_⟩
  rw [aGs K c hk ns hl]
  intro G' H' v st r
  cases r
  exact hq H'
structure FnAt (K : PySem.W.Frag) (x : Str) (st : Stmt) (f : Addr) (m : Value) (c : Addr) : Prop where
 a : PySem.W.nsIn K mainGlobals x = some (some (.ref f))
 l : K.lookup f = some ⟨.type "function", none, .func (PySem.W.fnOf x x (gE st) (eU st) (aK st) .none .none .none m none (.ref c) .none), #[]⟩
 c : PySem.W.codeIn K (.ref c) x = true
 k : PySem.W.keepIn K (.ref f) = true
theorem FnAt.df {K : PySem.W.Frag} {h : Heap} {mg : Str -> Option Value} {x : Str} {st : Stmt} {f c : Addr} {m : Value} {ps : List Str} (A : FnAt K x st f m c) (X : K.In h) (G : h.Ns mainGlobals mg)
  (hb : ∀ (kV doc pm : Value) (an : Option Addr) (cdv ct : Value) (us : List Value), us.length = ps.length -> bindArgs (PySem.W.fnOf x x (gE st) (eU st) (aK st) .none kV doc pm an cdv ct) ⟨us, []⟩ = pure (ps.zip us)) : Def K mg x ps st :=
 have F := aDk (st := st) A.l A.c A.k
 ⟨_, _, F, F.binds hb, A.k, PySem.W.mg_of X G A.a⟩
theorem all_mk {l : PySem.W.OpenLaw} {w : World} {K : PySem.W.Frag} {h : Heap} {mg : Str -> Option Value} {fa : Addr} {f1 c1 f2 c2 f3 c3 f4 c4 f5 c5 f6 c6 f7 c7 f8 c8 f9 c9 f10 c10 f11 c11 f12 c12 f13 c13 f14 c14 f15 c15 f16 c16 f17 c17 f18 c18 f19 c19 f20 c20 f21 c21 f22 c22 f23 c23 f24 c24 f25 c25 f26 c26 f27 c27 f28 c28 f29 c29 f30 c30 f31 c31 CRoofError CNoRoof CTooSteep CTooMany CNoNumber CNoText : Addr} {t__name__ tSTEEPEST tMOST_PLANES tFIGURES tMOST_FIGURES tSLOPE_FIGURES : Tok} (X : K.In h) (G : h.Ns mainGlobals mg) (hfa : mg "law" = some (.ref fa))
  {m1 m2 m3 m4 m5 m6 m7 m8 m9 m10 m11 m12 m13 m14 m15 m16 m17 m18 m19 m20 m21 m22 m23 m24 m25 m26 m27 m28 m29 m30 m31 : Value}
  (h1 : FnAt K "greatest_divisor" dB f1 m1 c1)
  (h2 : FnAt K "less" vH f2 m2 c2)
  (h3 : FnAt K "slope_of" iR f3 m3 c3)
  (h4 : FnAt K "is_too_steep" eY f4 m4 c4)
  (h5 : FnAt K "highest_by_slope" dE f5 m5 c5)
  (h6 : FnAt K "roof_of" j9 f6 m6 c6)
  (h7 : FnAt K "is_whole" iQ f7 m7 c7)
  (h8 : FnAt K "is_top" lJ f8 m8 c8)
  (h9 : FnAt K "is_bottom" gS f9 m9 c9)
  (h10 : FnAt K "is_number" gZ f10 m10 c10)
  (h11 : FnAt K "number_of" gR f11 m11 c11)
  (h12 : FnAt K "number_text" fI f12 m12 c12)
  (h13 : FnAt K "is_slope_figure" dN f13 m13 c13)
  (h14 : FnAt K "is_plane" iY f14 m14 c14)
  (h15 : FnAt K "plane_of" iT f15 m15 c15)
  (h16 : FnAt K "read" uC f16 m16 c16)
  (h17 : FnAt K "plane_text" fV f17 m17 c17)
  (h18 : FnAt K "written" j6 f18 m18 c18)
  (h19 : FnAt K "_law_cell_at" e9 f19 m19 c19)
  (h20 : FnAt K "_law_cells" fW f20 m20 c20)
  (h21 : FnAt K "_law_whole" fX f21 m21 c21)
  (h22 : FnAt K "_law_divisor" eZ f22 m22 c22)
  (h23 : FnAt K "_law_fraction" eK f23 m23 c23)
  (h24 : FnAt K "_law_is_fraction" dC f24 m24 c24)
  (h25 : FnAt K "_law_number_by" dX f25 m25 c25)
  (h26 : FnAt K "_law_number_text" dA f26 m26 c26)
  (h27 : FnAt K "_law_roof_by" e8 f27 m27 c27)
  (h28 : FnAt K "_law_part" hV f28 m28 c28)
  (h29 : FnAt K "_law_mixed_up" eL f29 m29 c29)
  (h30 : FnAt K "_law_is_roof" eV f30 m30 c30)
  (h31 : FnAt K "law" qM f31 m31 c31)
  (z0 : PySem.W.nsIn K mainGlobals "abs" = some none)
  (z1 : PySem.W.nsIn K mainGlobals "all" = some none)
  (z2 : PySem.W.nsIn K mainGlobals "any" = some none)
  (z3 : PySem.W.nsIn K mainGlobals "bool" = some none)
  (z4 : PySem.W.nsIn K mainGlobals "enumerate" = some none)
  (z5 : PySem.W.nsIn K mainGlobals "int" = some none)
  (z6 : PySem.W.nsIn K mainGlobals "isinstance" = some none)
  (z7 : PySem.W.nsIn K mainGlobals "len" = some none)
  (z8 : PySem.W.nsIn K mainGlobals "list" = some none)
  (z9 : PySem.W.nsIn K mainGlobals "max" = some none)
  (z10 : PySem.W.nsIn K mainGlobals "min" = some none)
  (z11 : PySem.W.nsIn K mainGlobals "range" = some none)
  (z12 : PySem.W.nsIn K mainGlobals "sorted" = some none)
  (z13 : PySem.W.nsIn K mainGlobals "str" = some none)
  (z14 : PySem.W.nsIn K mainGlobals "tuple" = some none)
  (v__name__ : PySem.W.nsIn K mainGlobals "__name__" = some (some (.str "law_creasecurve_k05_roofs_written" t__name__)))
  (vSTEEPEST : PySem.W.nsIn K mainGlobals "STEEPEST" = some (some (.int 8 tSTEEPEST)))
  (vMOST_PLANES : PySem.W.nsIn K mainGlobals "MOST_PLANES" = some (some (.int 16 tMOST_PLANES)))
  (vFIGURES : PySem.W.nsIn K mainGlobals "FIGURES" = some (some (.str "0123456789" tFIGURES)))
  (vMOST_FIGURES : PySem.W.nsIn K mainGlobals "MOST_FIGURES" = some (some (.int 30 tMOST_FIGURES)))
  (vSLOPE_FIGURES : PySem.W.nsIn K mainGlobals "SLOPE_FIGURES" = some (some (.str "012345678" tSLOPE_FIGURES)))
  (nRoofError : PySem.W.nsIn K mainGlobals "RoofError" = some (some (.ref CRoofError)))
  (nNoRoof : PySem.W.nsIn K mainGlobals "NoRoof" = some (some (.ref CNoRoof)))
  (nTooSteep : PySem.W.nsIn K mainGlobals "TooSteep" = some (some (.ref CTooSteep)))
  (nTooMany : PySem.W.nsIn K mainGlobals "TooMany" = some (some (.ref CTooMany)))
  (nNoNumber : PySem.W.nsIn K mainGlobals "NoNumber" = some (some (.ref CNoNumber)))
  (nNoText : PySem.W.nsIn K mainGlobals "NoText" = some (some (.ref CNoText)))
  (eNoRoof : PySem.W.excIn K CNoRoof [.type "ValueError", .type "Exception", .type "BaseException", .type "object"] "ValueError.__new__" = true)
  (eTooMany : PySem.W.excIn K CTooMany [.type "ValueError", .type "Exception", .type "BaseException", .type "object"] "ValueError.__new__" = true)
  (eTooSteep : PySem.W.excIn K CTooSteep [.type "ValueError", .type "Exception", .type "BaseException", .type "object"] "ValueError.__new__" = true)
  (xii : PySem.W.kitOne K (.type "int") (.type "int") = some true)
  (xib : PySem.W.kitOne K (.type "int") (.type "bool") = some false)
  (xtt : PySem.W.kitOne K (.type "tuple") (.type "tuple") = some true)
  (xll : PySem.W.kitOne K (.type "list") (.type "list") = some true)
  (xss : PySem.W.kitOne K (.type "str") (.type "str") = some true)
  : ∃ fd : FuncData, (∀ (s : Shared) (v : Value), BindsTo s fd ⟨[v], []⟩ [("_law_script", v)]) /\ ∀ base : Heap, K.In base -> base.Ns mainGlobals mg -> FnOk l.prog w K mg base (CXr l.prog w) 7 fa fd ["_law_script"] aCz := by
 have e := hfa.symm.trans (PySem.W.mg_of X G h31.a)
 cases e
 have D1 := h1.df (ps := ["a", "b"]) X G (fun _ _ _ _ _ _ us hl => by obtain ⟨_, _, rfl⟩ := nL hl; rfl)
 have D2 := h2.df (ps := ["a", "b"]) X G (fun _ _ _ _ _ _ us hl => by obtain ⟨_, _, rfl⟩ := nL hl; rfl)
 have D3 := h3.df (ps := ["plane"]) X G (fun _ _ _ _ _ _ us hl => by obtain ⟨_, rfl⟩ := gF hl; rfl)
 have D4 := h4.df (ps := ["slope"]) X G (fun _ _ _ _ _ _ us hl => by obtain ⟨_, rfl⟩ := gF hl; rfl)
 have D5 := h5.df (ps := ["rows"]) X G (fun _ _ _ _ _ _ us hl => by obtain ⟨_, rfl⟩ := gF hl; rfl)
 have D6 := h6.df (ps := ["planes"]) X G (fun _ _ _ _ _ _ us hl => by obtain ⟨_, rfl⟩ := gF hl; rfl)
 have D7 := h7.df (ps := ["word"]) X G (fun _ _ _ _ _ _ us hl => by obtain ⟨_, rfl⟩ := gF hl; rfl)
 have D8 := h8.df (ps := ["word"]) X G (fun _ _ _ _ _ _ us hl => by obtain ⟨_, rfl⟩ := gF hl; rfl)
 have D9 := h9.df (ps := ["word"]) X G (fun _ _ _ _ _ _ us hl => by obtain ⟨_, rfl⟩ := gF hl; rfl)
 have D10 := h10.df (ps := ["thing"]) X G (fun _ _ _ _ _ _ us hl => by obtain ⟨_, rfl⟩ := gF hl; rfl)
 have D11 := h11.df (ps := ["word"]) X G (fun _ _ _ _ _ _ us hl => by obtain ⟨_, rfl⟩ := gF hl; rfl)
 have D12 := h12.df (ps := ["a"]) X G (fun _ _ _ _ _ _ us hl => by obtain ⟨_, rfl⟩ := gF hl; rfl)
 have D13 := h13.df (ps := ["word"]) X G (fun _ _ _ _ _ _ us hl => by obtain ⟨_, rfl⟩ := gF hl; rfl)
 have D14 := h14.df (ps := ["part"]) X G (fun _ _ _ _ _ _ us hl => by obtain ⟨_, rfl⟩ := gF hl; rfl)
 have D15 := h15.df (ps := ["part"]) X G (fun _ _ _ _ _ _ us hl => by obtain ⟨_, rfl⟩ := gF hl; rfl)
 have D16 := h16.df (ps := ["thing"]) X G (fun _ _ _ _ _ _ us hl => by obtain ⟨_, rfl⟩ := gF hl; rfl)
 have D17 := h17.df (ps := ["plane"]) X G (fun _ _ _ _ _ _ us hl => by obtain ⟨_, rfl⟩ := gF hl; rfl)
 have D18 := h18.df (ps := ["roof"]) X G (fun _ _ _ _ _ _ us hl => by obtain ⟨_, rfl⟩ := gF hl; rfl)
 have D19 := h19.df (ps := ["_law_script", "_law_k"]) X G (fun _ _ _ _ _ _ us hl => by obtain ⟨_, _, rfl⟩ := nL hl; rfl)
 have D20 := h20.df (ps := ["_law_script", "_law_first", "_law_last"]) X G (fun _ _ _ _ _ _ us hl => by obtain ⟨_, _, _, rfl⟩ := aLi hl; rfl)
 have D21 := h21.df (ps := ["_law_found"]) X G (fun _ _ _ _ _ _ us hl => by obtain ⟨_, rfl⟩ := gF hl; rfl)
 have D22 := h22.df (ps := ["_law_a", "_law_b"]) X G (fun _ _ _ _ _ _ us hl => by obtain ⟨_, _, rfl⟩ := nL hl; rfl)
 have D23 := h23.df (ps := ["_law_top", "_law_bottom"]) X G (fun _ _ _ _ _ _ us hl => by obtain ⟨_, _, rfl⟩ := nL hl; rfl)
 have D24 := h24.df (ps := ["_law_found"]) X G (fun _ _ _ _ _ _ us hl => by obtain ⟨_, rfl⟩ := gF hl; rfl)
 have D25 := h25.df (ps := ["_law_cell", "_law_kind"]) X G (fun _ _ _ _ _ _ us hl => by obtain ⟨_, _, rfl⟩ := nL hl; rfl)
 have D26 := h26.df (ps := ["_law_a"]) X G (fun _ _ _ _ _ _ us hl => by obtain ⟨_, rfl⟩ := gF hl; rfl)
 have D27 := h27.df (ps := ["_law_script", "_law_kind"]) X G (fun _ _ _ _ _ _ us hl => by obtain ⟨_, _, rfl⟩ := nL hl; rfl)
 have D28 := h28.df (ps := ["_law_plane"]) X G (fun _ _ _ _ _ _ us hl => by obtain ⟨_, rfl⟩ := gF hl; rfl)
 have D29 := h29.df (ps := ["_law_roof", "_law_script"]) X G (fun _ _ _ _ _ _ us hl => by obtain ⟨_, _, rfl⟩ := nL hl; rfl)
 have D30 := h30.df (ps := ["_law_found", "_law_due"]) X G (fun _ _ _ _ _ _ us hl => by obtain ⟨_, _, rfl⟩ := nL hl; rfl)
 have B : Blt mg := ⟨PySem.W.mg_none_of X G z0, PySem.W.mg_none_of X G z1, PySem.W.mg_none_of X G z2, PySem.W.mg_none_of X G z3, PySem.W.mg_none_of X G z4, PySem.W.mg_none_of X G z5, PySem.W.mg_none_of X G z6, PySem.W.mg_none_of X G z7, PySem.W.mg_none_of X G z8, PySem.W.mg_none_of X G z9, PySem.W.mg_none_of X G z10, PySem.W.mg_none_of X G z11, PySem.W.mg_none_of X G z12, PySem.W.mg_none_of X G z13, PySem.W.mg_none_of X G z14⟩
 let c : Cls := ⟨CRoofError, CNoRoof, CTooSteep, CTooMany, CNoNumber, CNoText⟩
 have C : i9 mg c := ⟨PySem.W.mg_of X G nRoofError, PySem.W.mg_of X G nNoRoof, PySem.W.mg_of X G nTooSteep, PySem.W.mg_of X G nTooMany, PySem.W.mg_of X G nNoNumber, PySem.W.mg_of X G nNoText⟩
 have hk : fQ K c := ⟨xii, xib, xtt, xll, xss⟩
 refine ⟨PySem.W.fnOf "law" "law" (gE qM) (eU qM) (aK qM) .none .none .none m31 none (.ref c31) .none, fun s v => .of_eq rfl, fun base kb nb => ?_⟩
 have O : jB mg base c := ⟨aAu kb nb nNoRoof eNoRoof, aAu kb nb nTooMany eTooMany, aAu kb nb nTooSteep eTooSteep⟩
 have G1 : Cal l.prog w K mg base 1 "greatest_divisor" 2 (bG K c) := jJ D1 B C O hk
 have G2 : Cal l.prog w K mg base 1 "less" 2 (i6 K c) := aF0 D2 B C O hk
 have G3 : Cal l.prog w K mg base 1 "slope_of" 1 (d4 K c) := sM D3 B C O hk
 have G4 : Cal l.prog w K mg base 1 "is_too_steep" 1 (cC K c) := mX D4 B C O hk (PySem.W.mg_of X G vSTEEPEST)
 have G7 : Cal l.prog w K mg base 1 "is_whole" 1 (cK K c) := sY D7 B C O hk (PySem.W.mg_of X G vMOST_FIGURES) (PySem.W.mg_of X G vFIGURES)
 have G12 : Cal l.prog w K mg base 1 "number_text" 1 (b9 K c) := nP D12 B C O hk
 have G13 : Cal l.prog w K mg base 1 "is_slope_figure" 1 (a6 K c) := kH D13 B C O hk (PySem.W.mg_of X G vSLOPE_FIGURES)
 have G19 : Cal l.prog w K mg base 1 "_law_cell_at" 2 (aR K c) := l8 D19 B C O hk
 have G21 : Cal l.prog w K mg base 1 "_law_whole" 1 (bI K c) := pB D21 B C O hk
 have G22 : Cal l.prog w K mg base 1 "_law_divisor" 2 (bN K c) := mY D22 B C O hk
 have G26 : Cal l.prog w K mg base 1 "_law_number_text" 1 (a7 K c) := jP D26 B C O hk
 have G5 : Cal l.prog w K mg base 2 "highest_by_slope" 1 (a9 K c) := jK D5 B C O hk G2
 have G8 : Cal l.prog w K mg base 2 "is_top" 1 (fG K c) := zI D8 B C O hk G7
 have G9 : Cal l.prog w K mg base 2 "is_bottom" 1 (dJ K c) := qA D9 B C O hk G7
 have G17 : Cal l.prog w K mg base 2 "plane_text" 1 (cR K c) := pM D17 B C O hk G12
 have G20 : Cal l.prog w K mg base 2 "_law_cells" 3 (b8 K c) := pP D20 B C O hk G19
 have G23 : Cal l.prog w K mg base 2 "_law_fraction" 2 (bH K c) := lF D23 B C O hk G22
 have G24 : Cal l.prog w K mg base 2 "_law_is_fraction" 1 (a8 K c) := jE D24 B C O hk G22 G21
 have G28 : Cal l.prog w K mg base 2 "_law_part" 1 (cS K c) := pU D28 B C O hk G26
 have G29 : Cal l.prog w K mg base 2 "_law_mixed_up" 2 (bF K c) := lH D29 B C O hk G19
 have G6 : Cal l.prog w K mg base 3 "roof_of" 1 (fO K c) := wL D6 B C O hk G5 G3 G4 (PySem.W.mg_of X G vMOST_PLANES)
 have G10 : Cal l.prog w K mg base 3 "is_number" 1 (cF K c) := qU D10 B C O hk G1 G8 G9
 have G18 : Cal l.prog w K mg base 3 "written" 1 (dW K c) := wB D18 B C O hk G17
 have G25 : Cal l.prog w K mg base 3 "_law_number_by" 2 (aY K c) := kU D25 B C O hk G23
 have G30 : Cal l.prog w K mg base 3 "_law_is_roof" 2 (bX K c) := mZ D30 B C O hk G21 G24
 have G11 : Cal l.prog w K mg base 4 "number_of" 1 (dI K c) := pS D11 B C O hk G10
 have G14 : Cal l.prog w K mg base 4 "is_plane" 1 (eB K c) := sL D14 B C O hk G13 G10
 have G27 : Cal l.prog w K mg base 4 "_law_roof_by" 2 (bO K c) := mD D27 B C O hk G20 G25
 have G15 : Cal l.prog w K mg base 5 "plane_of" 1 (dZ K c) := sI D15 B C O hk G11
 have G16 : Cal l.prog w K mg base 6 "read" 1 (kZ K c) := aE4 D16 B C O hk G6 G15 G14
 exact aIo hk (aJ3 (aDk (st := qM) h31.l h31.c h31.k) B C O hk G18 G30 G16 G29 G28 G27 G19)
theorem walk {l : PySem.W.OpenLaw} {q : Program} {loose : List Str} {XP : (Str -> Option Value) -> Heap -> Prop} {YP : World -> Heap -> Prop} {d : DefRec} {K : Params -> PySem.W.Frag} (hn : l.most = some 63) (hdf : d.params.defaults = [])
  {ts : List Addr} (hY : ∀ (w : World) (h : Heap), YP w h -> (K w.params).In h /\ ∀ P ∈ ts, h.get? P = some (PySem.W.tabObj #[])) (hT : ∀ w : World, aFh (K w.params) ts = true) (hK : ∀ w : World, xX (K w.params) = true)
  (F : ∀ (w : World) (mg : Str -> Option Value) (fa : Addr) (h : Heap), (K w.params).In h -> h.Ns mainGlobals mg -> mg d.name = some (.ref fa) ->
   ∃ fd : FuncData, (∀ (s : Shared) (u : Value), BindsTo s fd ⟨[u], []⟩ [("_law_script", u)]) /\ ∀ base : Heap, (K w.params).In base -> base.Ns mainGlobals mg -> FnOk l.prog w (K w.params) mg base (CXr l.prog w) 7 fa fd ["_law_script"] aCz) :
  PySem.W.WalkO q loose XP YP l.row.toRowW d [] (fun f vs => PySem.call f vs) :=
 L2.aGh (n := 63) (k := 7) (x := "_law_script") (CX := fun w => CXr l.prog w) (sp := fun _ => aCz) hn (by decide) hdf ⟨rfl, by decide, by decide⟩ hY hT F (fun w _ a ns hl _ hS => ⟨a, ns, rfl, hS.elim id (fun ⟨_, _, _, e, hc, _⟩ => (wR (hK w) e hc).elim), hl, fun _ => rfl⟩) fun _ _ _ _ _ ⟨_, _, _, _, _, _, _, z⟩ => z
end My
namespace Hd
open PySem PySem.W PyProof.Rows L2 My
abbrev pr : Program := PySem.Challenge.pw_creasecurve_k05_roofs_written
def sub (i j : Nat) : Stmt := match top i with
 | .ClassDef (body := b) .. => b.getD j (.Pass ⟨0, 0, 0, 0⟩)
 | _ => .Pass ⟨0, 0, 0, 0⟩
noncomputable def vs (s : String) (t : Nat) : Value := .str (Str.ofString s) t
noncomputable def en (P : Params) (s : String) (t : Nat) (v : Value) : DictEntry := ⟨PyData.keyHash P (Str.ofString s), .str (Str.ofString s) t, v⟩
noncomputable def fd (n q : String) (a : Arguments) (b : FuncBody) (s : Scope) (g : Nat) (c : List (Str × Nat)) (d k dc m : Value) (an : Option Nat) (co ct : Value) (bl : Nat) : FuncData := ⟨Str.ofString n, Str.ofString q, a, b, s, g, c, d, k, dc, m, an, co, ct, bl⟩
noncomputable def pE (e : DictEntry) : Obj -> Obj
 | ⟨c, d, .dict es n, s⟩ => ⟨c, d, .dict (es.push e) (n + 1), s⟩
 | o => o
noncomputable def rE (i : Nat) (v : Value) : Obj -> Obj
 | ⟨c, d, .dict es n, s⟩ => ⟨c, d, .dict (es.modify i fun e => ⟨e.hash, e.key, v⟩) n, s⟩
 | o => o
noncomputable def pF (vs : List Value) : Obj -> Obj
 | ⟨c, d, .fields xs, s⟩ => ⟨c, d, .fields (xs ++ vs.toArray), s⟩
 | o => o
noncomputable def tu (xs : List Value) : Obj := ⟨.type "tuple", none, .seq xs.toArray 0, #[]⟩
noncomputable def fl (xs : List Value) : Obj := ⟨.none, none, .fields xs.toArray, #[]⟩
noncomputable def fo (i : Nat) (nm : String) (g : Nat) (m co c : Value) : Obj := ⟨c, none, .func (fd nm nm (gE (top i)) (.stmts (eU (top i))) (aK (top i)) g [] .none .none .none m none co .none 0), #[]⟩
noncomputable def co (nm : String) (t u l k a c : Nat) (v x : Value) (f : Nat) : Obj := ⟨.type "code", none, .fields #[vs nm t, vs nm (t + 1), vs "/claim/cut.py" (t + 2), .int l 0, .int k 0, .int 0 0, .int 0 0, .int 3 0, .ref a, .bool true, .int 181 0, .ref c, .none, v, x, .ref f, .int u 0, .int l 0, vs "/claim/cut.py" (u + 1)], #[]⟩
noncomputable def vL (t : Nat) : List String -> List Value
 | [] => []
 | s :: r => vs s t :: vL (t + 1) r
noncomputable def d7 (P : Params) (i : Nat) (nm : String) (m : Value) (l k : Nat) (vn : List String) (n t u : Nat) (T : BT) : BT := ((((((((T.set 3 (pE (en P nm (u + 2) (.ref (n + 6))))).set 12 (pF [.int l 0, .int 0 0, .ref (n + 5)])).ins n (tu [])).ins (n + 1) (fl [])).ins (n + 2) (tu (vL (t + 3) vn))).ins (n + 3) (tu [])).ins (n + 4) (fo i nm 0 .none .none .none)).ins (n + 5) (co nm t u l k n (n + 1) (.ref (n + 2)) (.ref (n + 3)) (n + 4))).ins (n + 6) (fo i nm 3 m (.ref (n + 5)) (.type "function"))
noncomputable def d5 (P : Params) (i : Nat) (nm : String) (m : Value) (l k n t u : Nat) (T : BT) : BT := ((((((T.set 3 (pE (en P nm (u + 2) (.ref (n + 4))))).set 12 (pF [.int l 0, .int 0 0, .ref (n + 3)])).ins n (tu [])).ins (n + 1) (fl [])).ins (n + 2) (fo i nm 0 .none .none .none)).ins (n + 3) (co nm t u l k n (n + 1) .none .none (n + 2))).ins (n + 4) (fo i nm 3 m (.ref (n + 3)) (.type "function"))
noncomputable def w6 : Env := { scope := pr.main.scope, locals := mainNs, globals := mainNs, cells := [], code := (.ref 13), frame := some 14 }
noncomputable def cE : Code := .body (behindTheImports pr) w6
noncomputable def ol (P : Params) : List Obj := [boot_o_0 P, boot_o_1 P, boot_o_2 P, boot_o_3 P, boot_o_4 P, boot_o_5 P, boot_o_6 P, boot_o_7 P, boot_o_8 P, boot_o_9 P, boot_o_10 P, (⟨(.type "tuple"), none, (.seq #[] 0), #[]⟩ : Obj), (⟨.none, none, (.fields #[]), #[]⟩ : Obj), (⟨(.type "code"), none, (.fields #[(vs "<module>" 182), (vs "<module>" 183), (vs "/claim/cut.py" 184), (.int 1 0), (.int 0 0), (.int 0 0), (.int 0 0), (.int 0 0), (.ref 11), (.bool false), (.int 181 0), (.ref 12), .none, .none, .none, .none, (.int 185 0), (.int 1 0), (vs "/claim/cut.py" 186)]), #[]⟩ : Obj), (⟨(.type "frame"), none, .plain, #[(some (.ref 13)), (some (.ref 3)), (some (.ref 3)), none, (some (vs "__main__" 164)), none, (some (.ref 0))]⟩ : Obj)]
noncomputable def bt : Nat -> List Obj -> BT -> BT
 | _, [], T => T
 | i, o :: r, T => bt (i + 1) r (T.ins i o)
noncomputable def t0 (P : Params) : BT := bt 0 (ol P) .nil
noncomputable abbrev sT (t : Params -> BT) (n k : Nat) (w : World) (os : OsState) : SharedT := ⟨t w.params, n, {}, ⟨[]⟩, boot_drawn, k, os⟩
abbrev B : List Frame := [topFrame ⟨0, 0, 0, 0⟩]
theorem aGi (w : World) : (fun os => topGo treeTable pr w 11 (some (.ref 6)) 12 ⟨boot_heap w.params, ⟨[]⟩, boot_drawn, boot_toks, os⟩ (topStub pr)) = (fun os => some ((⟨⟨⟨ol w.params⟩, {}⟩, ⟨[]⟩, boot_drawn, 187, os⟩ : Shared), ⟨denote treeTable cE, cE, ⟨0, 0, 0, 0⟩, B⟩)) := by
 rw [PySem.W.Fast.te15667345088766844465, PySem.W.Fast.te14364793385576792824, PySem.W.Fast.te11892475500146522536]
 kernel_rfl
theorem aIi (w : World) : (fun os => segRun treeTable pr w 11 (some (.ref 6)) 1 1 ⟨⟨⟨ol w.params⟩, {}⟩, ⟨[]⟩, boot_drawn, 187, os⟩ (blockOf (behindTheImports pr) w6 cE ⟨0, 0, 0, 0⟩ B)) = (fun os => some (.next, (sT t0 15 187 w os).abs, cE, ⟨0, 0, 0, 0⟩)) := by
 rw [PySem.W.Fast.te14374325043358763698, PySem.W.Fast.te14364793385576792824]
 kernel_rfl
noncomputable def t1 (P : Params) : BT :=
 (t0 P) |>
 (fun T => T.set 3 (rE 0 (vs "creasecurve.errors" 187))) |>
 (fun T => T.set 3 (pE (en P "RoofError" 206 (.ref 24)))) |>
 (fun T => T.set 12 (pF [(.int 2 0), (.int 0 0), (.ref 20)])) |>
 (fun T => T.ins 15 (tu [(.type "ValueError")])) |>
 (fun T => T.ins 16 ⟨(.type "builtin_function_or_method"), none, (.fields #[(.builtin "type.__prepare__"), (.type "type")]), #[]⟩) |>
 (fun T => T.ins 17 ⟨(.type "dict"), none, (.dict #[en P "__module__" 196 (vs "creasecurve.errors" 187), en P "__qualname__" 198 (vs "RoofError" 197), en P "__firstlineno__" 200 (.int 2 199), en P "__static_attributes__" 201 (.ref 22)] 4), #[]⟩) |>
 (fun T => T.ins 18 (tu [])) |>
 (fun T => T.ins 19 (fl [])) |>
 (fun T => T.ins 20 ⟨(.type "code"), none, (.fields #[(vs "RoofError" 191), (vs "RoofError" 192), (vs "/claim/cut.py" 193), (.int 2 0), (.int 0 0), (.int 0 0), (.int 0 0), (.int 0 0), (.ref 18), (.bool false), (.int 181 0), (.ref 19), .none, .none, .none, .none, (.int 194 0), (.int 2 0), (vs "/claim/cut.py" 195)]), #[]⟩) |>
 (fun T => T.ins 21 ⟨(.type "frame"), none, .plain, #[(some (.ref 20)), (some (.ref 3)), (some (.ref 17)), none, (some (vs "creasecurve.errors" 187)), none, (some (.ref 0))]⟩) |>
 (fun T => T.ins 22 (tu [])) |>
 (fun T => T.ins 23 ⟨(.type "dict"), none, (.dict #[en P "__module__" 196 (vs "creasecurve.errors" 187), en P "__firstlineno__" 200 (.int 2 199), en P "__static_attributes__" 201 (.ref 22), en P "__weakref__" 203 (.ref 25), en P "__doc__" 204 .none] 3), #[]⟩) |>
 (fun T => T.ins 24 ⟨(.type "type"), none, (.cls ⟨"RoofError", [(.type "ValueError")], [(.ref 24), (.type "ValueError"), (.type "Exception"), (.type "BaseException"), (.type "object")], 23, "RoofError", true, [], [], false, none, false⟩), #[(some (.ref 15)), none, (some (vs "RoofError" 189)), (some (vs "RoofError" 197)), (some (.builtin "ValueError.__new__")), (some (.bool true))]⟩) |>
 (fun T => T.ins 25 ⟨(.type "getset_descriptor"), none, (.fields #[(vs "__weakref__" 202), (.ref 24), (.builtin "ExceptionGroup.__weakref__"), .none]), #[]⟩) |>
 (fun T => T.ins 26 ⟨(.type "super"), none, (.fields #[(.ref 24), (.ref 24), (.ref 24)]), #[]⟩) |>
 (fun T => T.ins 27 ⟨(.type "builtin_function_or_method"), none, (.fields #[(.builtin "object.__init_subclass__"), (.ref 24)]), #[]⟩)
noncomputable def g0 : List Stmt := [top 0, top 1]
theorem hg0 (w : World) : (fun os => segRunT treeTable pr w 11 (some (.ref 6)) 1 196 (sT t0 15 187 w os) (piecesOf g0 w6 cE ⟨0, 0, 0, 0⟩ B)) = (fun os => some (.next, sT t1 28 207 w os, cE, ⟨2, 0, 3, 8⟩)) := by
 rw [PySem.W.Fast.te10110043849684766642, PySem.W.Fast.te14364793385576792824]
 kernel_rfl
noncomputable def t2 (P : Params) : BT :=
 (t1 P) |>
 (fun T => T.set 3 (pE (en P "NoRoof" 222 (.ref 37)))) |>
 (fun T => T.set 12 (pF [(.int 4 0), (.int 0 0), (.ref 33)])) |>
 (fun T => T.set 24 (fun _ => ⟨(.type "type"), none, (.cls ⟨"RoofError", [(.type "ValueError")], [(.ref 24), (.type "ValueError"), (.type "Exception"), (.type "BaseException"), (.type "object")], 23, "RoofError", true, [], [(.ref 37)], false, none, false⟩), #[(some (.ref 15)), none, (some (vs "RoofError" 189)), (some (vs "RoofError" 197)), (some (.builtin "ValueError.__new__")), (some (.bool true))]⟩)) |>
 (fun T => T.ins 28 (tu [(.ref 24)])) |>
 (fun T => T.ins 29 ⟨(.type "builtin_function_or_method"), none, (.fields #[(.builtin "type.__prepare__"), (.type "type")]), #[]⟩) |>
 (fun T => T.ins 30 ⟨(.type "dict"), none, (.dict #[en P "__module__" 214 (vs "creasecurve.errors" 187), en P "__qualname__" 216 (vs "NoRoof" 215), en P "__firstlineno__" 218 (.int 4 217), en P "__static_attributes__" 219 (.ref 35)] 4), #[]⟩) |>
 (fun T => T.ins 31 (tu [])) |>
 (fun T => T.ins 32 (fl [])) |>
 (fun T => T.ins 33 ⟨(.type "code"), none, (.fields #[(vs "NoRoof" 209), (vs "NoRoof" 210), (vs "/claim/cut.py" 211), (.int 4 0), (.int 0 0), (.int 0 0), (.int 0 0), (.int 0 0), (.ref 31), (.bool false), (.int 181 0), (.ref 32), .none, .none, .none, .none, (.int 212 0), (.int 4 0), (vs "/claim/cut.py" 213)]), #[]⟩) |>
 (fun T => T.ins 34 ⟨(.type "frame"), none, .plain, #[(some (.ref 33)), (some (.ref 3)), (some (.ref 30)), none, (some (vs "creasecurve.errors" 187)), none, (some (.ref 0))]⟩) |>
 (fun T => T.ins 35 (tu [])) |>
 (fun T => T.ins 36 ⟨(.type "dict"), none, (.dict #[en P "__module__" 214 (vs "creasecurve.errors" 187), en P "__firstlineno__" 218 (.int 4 217), en P "__static_attributes__" 219 (.ref 35), en P "__doc__" 220 .none] 2), #[]⟩) |>
 (fun T => T.ins 37 ⟨(.type "type"), none, (.cls ⟨"NoRoof", [(.ref 24)], [(.ref 37), (.ref 24), (.type "ValueError"), (.type "Exception"), (.type "BaseException"), (.type "object")], 36, "NoRoof", true, [], [], false, none, false⟩), #[(some (.ref 28)), none, (some (vs "NoRoof" 207)), (some (vs "NoRoof" 215)), (some (.builtin "ValueError.__new__")), (some (.bool true))]⟩) |>
 (fun T => T.ins 38 ⟨(.type "super"), none, (.fields #[(.ref 37), (.ref 37), (.ref 37)]), #[]⟩) |>
 (fun T => T.ins 39 ⟨(.type "builtin_function_or_method"), none, (.fields #[(.builtin "object.__init_subclass__"), (.ref 37)]), #[]⟩)
noncomputable def g1 : List Stmt := [top 2]
theorem hg1 (w : World) : (fun os => segRunT treeTable pr w 11 (some (.ref 6)) 1 214 (sT t1 28 207 w os) (piecesOf g1 w6 cE ⟨2, 0, 3, 8⟩ B)) = (fun os => some (.next, sT t2 40 223 w os, cE, ⟨4, 0, 5, 8⟩)) := by
 rw [PySem.W.Fast.te10110043849684766642, PySem.W.Fast.te14364793385576792824]
 kernel_rfl
noncomputable def t3 (P : Params) : BT :=
 (t2 P) |>
 (fun T => T.set 3 (pE (en P "TooSteep" 238 (.ref 49)))) |>
 (fun T => T.set 12 (pF [(.int 6 0), (.int 0 0), (.ref 45)])) |>
 (fun T => T.set 24 (fun _ => ⟨(.type "type"), none, (.cls ⟨"RoofError", [(.type "ValueError")], [(.ref 24), (.type "ValueError"), (.type "Exception"), (.type "BaseException"), (.type "object")], 23, "RoofError", true, [], [(.ref 37), (.ref 49)], false, none, false⟩), #[(some (.ref 15)), none, (some (vs "RoofError" 189)), (some (vs "RoofError" 197)), (some (.builtin "ValueError.__new__")), (some (.bool true))]⟩)) |>
 (fun T => T.ins 40 (tu [(.ref 24)])) |>
 (fun T => T.ins 41 ⟨(.type "builtin_function_or_method"), none, (.fields #[(.builtin "type.__prepare__"), (.type "type")]), #[]⟩) |>
 (fun T => T.ins 42 ⟨(.type "dict"), none, (.dict #[en P "__module__" 230 (vs "creasecurve.errors" 187), en P "__qualname__" 232 (vs "TooSteep" 231), en P "__firstlineno__" 234 (.int 6 233), en P "__static_attributes__" 235 (.ref 47)] 4), #[]⟩) |>
 (fun T => T.ins 43 (tu [])) |>
 (fun T => T.ins 44 (fl [])) |>
 (fun T => T.ins 45 ⟨(.type "code"), none, (.fields #[(vs "TooSteep" 225), (vs "TooSteep" 226), (vs "/claim/cut.py" 227), (.int 6 0), (.int 0 0), (.int 0 0), (.int 0 0), (.int 0 0), (.ref 43), (.bool false), (.int 181 0), (.ref 44), .none, .none, .none, .none, (.int 228 0), (.int 6 0), (vs "/claim/cut.py" 229)]), #[]⟩) |>
 (fun T => T.ins 46 ⟨(.type "frame"), none, .plain, #[(some (.ref 45)), (some (.ref 3)), (some (.ref 42)), none, (some (vs "creasecurve.errors" 187)), none, (some (.ref 0))]⟩) |>
 (fun T => T.ins 47 (tu [])) |>
 (fun T => T.ins 48 ⟨(.type "dict"), none, (.dict #[en P "__module__" 230 (vs "creasecurve.errors" 187), en P "__firstlineno__" 234 (.int 6 233), en P "__static_attributes__" 235 (.ref 47), en P "__doc__" 236 .none] 2), #[]⟩) |>
 (fun T => T.ins 49 ⟨(.type "type"), none, (.cls ⟨"TooSteep", [(.ref 24)], [(.ref 49), (.ref 24), (.type "ValueError"), (.type "Exception"), (.type "BaseException"), (.type "object")], 48, "TooSteep", true, [], [], false, none, false⟩), #[(some (.ref 40)), none, (some (vs "TooSteep" 223)), (some (vs "TooSteep" 231)), (some (.builtin "ValueError.__new__")), (some (.bool true))]⟩) |>
 (fun T => T.ins 50 ⟨(.type "super"), none, (.fields #[(.ref 49), (.ref 49), (.ref 49)]), #[]⟩) |>
 (fun T => T.ins 51 ⟨(.type "builtin_function_or_method"), none, (.fields #[(.builtin "object.__init_subclass__"), (.ref 49)]), #[]⟩)
noncomputable def g2 : List Stmt := [top 3]
theorem hg2 (w : World) : (fun os => segRunT treeTable pr w 11 (some (.ref 6)) 1 214 (sT t2 40 223 w os) (piecesOf g2 w6 cE ⟨4, 0, 5, 8⟩ B)) = (fun os => some (.next, sT t3 52 239 w os, cE, ⟨6, 0, 7, 8⟩)) := by
 rw [PySem.W.Fast.te10110043849684766642, PySem.W.Fast.te14364793385576792824]
 kernel_rfl
noncomputable def t4 (P : Params) : BT :=
 (t3 P) |>
 (fun T => T.set 3 (pE (en P "TooMany" 254 (.ref 61)))) |>
 (fun T => T.set 12 (pF [(.int 8 0), (.int 0 0), (.ref 57)])) |>
 (fun T => T.set 24 (fun _ => ⟨(.type "type"), none, (.cls ⟨"RoofError", [(.type "ValueError")], [(.ref 24), (.type "ValueError"), (.type "Exception"), (.type "BaseException"), (.type "object")], 23, "RoofError", true, [], [(.ref 37), (.ref 49), (.ref 61)], false, none, false⟩), #[(some (.ref 15)), none, (some (vs "RoofError" 189)), (some (vs "RoofError" 197)), (some (.builtin "ValueError.__new__")), (some (.bool true))]⟩)) |>
 (fun T => T.ins 52 (tu [(.ref 24)])) |>
 (fun T => T.ins 53 ⟨(.type "builtin_function_or_method"), none, (.fields #[(.builtin "type.__prepare__"), (.type "type")]), #[]⟩) |>
 (fun T => T.ins 54 ⟨(.type "dict"), none, (.dict #[en P "__module__" 246 (vs "creasecurve.errors" 187), en P "__qualname__" 248 (vs "TooMany" 247), en P "__firstlineno__" 250 (.int 8 249), en P "__static_attributes__" 251 (.ref 59)] 4), #[]⟩) |>
 (fun T => T.ins 55 (tu [])) |>
 (fun T => T.ins 56 (fl [])) |>
 (fun T => T.ins 57 ⟨(.type "code"), none, (.fields #[(vs "TooMany" 241), (vs "TooMany" 242), (vs "/claim/cut.py" 243), (.int 8 0), (.int 0 0), (.int 0 0), (.int 0 0), (.int 0 0), (.ref 55), (.bool false), (.int 181 0), (.ref 56), .none, .none, .none, .none, (.int 244 0), (.int 8 0), (vs "/claim/cut.py" 245)]), #[]⟩) |>
 (fun T => T.ins 58 ⟨(.type "frame"), none, .plain, #[(some (.ref 57)), (some (.ref 3)), (some (.ref 54)), none, (some (vs "creasecurve.errors" 187)), none, (some (.ref 0))]⟩) |>
 (fun T => T.ins 59 (tu [])) |>
 (fun T => T.ins 60 ⟨(.type "dict"), none, (.dict #[en P "__module__" 246 (vs "creasecurve.errors" 187), en P "__firstlineno__" 250 (.int 8 249), en P "__static_attributes__" 251 (.ref 59), en P "__doc__" 252 .none] 2), #[]⟩) |>
 (fun T => T.ins 61 ⟨(.type "type"), none, (.cls ⟨"TooMany", [(.ref 24)], [(.ref 61), (.ref 24), (.type "ValueError"), (.type "Exception"), (.type "BaseException"), (.type "object")], 60, "TooMany", true, [], [], false, none, false⟩), #[(some (.ref 52)), none, (some (vs "TooMany" 239)), (some (vs "TooMany" 247)), (some (.builtin "ValueError.__new__")), (some (.bool true))]⟩) |>
 (fun T => T.ins 62 ⟨(.type "super"), none, (.fields #[(.ref 61), (.ref 61), (.ref 61)]), #[]⟩) |>
 (fun T => T.ins 63 ⟨(.type "builtin_function_or_method"), none, (.fields #[(.builtin "object.__init_subclass__"), (.ref 61)]), #[]⟩)
noncomputable def g3 : List Stmt := [top 4]
theorem hg3 (w : World) : (fun os => segRunT treeTable pr w 11 (some (.ref 6)) 1 214 (sT t3 52 239 w os) (piecesOf g3 w6 cE ⟨6, 0, 7, 8⟩ B)) = (fun os => some (.next, sT t4 64 255 w os, cE, ⟨8, 0, 9, 8⟩)) := by
 rw [PySem.W.Fast.te10110043849684766642, PySem.W.Fast.te14364793385576792824]
 kernel_rfl
noncomputable def t5 (P : Params) : BT :=
 (t4 P) |>
 (fun T => T.set 3 (pE (en P "NoNumber" 270 (.ref 73)))) |>
 (fun T => T.set 12 (pF [(.int 10 0), (.int 0 0), (.ref 69)])) |>
 (fun T => T.set 24 (fun _ => ⟨(.type "type"), none, (.cls ⟨"RoofError", [(.type "ValueError")], [(.ref 24), (.type "ValueError"), (.type "Exception"), (.type "BaseException"), (.type "object")], 23, "RoofError", true, [], [(.ref 37), (.ref 49), (.ref 61), (.ref 73)], false, none, false⟩), #[(some (.ref 15)), none, (some (vs "RoofError" 189)), (some (vs "RoofError" 197)), (some (.builtin "ValueError.__new__")), (some (.bool true))]⟩)) |>
 (fun T => T.ins 64 (tu [(.ref 24)])) |>
 (fun T => T.ins 65 ⟨(.type "builtin_function_or_method"), none, (.fields #[(.builtin "type.__prepare__"), (.type "type")]), #[]⟩) |>
 (fun T => T.ins 66 ⟨(.type "dict"), none, (.dict #[en P "__module__" 262 (vs "creasecurve.errors" 187), en P "__qualname__" 264 (vs "NoNumber" 263), en P "__firstlineno__" 266 (.int 10 265), en P "__static_attributes__" 267 (.ref 71)] 4), #[]⟩) |>
 (fun T => T.ins 67 (tu [])) |>
 (fun T => T.ins 68 (fl [])) |>
 (fun T => T.ins 69 ⟨(.type "code"), none, (.fields #[(vs "NoNumber" 257), (vs "NoNumber" 258), (vs "/claim/cut.py" 259), (.int 10 0), (.int 0 0), (.int 0 0), (.int 0 0), (.int 0 0), (.ref 67), (.bool false), (.int 181 0), (.ref 68), .none, .none, .none, .none, (.int 260 0), (.int 10 0), (vs "/claim/cut.py" 261)]), #[]⟩) |>
 (fun T => T.ins 70 ⟨(.type "frame"), none, .plain, #[(some (.ref 69)), (some (.ref 3)), (some (.ref 66)), none, (some (vs "creasecurve.errors" 187)), none, (some (.ref 0))]⟩) |>
 (fun T => T.ins 71 (tu [])) |>
 (fun T => T.ins 72 ⟨(.type "dict"), none, (.dict #[en P "__module__" 262 (vs "creasecurve.errors" 187), en P "__firstlineno__" 266 (.int 10 265), en P "__static_attributes__" 267 (.ref 71), en P "__doc__" 268 .none] 2), #[]⟩) |>
 (fun T => T.ins 73 ⟨(.type "type"), none, (.cls ⟨"NoNumber", [(.ref 24)], [(.ref 73), (.ref 24), (.type "ValueError"), (.type "Exception"), (.type "BaseException"), (.type "object")], 72, "NoNumber", true, [], [], false, none, false⟩), #[(some (.ref 64)), none, (some (vs "NoNumber" 255)), (some (vs "NoNumber" 263)), (some (.builtin "ValueError.__new__")), (some (.bool true))]⟩) |>
 (fun T => T.ins 74 ⟨(.type "super"), none, (.fields #[(.ref 73), (.ref 73), (.ref 73)]), #[]⟩) |>
 (fun T => T.ins 75 ⟨(.type "builtin_function_or_method"), none, (.fields #[(.builtin "object.__init_subclass__"), (.ref 73)]), #[]⟩)
noncomputable def g4 : List Stmt := [top 5]
theorem hg4 (w : World) : (fun os => segRunT treeTable pr w 11 (some (.ref 6)) 1 214 (sT t4 64 255 w os) (piecesOf g4 w6 cE ⟨8, 0, 9, 8⟩ B)) = (fun os => some (.next, sT t5 76 271 w os, cE, ⟨10, 0, 11, 8⟩)) := by
 rw [PySem.W.Fast.te10110043849684766642, PySem.W.Fast.te14364793385576792824]
 kernel_rfl
noncomputable def t6 (P : Params) : BT :=
 (t5 P) |>
 (fun T => T.set 3 (pE (en P "NoText" 295 (.ref 92)))) |>
 (fun T => T.set 12 (pF [(.int 12 0), (.int 0 0), (.ref 81)])) |>
 (fun T => T.set 24 (fun _ => ⟨(.type "type"), none, (.cls ⟨"RoofError", [(.type "ValueError")], [(.ref 24), (.type "ValueError"), (.type "Exception"), (.type "BaseException"), (.type "object")], 23, "RoofError", true, [], [(.ref 37), (.ref 49), (.ref 61), (.ref 73), (.ref 92)], false, none, false⟩), #[(some (.ref 15)), none, (some (vs "RoofError" 189)), (some (vs "RoofError" 197)), (some (.builtin "ValueError.__new__")), (some (.bool true))]⟩)) |>
 (fun T => T.ins 76 (tu [(.ref 24)])) |>
 (fun T => T.ins 77 ⟨(.type "builtin_function_or_method"), none, (.fields #[(.builtin "type.__prepare__"), (.type "type")]), #[]⟩) |>
 (fun T => T.ins 78 ⟨(.type "dict"), none, (.dict #[en P "__module__" 278 (vs "creasecurve.errors" 187), en P "__qualname__" 280 (vs "NoText" 279), en P "__firstlineno__" 282 (.int 12 281), en P "__init__" 290 (.ref 89), en P "__static_attributes__" 292 (.ref 90)] 5), #[]⟩) |>
 (fun T => T.ins 79 (tu [])) |>
 (fun T => T.ins 80 (fl [(.int 14 0), (.int 4 0), (.ref 88)])) |>
 (fun T => T.ins 81 ⟨(.type "code"), none, (.fields #[(vs "NoText" 273), (vs "NoText" 274), (vs "/claim/cut.py" 275), (.int 12 0), (.int 0 0), (.int 0 0), (.int 0 0), (.int 0 0), (.ref 79), (.bool false), (.int 181 0), (.ref 80), .none, .none, .none, .none, (.int 276 0), (.int 12 0), (vs "/claim/cut.py" 277)]), #[]⟩) |>
 (fun T => T.ins 82 ⟨(.type "frame"), none, .plain, #[(some (.ref 81)), (some (.ref 3)), (some (.ref 78)), none, (some (vs "creasecurve.errors" 187)), none, (some (.ref 0))]⟩) |>
 (fun T => T.ins 83 (tu [])) |>
 (fun T => T.ins 84 (fl [])) |>
 (fun T => T.ins 85 (tu [(vs "self" 286), (vs "at" 287)])) |>
 (fun T => T.ins 86 (tu [])) |>
 (fun T => T.ins 87 ⟨.none, none, (.func (fd "__init__" "NoText.__init__" (gE (sub 6 0)) (.stmts (eU (sub 6 0))) (aK (sub 6 0)) 0 [] .none .none .none .none none .none .none 0)), #[]⟩) |>
 (fun T => T.ins 88 ⟨(.type "code"), none, (.fields #[(vs "__init__" 283), (vs "NoText.__init__" 284), (vs "/claim/cut.py" 285), (.int 14 0), (.int 2 0), (.int 0 0), (.int 0 0), (.int 3 0), (.ref 83), (.bool true), (.int 181 0), (.ref 84), .none, (.ref 85), (.ref 86), (.ref 87), (.int 288 0), (.int 14 0), (vs "/claim/cut.py" 289)]), #[]⟩) |>
 (fun T => T.ins 89 ⟨(.type "function"), none, (.func (fd "__init__" "NoText.__init__" (gE (sub 6 0)) (.stmts (eU (sub 6 0))) (aK (sub 6 0)) 3 [] .none .none .none (vs "creasecurve.errors" 187) none (.ref 88) .none 0)), #[]⟩) |>
 (fun T => T.ins 90 (tu [(vs "at" 291)])) |>
 (fun T => T.ins 91 ⟨(.type "dict"), none, (.dict #[en P "__module__" 278 (vs "creasecurve.errors" 187), en P "__firstlineno__" 282 (.int 12 281), en P "__init__" 290 (.ref 89), en P "__static_attributes__" 292 (.ref 90), en P "__doc__" 293 .none] 2), #[]⟩) |>
 (fun T => T.ins 92 ⟨(.type "type"), none, (.cls ⟨"NoText", [(.ref 24)], [(.ref 92), (.ref 24), (.type "ValueError"), (.type "Exception"), (.type "BaseException"), (.type "object")], 91, "NoText", true, [], [], false, none, false⟩), #[(some (.ref 76)), none, (some (vs "NoText" 271)), (some (vs "NoText" 279)), (some (.builtin "ValueError.__new__")), (some (.bool true))]⟩) |>
 (fun T => T.ins 93 ⟨(.type "super"), none, (.fields #[(.ref 92), (.ref 92), (.ref 92)]), #[]⟩) |>
 (fun T => T.ins 94 ⟨(.type "builtin_function_or_method"), none, (.fields #[(.builtin "object.__init_subclass__"), (.ref 92)]), #[]⟩) |>
 (fun T => T.set 3 (rE 0 (vs "creasecurve.fractions" 296))) |>
 (d7 P 8 "greatest_divisor" (vs "creasecurve.fractions" 296) 17 2 ["a", "b", "larger", "smaller", "rest"] 95 298 306) |>
 (d7 P 9 "less" (vs "creasecurve.fractions" 296) 25 2 ["a", "b"] 102 309 314) |>
 (fun T => T.set 3 (rE 0 (vs "creasecurve.roofs" 317))) |>
 (fun T => T.set 3 (pE (en P "STEEPEST" 320 (.int 8 319)))) |>
 (fun T => T.set 3 (pE (en P "MOST_PLANES" 322 (.int 16 321)))) |>
 (d7 P 13 "slope_of" (vs "creasecurve.roofs" 317) 30 1 ["plane"] 109 323 327)
noncomputable def g5 : List Stmt := [top 6, top 7, top 8, top 9, top 10, top 11, top 12, top 13]
theorem hg5 (w : World) : (fun os => segRunT treeTable pr w 11 (some (.ref 6)) 1 374 (sT t5 76 271 w os) (piecesOf g5 w6 cE ⟨10, 0, 11, 8⟩ B)) = (fun os => some (.next, sT t6 116 330 w os, cE, ⟨30, 0, 31, 31⟩)) := by
 rw [PySem.W.Fast.te10110043849684766642, PySem.W.Fast.te14364793385576792824]
 kernel_rfl
noncomputable def t7 (P : Params) : BT :=
 (t6 P) |>
 (d7 P 14 "is_too_steep" (vs "creasecurve.roofs" 317) 32 1 ["slope"] 116 330 334) |>
 (d7 P 15 "highest_by_slope" (vs "creasecurve.roofs" 317) 34 1 ["rows", "highest", "slope", "height"] 123 337 344) |>
 (d5 P 16 "roof_of" (vs "creasecurve.roofs" 317) 40 1 130 347 350) |>
 (fun T => T.set 3 (rE 0 (vs "creasecurve.texts" 353))) |>
 (fun T => T.set 3 (pE (en P "FIGURES" 356 (vs "0123456789" 355)))) |>
 (fun T => T.set 3 (pE (en P "MOST_FIGURES" 358 (.int 30 357)))) |>
 (fun T => T.set 3 (pE (en P "SLOPE_FIGURES" 360 (vs "012345678" 359)))) |>
 (d5 P 21 "is_whole" (vs "creasecurve.texts" 353) 53 1 135 361 364) |>
 (d7 P 22 "is_top" (vs "creasecurve.texts" 353) 57 1 ["word"] 140 367 371) |>
 (d7 P 23 "is_bottom" (vs "creasecurve.texts" 353) 61 1 ["word"] 147 374 378) |>
 (d7 P 24 "is_number" (vs "creasecurve.texts" 353) 63 1 ["thing", "parts"] 154 381 386) |>
 (d7 P 25 "number_of" (vs "creasecurve.texts" 353) 72 1 ["word", "parts", "bottom"] 161 389 395) |>
 (d7 P 26 "number_text" (vs "creasecurve.texts" 353) 78 1 ["a", "top"] 168 398 403) |>
 (d7 P 27 "is_slope_figure" (vs "creasecurve.texts" 353) 81 1 ["word"] 175 406 410) |>
 (d7 P 28 "is_plane" (vs "creasecurve.texts" 353) 83 1 ["part", "words"] 182 413 418) |>
 (d7 P 29 "plane_of" (vs "creasecurve.texts" 353) 86 1 ["part", "words"] 189 421 426)
noncomputable def g6 : List Stmt := [top 14, top 15, top 16, top 17, top 18, top 19, top 20, top 21, top 22, top 23, top 24, top 25, top 26, top 27, top 28, top 29]
theorem hg6 (w : World) : (fun os => segRunT treeTable pr w 11 (some (.ref 6)) 1 388 (sT t6 116 330 w os) (piecesOf g6 w6 cE ⟨30, 0, 31, 31⟩ B)) = (fun os => some (.next, sT t7 196 429 w os, cE, ⟨86, 0, 88, 62⟩)) := by
 rw [PySem.W.Fast.te10110043849684766642, PySem.W.Fast.te14364793385576792824]
 kernel_rfl
noncomputable def t8 (P : Params) : BT :=
 (t7 P) |>
 (d5 P 30 "read" (vs "creasecurve.texts" 353) 89 1 196 429 432) |>
 (d7 P 31 "plane_text" (vs "creasecurve.texts" 353) 97 1 ["plane"] 201 435 439) |>
 (d5 P 32 "written" (vs "creasecurve.texts" 353) 99 1 208 442 445) |>
 (fun T => T.set 3 (rE 0 (vs "law_creasecurve_k05_roofs_written" 448))) |>
 (d7 P 34 "_law_cell_at" (vs "law_creasecurve_k05_roofs_written" 448) 102 2 ["_law_script", "_law_k", "_law_cell"] 213 450 456) |>
 (d5 P 35 "_law_cells" (vs "law_creasecurve_k05_roofs_written" 448) 107 3 220 459 462) |>
 (d7 P 36 "_law_whole" (vs "law_creasecurve_k05_roofs_written" 448) 109 1 ["_law_found"] 225 465 469) |>
 (d7 P 37 "_law_divisor" (vs "law_creasecurve_k05_roofs_written" 448) 111 2 ["_law_a", "_law_b", "_law_rest"] 232 472 478) |>
 (d7 P 38 "_law_fraction" (vs "law_creasecurve_k05_roofs_written" 448) 119 2 ["_law_top", "_law_bottom", "_law_by"] 239 481 487) |>
 (d7 P 39 "_law_is_fraction" (vs "law_creasecurve_k05_roofs_written" 448) 122 1 ["_law_found"] 246 490 494) |>
 (d7 P 40 "_law_number_by" (vs "law_creasecurve_k05_roofs_written" 448) 128 2 ["_law_cell", "_law_kind", "_law_c", "_law_bottom"] 253 497 504) |>
 (d7 P 41 "_law_number_text" (vs "law_creasecurve_k05_roofs_written" 448) 136 1 ["_law_a"] 260 507 511) |>
 (d5 P 42 "_law_roof_by" (vs "law_creasecurve_k05_roofs_written" 448) 140 2 267 514 517) |>
 (d7 P 43 "_law_part" (vs "law_creasecurve_k05_roofs_written" 448) 150 1 ["_law_plane"] 272 520 524)
noncomputable def g7 : List Stmt := [top 30, top 31, top 32, top 33, top 34, top 35, top 36, top 37, top 38, top 39, top 40, top 41, top 42, top 43]
theorem hg7 (w : World) : (fun os => segRunT treeTable pr w 11 (some (.ref 6)) 1 384 (sT t7 196 429 w os) (piecesOf g7 w6 cE ⟨86, 0, 88, 62⟩ B)) = (fun os => some (.next, sT t8 279 527 w os, cE, ⟨150, 0, 151, 96⟩)) := by
 rw [PySem.W.Fast.te10110043849684766642, PySem.W.Fast.te14364793385576792824]
 kernel_rfl
noncomputable def t9 (P : Params) : BT :=
 (t8 P) |>
 (d7 P 44 "_law_mixed_up" (vs "law_creasecurve_k05_roofs_written" 448) 152 2 ["_law_roof", "_law_script", "_law_planes", "_law_k", "_law_plane", "_law_c", "_law_at", "_law_low"] 279 527 538) |>
 (d7 P 45 "_law_is_roof" (vs "law_creasecurve_k05_roofs_written" 448) 165 2 ["_law_found", "_law_due", "_law_plane"] 286 541 547) |>
 (d5 P 46 "law" (vs "law_creasecurve_k05_roofs_written" 448) 174 1 293 550 553)
noncomputable def g8 : List Stmt := [top 44, top 45, top 46]
theorem hg8 (w : World) : (fun os => segRunT treeTable pr w 11 (some (.ref 6)) 1 94 (sT t8 279 527 w os) (piecesOf g8 w6 cE ⟨150, 0, 151, 96⟩ B)) = (fun os => some (.next, sT t9 298 556 w os, cE, ⟨174, 0, 188, 44⟩)) := by
 rw [PySem.W.Fast.te10110043849684766642, PySem.W.Fast.te14364793385576792824]
 kernel_rfl
noncomputable def hF (P : Params) : Heap := absHeap (t9 P) 298 {}
theorem aK3 (w : World) : (fun os => topRun treeTable pr w 11 (some (.ref 6)) 2 (sT t9 298 556 w os).abs ⟨doneF .next, cE, ⟨174, 0, 188, 44⟩, B⟩) = (fun os => some ((⟨hF w.params, ⟨[]⟩, boot_drawn, 556, os⟩ : Shared))) := by
 rw [PySem.W.Fast.te14082659384304107361, PySem.W.Fast.te14364793385576792824]
 kernel_rfl
theorem hb : behindTheImports pr = g0 ++ (g1 ++ (g2 ++ (g3 ++ (g4 ++ (g5 ++ (g6 ++ (g7 ++ (g8 ++ [])))))))) := by kernel_rfl
theorem aNf (w : World) (os : OsState) : topRun treeTable pr w 11 (some (.ref 6)) (12 + (1 + (196 + (214 + (214 + (214 + (214 + (374 + (388 + (384 + (94 + (2)))))))))))) ⟨boot_heap w.params, ⟨[]⟩, boot_drawn, boot_toks, os⟩ (topStub pr) = some ⟨hF w.params, ⟨[]⟩, boot_drawn, 556, os⟩ := go_top (congrFun (aGi w) os) (piece_block (congrFun (aIi w) os) (by
 rw [hb]
 exact piece_app (segRun_of (congrFun (hg0 w) os)) (piece_app (segRun_of (congrFun (hg1 w) os)) (piece_app (segRun_of (congrFun (hg2 w) os)) (piece_app (segRun_of (congrFun (hg3 w) os)) (piece_app (segRun_of (congrFun (hg4 w) os)) (piece_app (segRun_of (congrFun (hg5 w) os)) (piece_app (segRun_of (congrFun (hg6 w) os)) (piece_app (segRun_of (congrFun (hg7 w) os)) (piece_app (segRun_of (congrFun (hg8 w) os)) (piece_nil (congrFun (aK3 w) os))))))))))))
noncomputable def qv : Program := { pr with main := { pr.main with body := [top 1, top 2, top 3, top 4, top 5, top 6, top 8, top 9, top 11, top 12, top 13, top 14, top 15, top 16, top 18, top 19, top 20, top 21, top 22, top 23, top 24, top 25, top 26, top 27, top 28, top 29, top 30, top 31, top 32, top 34, top 35, top 36, top 37, top 38, top 39, top 40, top 41, top 42, top 43, top 44, top 45, top 46] } }
noncomputable def ks : List Nat := [3, 20, 23, 24, 33, 36, 37, 45, 48, 49, 57, 60, 61, 69, 72, 73, 81, 88, 89, 91, 92, 100, 101, 107, 108, 114, 115, 121, 122, 128, 129, 133, 134, 138, 139, 145, 146, 152, 153, 159, 160, 166, 167, 173, 174, 180, 181, 187, 188, 194, 195, 199, 200, 206, 207, 211, 212, 218, 219, 223, 224, 230, 231, 237, 238, 244, 245, 251, 252, 258, 259, 265, 266, 270, 271, 277, 278, 284, 285, 291, 292, 296, 297]
noncomputable def K (P : Params) : Frag := ks.map fun a => (a, ((t9 P).get a).getD default)
theorem ksE (P : Params) : ks = (K P).map (·.1) := by kernel_rfl
noncomputable abbrev hk : Hook := kmHook K ks ksE []
noncomputable abbrev xt : Shared -> Bool := fun s => xlAt qv [] s && recOk [] s
theorem aK7 (w : World) : ((boot_heap w.params).isNs mainGlobals && (⟨[]⟩ : Array GenState).size == 0, (boot_heap w.params).objs.size, (boot_heap w.params).nsMap mainGlobals "__annotations__") = (true, 11, (some (.ref 6))) := by kernel_rfl
theorem aLk (w : World) : (fun os : OsState => (staticsOk (importedModules pr.main.body) (boot_heap w.params) (hF w.params) && namesBound pr (hF w.params) && gensDone ⟨hF w.params, ⟨[]⟩, boot_drawn, 556, os⟩ && laidKept (boot_heap w.params) (hF w.params))) = fun _ => true := by
 rw [PySem.W.Fast.te5923862056798008813]
 kernel_rfl
theorem aKy (w : World) : (fun os : OsState => openSeen qv [] (importedModules pr.main.body) xt true ⟨hF w.params, ⟨[]⟩, boot_drawn, 556, os⟩) = fun _ => openGood qv [] := by
 rw [PySem.W.Fast.te4187177175401517315, PySem.W.Fast.te5923862056798008813]
 kernel_rfl
theorem aLv (w : World) : (fun os : OsState => hk.obs ⟨hF w.params, ⟨[]⟩, boot_drawn, 556, os⟩) = fun _ => hk.val w := by kernel_rfl
theorem left : LeftO pr qv [] xt hk.obs hk.val 4692 := LeftO.of_pieces (boot_open (by kernel_rfl) (by decide) (fun _ => by kernel_rfl)) aK7 aNf (by decide) fun w => funext fun os => looks_pair (congrFun (aLk w) os) (looks_pair (congrFun (aKy w) os) (congrFun (aLv w) os))
theorem h1 (w : World) : FnAt (K w.params) "greatest_divisor" dB 101 (vs "creasecurve.fractions" 296) 100 := by constructor <;> kernel_rfl
theorem h2 (w : World) : FnAt (K w.params) "less" vH 108 (vs "creasecurve.fractions" 296) 107 := by constructor <;> kernel_rfl
theorem h3 (w : World) : FnAt (K w.params) "slope_of" iR 115 (vs "creasecurve.roofs" 317) 114 := by constructor <;> kernel_rfl
theorem h4 (w : World) : FnAt (K w.params) "is_too_steep" eY 122 (vs "creasecurve.roofs" 317) 121 := by constructor <;> kernel_rfl
theorem h5 (w : World) : FnAt (K w.params) "highest_by_slope" dE 129 (vs "creasecurve.roofs" 317) 128 := by constructor <;> kernel_rfl
theorem h6 (w : World) : FnAt (K w.params) "roof_of" j9 134 (vs "creasecurve.roofs" 317) 133 := by constructor <;> kernel_rfl
theorem h7 (w : World) : FnAt (K w.params) "is_whole" iQ 139 (vs "creasecurve.texts" 353) 138 := by constructor <;> kernel_rfl
theorem h8 (w : World) : FnAt (K w.params) "is_top" lJ 146 (vs "creasecurve.texts" 353) 145 := by constructor <;> kernel_rfl
theorem h9 (w : World) : FnAt (K w.params) "is_bottom" gS 153 (vs "creasecurve.texts" 353) 152 := by constructor <;> kernel_rfl
theorem h10 (w : World) : FnAt (K w.params) "is_number" gZ 160 (vs "creasecurve.texts" 353) 159 := by constructor <;> kernel_rfl
theorem h11 (w : World) : FnAt (K w.params) "number_of" gR 167 (vs "creasecurve.texts" 353) 166 := by constructor <;> kernel_rfl
theorem h12 (w : World) : FnAt (K w.params) "number_text" fI 174 (vs "creasecurve.texts" 353) 173 := by constructor <;> kernel_rfl
theorem h13 (w : World) : FnAt (K w.params) "is_slope_figure" dN 181 (vs "creasecurve.texts" 353) 180 := by constructor <;> kernel_rfl
theorem h14 (w : World) : FnAt (K w.params) "is_plane" iY 188 (vs "creasecurve.texts" 353) 187 := by constructor <;> kernel_rfl
theorem h15 (w : World) : FnAt (K w.params) "plane_of" iT 195 (vs "creasecurve.texts" 353) 194 := by constructor <;> kernel_rfl
theorem h16 (w : World) : FnAt (K w.params) "read" uC 200 (vs "creasecurve.texts" 353) 199 := by constructor <;> kernel_rfl
theorem h17 (w : World) : FnAt (K w.params) "plane_text" fV 207 (vs "creasecurve.texts" 353) 206 := by constructor <;> kernel_rfl
theorem h18 (w : World) : FnAt (K w.params) "written" j6 212 (vs "creasecurve.texts" 353) 211 := by constructor <;> kernel_rfl
theorem h19 (w : World) : FnAt (K w.params) "_law_cell_at" e9 219 (vs "law_creasecurve_k05_roofs_written" 448) 218 := by constructor <;> kernel_rfl
theorem h20 (w : World) : FnAt (K w.params) "_law_cells" fW 224 (vs "law_creasecurve_k05_roofs_written" 448) 223 := by constructor <;> kernel_rfl
theorem h21 (w : World) : FnAt (K w.params) "_law_whole" fX 231 (vs "law_creasecurve_k05_roofs_written" 448) 230 := by constructor <;> kernel_rfl
theorem h22 (w : World) : FnAt (K w.params) "_law_divisor" eZ 238 (vs "law_creasecurve_k05_roofs_written" 448) 237 := by constructor <;> kernel_rfl
theorem h23 (w : World) : FnAt (K w.params) "_law_fraction" eK 245 (vs "law_creasecurve_k05_roofs_written" 448) 244 := by constructor <;> kernel_rfl
theorem h24 (w : World) : FnAt (K w.params) "_law_is_fraction" dC 252 (vs "law_creasecurve_k05_roofs_written" 448) 251 := by constructor <;> kernel_rfl
theorem h25 (w : World) : FnAt (K w.params) "_law_number_by" dX 259 (vs "law_creasecurve_k05_roofs_written" 448) 258 := by constructor <;> kernel_rfl
theorem h26 (w : World) : FnAt (K w.params) "_law_number_text" dA 266 (vs "law_creasecurve_k05_roofs_written" 448) 265 := by constructor <;> kernel_rfl
theorem h27 (w : World) : FnAt (K w.params) "_law_roof_by" e8 271 (vs "law_creasecurve_k05_roofs_written" 448) 270 := by constructor <;> kernel_rfl
theorem h28 (w : World) : FnAt (K w.params) "_law_part" hV 278 (vs "law_creasecurve_k05_roofs_written" 448) 277 := by constructor <;> kernel_rfl
theorem h29 (w : World) : FnAt (K w.params) "_law_mixed_up" eL 285 (vs "law_creasecurve_k05_roofs_written" 448) 284 := by constructor <;> kernel_rfl
theorem h30 (w : World) : FnAt (K w.params) "_law_is_roof" eV 292 (vs "law_creasecurve_k05_roofs_written" 448) 291 := by constructor <;> kernel_rfl
theorem h31 (w : World) : FnAt (K w.params) "law" qM 297 (vs "law_creasecurve_k05_roofs_written" 448) 296 := by constructor <;> kernel_rfl
end Hd
open PySem PySem.W PyProof.Rows
theorem Hd.said : PySem.Challenge.rw_creasecurve_k05_roofs_written.wellSaid = true := by kernel_rfl
set_option maxRecDepth 100000 in
set_option maxHeartbeats 0 in
theorem PySem.Challenge.cw_creasecurve_k05_roofs_written_holds : PySem.Challenge.rw_creasecurve_k05_roofs_written.Holds := by
 refine holds_law Hd.said fun said => ?_
 refine holds_open (q := Hd.qv) (Xt := Hd.xt) (XP := XL Hd.qv []) (YP := Hd.hk.says) (N := 4692) Hd.left Hd.hk.of Hd.hk.keeps (fun s e => xl_of s (Bool.and_eq_true_iff.mp e).1) XL.keeps (by rfl) (by rfl) (by rfl) (fun s e => recFacts_of (Bool.and_eq_true_iff.mp e).2) (by rfl) said (by decide +kernel) ⟨rfl, rfl, rfl, rfl, rfl, by decide +kernel⟩ ?hw ?hc
 case hw => w_witness2
 refine My.walk (l := PySem.Challenge.rw_creasecurve_k05_roofs_written) rfl rfl (fun w h Y => ⟨PySem.W.km_in_of Y, PySem.W.km_tabs_of Y⟩) (fun w => by kernel_rfl) (fun w => by kernel_rfl) ?F
 case F =>
  intro w mg fa h KX G hmg
  exact My.all_mk (CRoofError := 24) (CNoRoof := 37) (CTooSteep := 49) (CTooMany := 61) (CNoNumber := 73) (CNoText := 92) (t__name__ := 448) (tSTEEPEST := 319) (tMOST_PLANES := 321) (tFIGURES := 355) (tMOST_FIGURES := 357) (tSLOPE_FIGURES := 359) KX G hmg (Hd.h1 w) (Hd.h2 w) (Hd.h3 w) (Hd.h4 w) (Hd.h5 w) (Hd.h6 w) (Hd.h7 w) (Hd.h8 w) (Hd.h9 w) (Hd.h10 w) (Hd.h11 w) (Hd.h12 w) (Hd.h13 w) (Hd.h14 w) (Hd.h15 w) (Hd.h16 w) (Hd.h17 w) (Hd.h18 w) (Hd.h19 w) (Hd.h20 w) (Hd.h21 w) (Hd.h22 w) (Hd.h23 w) (Hd.h24 w) (Hd.h25 w) (Hd.h26 w) (Hd.h27 w) (Hd.h28 w) (Hd.h29 w) (Hd.h30 w) (Hd.h31 w) (by kernel_rfl) (by kernel_rfl) (by kernel_rfl) (by kernel_rfl) (by kernel_rfl) (by kernel_rfl) (by kernel_rfl) (by kernel_rfl) (by kernel_rfl) (by kernel_rfl) (by kernel_rfl) (by kernel_rfl) (by kernel_rfl) (by kernel_rfl) (by kernel_rfl) (by kernel_rfl) (by kernel_rfl) (by kernel_rfl) (by kernel_rfl) (by kernel_rfl) (by kernel_rfl) (by kernel_rfl) (by kernel_rfl) (by kernel_rfl) (by kernel_rfl) (by kernel_rfl) (by kernel_rfl) (by kernel_rfl) (by kernel_rfl) (by kernel_rfl) (by kernel_rfl) (by kernel_rfl) (by kernel_rfl) (by kernel_rfl) (by kernel_rfl)
